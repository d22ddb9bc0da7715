import PyProof.Rows.All
import Wide.All
import OpenK.AllK
import Wide.FinOn
import HandS.ForMost
import HandS.Wide
import HandS.IsInst
import HandS.TupAny
import HandS.TupMul
import HandS.EndBits
import HandS.Flow
import HandS.Zip
import HandS.Style
import PyProof.ReprRoads
import HandS.Walk
import KE.GoesNew
import KE.GoesEnum
import HandS.SetFor
import KE.KTupSum
import KE.GoesMore
import HandS.NoneIn
import HandS.Strs
import HandS.Lambda
import HandS.ExcOwn
import HandS.ExcIs
import HandS.HotCalls
import HandS.WordsExc
import HandS.EndTab
import KE.KNest
import HandS.Deep
import KE.KeyNested
import HandS.Dict
import HandS.Conv
import HandS.TryOnly
import HandS.TupLe
import HandS.WideBits
import HandS.Defaults
import HandS.MakeKwOnly
import HandS.CallSlots
import HandS.Text
import HandS.FStr
import KE.KUnpackStar
import KE.SortData
import KE.KDictSum
import KE.KDictWalk
import KE.KDictCopyH
import KE.KDictDisplayH
import HandS.DictComp
import KE.DataCmp
import HandS.ExcInit
import KE.KExcSuper
import KE.KSuper
import HandS.ExcField
import KE.KExcIs
import PyProof.Rows.ReprOcc
import KE.KxAffix
import KE.IntBitsLaws
import KE.RegKTryMore
import KE.RegKIsAll
import PySem.Challenge.RW_marblefall_k50_joins_refused
set_option Elab.async false
set_option linter.all false
set_option maxRecDepth 100000
set_option maxHeartbeats 4000000
namespace HX
open PySem PySem.Spec PyProof.Rows L2
def Def (K : PySem.W.Frag) (mg : Str → Option Value) (x : Str) (st : Stmt) (ps : List Str) : Prop :=
  ∃ (f : Addr) (fd : FuncData), Fun K x x st f fd ∧ mg x = some (.ref f) ∧ Binds K fd ps []
def Cal (P : Program) (w : World) (K : PySem.W.Frag) (mg : Str → Option Value) (base : Heap) (k : Nat) (x : Str) (ps : List Str) (sp : Sp) : Prop :=
  ∃ (f : Addr) (fd : FuncData), FnOk P w K mg base CX0 k f fd ps sp ∧ mg x = some (.ref f) ∧ PySem.W.keepIn K (.ref f) = true ∧ Binds K fd ps []
section
variable {P : Program} {w : World} {K : PySem.W.Frag} {mg : Str → Option Value} {base : Heap} {j k : Nat} {x : Str} {ps : List Str} {sp sp' : Sp}
theorem Cal.mono (c : Cal P w K mg base j x ps sp) (h : j ≤ k) : Cal P w K mg base k x ps sp := by
  obtain ⟨f, fd, F, a, b, d⟩ := c
  exact ⟨f, fd, F.mono h, a, b, d⟩
theorem Cal.imp (c : Cal P w K mg base k x ps sp) (h : ∀ vs H Q E, sp' vs H Q E → sp vs H Q E) : Cal P w K mg base k x ps sp' := by
  obtain ⟨f, fd, F, a, b, d⟩ := c
  exact ⟨f, fd, F.imp h, a, b, d⟩
theorem Def.ok {st : Stmt} {N : List Str} (D : Def K mg x st ps) (S : FnScope N ps (defScope st)) (len : ∀ vs H Q E, sp vs H Q E → vs.length = ps.length)
    (hbody : ∀ (f : Addr) (cdv : Value) (A : Around) (outer : List Env) (s : Shared) (H : Hp) (vs : List V) (Q : VK) (E : XK), Room k (A.deeper (envOfC x (defScope st) s.heap.objs.size f cdv)) → sp vs H Q E →
      ∃ t, PSs (cxOf CX0 P w K mg base N x (defScope st) f cdv A outer s H E).nox (defBody st) t ∧ t { nx := fun _ H' => Q .non H', rt := Q } (start N vs) H) : Cal P w K mg base (k + 1) x ps sp := by
  obtain ⟨f, fd, F, hm, hb⟩ := D
  exact ⟨f, fd, F.ok S len (hbody f), hm, F.kp, hb⟩
end
section
variable {X : Cx} {k : Nat} {x : Str} {ps : List Str} {sp : Sp} {p pos : Pos} {e : Expr} {es : List Expr} {t : TA}
end
theorem pe_gint {X : Cx} {x : Str} {i : Int} {tk : Tok} {pos : Pos} (hg : Gl X x) (hm : X.mg x = some (.int i tk)) (hd : (x == ("__debug__" : Str)) = false := by decide) : PE X (.Name x pos) (tC (.int i)) := pe_glob hg hm ⟨tk, rfl⟩ hd
mutual
inductive Da (N : Addr → Prop) (H : Hp) : V → PyData → Prop
  | non : Da N H .non .none
  | bl (b : Bool) : Da N H (.bl b) (.bool b)
  | int (i : Int) : Da N H (.int i) (.int i)
  | str (x : Str) : Da N H (.str x) (.str x)
  | lst {a : Addr} {xs : List V} {ds : List PyData} : H a = some (.lst xs) → ¬ N a → DaAll N H xs ds → Da N H (.ref a) (.list ds)
  | tup {a : Addr} {xs : List V} {ds : List PyData} : H a = some (.tup xs) → ¬ N a → DaAll N H xs ds → Da N H (.ref a) (.tuple ds)
  | dct {a : Addr} {kvs : List (Key × V)} {ds : List (PyData × PyData)} : H a = some (.dK kvs) → ¬ N a → DaAll N H (kvs.map fun p => kV p.1) (ds.map (·.1)) → DaAll N H (kvs.map (·.2)) (ds.map (·.2)) → Da N H (.ref a) (.dict ds)
inductive DaAll (N : Addr → Prop) (H : Hp) : List V → List PyData → Prop
  | nil : DaAll N H [] []
  | cons {v : V} {vs : List V} {d : PyData} {ds : List PyData} : Da N H v d → DaAll N H vs ds → DaAll N H (v :: vs) (d :: ds)
end
def Kp (N : Addr → Prop) (H H' : Hp) : Prop := ∀ b o, H b = some o → ¬ N b → H' b = some o
theorem Kp.refl {N : Addr → Prop} (H : Hp) : Kp N H H := fun _ _ h _ => h
theorem Kp.trans {N : Addr → Prop} {H H1 H2 : Hp} (a : Kp N H H1) (b : Kp N H1 H2) : Kp N H H2 := fun c o h n => b c o (a c o h n) n
theorem Kp.of {N : Addr → Prop} {H H1 : Hp} (a : Same H H1) : Kp N H H1 := fun c o h _ => a c o h
theorem Same.new {H : Hp} {p : Addr} {o : HO} (h : H p = none) : Same H (upd H p o) := fun b x e => by
  rw [upd_ne (ne_of_none e h)]
  exact e
theorem Kp.new {N : Addr → Prop} {H : Hp} {p : Addr} {o : HO} (h : H p = none) : Kp N H (upd H p o) := Kp.of (Same.new h)
theorem Kp.put {N : Addr → Prop} {H : Hp} {p : Addr} {o : HO} (h : N p) : Kp N H (upd H p o) := fun b x e nb => by
  rw [upd_ne (fun z => nb (by rw [z]; exact h))]
  exact e
mutual
theorem Da.mono {N : Addr → Prop} {H H' : Hp} (k : Kp N H H') : ∀ (d : PyData) (v : V), Da N H v d → Da N H' v d
  | .none, _, h => by cases h; exact .non
  | .bool b, _, h => by cases h; exact .bl b
  | .int i, _, h => by cases h; exact .int i
  | .str x, _, h => by cases h; exact .str x
  | .list ds, _, h => by
    cases h with
    | lst e n ha => exact .lst (k _ _ e n) n (DaAll.mono k ds _ ha)
  | .tuple ds, _, h => by
    cases h with
    | tup e n ha => exact .tup (k _ _ e n) n (DaAll.mono k ds _ ha)
  | .dict ds, _, h => by
    cases h with
    | dct e n h1 h2 => exact .dct (k _ _ e n) n (DaAll.monoK k ds _ h1) (DaAll.monoV k ds _ h2)
theorem DaAll.mono {N : Addr → Prop} {H H' : Hp} (k : Kp N H H') : ∀ (ds : List PyData) (vs : List V), DaAll N H vs ds → DaAll N H' vs ds
  | [], _, h => by cases h; exact .nil
  | d :: ds, _, h => by
    cases h with
    | cons h1 h2 => exact .cons (Da.mono k d _ h1) (DaAll.mono k ds _ h2)
theorem DaAll.monoK {N : Addr → Prop} {H H' : Hp} (k : Kp N H H') : ∀ (ds : List (PyData × PyData)) (vs : List V), DaAll N H vs (ds.map (·.1)) → DaAll N H' vs (ds.map (·.1))
  | [], _, h => by cases h; exact .nil
  | (a, b) :: ds, _, h => by
    cases h with
    | cons h1 h2 => exact .cons (Da.mono k a _ h1) (DaAll.monoK k ds _ h2)
theorem DaAll.monoV {N : Addr → Prop} {H H' : Hp} (k : Kp N H H') : ∀ (ds : List (PyData × PyData)) (vs : List V), DaAll N H vs (ds.map (·.2)) → DaAll N H' vs (ds.map (·.2))
  | [], _, h => by cases h; exact .nil
  | (a, b) :: ds, _, h => by
    cases h with
    | cons h1 h2 => exact .cons (Da.mono k b _ h1) (DaAll.monoV k ds _ h2)
end
theorem DaAll.len {N : Addr → Prop} {H : Hp} : ∀ {vs : List V} {ds : List PyData}, DaAll N H vs ds → vs.length = ds.length
  | _, _, .nil => rfl
  | _, _, .cons _ t => by rw [List.length_cons, List.length_cons, DaAll.len t]
theorem DaAll.get {N : Addr → Prop} {H : Hp} : ∀ {vs : List V} {ds : List PyData} {i : Nat} {v : V}, DaAll N H vs ds → vs[i]? = some v → ∃ d, ds[i]? = some d ∧ Da N H v d
  | _, _, _, _, .nil, e => by simp at e
  | _, _, 0, _, .cons h _, e => by
    have e' := Option.some.inj e
    exact ⟨_, rfl, e' ▸ h⟩
  | _, _, i + 1, _, .cons _ t, e => by
    obtain ⟨d, h1, h2⟩ := DaAll.get (i := i) t (by simpa using e)
    exact ⟨d, by simpa using h1, h2⟩
theorem DaAll.append {N : Addr → Prop} {H : Hp} : ∀ {vs us : List V} {ds es : List PyData}, DaAll N H vs ds → DaAll N H us es → DaAll N H (vs ++ us) (ds ++ es)
  | _, _, _, _, .nil, s => s
  | _, _, _, _, .cons r t, s => .cons r (DaAll.append t s)
theorem DaAll.take {N : Addr → Prop} {H : Hp} : ∀ {vs : List V} {ds : List PyData} (n : Nat), DaAll N H vs ds → DaAll N H (vs.take n) (ds.take n)
  | _, _, 0, _ => .nil
  | _, _, _ + 1, .nil => .nil
  | _, _, n + 1, .cons r t => .cons r (DaAll.take n t)
theorem DaAll.drop {N : Addr → Prop} {H : Hp} : ∀ {vs : List V} {ds : List PyData} (n : Nat), DaAll N H vs ds → DaAll N H (vs.drop n) (ds.drop n)
  | _, _, 0, r => r
  | _, _, _ + 1, .nil => .nil
  | _, _, n + 1, .cons _ t => DaAll.drop n t
def tyN : PyData → String
  | .none => "NoneType"
  | .bool _ => "bool"
  | .int _ => "int"
  | .str _ => "str"
  | .list _ => "list"
  | .tuple _ => "tuple"
  | .dict _ => "dict"
theorem Da.ty {K : PySem.W.Frag} {N : Addr → Prop} {H : Hp} {v : V} {d : PyData} (h : Da N H v d) : TyX K H v (.type (tyN d)) := by
  cases h with
  | non => exact .base .non
  | bl b => exact .base (.bl b)
  | int i => exact .base (.int i)
  | str x => exact .base (.str x)
  | lst e _ _ => exact .base (.lst e)
  | tup e _ _ => exact .base (.tup e)
  | dct e _ _ _ => exact .base (.dK e)
structure Bi (mg : Str → Option Value) : Prop where
  len_ : mg "len" = none
  isinstance_ : mg "isinstance" = none
  int_ : mg "int" = none
  bool_ : mg "bool" = none
  tuple_ : mg "tuple" = none
  list_ : mg "list" = none
  all_ : mg "all" = none
  range_ : mg "range" = none
  max_ : mg "max" = none
  min_ : mg "min" = none
  repr_ : mg "repr" = none
end HX
set_option maxRecDepth 100000
set_option maxHeartbeats 4000000
namespace HX
open PySem PySem.Spec PyProof.Rows L2
section
variable {prog : Program} {w : World} {A : Around} {E : Value → Shared → Prop} {s : Shared}
end
section
variable {X : Cx}
end
end HX
set_option maxRecDepth 100000
set_option maxHeartbeats 4000000
namespace HX
open PySem PySem.Spec PyProof.Rows L2
structure Ent (A : Around) (s : Shared) (H : Hp) : Prop where
  gu : A.guards = some []
  sm : ∃ o, s.heap.get? sysModules = some o
  hm : H sysModules = none
structure FnG (P : Program) (w : World) (K : PySem.W.Frag) (mg : Str → Option Value) (base : Heap) (k : Nat) (f : Addr) (fd : FuncData) (ps : List Str) (sp : Sp) : Prop where
  len : ∀ vs H Q E, sp vs H Q E → vs.length = ps.length
  run : ∀ (A : Around) (outer : List Env) (s : Shared) (H : Hp) (args : Args) (us : List Value) (vs : List V) (Q : VK) (E : XK), Ent A s H → Room k A → Env0 P w K mg base A outer s H → BindsTo s fd args (ps.zip us) → Vals vs us → sp vs H Q E →
    codeAny (model P w) A (.call (.ref f) args) (CR CX0 outer P w H s Q E) s
section
variable {P : Program} {w : World} {K : PySem.W.Frag} {mg : Str → Option Value} {base : Heap}
def CalG (P : Program) (w : World) (K : PySem.W.Frag) (mg : Str → Option Value) (base : Heap) (k : Nat) (x : Str) (ps : List Str) (sp : Sp) : Prop :=
  ∃ (f : Addr) (fd : FuncData), FnG P w K mg base k f fd ps sp ∧ mg x = some (.ref f) ∧ PySem.W.keepIn K (.ref f) = true ∧ Binds K fd ps []
theorem CalG.mono {j k : Nat} {x : Str} {ps : List Str} {sp : Sp} (c : CalG P w K mg base j x ps sp) (h : j ≤ k) : CalG P w K mg base k x ps sp := by
  obtain ⟨f, fd, F, a, b, d⟩ := c
  exact ⟨f, fd, ⟨F.len, fun A outer s H args us vs Q E en hr => F.run A outer s H args us vs Q E en (hr.mono h)⟩, a, b, d⟩
end
structure EntX (X : Cx) : Prop where
  gu : X.A.guards = some []
  sm : ∃ o, X.s_0.heap.get? sysModules = some o
  hm : X.H_0 sysModules = none
  ex : sysModules ∉ X.ex
section
variable {X : Cx} {pins : List (Addr × Obj)} {σ : L2.St} {H : Hp} {s : Shared}
end
theorem kV_rel {k : Key} {u : Value} (h : keyIs k u = true) : RelV (kV k) u := by
  rcases keyIs_shape h with ⟨i, t, rfl, rfl⟩ | ⟨x, t, rfl, rfl⟩
  · exact ⟨t, rfl⟩
  · exact ⟨t, rfl⟩
theorem pairs_vals {prog : Program} {w : World} {l : List DictEntry} {vs : List (Key × Value)} (hp : Pairs (mixKind prog w) l vs) : ∀ {kvs : List (Key × V)}, KV kvs vs → Vals (kvs.map fun p => kV p.1) (l.map (·.key)) ∧ Vals (kvs.map (·.2)) (l.map (·.val)) := by
  induction hp with
  | nil =>
    intro kvs rv
    cases rv
    exact ⟨.nil, .nil⟩
  | cons hk hv _ ih =>
    intro kvs rv
    cases rv with
    | cons q qs =>
      obtain ⟨i1, i2⟩ := ih qs
      obtain ⟨q1, q2⟩ := q
      refine ⟨.cons ?_ i1, .cons ?_ i2⟩
      · dsimp only
        rw [q1]
        exact kV_rel hk
      · dsimp only
        rw [hv]
        exact q2
section
variable {X : Cx} {pins : List (Addr × Obj)} {σ : L2.St} {H : Hp} {s : Shared} {N : Addr → Prop}
mutual
theorem Da.reads (I : Inv X pins σ H s) : ∀ (d : PyData) (v : V) (u : Value), Da N H v d → RelV v u → ∃ as, Reads s.heap u d as ∧ ∀ a ∈ as, H a ≠ none
  | .none, _, _, h, r => by
    cases h
    cases r
    exact ⟨_, Reads.none, fun _ z => nomatch z⟩
  | .bool b, _, _, h, r => by
    cases h
    cases r
    exact ⟨_, Reads.bool b, fun _ z => nomatch z⟩
  | .int i, _, _, h, r => by
    cases h
    obtain ⟨t, rfl⟩ := r
    exact ⟨_, Reads.int i t, fun _ z => nomatch z⟩
  | .str x, _, _, h, r => by
    cases h
    obtain ⟨t, rfl⟩ := r
    exact ⟨_, Reads.str x t, fun _ z => nomatch z⟩
  | .list ds, _, _, h, r => by
    cases h with
    | @lst a xs _ e _ ha =>
      cases r
      obtain ⟨_, its, n, rv, ho⟩ := I.hok a _ e
      obtain ⟨as, hr, hn⟩ := Da.readsAll I ds _ its ha rv
      refine ⟨_, Reads.list ho rfl rfl (by simpa using hr), fun b hb => ?_⟩
      rcases List.mem_cons.mp hb with rfl | hb
      · rw [e]
        exact fun z => nomatch z
      · exact hn b hb
  | .tuple ds, _, _, h, r => by
    cases h with
    | @tup a xs _ e _ ha =>
      cases r
      obtain ⟨_, its, rv, o, ho, hc, n, hd⟩ := I.hok a _ e
      obtain ⟨as, hr, hn⟩ := Da.readsAll I ds _ its ha rv
      exact ⟨_, Reads.tuple ho hc hd (by simpa using hr), hn⟩
  | .dict ds, _, _, h, r => by
    cases h with
    | @dct a kvs _ e _ h1 h2 =>
      cases r
      obtain ⟨_, _, vs, rv, o, es, ep, ho, hx, hd, _, hp, _⟩ := I.hok a _ e
      have hk := pairs_vals hp rv
      obtain ⟨as, r1, n1⟩ := Da.readsK I ds _ _ h1 hk.1
      obtain ⟨bs, r2, n2⟩ := Da.readsV I ds _ _ h2 hk.2
      refine ⟨_, Reads.dict ho hx.1 hd r1 r2, fun b hb => ?_⟩
      rcases List.mem_append.mp hb with hb | hb
      · rcases List.mem_cons.mp hb with rfl | hb
        · rw [e]
          exact fun z => nomatch z
        · exact n1 b hb
      · exact n2 b hb
theorem Da.readsAll (I : Inv X pins σ H s) : ∀ (ds : List PyData) (vs : List V) (us : List Value), DaAll N H vs ds → Vals vs us → ∃ as, ReadsAll s.heap us ds as ∧ ∀ a ∈ as, H a ≠ none
  | [], _, _, h, r => by
    cases h
    cases r
    exact ⟨_, ReadsAll.nil, fun _ z => nomatch z⟩
  | d :: ds, _, _, h, r => by
    cases h with
    | cons h1 h2 =>
      cases r with
      | cons r1 r2 =>
        obtain ⟨as, q1, n1⟩ := Da.reads I d _ _ h1 r1
        obtain ⟨bs, q2, n2⟩ := Da.readsAll I ds _ _ h2 r2
        exact ⟨_, ReadsAll.cons q1 q2, fun b hb => (List.mem_append.mp hb).elim (n1 b) (n2 b)⟩
theorem Da.readsK (I : Inv X pins σ H s) : ∀ (ds : List (PyData × PyData)) (vs : List V) (us : List Value), DaAll N H vs (ds.map (·.1)) → Vals vs us → ∃ as, ReadsAll s.heap us (ds.map (·.1)) as ∧ ∀ a ∈ as, H a ≠ none
  | [], _, _, h, r => by
    cases h
    cases r
    exact ⟨_, ReadsAll.nil, fun _ z => nomatch z⟩
  | (d, e) :: ds, _, _, h, r => by
    cases h with
    | cons h1 h2 =>
      cases r with
      | cons r1 r2 =>
        obtain ⟨as, q1, n1⟩ := Da.reads I d _ _ h1 r1
        obtain ⟨bs, q2, n2⟩ := Da.readsK I ds _ _ h2 r2
        exact ⟨_, ReadsAll.cons q1 q2, fun b hb => (List.mem_append.mp hb).elim (n1 b) (n2 b)⟩
theorem Da.readsV (I : Inv X pins σ H s) : ∀ (ds : List (PyData × PyData)) (vs : List V) (us : List Value), DaAll N H vs (ds.map (·.2)) → Vals vs us → ∃ as, ReadsAll s.heap us (ds.map (·.2)) as ∧ ∀ a ∈ as, H a ≠ none
  | [], _, _, h, r => by
    cases h
    cases r
    exact ⟨_, ReadsAll.nil, fun _ z => nomatch z⟩
  | (e, d) :: ds, _, _, h, r => by
    cases h with
    | cons h1 h2 =>
      cases r with
      | cons r1 r2 =>
        obtain ⟨as, q1, n1⟩ := Da.reads I d _ _ h1 r1
        obtain ⟨bs, q2, n2⟩ := Da.readsV I ds _ _ h2 r2
        exact ⟨_, ReadsAll.cons q1 q2, fun b hb => (List.mem_append.mp hb).elim (n1 b) (n2 b)⟩
end
end
mutual
def wt : PyData → Nat
  | .none => 4
  | .bool _ => 5
  | .int _ => 130
  | .str x => (reprText x).length
  | .list ds => 2 + wtAll ds
  | .tuple ds => 3 + wtAll ds
  | .dict ds => 2 + wtKv ds
def wtAll : List PyData → Nat
  | [] => 0
  | d :: ds => wt d + 2 + wtAll ds
def wtKv : List (PyData × PyData) → Nat
  | [] => 0
  | (a, b) :: ds => wt a + wt b + 4 + wtKv ds
end
mutual
def within (b : Int) : PyData → Prop
  | .none => True
  | .bool _ => True
  | .int i => -b ≤ i ∧ i ≤ b
  | .str _ => True
  | .list ds => withinAll b ds
  | .tuple ds => withinAll b ds
  | .dict ds => withinKv b ds
def withinAll (b : Int) : List PyData → Prop
  | [] => True
  | d :: ds => within b d ∧ withinAll b ds
def withinKv (b : Int) : List (PyData × PyData) → Prop
  | [] => True
  | (x, y) :: ds => within b x ∧ within b y ∧ withinKv b ds
end
theorem textFrom_le : ∀ (ts : List Str) (k : Nat) (acc : Str), (textFrom k acc ts).length ≤ acc.length + piled ts
  | [], _, _ => Nat.le_add_right _ _
  | t :: ts, k, acc => by
    have h := textFrom_le ts (k + 1) (acc ++ (if k > 0 then ", " else "" : String) ++ t)
    have e : (acc ++ (if k > 0 then ", " else "" : String) ++ t).length ≤ acc.length + 2 + t.length := by
      rw [strLen_append, strLen_append]
      have : (Str.ofString (if k > 0 then ", " else "" : String)).length ≤ 2 := by split <;> decide
      omega
    rw [piled_cons]
    show (textFrom (k + 1) _ ts).length ≤ _
    omega
theorem listText_le (ts : List Str) : (listText ts).length ≤ 2 + piled ts := by
  unfold listText
  have h := textFrom_le ts 0 "["
  rw [strLen_append]
  have e1 : (Str.ofString "[").length = 1 := by decide
  have e2 : (Str.ofString "]").length = 1 := by decide
  have h' : (textFrom 0 (Str.ofString "[") ts).length ≤ (Str.ofString "[").length + piled ts := h
  show (textFrom 0 (Str.ofString "[") ts).length + (Str.ofString "]").length ≤ _
  omega
theorem join_le (ts : List Str) : (Str.join ", " ts).length ≤ piled ts := by
  by_cases h : ts = []
  · subst h
    decide
  · have := join_length_add ts h
    omega
theorem tupleText_le (ts : List Str) : (tupleText ts).length ≤ 3 + piled ts := by
  unfold tupleText
  have h := join_le ts
  rw [strLen_append, strLen_append]
  have e1 : (Str.ofString "(").length = 1 := by decide
  have e2 : (Str.ofString (if ts.length == 1 then ",)" else ")" : String)).length ≤ 2 := by split <;> decide
  show (Str.ofString "(").length + (Str.join (Str.ofString ", ") ts).length + (Str.ofString (if ts.length == 1 then ",)" else ")" : String)).length ≤ _
  have h' : (Str.join (Str.ofString ", ") ts).length ≤ piled ts := h
  omega
theorem dictText_le (ts : List Str) : (dictText ts).length ≤ 2 + piled ts := by
  unfold dictText
  have h := join_le ts
  rw [strLen_append, strLen_append]
  have e1 : (Str.ofString "{").length = 1 := by decide
  have e2 : (Str.ofString "}").length = 1 := by decide
  show (Str.ofString "{").length + (Str.join (Str.ofString ", ") ts).length + (Str.ofString "}").length ≤ _
  have h' : (Str.join (Str.ofString ", ") ts).length ≤ piled ts := h
  omega
theorem int_log {i b : Int} (h : -b ≤ i ∧ i ≤ b) (hb : b < 10 ^ 120) : i.natAbs.log2 < 400 := by
  have h1 : i.natAbs < 2 ^ 400 := by
    have h2 : (10 : Nat) ^ 120 < 2 ^ 400 := by decide +kernel
    have h3 : i.natAbs < 10 ^ 120 := by omega
    exact Nat.lt_trans h3 h2
  exact PySem.Flt.log2_lt_of (by decide) h1
theorem nat_short {n k : Nat} (hk : 0 < k) (h : n < 10 ^ k) : (toString n).length ≤ k := by
  show (String.ofList (Nat.toDigits 10 n)).length ≤ k
  rw [String.length_ofList]
  exact (Nat.length_toDigits_le_iff (by decide) hk).mpr h
theorem int_short {i : Int} {k : Nat} (hk : 0 < k) (h : i.natAbs < 10 ^ k) : (toString i).length ≤ k + 1 := by
  cases i with
  | ofNat n =>
    have := nat_short hk (n := n) (by simpa using h)
    show (toString n).length ≤ _
    omega
  | negSucc n =>
    have := nat_short hk (n := n + 1) (by simpa using h)
    show ("-" ++ toString (n + 1)).length ≤ _
    rw [String.length_append]
    have e : "-".length = 1 := by decide
    omega
mutual
theorem shown_le {b : Int} (hb : b < 10 ^ 120) : ∀ d : PyData, within b d → d.shown.length ≤ wt d ∧ d.showable = true
  | .none, _ => by
    simp only [PyData.shown, PyData.showable, wt]
    decide
  | .bool c, _ => by
    cases c <;> (simp only [PyData.shown, PyData.showable, wt]; decide)
  | .int i, h => by
    have h' : -b ≤ i ∧ i ≤ b := by simpa only [within] using h
    have hl := int_log h' hb
    simp only [PyData.shown, PyData.showable, wt]
    have q := int_short (i := i) (k := 120) (by decide) (by omega)
    refine ⟨?_, decide_eq_true (by omega)⟩
    have e := PySem.ofString_length (toString i)
    show (Str.ofString (toString i)).length ≤ 130
    omega
  | .str x, _ => by
    simp only [PyData.shown, PyData.showable, wt]
    exact ⟨Nat.le_refl _, trivial⟩
  | .list ds, h => by
    have h' : withinAll b ds := by simpa only [within] using h
    obtain ⟨q1, q2⟩ := shownAll_le hb ds h'
    simp only [PyData.shown, PyData.showable, wt]
    have := listText_le (PyData.shownAll ds)
    exact ⟨by omega, q2⟩
  | .tuple ds, h => by
    have h' : withinAll b ds := by simpa only [within] using h
    obtain ⟨q1, q2⟩ := shownAll_le hb ds h'
    simp only [PyData.shown, PyData.showable, wt]
    have := tupleText_le (PyData.shownAll ds)
    exact ⟨by omega, q2⟩
  | .dict ds, h => by
    have h' : withinKv b ds := by simpa only [within] using h
    obtain ⟨q1, q2⟩ := shownKv_le hb ds h'
    simp only [PyData.shown, PyData.showable, wt]
    have := dictText_le (PyData.shownKv ds)
    exact ⟨by omega, q2⟩
theorem shownAll_le {b : Int} (hb : b < 10 ^ 120) : ∀ ds : List PyData, withinAll b ds → piled (PyData.shownAll ds) ≤ wtAll ds ∧ PyData.showableAll ds = true
  | [], _ => by
    simp only [PyData.shownAll, PyData.showableAll, wtAll]
    exact ⟨Nat.le_refl _, trivial⟩
  | d :: ds, h => by
    have h' : within b d ∧ withinAll b ds := by simpa only [withinAll] using h
    obtain ⟨a1, a2⟩ := shown_le hb d h'.1
    obtain ⟨b1, b2⟩ := shownAll_le hb ds h'.2
    simp only [PyData.shownAll, PyData.showableAll, wtAll]
    rw [piled_cons, a2, b2]
    exact ⟨by omega, rfl⟩
theorem shownKv_le {b : Int} (hb : b < 10 ^ 120) : ∀ ds : List (PyData × PyData), withinKv b ds → piled (PyData.shownKv ds) ≤ wtKv ds ∧ PyData.showableKv ds = true
  | [], _ => by
    simp only [PyData.shownKv, PyData.showableKv, wtKv]
    exact ⟨Nat.le_refl _, trivial⟩
  | (x, y) :: ds, h => by
    have h' : within b x ∧ within b y ∧ withinKv b ds := by simpa only [withinKv] using h
    obtain ⟨a1, a2⟩ := shown_le hb x h'.1
    obtain ⟨c1, c2⟩ := shown_le hb y h'.2.1
    obtain ⟨b1, b2⟩ := shownKv_le hb ds h'.2.2
    simp only [PyData.shownKv, PyData.showableKv, wtKv]
    have e : (Str.ofString ": ").length = 2 := by decide
    rw [piled_cons, a2, b2, c2, strLen_append, strLen_append]
    refine ⟨?_, rfl⟩
    show x.shown.length + (Str.ofString ": ").length + y.shown.length + 2 + _ ≤ _
    omega
end
structure Gd (n e : Nat) (d : PyData) : Prop where
  iw : within 100000000000000000000000000000000000000000000000000000000000000000000000000000000000000000000000000000000000000000000000 d
  wn : wt d ≤ n
  dp : d.depth ≤ e
end HX
set_option maxRecDepth 100000
set_option maxHeartbeats 4000000
namespace HX
open PySem PySem.Spec PyProof.Rows L2
def KT (H H' : Hp) : Prop := ∀ b xs, H b = some (.tup xs) → H' b = some (.tup xs)
theorem KT.refl (H : Hp) : KT H H := fun _ _ h => h
theorem KT.trans {H H1 H2 : Hp} (a : KT H H1) (b : KT H1 H2) : KT H H2 := fun c xs h => b c xs (a c xs h)
theorem KT.new {H : Hp} {p : Addr} {o : HO} (h : H p = none) : KT H (upd H p o) := fun b xs e => by
  rw [upd_ne (ne_of_none e h)]
  exact e
theorem KT.put {H : Hp} {p : Addr} {o : HO} {xs : List V} (h : H p = some (.lst xs)) : KT H (upd H p o) := fun b ys e => by
  rw [upd_ne (ne_of e h (fun z => by cases z))]
  exact e
theorem KT.same {H H' : Hp} (h : Same H H') : KT H H' := fun b xs e => h b _ e
theorem KT.kp {H H' : Hp} {p : Addr} {xs : List V} (h : H p = some (.lst xs)) (k : Kp (· = p) H H') : KT H H' := fun b ys e => k b _ e (ne_of e h (fun z => by cases z))
mutual
inductive Td (H : Hp) : V → PyData → Prop
  | non : Td H .non .none
  | bl (b : Bool) : Td H (.bl b) (.bool b)
  | int (i : Int) : Td H (.int i) (.int i)
  | str (x : Str) : Td H (.str x) (.str x)
  | tup {a : Addr} {xs : List V} {ds : List PyData} : H a = some (.tup xs) → TdAll H xs ds → Td H (.ref a) (.tuple ds)
inductive TdAll (H : Hp) : List V → List PyData → Prop
  | nil : TdAll H [] []
  | cons {v : V} {vs : List V} {d : PyData} {ds : List PyData} : Td H v d → TdAll H vs ds → TdAll H (v :: vs) (d :: ds)
end
mutual
theorem Td.mono {H H' : Hp} (k : KT H H') : ∀ (d : PyData) (v : V), Td H v d → Td H' v d
  | .none, _, h => by cases h; exact .non
  | .bool b, _, h => by cases h; exact .bl b
  | .int i, _, h => by cases h; exact .int i
  | .str x, _, h => by cases h; exact .str x
  | .tuple ds, _, h => by
    cases h with
    | tup e ha => exact .tup (k _ _ e) (TdAll.mono k ds _ ha)
  | .list _, _, h => by cases h
  | .dict _, _, h => by cases h
theorem TdAll.mono {H H' : Hp} (k : KT H H') : ∀ (ds : List PyData) (vs : List V), TdAll H vs ds → TdAll H' vs ds
  | [], _, h => by cases h; exact .nil
  | d :: ds, _, h => by
    cases h with
    | cons h1 h2 => exact .cons (Td.mono k d _ h1) (TdAll.mono k ds _ h2)
end
theorem TdAll.len {H : Hp} : ∀ {vs : List V} {ds : List PyData}, TdAll H vs ds → vs.length = ds.length
  | _, _, .nil => rfl
  | _, _, .cons _ t => by rw [List.length_cons, List.length_cons, TdAll.len t]
theorem TdAll.get {H : Hp} : ∀ {vs : List V} {ds : List PyData} {i : Nat} {v : V}, TdAll H vs ds → vs[i]? = some v → ∃ d, ds[i]? = some d ∧ Td H v d
  | _, _, _, _, .nil, e => by simp at e
  | _, _, 0, _, .cons h _, e => by
    have e' := Option.some.inj e
    exact ⟨_, rfl, e' ▸ h⟩
  | _, _, i + 1, _, .cons _ t, e => by
    obtain ⟨d, h1, h2⟩ := TdAll.get (i := i) t (by simpa using e)
    exact ⟨d, by simpa using h1, h2⟩
theorem TdAll.at {H : Hp} : ∀ {vs : List V} {ds : List PyData} {i : Nat} {d : PyData}, TdAll H vs ds → ds[i]? = some d → ∃ v, vs[i]? = some v ∧ Td H v d
  | _, _, _, _, .nil, e => by simp at e
  | _, _, 0, _, .cons h _, e => by
    have e' := Option.some.inj e
    exact ⟨_, rfl, e' ▸ h⟩
  | _, _, i + 1, _, .cons _ t, e => by
    obtain ⟨v, h1, h2⟩ := TdAll.at (i := i) t (by simpa using e)
    exact ⟨v, by simpa using h1, h2⟩
theorem TdAll.append {H : Hp} : ∀ {vs us : List V} {ds es : List PyData}, TdAll H vs ds → TdAll H us es → TdAll H (vs ++ us) (ds ++ es)
  | _, _, _, _, .nil, s => s
  | _, _, _, _, .cons r t, s => .cons r (TdAll.append t s)
theorem TdAll.snoc {H : Hp} {vs : List V} {ds : List PyData} {v : V} {d : PyData} (h : TdAll H vs ds) (g : Td H v d) : TdAll H (vs ++ [v]) (ds ++ [d]) := h.append (.cons g .nil)
theorem TdAll.ints {H : Hp} : ∀ ns : List Int, TdAll H (ns.map V.int) (ns.map PyData.int)
  | [] => .nil
  | n :: ns => .cons (.int n) (TdAll.ints ns)
theorem Td.new {H : Hp} {p : Addr} {xs : List V} {ds : List PyData} (hp : H p = none) (h : TdAll H xs ds) : Td (upd H p (.tup xs)) (.ref p) (.tuple ds) := .tup upd_same (TdAll.mono (KT.new hp) _ _ h)
def EndsOk (n : Int) (s : List Int) : Prop := s.length ≤ 3 ∧ ∀ e ∈ s, 0 ≤ e ∧ e < n
def WheelOk (n : Int) (w : List (List Int)) : Prop := 1 ≤ w.length ∧ w.length ≤ 4 ∧ ∀ s ∈ w, EndsOk n s
structure BoardOk (ws : List (List (List Int))) (c : Int) : Prop where
  w1 : 1 ≤ ws.length
  w6 : ws.length ≤ 6
  c0 : 0 ≤ c
  c4 : c ≤ 4
  wheels : ∀ w ∈ ws, WheelOk ((ws.length : Int) + c) w
end HX
set_option maxRecDepth 100000
set_option maxHeartbeats 4000000
namespace HX
open PySem PySem.Spec PyProof.Rows L2
def Fr (N : Addr → Prop) (H : Hp) : Prop := ∀ H1, Same H H1 → ∀ p, H1 p = none → ¬ N p
theorem Fr.none (H : Hp) : Fr (fun _ => False) H := fun _ _ _ _ z => z
theorem Fr.one {H : Hp} {a : Addr} {o : HO} (h : H a = some o) : Fr (· = a) H := fun H1 s p hp z => by
  rw [z, s _ _ h] at hp
  cases hp
section
variable {N : Addr → Prop} {σ : L2.St} {H : Hp} {te : TE} {ta : TA} {d : PyData} {ds : List PyData}
end
theorem np {σ : L2.St} {H : Hp} {Q : Option Int → Hp → Prop} (h : Q none H) : tNoPart σ H Q := h
theorem wtAll_append : ∀ xs ys : List PyData, wtAll (xs ++ ys) = wtAll xs + wtAll ys
  | [], ys => by simp [wtAll]
  | x :: xs, ys => by
    rw [List.cons_append]
    simp only [wtAll]
    rw [wtAll_append xs ys]
    omega
theorem withinAll_append {b : Int} : ∀ xs ys : List PyData, withinAll b (xs ++ ys) ↔ withinAll b xs ∧ withinAll b ys
  | [], ys => by simp [withinAll]
  | x :: xs, ys => by
    rw [List.cons_append]
    simp only [withinAll]
    rw [withinAll_append xs ys, and_assoc]
theorem depthAll_append : ∀ xs ys : List PyData, PyData.depthAll (xs ++ ys) = max (PyData.depthAll xs) (PyData.depthAll ys)
  | [], ys => by simp [PyData.depthAll]
  | x :: xs, ys => by
    rw [List.cons_append]
    simp only [PyData.depthAll]
    rw [depthAll_append xs ys]
    omega
mutual
theorem within_up {b c : Int} (h : b ≤ c) : ∀ d : PyData, within b d → within c d
  | .none, _ => by simp only [within]
  | .bool _, _ => by simp only [within]
  | .int i, q => by
    simp only [within] at q ⊢
    omega
  | .str _, _ => by simp only [within]
  | .list ds, q => by
    simp only [within] at q ⊢
    exact withinAll_up h ds q
  | .tuple ds, q => by
    simp only [within] at q ⊢
    exact withinAll_up h ds q
  | .dict ds, q => by
    simp only [within] at q ⊢
    exact withinKv_up h ds q
theorem withinAll_up {b c : Int} (h : b ≤ c) : ∀ ds : List PyData, withinAll b ds → withinAll c ds
  | [], _ => by simp only [withinAll]
  | d :: ds, q => by
    simp only [withinAll] at q ⊢
    exact ⟨within_up h d q.1, withinAll_up h ds q.2⟩
theorem withinKv_up {b c : Int} (h : b ≤ c) : ∀ ds : List (PyData × PyData), withinKv b ds → withinKv c ds
  | [], _ => by simp only [withinKv]
  | (x, y) :: ds, q => by
    simp only [withinKv] at q ⊢
    exact ⟨within_up h x q.1, within_up h y q.2.1, withinKv_up h ds q.2.2⟩
end
theorem entx_of {P : Program} {w : World} {K : PySem.W.Frag} {mg : Str → Option Value} {base : Heap} {N : List Str} {qual : Str} {scope : Scope} {f : Addr} {cdv : Value} {A : Around} {outer : List Env} {s : Shared} {H : Hp} {E : XK} (en : Ent A s H) :
    EntX (cxOf CX0 P w K mg base N qual scope f cdv A outer s H E).nox := ⟨en.gu, en.sm, en.hm, fun z => absurd (show sysModules ∈ ([] : List Addr) from z) (by simp)⟩
theorem hu150 {A : Around} {k : Nat} (hr : Room k A) : A.units + 150 < cLine := by
  have := hr.un
  omega
theorem def_mk {K : PySem.W.Frag} {mg : Str → Option Value} {h : Heap} {x : Str} {st : Stmt} {ps : List Str} {f : Addr} {od an : Option Addr} {sl : Array (Option Value)} {oc kV dc pm cd ct : Value} (X : K.In h) (G : h.Ns mainGlobals mg)
    (a : PySem.W.nsIn K mainGlobals x = some (some (.ref f))) (l : K.lookup f = some ⟨oc, od, .func (PySem.W.fnOf x x (defArgs st) (defBody st) (defScope st) .none kV dc pm an cd ct), sl⟩) (c : PySem.W.codeIn K cd x = true) (k : PySem.W.keepIn K (.ref f) = true)
    (hb : ∀ (kV doc pm : Value) (an : Option Addr) (cdv ct : Value) (us : List Value), us.length = ps.length → bindArgs (PySem.W.fnOf x x (defArgs st) (defBody st) (defScope st) .none kV doc pm an cdv ct) ⟨us, []⟩ = pure (ps.zip us)) : Def K mg x st ps :=
  ⟨f, _, fun_mk l c k, PySem.W.mg_of X G a, (fun_mk l c k).binds hb⟩
theorem gint_mk {K : PySem.W.Frag} {mg : Str → Option Value} {h : Heap} {x : Str} {i : Int} {t : Tok} (X : K.In h) (G : h.Ns mainGlobals mg) (a : PySem.W.nsIn K mainGlobals x = some (some (.int i t))) : ∃ t, mg x = some (.int i t) := ⟨t, PySem.W.mg_of X G a⟩
theorem def_cut {C : Prop} {K : PySem.W.Frag} {mg : Str → Option Value} {h : Heap} {x : Str} {st : Stmt} {ps : List Str} {f : Addr} {od an : Option Addr} {sl : Array (Option Value)} {oc kV dc pm cd ct : Value} (X : K.In h) (G : h.Ns mainGlobals mg)
    (a : PySem.W.nsIn K mainGlobals x = some (some (.ref f))) (l : K.lookup f = some ⟨oc, od, .func (PySem.W.fnOf x x (defArgs st) (defBody st) (defScope st) .none kV dc pm an cd ct), sl⟩) (c : PySem.W.codeIn K cd x = true) (k : PySem.W.keepIn K (.ref f) = true)
    (hb : ∀ (kV doc pm : Value) (an : Option Addr) (cdv ct : Value) (us : List Value), us.length = ps.length → bindArgs (PySem.W.fnOf x x (defArgs st) (defBody st) (defScope st) .none kV doc pm an cdv ct) ⟨us, []⟩ = pure (ps.zip us)) (z : Def K mg x st ps → C) : C :=
  z (def_mk X G a l c k hb)
structure Pt (b : Int) (w e : Nat) (ds : List PyData) : Prop where
  iw : withinAll b ds
  wn : wtAll ds ≤ w
  dp : PyData.depthAll ds ≤ e
theorem Pt.append {b : Int} {w1 w2 e : Nat} {xs ys : List PyData} (h : Pt b w1 e xs) (g : Pt b w2 e ys) : Pt b (w1 + w2) e (xs ++ ys) := by
  refine ⟨(withinAll_append _ _).mpr ⟨h.iw, g.iw⟩, ?_, ?_⟩
  · rw [wtAll_append]
    exact Nat.add_le_add h.wn g.wn
  · rw [depthAll_append]
    exact Nat.max_le.mpr ⟨h.dp, g.dp⟩
theorem Pt.one {b : Int} {w e : Nat} {d : PyData} (h1 : within b d) (h2 : wt d ≤ w) (h3 : d.depth ≤ e) : Pt b (w + 2) e [d] := by
  refine ⟨?_, ?_, ?_⟩
  · simp only [withinAll]
    exact ⟨h1, trivial⟩
  · simp only [wtAll]
    omega
  · simp only [PyData.depthAll]
    omega
theorem Pt.le {b : Int} {w w' e : Nat} {xs : List PyData} (h : Pt b w e xs) (hw : w ≤ w') : Pt b w' e xs := ⟨h.iw, Nat.le_trans h.wn hw, h.dp⟩
theorem Pt.up {b c : Int} {w e : Nat} {xs : List PyData} (h : Pt b w e xs) (hc : b ≤ c) : Pt c w e xs := ⟨withinAll_up hc _ h.iw, h.wn, h.dp⟩
theorem Pt.cut {b : Int} {w e : Nat} {xs : List PyData} (h : Pt b w e xs) (n : Nat) : ∃ w1 w2, Pt b w1 e (xs.take n) ∧ Pt b w2 e (xs.drop n) ∧ w1 + w2 ≤ w := by
  obtain ⟨h1, h2, h3⟩ := h
  have q1 := (withinAll_append (xs.take n) (xs.drop n)).mp (by rw [List.take_append_drop]; exact h1)
  have q2 := wtAll_append (xs.take n) (xs.drop n)
  rw [List.take_append_drop] at q2
  have q3 := depthAll_append (xs.take n) (xs.drop n)
  rw [List.take_append_drop] at q3
  exact ⟨_, _, ⟨q1.1, Nat.le_refl _, by omega⟩, ⟨q1.2, Nat.le_refl _, by omega⟩, by omega⟩
end HX
set_option maxRecDepth 100000
set_option maxHeartbeats 1000000
namespace HX
open PySem PySem.Spec PyProof.Rows L2
inductive Ki where
  | l | t
def SqK (K : PySem.W.Frag) (H : Hp) : Ki → Addr → List V → Prop
  | .l, a, xs => SqL K H a xs
  | .t, a, xs => SqT K H a xs
section
variable {X : Cx} {pins : List (Addr × Obj)} {σ : L2.St} {H : Hp} {s : Shared} {k : Ki} {a : Addr} {xs ys : List V}
end
theorem SqK.same {K : PySem.W.Frag} {H H' : Hp} {k : Ki} {a : Addr} {xs : List V} (s : Same H H') (h : SqK K H k a xs) : SqK K H' k a xs := by
  cases k with
  | l => exact s.seq h
  | t =>
    rcases h with (h | ⟨o, h⟩) | h
    · exact .inl (.inl (s _ _ h))
    · exact .inl (.inr ⟨o, s _ _ h⟩)
    · exact .inr h
end HX
set_option maxRecDepth 100000
set_option maxHeartbeats 1000000
namespace HX
open PySem PySem.Spec PyProof.Rows L2
structure Bi2 (mg : Str → Option Value) : Prop where
  zip_ : mg "zip" = none
  enumerate_ : mg "enumerate" = none
  sum_ : mg "sum" = none
end HX
set_option maxRecDepth 100000
set_option maxHeartbeats 1000000
namespace HX
open PySem PySem.Spec PyProof.Rows L2
end HX
set_option maxRecDepth 100000
set_option maxHeartbeats 1000000
namespace HX
open PySem PySem.Spec PyProof.Rows L2
structure Mo where
  st : List Int
  wt : List Int
  hd : List Int
def bump (l : List Int) (i : Nat) (d : Int) : List Int := l.set i (l.getD i 0 + d)
theorem bump_len {l : List Int} {i : Nat} {d : Int} : (bump l i d).length = l.length := List.length_set
def sendM (W : Nat) (p : List Int × List Int) (e : Int) : List Int × List Int := if e < (W : Int) then (bump p.1 e.toNat 1, p.2) else (p.1, bump p.2 (e - (W : Int)).toNat 1)
def endsAt (ws : List (List (List Int))) (st : List Int) (w : Nat) : List Int := (ws.getD w []).getD (st.getD w 0).toNat []
def sentM (ws : List (List (List Int))) (m : Mo) (w : Nat) : List Int × List Int := (endsAt ws m.st w).foldl (sendM ws.length) (bump m.wt w (-1), m.hd)
def handleM (ws : List (List (List Int))) (m : Mo) (w : Nat) : Mo := ⟨m.st.set w ((m.st.getD w 0 + 1) % ((ws.getD w []).length : Int)), (sentM ws m w).1, (sentM ws m w).2⟩
structure MoF (ws : List (List (List Int))) (c : Int) (m : Mo) : Prop where
  sl : m.st.length = ws.length
  sr : ∀ (i : Nat) (s : Int) (w : List (List Int)), m.st[i]? = some s → ws[i]? = some w → 0 ≤ s ∧ s < (w.length : Int)
  wl : m.wt.length = ws.length
  hl : (m.hd.length : Int) = c
structure MoOk (ws : List (List (List Int))) (c : Int) (m : Mo) : Prop extends MoF ws c m where
  wn : ∀ x ∈ m.wt, 0 ≤ x
  hn : ∀ x ∈ m.hd, 0 ≤ x
theorem send_len (W : Nat) : ∀ (es : List Int) (p : List Int × List Int), ((es.foldl (sendM W) p).1.length = p.1.length) ∧ ((es.foldl (sendM W) p).2.length = p.2.length)
  | [], p => ⟨rfl, rfl⟩
  | e :: es, p => by
    obtain ⟨h1, h2⟩ := send_len W es (sendM W p e)
    rw [List.foldl_cons]
    refine ⟨h1.trans ?_, h2.trans ?_⟩
    · unfold sendM
      split
      · exact bump_len
      · rfl
    · unfold sendM
      split
      · rfl
      · exact bump_len
theorem bump_nn {l : List Int} {i : Nat} {d : Int} (h : ∀ x ∈ l, 0 ≤ x) (hd : 0 ≤ l.getD i 0 + d) : ∀ x ∈ bump l i d, 0 ≤ x := by
  intro x hx
  rcases List.mem_or_eq_of_mem_set hx with hx | hx
  · exact h x hx
  · rw [hx]
    exact hd
theorem getD_nn {l : List Int} {i : Nat} (h : ∀ x ∈ l, 0 ≤ x) : 0 ≤ l.getD i 0 := by
  rw [List.getD_eq_getElem?_getD]
  cases e : l[i]? with
  | none => exact Int.le_refl 0
  | some x => exact h x (List.mem_of_getElem? e)
theorem send_nn (W : Nat) : ∀ (es : List Int) (p : List Int × List Int), (∀ x ∈ p.1, 0 ≤ x) → (∀ x ∈ p.2, 0 ≤ x) → (∀ x ∈ (es.foldl (sendM W) p).1, 0 ≤ x) ∧ ∀ x ∈ (es.foldl (sendM W) p).2, 0 ≤ x
  | [], p, h1, h2 => ⟨h1, h2⟩
  | e :: es, p, h1, h2 => by
    rw [List.foldl_cons]
    refine send_nn W es _ ?_ ?_
    · unfold sendM
      split
      · exact bump_nn h1 (by have := getD_nn (i := e.toNat) h1; omega)
      · exact h1
    · unfold sendM
      split
      · exact h2
      · exact bump_nn h2 (by have := getD_nn (i := (e - (W : Int)).toNat) h2; omega)
theorem MoF.handle {ws : List (List (List Int))} {c : Int} {m : Mo} {w : Nat} (h : MoF ws c m) (hw : ∀ x ∈ ws, 1 ≤ x.length) : MoF ws c (handleM ws m w) := by
  obtain ⟨l1, l2⟩ := send_len ws.length (endsAt ws m.st w) (bump m.wt w (-1), m.hd)
  refine ⟨?_, fun i s x e1 e2 => ?_, ?_, ?_⟩
  · show (m.st.set _ _).length = _
    rw [List.length_set]
    exact h.sl
  · have e1' : (m.st.set w ((m.st.getD w 0 + 1) % ((ws.getD w []).length : Int)))[i]? = some s := e1
    rw [List.getElem?_set] at e1'
    split at e1'
    · rename_i q
      subst q
      split at e1'
      · have e3 := Option.some.inj e1'
        have hx := hw x (List.mem_of_getElem? e2)
        have e4 : ws.getD w [] = x := by
          rw [List.getD_eq_getElem?_getD, e2]
          rfl
        rw [← e3, e4]
        exact ⟨Int.emod_nonneg _ (by omega), Int.emod_lt_of_pos _ (by omega)⟩
      · cases e1'
    · exact h.sr i s x e1' e2
  · show (sentM ws m w).1.length = _
    unfold sentM
    rw [l1, bump_len]
    exact h.wl
  · show ((sentM ws m w).2.length : Int) = _
    unfold sentM
    rw [l2]
    exact h.hl
theorem MoOk.handle {ws : List (List (List Int))} {c : Int} {m : Mo} {w : Nat} (h : MoOk ws c m) (hw : ∀ x ∈ ws, 1 ≤ x.length) (hp : 0 < m.wt.getD w 0) : MoOk ws c (handleM ws m w) := by
  obtain ⟨n1, n2⟩ := send_nn ws.length (endsAt ws m.st w) (bump m.wt w (-1), m.hd) (bump_nn h.wn (by omega)) h.hn
  exact ⟨h.toMoF.handle hw, n1, n2⟩
theorem ixN_nat {n j : Nat} (h : j < n) : ixN n (j : Int) = some j := by
  unfold ixN
  rw [if_pos (Int.natCast_nonneg j), if_pos (by omega)]
  rfl
theorem KT.kpN {N : Addr → Prop} {H H' : Hp} (hl : ∀ b, N b → ∃ xs, H b = some (.lst xs)) (k : Kp N H H') : KT H H' := fun b ys e => k b _ e fun n => by
  obtain ⟨xs, e'⟩ := hl b n
  rw [e] at e'
  cases e'
def N3 (a b c : Addr) : Addr → Prop := fun x => x = a ∨ x = b ∨ x = c
structure Laid (H : Hp) (a b c : Addr) (m : Mo) : Prop where
  s : H a = some (.lst (m.st.map V.int))
  w : H b = some (.lst (m.wt.map V.int))
  h : H c = some (.lst (m.hd.map V.int))
  nab : a ≠ b
  nac : a ≠ c
  nbc : b ≠ c
theorem Laid.kt {H H' : Hp} {a b c : Addr} {m : Mo} (l : Laid H a b c m) (k : Kp (N3 a b c) H H') : KT H H' := KT.kpN (fun x n => by
  rcases n with rfl | rfl | rfl
  · exact ⟨_, l.s⟩
  · exact ⟨_, l.w⟩
  · exact ⟨_, l.h⟩) k
end HX
set_option maxRecDepth 100000
set_option maxHeartbeats 1000000
namespace HX
open PySem PySem.Spec PyProof.Rows L2
end HX
set_option maxRecDepth 100000
set_option maxHeartbeats 1000000
namespace HX
open PySem PySem.Spec PyProof.Rows L2
theorem hu64 {A : Around} {k : Nat} (hr : Room k A) : A.units + 64 < cLine := by
  have := hu150 hr
  omega
theorem call_tuple_frz {X : Cx} : CallR X (.type "tuple") (fun xs H Q => ∃ p ys, xs = [.ref p] ∧ SqL X.K H p ys ∧ ∀ l o, H l = none → o.dict = none → Q (.ref l) (upd H l (.frz o (.tup ys)))) := by
  intro pins s σ H xs us Q I r h
  obtain ⟨p, ys, rfl, hq, q⟩ := h
  obtain ⟨u, rfl, rx⟩ := vals1 r
  cases rx
  obtain ⟨its, r', pl, hz⟩ := I.list hq
  have hlen := r'.length
  refine call_tuple_list pl.isList (fun h' kp => ?_) (by simp only [List.size_toArray] <;> omega)
  have I1 : Inv X pins σ H { s with heap := h' } := I.kept (t' := s.toks) kp
  have I2 : Inv X pins σ (upd H h'.objs.size (.frz { cls := .type "tuple", data := .seq its.toArray } (.tup ys))) { s with heap := h'.push { cls := .type "tuple", data := .seq its.toArray } } :=
    I1.laid (t' := s.toks) (fun b o e => Heap.get?_push_of_some _ e) (Nat.le_refl _) (show ObjOk X.prog X.w _ _ _ (.frz _ (.tup ys)) from ⟨Heap.get?_push_size _ rfl, hz, its, r', IsTup.new _ _⟩)
  exact ⟨.ref h'.objs.size, _, I2, rfl, q _ _ (I1.hok.fresh (Nat.le_refl _)) rfl⟩
def tBMT (r : V → List V → Hp → VK → Prop) (to : TE) (t : TA) : TE := fun σ H Q => to σ H fun x H1 => (∃ p o xs, x = .ref p ∧ H1 p = some (.frz o (.tup xs)) ∧ o.dict = none) ∧ t σ H1 fun xs H2 => r x xs H2 Q
theorem pe_bmT {X : Cx} {name : Str} {id : String} {r : V → List V → Hp → VK → Prop} {o e : Expr} {es : List Expr} {to : TE} {t : TA} {apos cpos : Pos} (pa : PlainAttrs "tuple") (slot : Slot "tuple" name id) (hty : typeOf (.builtin id) = pure (.type "method_descriptor")) (hm : MtR X id r) (ho : PE X o to) (ha : PA X (e :: es) t)
    (hbase : attributeBase o name X.env (eval o X.env) = eval o X.env := by rfl)
    (hfew : ((backTo cpos (starEach (e :: es) X.env)).all (fun x => !x.1) && (backToKw cpos (keywordEach [] X.env)).all (fun x => x.1.isSome)
      && decide ((e :: es).length + ([] : List Keyword).length + (if ([] : List Keyword).isEmpty then 0 else 1) < 30)) = true := by rfl)
    (hline : (apos.endLine == cpos.line) = true := by rfl) (hs : starEach (e :: es) X.env = (false, eval e X.env) :: starEach es X.env := by rfl) (hplain : (backTo cpos (starEach es X.env)).any (·.1) = false := by rfl) :
    PE X (.Call (.Attribute o name apos) (e :: es) [] cpos) (tBMT r to t) := by
  refine ⟨fun pins s σ H Q I h => ?_⟩
  refine wpAny_Call_method_late hbase hfew hline rfl (thn (ho.run pins s σ H _ I h) fun v s1 ⟨x, H1, I1, r1, ty, q1⟩ => ?_)
  obtain ⟨p, ob, xs, rfl, ep, dn⟩ := ty
  cases r1
  obtain ⟨eo, _, its, _, o', eo', hc, _⟩ := (show ObjOk X.prog X.w H1 s1.heap p (.frz ob (.tup xs)) from I1.hok p _ ep)
  have e1 : o' = ob := Option.some.inj (eo'.symm.trans eo)
  subst e1
  refine ⟨"tuple", id, pa, slot, hty, ⟨o', eo, hc⟩, fun a e => ⟨o', by cases e; exact eo, dn⟩, ?_⟩
  have hA := ha.run cpos pins s1 σ H1 _ I1 q1
  rw [hs] at hA ⊢
  refine Calls.callWith_builtin (by show (false || (backTo cpos (starEach es X.env)).any (·.1)) = false; rw [hplain] <;> rfl) (Calls.evalArgs_plain ?_)
  exact thn hA fun us s2 ⟨vs, H2, I2, r2, q2⟩ => hm pins s2 σ H2 (.ref p) vs (.ref p) us Q I2 rfl r2 q2
def rowV (row : List Nat) : List V := row.map fun n : Nat => V.int (n : Int)
def RowF (H : Hp) (r : Addr) (row : List Nat) : Prop := ∃ o : Obj, o.dict = none ∧ H r = some (.frz o (.tup (rowV row)))
def RowAt (H : Hp) (r : Addr) (row : List Nat) : Prop := H r = some (.tup (rowV row)) ∨ RowF H r row
theorem RowF.same {H H' : Hp} {r : Addr} {row : List Nat} (h : RowF H r row) (s : Same H H') : RowF H' r row := by
  obtain ⟨o, d, e⟩ := h
  exact ⟨o, d, s _ _ e⟩
theorem RowAt.same {H H' : Hp} {r : Addr} {row : List Nat} (h : RowAt H r row) (s : Same H H') : RowAt H' r row := by
  rcases h with h | h
  · exact .inl (s _ _ h)
  · exact .inr (h.same s)
theorem RowAt.ty {K : PySem.W.Frag} {H : Hp} {r : Addr} {row : List Nat} (h : RowAt H r row) : TyX K H (.ref r) (.type "tuple") := by
  rcases h with h | ⟨o, _, h⟩
  · exact .base (.tup h)
  · exact .fTuple h
end HX
set_option maxRecDepth 100000
set_option maxHeartbeats 1000000
namespace HX
open PySem PySem.Spec PyProof.Rows L2
mutual
theorem Td.dp {K : PySem.W.Frag} {H : Hp} : ∀ (d : PyData) (v : V), Td H v d → Dp K H v d
  | .none, _, h => by cases h; exact .non
  | .bool b, _, h => by cases h; exact .bl b
  | .int i, _, h => by cases h; exact .int i
  | .str x, _, h => by cases h; exact .str x
  | .tuple ds, _, h => by
    cases h with
    | tup e ha => exact .tup (.inl (.inl e)) (TdAll.dp ds _ ha)
  | .list _, _, h => by cases h
  | .dict _, _, h => by cases h
theorem TdAll.dp {K : PySem.W.Frag} {H : Hp} : ∀ (ds : List PyData) (vs : List V), TdAll H vs ds → DpAll K H vs ds
  | [], _, h => by cases h; exact .nil
  | d :: ds, _, h => by
    cases h with
    | cons h1 h2 => exact .cons (Td.dp d _ h1) (TdAll.dp ds _ h2)
end
end HX
set_option maxRecDepth 100000
set_option maxHeartbeats 1000000
namespace HX
open PySem PySem.Spec PyProof.Rows L2
def cnt (es : List Int) (e : Nat) : Int := ((es.count (e : Int) : Nat) : Int)
theorem cnt_cons (x : Int) (es : List Int) (e : Nat) : cnt (x :: es) e = cnt es e + (if x = (e : Int) then 1 else 0) := by
  unfold cnt
  rw [List.count_cons]
  by_cases h : x = (e : Int)
  · simp [h]
  · simp [h]
theorem bump_get {l : List Int} {i e : Nat} {d : Int} (hi : i < l.length) : (bump l i d).getD e 0 = l.getD e 0 + (if i = e then d else 0) := by
  unfold bump
  rw [List.getD_eq_getElem?_getD, List.getElem?_set]
  by_cases h : i = e
  · subst h
    rw [if_pos rfl, if_pos hi, if_pos rfl]
    rfl
  · rw [if_neg h, if_neg h, Int.add_zero, List.getD_eq_getElem?_getD]
theorem send_get {W : Nat} : ∀ (es : List Int) (p : List Int × List Int), (∀ x ∈ es, 0 ≤ x ∧ x < (W : Int) + (p.2.length : Int)) → p.1.length = W →
    (∀ e, e < W → (es.foldl (sendM W) p).1.getD e 0 = p.1.getD e 0 + cnt es e) ∧ ∀ j, (es.foldl (sendM W) p).2.getD j 0 = p.2.getD j 0 + cnt es (W + j)
  | [], p, _, _ => ⟨fun e _ => by simp [cnt], fun j => by simp [cnt]⟩
  | x :: es, p, h, hw => by
    obtain ⟨x0, x1⟩ := h x (List.mem_cons_self ..)
    rw [List.foldl_cons]
    by_cases g : x < (W : Int)
    · have e1 : sendM W p x = (bump p.1 x.toNat 1, p.2) := if_pos g
      rw [e1]
      obtain ⟨h1, h2⟩ := send_get (W := W) es (bump p.1 x.toNat 1, p.2) (fun y hy => h y (List.mem_cons_of_mem _ hy)) (bump_len.trans hw)
      refine ⟨fun e he => ?_, fun j => ?_⟩
      · rw [h1 e he, cnt_cons]
        show (bump p.1 x.toNat 1).getD e 0 + _ = _
        rw [bump_get (by omega)]
        have : (x.toNat = e) ↔ x = (e : Int) := by omega
        by_cases g' : x = (e : Int)
        · rw [if_pos (this.mpr g'), if_pos g']
          omega
        · rw [if_neg (fun z => g' (this.mp z)), if_neg g']
          omega
      · rw [h2 j, cnt_cons, if_neg (by omega)]
        show p.2.getD j 0 + _ = _
        omega
    · have e1 : sendM W p x = (p.1, bump p.2 (x - (W : Int)).toNat 1) := if_neg g
      rw [e1]
      obtain ⟨h1, h2⟩ := send_get (W := W) es (p.1, bump p.2 (x - (W : Int)).toNat 1) (fun y hy => by
        show 0 ≤ y ∧ y < (W : Int) + ((bump p.2 (x - (W : Int)).toNat 1).length : Int)
        rw [bump_len]
        exact h y (List.mem_cons_of_mem _ hy)) hw
      refine ⟨fun e he => ?_, fun j => ?_⟩
      · rw [h1 e he, cnt_cons, if_neg (by omega)]
        show p.1.getD e 0 + _ = _
        omega
      · rw [h2 j, cnt_cons]
        show (bump p.2 (x - (W : Int)).toNat 1).getD j 0 + _ = _
        rw [bump_get (by omega)]
        have : ((x - (W : Int)).toNat = j) ↔ x = ((W + j : Nat) : Int) := by omega
        by_cases g' : x = ((W + j : Nat) : Int)
        · rw [if_pos (this.mpr g'), if_pos g']
          omega
        · rw [if_neg (fun z => g' (this.mp z)), if_neg g']
          omega
def sumTo : Nat → (Nat → Int) → Int
  | 0, _ => 0
  | n + 1, f => sumTo n f + f n
theorem sumTo_congr : ∀ (n : Nat) {f g : Nat → Int}, (∀ u, u < n → f u = g u) → sumTo n f = sumTo n g
  | 0, _, _, _ => rfl
  | n + 1, f, g, h => by
    show sumTo n f + f n = sumTo n g + g n
    rw [sumTo_congr n (fun u hu => h u (by omega)), h n (by omega)]
theorem sumTo_one : ∀ (n : Nat) {f g : Nat → Int} {a : Nat}, a < n → (∀ u, u < n → u ≠ a → f u = g u) → sumTo n f = sumTo n g + (f a - g a)
  | 0, _, _, _, h, _ => absurd h (by omega)
  | n + 1, f, g, a, ha, h => by
    show sumTo n f + f n = sumTo n g + g n + (f a - g a)
    by_cases e : a = n
    · subst e
      rw [sumTo_congr a (fun u hu => h u (by omega) (by omega))]
      omega
    · rw [sumTo_one n (a := a) (by omega) (fun u hu => h u (by omega)), h n (by omega) (fun z => e z.symm)]
      omega
theorem sumTo_front (n : Nat) (f : Nat → Int) : sumTo (n + 1) f = f 0 + sumTo n fun t => f (t + 1) := by
  induction n with
  | zero => show 0 + f 0 = f 0 + 0; omega
  | succ n ih =>
    show sumTo (n + 1) f + f (n + 1) = f 0 + (sumTo n (fun t => f (t + 1)) + f (n + 1))
    rw [ih]
    omega
def endsOf (ws : List (List (List Int))) (u : Nat) (s : Int) : List Int := (ws.getD u []).getD (s % ((ws.getD u []).length : Int)).toNat []
def sent (ws : List (List (List Int))) (u : Nat) (s : Int) (k : Nat) (e : Nat) : Int := sumTo k fun t => cnt (endsOf ws u (s + (t : Int))) e
theorem endsOf_mod {ws : List (List (List Int))} {u : Nat} {s t : Int} : endsOf ws u (s % ((ws.getD u []).length : Int) + t) = endsOf ws u (s + t) := by
  unfold endsOf
  rw [Int.emod_add_emod]
theorem sent_front {ws : List (List (List Int))} {u : Nat} {s : Int} {k e : Nat} : sent ws u s (k + 1) e = cnt (endsOf ws u s) e + sent ws u ((s + 1) % ((ws.getD u []).length : Int)) k e := by
  unfold sent
  rw [sumTo_front]
  have h0 : s + ((0 : Nat) : Int) = s := by omega
  rw [h0]
  congr 1
  refine sumTo_congr k fun t _ => ?_
  rw [endsOf_mod]
  have : s + ((t + 1 : Nat) : Int) = s + 1 + (t : Int) := by omega
  rw [this]
def came (ws : List (List (List Int))) (st : List Int) (cs : Nat → Nat) (e : Nat) : Int := sumTo ws.length fun u => sent ws u (st.getD u 0) (cs u) e
end HX
set_option maxRecDepth 100000
set_option maxHeartbeats 3200000
namespace HX
open PySem PySem.Spec PyProof.Rows L2
structure Bi3 (mg : Str → Option Value) : Prop where
  sorted_ : mg "sorted" = none
  set_ : mg "set" = none
section
variable {P : Program} {w : World} {A : Around} {E : Value → Shared → Prop} {s : Shared}
end
section
variable {X : Cx}
def rSetL (w : World) (K : PySem.W.Frag) : List V → Hp → VK → Prop := fun vs H Q => ∃ (l : Addr) (ns : List Int), vs = [.ref l] ∧ SqL K H l (ns.map V.int) ∧ ns.length ≤ 1000 ∧ ∀ (p : Addr) (c : Nat), c ≤ ns.length → H p = none → Q (.ref p) (upd H p (SetO w p (fun j => decide (j ∈ ns)) c))
end
end HX
set_option maxRecDepth 100000
set_option maxHeartbeats 2000000
namespace HX
open PySem PySem.Spec PyProof.Rows L2 L2H
def CalX (P : Program) (w : World) (K : PySem.W.Frag) (mg : Str → Option Value) (base : Heap) (k : Nat) (x : Str) (ps : List Str) (sp : Sp) : Prop :=
  ∃ (f : Addr) (fd : FuncData), FnOk P w K mg base (L2.CX P w) k f fd ps sp ∧ mg x = some (.ref f) ∧ PySem.W.keepIn K (.ref f) = true ∧ Binds K fd ps []
section
variable {P : Program} {w : World} {K : PySem.W.Frag} {mg : Str → Option Value} {base : Heap} {j k : Nat} {x : Str} {ps : List Str} {sp : Sp}
theorem CalX.mono (c : CalX P w K mg base j x ps sp) (h : j ≤ k) : CalX P w K mg base k x ps sp := by
  obtain ⟨f, fd, F, a, b, d⟩ := c
  exact ⟨f, fd, F.mono h, a, b, d⟩
theorem Def.okX {st : Stmt} {N : List Str} (D : Def K mg x st ps) (S : FnScope N ps (defScope st)) (len : ∀ vs H Q E, sp vs H Q E → vs.length = ps.length)
    (hbody : ∀ (f : Addr) (cdv : Value) (A : Around) (outer : List Env) (s : Shared) (H : Hp) (vs : List V) (Q : VK) (E : XK), Room k (A.deeper (envOfC x (defScope st) s.heap.objs.size f cdv)) → sp vs H Q E →
      Takes (cxOf (L2.CX P w) P w K mg base N x (defScope st) f cdv A outer s H E) (fun cls d _ H => E cls d H) →
      ∃ t, PSs (cxOf (L2.CX P w) P w K mg base N x (defScope st) f cdv A outer s H E) (defBody st) t ∧ t { nx := fun _ H' => Q .non H', rt := Q } (start N vs) H) : CalX P w K mg base (k + 1) x ps sp := by
  obtain ⟨f, fd, F, hm, hb⟩ := D
  exact ⟨f, fd, Fun.okX F S len fun cdv A outer s H vs Q E hr h => hbody f cdv A outer s H vs Q E hr h (takes_of rfl rfl rfl rfl), hm, F.kp, hb⟩
end
section
variable {X : Cx} {k : Nat} {x : Str} {ps : List Str} {sp : Sp} {p pos : Pos} {e : Expr} {es : List Expr} {t : TA} {W : WX}
theorem pe_calX (tk : Takes X W) (c : CalX X.prog X.w X.K X.mg X.base k x ps sp) (hr : Room k X.A) (hg : Gl X x) (ha : PA X (e :: es) t) (hdb : (x == ("__debug__" : Str)) = false := by decide) (he : starEach (e :: es) X.env = (false, eval e X.env) :: starEach es X.env := by rfl)
    (hpl : (backTo pos (starEach es X.env)).any (·.1) = false := by rfl) : PE X (.Call (.Name x p) (e :: es) [] pos) (tCallS sp (WE W) t) := by
  obtain ⟨f, fd, F, hm, hk, hb⟩ := c
  exact pe_callS F hr hg hm hk hb (passAt tk) ha hdb he hpl
theorem pe_never {e : Expr} : PE X e (fun _ _ _ => False) := ⟨fun _ _ _ _ _ _ h => h.elim⟩
end
abbrev veTail : List Value := [.type "ValueError", .type "Exception", .type "BaseException", .type "object"]
structure Err (K : PySem.W.Frag) (mg : Str → Option Value) (x : Str) (C : Addr) : Prop where
  gC : mg x = some (.ref C)
  kC : PySem.W.keepIn K (.ref C) = true
  ex : PySem.W.excIn K C veTail "ValueError.__new__" = true
  sb : PySem.W.subIn K (.ref C) (.type "BaseException") = some true
  ty : PySem.W.typeIn K (.ref C) = some (.type "type")
section
variable {X : Cx} {C : Addr}
theorem pmk_err {x : Str} {p pos : Pos} (R : Err X.K X.mg x C) (hg : Gl X x) (hdb : (x == ("__debug__" : Str)) = false := by decide) : PMk X (.Call (.Name x p) [] [] pos) (fun _ H Q => Q (.ref C) none H) := by
  intro pins s σ H Q I h
  refine wpAny_Call_Name_kw (ld_glob I hg R.gC (PySem.W.callWith_K0 I.kIn R.kC ?_) hdb)
  obtain ⟨_, _, _, _, _, _, _, _, _, _, _, _, _, _, _, _, _, hC, hN, hni, T⟩ := exc_obj I.kIn R.ex
  refine wpAny_call_exc_subT PySem.F.excBase_ValueError T hC hN hni (fun h' e hm => ?_) (Nat.zero_le _)
  exact mk_of I hm (raises_own R.sb R.ty) h (I.hok.gone hm.new)
theorem ps_err {x : Str} {p pos pos2 : Pos} {W : WX} (R : Err X.K X.mg x C) (tk : Takes X W) (hc : X.calm = true := by rfl) (hg : Gl X x := by rfl) (hdb : (x == ("__debug__" : Str)) = false := by decide) :
    PS X (.Raise (some (.Call (.Name x p) [] [] pos)) none pos2) (fun _ σ H => W (.ref C) none σ H) := ps_raise hc tk (pmk_err R hg hdb)
theorem call_isP {a D : Addr} {oe : Obj} (hp : (a, oe) ∈ X.pn) (C : ExcC X.K D) (hz : Zc (.ref D) none oe) (hf : ∃ vs, oe.data = .fields vs) : CallR X (.builtin "isinstance") (rIsE X.K D a) := by
  intro pins s σ H xs us Q I r h
  obtain ⟨c, cv, b, rfl, hcv, e, q⟩ := h
  obtain ⟨u1, u2, rfl, r1, r2⟩ := r.two
  obtain rfl := hcv _ r2
  cases r1
  obtain ⟨hget, _⟩ := I.pin (a, oe) (List.mem_append_left _ hp)
  obtain ⟨vs, hv⟩ := hf
  have J : PySem.W.InstAt s.heap a oe D none := by
    obtain ⟨_, _, _, _⟩ := oe
    obtain ⟨h1, h2⟩ := hz
    dsimp only at h1 h2 hv
    subst h1 h2 hv
    exact ⟨hget, rfl, rfl, trivial⟩
  exact PySem.W.kia_one (PySem.W.handS_kitx_exc C.hg C.hk C.hs C.hd C.ha C.hn C.ht C.hm) I.kIn J e (fun z => nomatch z) fun tk => ⟨.bl b, H, I.kept (t' := tk) fun _ _ z => z, rfl, q⟩
def rCntF (K : PySem.W.Frag) : V → List V → Hp → VK → Prop := fun x xs H Q => ∃ (a : Addr) (ys : List V) (y : V), x = V.ref a ∧ xs = [y] ∧ SqL K H a ys ∧ flatV y = true ∧ ys.all flatV = true ∧ Q (.int ((ys.countP fun z => eqV z y : Nat) : Int)) H
theorem countP_flat {y : V} : ∀ {ys : List V} {us : List Value}, Vals ys us → ys.all flatV = true → us.countP (eqU y) = ys.countP fun z => eqV z y
  | _, _, .nil, _ => rfl
  | z :: ys, u :: us, .cons r t, f => by
    rw [List.all_cons, Bool.and_eq_true] at f
    rw [List.countP_cons, List.countP_cons, countP_flat t f.2, eqU_of r f.1]
theorem mt_countF : MtR X "list.count" (rCntF X.K) := by
  intro pins s σ H x xs v us Q I rx rxs h
  obtain ⟨a, ys, y, rfl, rfl, hs, fy, fys, q⟩ := h
  cases rx
  obtain ⟨u, rfl, ru⟩ := rxs.one
  obtain ⟨its, rv, ⟨⟨cls, dd, data, sl⟩, n, ho, hc, _, hd⟩, hlen⟩ := I.list hs
  simp only at hc hd
  subst hc hd
  refine call_meets PySem.F.slot_list_count ⟨_, ho, rfl⟩ PySem.F.entry_list_count (PySem.F.args_list_count_2 _ _) (SeqAt.list_countAt a its.toArray n dd sl u (eqU y)) ⟨ho, fun z hz => mem_eqAt ru fy rv fys z (by simpa using hz), ?_⟩
  refine ⟨.int ((ys.countP fun z => eqV z y : Nat) : Int), H, I.tok _, ⟨s.toks, ?_⟩, q⟩
  show Value.int ((its.toArray.toList.countP (eqU y) : Nat) : Int) s.toks = _
  rw [show its.toArray.toList = its from rfl, countP_flat rv fys]
end
structure FnE (P : Program) (w : World) (K : PySem.W.Frag) (mg : Str → Option Value) (base : Heap) (k : Nat) (f : Addr) (fd : FuncData) (a : Str) (sp : Addr → Value → Option Addr → Hp → VK → Prop) : Prop where
  run : ∀ (A : Around) (outer : List Env) (s : Shared) (H : Hp) (p : Addr × Obj) (cls : Value) (d : Option Addr) (Q : VK), RoomH k A → PinOk outer H s p → Zc cls d p.2 → (∃ vs, p.2.data = .fields vs) → Env0 P w K mg base A outer s H → BindsTo s fd ⟨[.ref p.1], []⟩ [(a, .ref p.1)] → sp p.1 cls d H Q →
    codeAny (model P w) A (.call (.ref f) ⟨[.ref p.1], []⟩) (CR CX0 outer P w H s Q E0) s
def CalE (P : Program) (w : World) (K : PySem.W.Frag) (mg : Str → Option Value) (base : Heap) (k : Nat) (x a : Str) (sp : Addr → Value → Option Addr → Hp → VK → Prop) : Prop :=
  ∃ (f : Addr) (fd : FuncData), FnE P w K mg base k f fd a sp ∧ mg x = some (.ref f) ∧ PySem.W.keepIn K (.ref f) = true ∧ Binds K fd [a] []
section
variable {P : Program} {w : World} {K : PySem.W.Frag} {mg : Str → Option Value} {base : Heap} {k : Nat} {x a : Str} {sp : Addr → Value → Option Addr → Hp → VK → Prop}
theorem CalE.mono {j : Nat} (c : CalE P w K mg base j x a sp) (h : j ≤ k) : CalE P w K mg base k x a sp := by
  obtain ⟨f, fd, F, b1, b2, b3⟩ := c
  exact ⟨f, fd, ⟨fun A outer s H p cls d Q hr => F.run A outer s H p cls d Q (hr.mono h)⟩, b1, b2, b3⟩
theorem Def.okE {st : Stmt} {N : List Str} (D : Def K mg x st [a]) (S : FnScope N [a] (defScope st))
    (hbody : ∀ (f : Addr) (cdv : Value) (A : Around) (outer : List Env) (s : Shared) (H : Hp) (p : Addr × Obj) (cls : Value) (d : Option Addr) (Q : VK), Zc cls d p.2 → (∃ vs, p.2.data = .fields vs) → RoomH k (A.deeper (envOfC x (defScope st) s.heap.objs.size f cdv)) → sp p.1 cls d H Q →
      ∃ t, PSs (cxH CX0 P w K mg base N x (defScope st) f cdv A outer s H E0 p) (defBody st) t ∧ t { nx := fun _ H' => Q .non H', rt := Q } (start N [.ref p.1]) H) : CalE P w K mg base (k + 1) x a sp := by
  obtain ⟨f, fd, F, hm, hb⟩ := D
  obtain ⟨oc, od, kV, doc, pm, an, cdv, ct, osl, rfl, lk, hcd⟩ := F.ex
  refine ⟨f, _, ⟨fun A outer s H p cls d Q hr hpin hz hf e0 hbn hsp => ?_⟩, hm, F.kp, hb⟩
  have KX : K.In s.heap := e0.mod.kin.keeps fun b o e => (e0.bs b o e).1
  have lim : s.heap.NoLimit := e0.mod.nolimit.keeps fun b o e => (e0.bs b o e).1
  have hkind : ∀ y ∈ [a].zip [Value.ref p.1], (defScope st).names.lookup y.1 = some .local ∨ ((defScope st).names.lookup y.1 = some .cell ∧ ((cellsFrom (s.heap.objs.size + 1) (defScope st).names []).lookup y.1).isSome = true) := by
    rintro ⟨n, v⟩ hy
    rcases S.par n (List.of_mem_zip hy).1 with z | z
    · exact .inl z
    · exact .inr ⟨z, PySem.W.cellsFrom_some _ _ _ (.inl z)⟩
  refine codeAny_call_function hr.depth (KX _ _ lk) rfl S.co S.gen rfl (PySem.W.codeRec_of KX hcd) (hbn _ _ _ _ ?_)
  refine wpAny_newFunctionEnv_cells S.kind hkind fun env he s1 xx => ?_
  subst he
  refine ⟨lim.keeps xx.toInCall.keep, codeAny_func ?_⟩
  obtain ⟨t, ht, hq⟩ := hbody f cdv A outer s H p cls d Q hz hf (hr.deeper _) hsp
  have I : Inv (cxH CX0 P w K mg base N x (defScope st) f cdv A outer s H E0 p) [] (start N [.ref p.1]) H s1 := inv_startH (vs := [.ref p.1]) (us := [.ref p.1]) S hpin e0 rfl (.cons rfl .nil) xx
  refine wpAny_mono (ht.run [] s1 _ H _ I hq) (fun fl s' hs => ?_) fun e s' hs => hs
  cases fl with
  | ret u =>
    obtain ⟨v, σ', H', J, rv, q⟩ := hs
    exact ⟨v, H', J.os, J.bare, J.base, J.hok, rv, q⟩
  | next =>
    obtain ⟨σ', H', J, q⟩ := hs
    exact ⟨V.non, H', J.os, J.bare, J.base, J.hok, rfl, q⟩
  | brk =>
    obtain ⟨_, _, _, q⟩ := hs
    exact False.elim q
  | cont =>
    obtain ⟨_, _, _, q⟩ := hs
    exact False.elim q
theorem pe_calE {X : Cx} {ea : Addr} {oe : Obj} {cls : Value} {d : Option Addr} {pn : List (Addr × Obj)} {e : Expr} {te : TE} {q pos : Pos} (c : CalE X.prog X.w X.K X.mg X.base k x a sp) (hr : RoomH k X.A) (hz : Zc cls d oe) (hf : ∃ vs, oe.data = .fields vs) (hg : Gl X x) (he : PE (X.suite ea ((ea, oe) :: pn)) e te) (hdb : (x == ("__debug__" : Str)) = false := by decide)
    (hst : starEach [e] X.env = (false, eval e X.env) :: starEach [] X.env := by rfl) : PE (X.suite ea ((ea, oe) :: pn)) (.Call (.Name x q) [e] [] pos) (fun σ H Q => te σ H fun v H1 => [v] = [.ref ea] ∧ sp ea cls d H1 Q) := by
  obtain ⟨f, fd, F, hm, hk, hb⟩ := c
  refine ⟨fun pins s σ H Q I h => ?_⟩
  refine wpAny_Call_Name_kw (ld_glob (X := X.suite ea ((ea, oe) :: pn)) I hg hm ?_ hdb)
  have ha : PA (X.suite ea ((ea, oe) :: pn)) [e] (tCons te tNil) := pa_cons he pa_nil hst
  refine PySem.W.callWith_K (h₀ := X.base) I.ok.mod.kin hk (thn (ha.run pos pins s σ H (fun vs H1 => vs = [.ref ea] ∧ sp ea cls d H1 Q) I h) fun us s1 ⟨vs, H1, I1, r, q⟩ => ⟨I1.kIn, ?_⟩) hst rfl
  · obtain ⟨rfl, q⟩ := q
    obtain ⟨u, rfl, ru⟩ := r.one
    cases ru
    have P1 := I1.pin (ea, oe) (List.mem_append_left _ List.mem_cons_self)
    have hpin : PinOk X.stack H1 s1 (ea, oe) := ⟨P1.1, P1.2.1, fun hm => (List.mem_cons.mp (I1.stkSub ea hm)).elim P1.2.2.1 P1.2.2.2.1, P1.2.2.2.2⟩
    have b := hb s1 [.ref ea] I1.kIn rfl
    refine wpAny_call (codeAny_mono (F.run (X.A.mark (some (.ref ea))) X.stack s1 H1 (ea, oe) cls d Q ⟨hr.dp, hr.un⟩ hpin hz hf I1.env0 b q) fun r s' hq => ?_)
    cases r with
    | error e => exact False.elim hq
    | ok fl =>
      cases fl with
      | ret u => exact I1.after hq
      | next => exact False.elim hq
      | brk => exact False.elim hq
      | cont => exact False.elim hq
end
end HX
set_option maxRecDepth 100000
set_option maxHeartbeats 2000000
namespace HX
open PySem PySem.Spec PyProof.Rows L2 L2H LamX
theorem takes_len {X : Cx} {W : WX} (tk : Takes X W) : Takes X (fun cls d σ H => σ.length = X.N.length → W cls d σ H) := fun u s' ⟨a, B, sI, pins, σ, H, cls, d, e, I, nb, up, sky, na, os, ag, w⟩ =>
  tk u s' ⟨a, B, sI, pins, σ, H, cls, d, e, I, nb, up, sky, na, os, ag, w I.len⟩
theorem law_callTG {P : Program} {w : World} {K : PySem.W.Frag} {mg mb : Str → Option Value} {k : Nat} {fa a : Addr} {cs : List (Addr × Addr)} {fd : FuncData} {x : Str} {sp : Sp} {s1 : Shared} {vs : List Value} {ns : List Int}
    (KX : K.In s1.heap) (hns : s1.heap.Ns mainGlobals mg) (hb : s1.heap.Ns builtinsNs mb) (hbb : ∀ x : Str, x ≠ "__name__" → mb x = bootBuiltins x) (hlim : s1.heap.NoLimit) (hsys : ∃ mm, s1.heap.Ns sysModules mm) (hg : s1.gens = #[])
    (hT : ∀ p ∈ cs, s1.heap.get? p.2 = some { cls := .none, data := .fields #[] }) (nT : ∀ p ∈ cs, K.lookup p.2 = none) (hC : ∀ p ∈ cs, PySem.W.CodeHd s1.heap p.1 p.2)
    (hbm : ∃ (bm : Addr) (ob : Obj), mg "__builtins__" = some (.ref bm) ∧ bm ≠ builtinsNs ∧ s1.heap.get? bm = some ob ∧ ob.cls = .type "module" ∧ ob.dict = some builtinsNs ∧ ob.data = .plain)
    (ha : s1.heap.get? a = some { cls := .type "list", data := .seq vs.toArray }) (hi : IntsAre vs ns) (hl : ns.length ≤ sizeLine) (hr : Room k callerA)
    (F : ∀ base : Heap, K.In base → base.Ns mainGlobals mg → (∀ p ∈ cs, TabB base mg p.1 p.2) → FnG P w K mg base k fa fd [x] sp) (hbind : ∀ (s : Shared) (u : Value), K.In s.heap → BindsTo s fd ⟨[u], []⟩ [(x, u)])
    (hsp : ∀ H : Hp, (∀ p ∈ cs, H p.2 = some (.tbl #[])) → SqL K H a (ns.map V.int) → sp [.ref a] H (fun v _ => v = .bl true) fun _ _ _ => False) :
    codeAny (model P w) callerA (.call (.ref fa) ⟨[.ref a], []⟩) (fun r s' => r = .ok (.ret (.bool true)) ∧ OldK s1.heap s'.heap ∧ s'.os = s1.os ∧ AllBare s'.gens) s1 := by
  have rv := vals_ints hi
  have lenV := hi.length
  let tab : Addr → Prop := fun b => b ∈ cs.map (·.2)
  have tabAt : ∀ {b : Addr}, tab b → s1.heap.get? b = some { cls := .none, data := .fields #[] } := by
    intro b hb
    obtain ⟨p, hp, rfl⟩ := List.mem_map.mp hb
    exact hT p hp
  have aNo : ¬ tab a := fun z => by
    have e := tabAt z
    rw [ha] at e
    cases e
  have tabOf : ∀ {p}, p ∈ cs → tab p.2 := fun {p} hp => List.mem_map.mpr ⟨p, hp, rfl⟩
  have main : ∀ H : Hp, (∀ p ∈ cs, H p.2 = some (.tbl #[])) → (∀ b, ¬ tab b → H b = none ∨ ∃ o xs, H b = some (.frz o (.lst xs))) → SqL K H a (ns.map V.int) → HOk P w H s1.heap → (∀ b, H b ≠ none → b = a ∨ tab b) → (H a ≠ none → K.lookup a = none) →
      codeAny (model P w) callerA (.call (.ref fa) ⟨[.ref a], []⟩) (fun r s' => r = .ok (.ret (.bool true)) ∧ OldK s1.heap s'.heap ∧ s'.os = s1.os ∧ AllBare s'.gens) s1 := by
    intro H hH hO hS hok hA hK
    have out : ∀ {b : Addr} {o : Obj}, s1.heap.get? b = some o → (∀ vs n, o.data ≠ .seq vs n) → o.data ≠ .fields #[] → H b = none := by
      intro b o e n1 n2
      cases q : H b with
      | none => rfl
      | some u =>
        exfalso
        rcases hA b (by rw [q]; exact fun z => nomatch z) with z | z
        · rw [z, ha] at e
          cases e
          exact n1 _ _ rfl
        · rw [tabAt z] at e
          cases e
          exact n2 rfl
    have at_dict : ∀ {b : Addr} {o : Obj} {es : Array DictEntry} {ep : Nat}, s1.heap.get? b = some o → o.data = .dict es ep → H b = none := fun {b o es ep} e d => out e (fun _ _ z => by rw [d] at z; cases z) fun z => by rw [d] at z; cases z
    have keepNs : ∀ {b : Addr} {m : Str → Option Value}, s1.heap.Ns b m → (hidT s1.heap H).Ns b m := by
      rintro b m ⟨o, es, ep, e, d, r⟩
      exact ⟨o, es, ep, hidT_get e (at_dict e d), d, r⟩
    have hKb : K.In (hidT s1.heap H) := by
      intro b o e
      refine hidT_get (KX b o e) ?_
      cases q : H b with
      | none => rfl
      | some u =>
        exfalso
        have hn : H b ≠ none := by rw [q]; exact fun z => nomatch z
        rcases hA b hn with z | z
        · subst z
          rw [hK hn] at e
          cases e
        · obtain ⟨p, hp, rfl⟩ := List.mem_map.mp z
          rw [nT p hp] at e
          cases e
    have e0 : Env0 P w K mg (hidT s1.heap H) callerA [] s1 H := by
      refine ⟨rfl, ⟨hKb, keepNs hns, ⟨mb, keepNs hb, hbb⟩, ?_⟩, fun b o e => of_hidT e, Nat.le_of_eq (hidT_size _ _), trivial, fun b hb => ?_, hok, .of_eq hg⟩
      · obtain ⟨mc, h1, h2⟩ := hlim
        exact ⟨mc, keepNs h1, h2⟩
      · exact absurd (show b ∈ ([] : List Addr) from hb) (by simp)
    have en : Ent callerA s1 H := by
      obtain ⟨mm, o, es, ep, e, d, _⟩ := hsys
      exact ⟨rfl, ⟨o, e⟩, at_dict e d⟩
    have tb : ∀ p ∈ cs, TabB (hidT s1.heap H) mg p.1 p.2 := by
      intro p hp
      refine ⟨?_, ?_, fun z => ?_⟩
      · obtain ⟨o, us, file, tf, flags, tg, inF, text, tt, e1, r1, r2, r3, rest⟩ := hC p hp
        refine ⟨o, us, file, tf, flags, tg, inF, text, tt, hidT_get e1 (out e1 (fun _ _ z => by rw [r2] at z; cases z) fun z => ?_), r1, r2, r3, rest⟩
        rw [r2] at z
        cases z
        simp at r3
      · obtain ⟨bm, ob, b1, b2, b3, b4, b5, b6⟩ := hbm
        refine ⟨bm, ob, b1, b2, fun z => ?_, fun z => ?_, hidT_get b3 (out b3 (fun _ _ z => by rw [b6] at z; cases z) fun z => by rw [b6] at z; cases z), b4, b5, b6⟩
        · obtain ⟨o, es, ep, e, d, _⟩ := hns
          rw [z, e] at b3
          cases b3
          rw [d] at b6
          cases b6
        · rw [z, hT p hp] at b3
          cases b3
          cases b6
      · obtain ⟨o, es, ep, e, d, _⟩ := hns
        rw [z, hT p hp] at e
        cases e
        cases d
    refine codeAny_mono ((F _ hKb (keepNs hns) tb).run callerA [] s1 H ⟨[.ref a], []⟩ [.ref a] [.ref a] _ _ en hr e0 (hbind s1 (.ref a) KX) (.cons rfl .nil) (hsp H hH hS)) fun r s' h => ?_
    cases r with
    | error e => exact False.elim h
    | ok fl =>
      cases fl with
      | next => exact False.elim h
      | brk => exact False.elim h
      | cont => exact False.elim h
      | ret u =>
        obtain ⟨v, H', os, bare, un, hok', r', q⟩ := h
        obtain rfl : v = .bl true := q
        obtain rfl : u = Value.bool true := r'
        have stays : ∀ b o, ¬ tab b → s1.heap.get? b = some o → s'.heap.get? b = some o := by
          intro b o nb e
          rcases hO b nb with z | ⟨ob, xs, z⟩
          · exact un.keep b o e z (fun m => absurd (show b ∈ ([] : List Addr) from m) (by simp)) (by simp)
          · have e1 := (hok b _ z).1
            have e2 := (hok' b _ (un.frzs b ob _ z)).1
            rw [e] at e1
            cases e1
            exact e2
        have grows : ∀ p ∈ cs, ∃ more : Array Value, s'.heap.get? p.2 = some { cls := .none, data := .fields more } := by
          intro p hp
          obtain ⟨more, z⟩ := un.tbls p.2 #[] (hH p hp)
          exact ⟨_, hok' p.2 _ z⟩
        refine ⟨rfl, ⟨fun b o e => ?_, fun b o e => ?_⟩, os, bare⟩
        · by_cases hb : tab b
          · obtain ⟨p, hp, rfl⟩ := List.mem_map.mp hb
            obtain ⟨more, hm⟩ := grows p hp
            have e' := e
            rw [hT p hp] at e'
            cases e'
            exact .inr (.inl ⟨((hC p hp).tab (hT p hp)).isCodeTable, rfl, #[], more, rfl, by rw [Array.empty_append]; exact hm⟩)
          · exact .inl (stays b o hb e)
        · by_cases hb : tab b
          · obtain ⟨p, hp, rfl⟩ := List.mem_map.mp hb
            obtain ⟨more, hm⟩ := grows p hp
            exact ⟨_, hm⟩
          · exact ⟨o, stays b o hb e⟩
  cases hk : K.lookup a with
  | some o =>
    have e := KX a o hk
    rw [ha] at e
    cases e
    let Hs : Hp := fun b => if b ∈ cs.map (·.2) then some (.tbl #[]) else none
    have in_ : ∀ b, tab b → Hs b = some (.tbl #[]) := fun b hb => if_pos hb
    have out_ : ∀ b, ¬ tab b → Hs b = none := fun b hb => if_neg hb
    refine main Hs (fun p hp => in_ _ (tabOf hp)) (fun b nb => .inl (out_ b nb)) (.inr ⟨_, vs.toArray, _, hk, rfl, rfl, rfl, ?_, ?_⟩) (fun b u z => ?_) (fun b z => ?_) fun z => absurd (out_ a aNo) z
    · rw [List.size_toArray, lenV]
      exact hl
    · simpa using rv
    · by_cases hb : tab b
      · rw [in_ b hb] at z
        cases z
        exact tabAt hb
      · rw [out_ b hb] at z
        cases z
    · by_cases hb : tab b
      · exact .inr hb
      · exact absurd (out_ b hb) z
  | none =>
    let Hs : Hp := fun b => if b = a then some (.frz { cls := .type "list", data := .seq vs.toArray } (.lst (ns.map V.int))) else if b ∈ cs.map (·.2) then some (.tbl #[]) else none
    have at_a : Hs a = some (.frz { cls := .type "list", data := .seq vs.toArray } (.lst (ns.map V.int))) := if_pos rfl
    have in_ : ∀ b, tab b → Hs b = some (.tbl #[]) := fun b hb => (if_neg (fun z : b = a => aNo (z ▸ hb))).trans (if_pos hb)
    have out_ : ∀ b, b ≠ a → ¬ tab b → Hs b = none := fun b h1 h2 => (if_neg h1).trans (if_neg h2)
    refine main Hs (fun p hp => in_ _ (tabOf hp)) (fun b nb => ?_) (.inl (.inr ⟨_, at_a⟩)) (fun b u z => ?_) (fun b z => ?_) fun _ => hk
    · by_cases hb : b = a
      · rw [hb]
        exact .inr ⟨_, _, at_a⟩
      · exact .inl (out_ b hb nb)
    · by_cases hb : b = a
      · rw [hb, at_a] at z
        cases z
        rw [hb]
        exact ⟨ha, by rw [List.length_map]; exact hl, vs, _, rv, ha⟩
      · by_cases hb2 : tab b
        · rw [in_ b hb2] at z
          cases z
          exact tabAt hb2
        · rw [out_ b hb hb2] at z
          cases z
    · by_cases hb : b = a
      · exact .inl hb
      · by_cases hb2 : tab b
        · exact .inr hb2
        · exact absurd (out_ b hb hb2) z
def LawTG (l : PySem.W.OpenLaw) (w : World) (K : PySem.W.Frag) (k n : Nat) (x : Str) (mg : Str → Option Value) (fa : Addr) (h : Heap) : Prop :=
  ∃ (fd : FuncData) (cs : List (Addr × Addr)) (sp : Sp), (∀ p ∈ cs, h.get? p.2 = some { cls := .none, data := .fields #[] }) ∧ (∀ p ∈ cs, K.lookup p.2 = none) ∧ (∀ p ∈ cs, PySem.W.CodeHd h p.1 p.2) ∧ (∀ (s : Shared) (u : Value), K.In s.heap → BindsTo s fd ⟨[u], []⟩ [(x, u)]) ∧
    (∀ (H : Hp) (a : Addr) (ns : List Int), ns.length ≤ n → (∀ p ∈ cs, H p.2 = some (.tbl #[])) → SqL K H a (ns.map V.int) → sp [.ref a] H (fun v _ => v = .bl true) fun _ _ _ => False) ∧
    ∀ base : Heap, K.In base → base.Ns mainGlobals mg → (∀ p ∈ cs, TabB base mg p.1 p.2) → FnG l.prog w K mg base k fa fd [x] sp
theorem walk_ofTG {l : PySem.W.OpenLaw} {n k : Nat} {q : Program} {loose : List Str} {XP : (Str → Option Value) → Heap → Prop} {YP : World → Heap → Prop} {d : DefRec} {K : Params → PySem.W.Frag} {x : Str}
    (hn : l.most = some n) (hn2 : n ≤ sizeLine) (hdf : d.params.defaults = []) (hr : Room k callerA) (hi : importsNone q = true) (hY : ∀ (w : World) (h : Heap), YP w h → (K w.params).In h)
    (F : ∀ (w : World) (mg : Str → Option Value) (fa : Addr) (h : Heap), (K w.params).In h → h.Ns mainGlobals mg → mg d.name = some (.ref fa) →
      (∀ (y : Str) (e : DefRec) (c T : Addr), (recsOf q).find? (fun e => e.name == y) = some e → PySem.W.tabIn (K w.params) y = some (c, T) → PySem.W.CodeHd h c T ∧ h.get? T = some { cls := .none, data := .fields #[] }) → LawTG l w (K w.params) k n x mg fa h) :
    PySem.W.WalkO q loose XP YP l.row.toRowW d [] (fun f vs => PySem.call f vs) := by
  refine Att.attach_callB hn hdf fun w s0 s1 mg mb fa o pm cd doc a vs ns G Y ho hd hcd hmg hobj hints hlen hbits hg => ?_
  have KX := hY w _ Y
  obtain ⟨fd, cs, sp, hT, nT, hC, hb, hsp, hF⟩ := F w mg fa _ KX G.T.g hmg fun y e c T h1 h2 => PySem.W.tab_of G.T KX h1 h2
  obtain ⟨mm, hm, _⟩ := (G.T.seer hi).mods
  exact law_callTG KX G.T.g G.T.b G.T.builtins G.T.nolimit ⟨mm, hm⟩ hg hT nT hC G.T.bmain hobj hints (Nat.le_trans hlen hn2) hr hF hb fun H hH hS => hsp H a ns hlen hH hS
section
variable {P : Program} {w : World} {K : PySem.W.Frag} {mg : Str → Option Value} {base : Heap}
theorem Fun.okGC {x qual : Str} {st : Stmt} {f c : Addr} {fd : FuncData} {N ps : List Str} {k : Nat} {sp : Sp} (F : Fun K x qual st f fd) (hc : fd.code = .ref c) (S : FnScope N ps (defScope st)) (len : ∀ vs H Q E, sp vs H Q E → vs.length = ps.length)
    (hbody : ∀ (A : Around) (outer : List Env) (s : Shared) (H : Hp) (vs : List V) (Q : VK) (E : XK), Ent A s H → Room k (A.deeper (envOfC qual (defScope st) s.heap.objs.size f (.ref c))) → sp vs H Q E →
      ∃ t, PSs (cxOf CX0 P w K mg base N qual (defScope st) f (.ref c) A outer s H E).nox (defBody st) t ∧ t { nx := fun _ H' => Q .non H', rt := Q } (start N vs) H) : FnG P w K mg base (k + 1) f fd ps sp := by
  obtain ⟨oc, od, kV, doc, pm, an, cdv, ct, osl, rfl, lk, hcd⟩ := F.ex
  obtain rfl : cdv = .ref c := hc
  refine ⟨len, fun A outer s H args us vs Q E en hr e0 hb r hsp => ?_⟩
  have hl := len _ _ _ _ hsp
  have KX : K.In s.heap := e0.mod.kin.keeps fun b o e => (e0.bs b o e).1
  have lim : s.heap.NoLimit := e0.mod.nolimit.keeps fun b o e => (e0.bs b o e).1
  have hkind : ∀ y ∈ ps.zip us, (defScope st).names.lookup y.1 = some .local ∨ ((defScope st).names.lookup y.1 = some .cell ∧ ((cellsFrom (s.heap.objs.size + 1) (defScope st).names []).lookup y.1).isSome = true) := by
    rintro ⟨n, v⟩ hy
    rcases S.par n (List.of_mem_zip hy).1 with q | q
    · exact .inl q
    · exact .inr ⟨q, PySem.W.cellsFrom_some _ _ _ (.inl q)⟩
  refine codeAny_call_function hr.depth (KX _ _ lk) rfl S.co S.gen rfl (PySem.W.codeRec_of KX hcd) (hb _ _ _ _ ?_)
  refine wpAny_newFunctionEnv_cells S.kind hkind fun env he s1 xx => ?_
  subst he
  refine ⟨lim.keeps xx.toInCall.keep, codeAny_func ?_⟩
  obtain ⟨t, ht, hq⟩ := hbody A outer s H vs Q E en (hr.deeper _) hsp
  have I := inv_start (CX := CX0) (E := E) S hr.hd e0 hl r xx
  refine wpAny_mono (ht.nox.run [] s1 (start N vs) H _ I hq) (fun fl s' hs => ?_) fun e s' hs => hs
  cases fl with
  | ret u =>
    obtain ⟨v, σ', H', J, rv, q⟩ := hs
    exact ⟨v, H', J.os, J.bare, J.base, J.hok, rv, q⟩
  | next =>
    obtain ⟨σ', H', J, q⟩ := hs
    exact ⟨V.non, H', J.os, J.bare, J.base, J.hok, rfl, q⟩
  | brk =>
    obtain ⟨_, _, _, q⟩ := hs
    exact False.elim q
  | cont =>
    obtain ⟨_, _, _, q⟩ := hs
    exact False.elim q
end
theorem ExtN.seq {K : PySem.W.Frag} {H H' : Hp} {a : Addr} {xs : List V} (k : ExtN H H') (h : SqL K H a xs) : SqL K H' a xs := by
  rcases h with (h | ⟨o, h⟩) | h
  · exact .inl (.inl (k _ _ h fun _ z => nomatch z))
  · exact .inl (.inr ⟨o, k _ _ h fun _ z => nomatch z⟩)
  · exact .inr h
theorem Tabs.kp {T : List (Addr × Str)} {H H' : Hp} {pn : Addr} {xs : List V} (t : Tabs T H) (e : H pn = some (.lst xs)) (k : Kp (· = pn) H H') : Tabs T H' := fun p hp => by
  obtain ⟨ps, h1, h2, h3⟩ := t p hp
  refine ⟨ps, k _ _ h1 fun z => ?_, h2, fun pos cv hc => ?_⟩
  · rw [z, e] at h1
    cases h1
  · obtain ⟨c, e1, e2⟩ := h3 pos cv hc
    refine ⟨c, e1, k _ _ e2 fun z => ?_⟩
    rw [z, e] at e2
    unfold CodeO at e2
    cases e2
end HX
set_option maxRecDepth 100000
set_option maxHeartbeats 2000000
namespace HX
open PySem PySem.Spec PyProof.Rows L2 L2H LamX
structure Cls21 (mg : Str → Option Value) (C : Nat → Addr) : Prop where
  NoBoard : mg "NoBoard" = some (.ref (C 0))
  NoStand : mg "NoStand" = some (.ref (C 1))
  NoMoment : mg "NoMoment" = some (.ref (C 2))
  NoWheel : mg "NoWheel" = some (.ref (C 3))
  NotNow : mg "NotNow" = some (.ref (C 4))
  NoRow : mg "NoRow" = some (.ref (C 5))
  NoDrain : mg "NoDrain" = some (.ref (C 6))
  NoDrops : mg "NoDrops" = some (.ref (C 7))
  NoAgain : mg "NoAgain" = some (.ref (C 8))
  NoNumber : mg "NoNumber" = some (.ref (C 9))
  NoLinks : mg "NoLinks" = some (.ref (C 10))
  NoMouths : mg "NoMouths" = some (.ref (C 11))
  NoWord : mg "NoWord" = some (.ref (C 12))
  NotAlike : mg "NotAlike" = some (.ref (C 13))
  NoFault : mg "NoFault" = some (.ref (C 14))
  NoSeen : mg "NoSeen" = some (.ref (C 15))
  NoHands : mg "NoHands" = some (.ref (C 16))
  NoDeed : mg "NoDeed" = some (.ref (C 17))
  NoLine : mg "NoLine" = some (.ref (C 18))
  NoText : mg "NoText" = some (.ref (C 19))
  TooMany : mg "TooMany" = some (.ref (C 20))
structure EF (K : PySem.W.Frag) (C : Nat → Addr) (D : Addr) (i : Nat) : Prop where
  ec : ExcC K D
  ve : PySem.W.kitOne K (.ref D) (.type "ValueError") = some true
  is : ∀ j, j < 21 → PySem.W.kitOne K (.ref D) (.ref (C j)) = some (decide (j = i))
structure Bi4 (mg : Str → Option Value) : Prop where
  ValueError : mg "ValueError" = none
def words21 : List V := [.str "board", .str "stand", .str "moment", .str "wheel", .str "now", .str "row", .str "drain", .str "drops", .str "again", .str "number", .str "links", .str "mouths", .str "word", .str "alike", .str "fault", .str "seen", .str "hands", .str "deed", .str "line", .str "text", .str "many"]
def wordAt : Nat → Str
  | 0 => "board" | 1 => "stand" | 2 => "moment" | 3 => "wheel" | 4 => "now" | 5 => "row" | 6 => "drain" | 7 => "drops" | 8 => "again" | 9 => "number" | 10 => "links" | 11 => "mouths" | 12 => "word" | 13 => "alike" | 14 => "fault" | 15 => "seen" | 16 => "hands" | 17 => "deed" | 18 => "line" | 19 => "text" | _ => "many"
def marks (i : Nat) : List V := (List.range 21).map fun j => V.bl (decide (j = i))
theorem marks_flat (i : Nat) : (marks i).all flatV = true := by
  rw [List.all_eq_true]
  intro v hv
  obtain ⟨j, _, rfl⟩ := List.mem_map.mp hv
  rfl
theorem marks_one : ∀ i, i < 21 → (marks i).countP (fun z => eqV z (.bl true)) = 1 := by decide +kernel
theorem marks_at {i : Nat} (h : i < 21) : (marks i)[i]? = some (.bl true) := by
  unfold marks
  rw [List.getElem?_map, List.getElem?_range h]
  show some (V.bl (decide (i = i))) = _
  rw [decide_eq_true rfl]
theorem marks_no {i m : Nat} {z : V} (h : m < i) (e : (marks i)[m]? = some z) : eqV z (.bl true) = false := by
  unfold marks at e
  rw [List.getElem?_map] at e
  cases q : (List.range 21)[m]? with
  | none => rw [q] at e; cases e
  | some j =>
    rw [q] at e
    cases e
    have : j = m := by
      have := List.getElem?_eq_some_iff.mp q
      obtain ⟨h1, h2⟩ := this
      rw [List.getElem_range] at h2
      omega
    subst this
    have : decide (j = i) = false := decide_eq_false (by omega)
    show eqV (.bl (decide (j = i))) (.bl true) = false
    rw [this]
    rfl
theorem words_at : ∀ i, i < 21 → words21[i]? = some (.str (wordAt i)) := by
  intro i h
  match i, h with
  | 0, _ | 1, _ | 2, _ | 3, _ | 4, _ | 5, _ | 6, _ | 7, _ | 8, _ | 9, _ | 10, _ | 11, _ | 12, _ | 13, _ | 14, _ | 15, _ | 16, _ | 17, _ | 18, _ | 19, _ | 20, _ => rfl
  | n + 21, h => omega
def lamQ (x : Str) : Str := x ++ ".<locals>." ++ "<lambda>"
theorem qual_cx {CX : CXT} {P : Program} {w : World} {K : PySem.W.Frag} {mg : Str → Option Value} {base : Heap} {N : List Str} {q : Str} {sc : Scope} {f : Addr} {cd : Value} {A : Around} {outer : List Env} {s : Shared} {H : Hp} {E : XK} : (cxOf CX P w K mg base N q sc f cd A outer s H E).nox.env.qual ++ "<lambda>" = lamQ q := rfl
theorem tab_in {K : PySem.W.Frag} {x : Str} {f c T : Addr} {fd : FuncData} {oc e : Value} {od dd : Option Addr} {sl sl' : Array (Option Value)} {vs : Array Value} (a : PySem.W.nsIn K mainGlobals x = some (some (.ref f))) (l : K.lookup f = some ⟨oc, od, .func fd, sl⟩) (hc : fd.code = .ref c) (lc : K.lookup c = some ⟨e, dd, .fields vs, sl'⟩) (hv : vs[11]? = some (.ref T)) : PySem.W.tabIn K x = some (c, T) := by
  unfold PySem.W.tabIn
  rw [a]
  dsimp only
  rw [l]
  dsimp only
  rw [hc]
  dsimp only
  rw [lc]
  dsimp only
  rw [hv]
theorem law_cut {G0 : Prop} {K : PySem.W.Frag} {mg : Str → Option Value} {h : Heap} {q : Program} {x : Str} {st : Stmt} {ps : List Str} {f c T : Addr} {od an dd : Option Addr} {sl sl' : Array (Option Value)} {oc kV dc pm ct e : Value} {vs : Array Value} {rec : DefRec} (X : K.In h) (G : h.Ns mainGlobals mg)
    (tabs : ∀ (y : Str) (e : DefRec) (c T : Addr), (recsOf q).find? (fun e => e.name == y) = some e → PySem.W.tabIn K y = some (c, T) → PySem.W.CodeHd h c T ∧ h.get? T = some { cls := .none, data := .fields #[] })
    (a : PySem.W.nsIn K mainGlobals x = some (some (.ref f))) (l : K.lookup f = some ⟨oc, od, .func (PySem.W.fnOf x x (defArgs st) (defBody st) (defScope st) .none kV dc pm an (.ref c) ct), sl⟩) (cc : PySem.W.codeIn K (.ref c) x = true) (k : PySem.W.keepIn K (.ref f) = true)
    (hb : ∀ (kV doc pm : Value) (an : Option Addr) (cdv ct : Value) (us : List Value), us.length = ps.length → bindArgs (PySem.W.fnOf x x (defArgs st) (defBody st) (defScope st) .none kV doc pm an cdv ct) ⟨us, []⟩ = pure (ps.zip us))
    (lc : K.lookup c = some ⟨e, dd, .fields vs, sl'⟩) (hv : vs[11]? = some (.ref T)) (nT : K.lookup T = none) (r : (recsOf q).find? (fun e => e.name == x) = some rec)
    (z : ∀ (f : Addr) (fd : FuncData), Fun K x x st f fd → mg x = some (.ref f) → Binds K fd ps [] → fd.code = .ref c → K.lookup T = none → PySem.W.CodeHd h c T → h.get? T = some { cls := .none, data := .fields #[] } → G0) : G0 := by
  have t := tab_in a l rfl lc hv
  obtain ⟨h1, h2⟩ := tabs x rec c T r t
  exact z f _ (fun_mk l cc k) (PySem.W.mg_of X G a) ((fun_mk l cc k).binds hb) rfl nT h1 h2
theorem cls_cut {G0 : Prop} {K : PySem.W.Frag} {mg : Str → Option Value} {h : Heap} {c0 c1 c2 c3 c4 c5 c6 c7 c8 c9 c10 c11 c12 c13 c14 c15 c16 c17 c18 c19 c20 cM : Addr} (X : K.In h) (G : h.Ns mainGlobals mg)
    (a0 : PySem.W.nsIn K mainGlobals "NoBoard" = some (some (.ref c0))) (a1 : PySem.W.nsIn K mainGlobals "NoStand" = some (some (.ref c1))) (a2 : PySem.W.nsIn K mainGlobals "NoMoment" = some (some (.ref c2))) (a3 : PySem.W.nsIn K mainGlobals "NoWheel" = some (some (.ref c3)))
    (a4 : PySem.W.nsIn K mainGlobals "NotNow" = some (some (.ref c4))) (a5 : PySem.W.nsIn K mainGlobals "NoRow" = some (some (.ref c5))) (a6 : PySem.W.nsIn K mainGlobals "NoDrain" = some (some (.ref c6))) (a7 : PySem.W.nsIn K mainGlobals "NoDrops" = some (some (.ref c7)))
    (a8 : PySem.W.nsIn K mainGlobals "NoAgain" = some (some (.ref c8))) (a9 : PySem.W.nsIn K mainGlobals "NoNumber" = some (some (.ref c9))) (a10 : PySem.W.nsIn K mainGlobals "NoLinks" = some (some (.ref c10))) (a11 : PySem.W.nsIn K mainGlobals "NoMouths" = some (some (.ref c11)))
    (a12 : PySem.W.nsIn K mainGlobals "NoWord" = some (some (.ref c12))) (a13 : PySem.W.nsIn K mainGlobals "NotAlike" = some (some (.ref c13))) (a14 : PySem.W.nsIn K mainGlobals "NoFault" = some (some (.ref c14))) (a15 : PySem.W.nsIn K mainGlobals "NoSeen" = some (some (.ref c15)))
    (a16 : PySem.W.nsIn K mainGlobals "NoHands" = some (some (.ref c16))) (a17 : PySem.W.nsIn K mainGlobals "NoDeed" = some (some (.ref c17))) (a18 : PySem.W.nsIn K mainGlobals "NoLine" = some (some (.ref c18))) (a19 : PySem.W.nsIn K mainGlobals "NoText" = some (some (.ref c19)))
    (a20 : PySem.W.nsIn K mainGlobals "TooMany" = some (some (.ref c20))) (aM : PySem.W.nsIn K mainGlobals "MarbleError" = some (some (.ref cM)))
    (z : Cls21 mg (fun j => [c0, c1, c2, c3, c4, c5, c6, c7, c8, c9, c10, c11, c12, c13, c14, c15, c16, c17, c18, c19, c20].getD j 0) → mg "NoBoard" = some (.ref c0) → mg "NoStand" = some (.ref c1) → mg "NoMoment" = some (.ref c2) → mg "NoWheel" = some (.ref c3) → mg "NotNow" = some (.ref c4) → mg "NoRow" = some (.ref c5) → mg "NoDrain" = some (.ref c6) → mg "NoDrops" = some (.ref c7) → mg "NoAgain" = some (.ref c8) → mg "NoNumber" = some (.ref c9) → mg "NoLinks" = some (.ref c10) → mg "NoMouths" = some (.ref c11) → mg "NoWord" = some (.ref c12) → mg "NotAlike" = some (.ref c13) → mg "NoFault" = some (.ref c14) → mg "NoSeen" = some (.ref c15) → mg "NoHands" = some (.ref c16) → mg "NoDeed" = some (.ref c17) → mg "NoLine" = some (.ref c18) → mg "NoText" = some (.ref c19) → mg "TooMany" = some (.ref c20) → mg "MarbleError" = some (.ref cM) → G0) : G0 :=
  z ⟨PySem.W.mg_of X G a0, PySem.W.mg_of X G a1, PySem.W.mg_of X G a2, PySem.W.mg_of X G a3, PySem.W.mg_of X G a4, PySem.W.mg_of X G a5, PySem.W.mg_of X G a6, PySem.W.mg_of X G a7, PySem.W.mg_of X G a8, PySem.W.mg_of X G a9, PySem.W.mg_of X G a10, PySem.W.mg_of X G a11, PySem.W.mg_of X G a12, PySem.W.mg_of X G a13, PySem.W.mg_of X G a14, PySem.W.mg_of X G a15, PySem.W.mg_of X G a16, PySem.W.mg_of X G a17, PySem.W.mg_of X G a18, PySem.W.mg_of X G a19, PySem.W.mg_of X G a20⟩ (PySem.W.mg_of X G a0) (PySem.W.mg_of X G a1) (PySem.W.mg_of X G a2) (PySem.W.mg_of X G a3) (PySem.W.mg_of X G a4) (PySem.W.mg_of X G a5) (PySem.W.mg_of X G a6) (PySem.W.mg_of X G a7) (PySem.W.mg_of X G a8) (PySem.W.mg_of X G a9) (PySem.W.mg_of X G a10) (PySem.W.mg_of X G a11) (PySem.W.mg_of X G a12) (PySem.W.mg_of X G a13) (PySem.W.mg_of X G a14) (PySem.W.mg_of X G a15) (PySem.W.mg_of X G a16) (PySem.W.mg_of X G a17) (PySem.W.mg_of X G a18) (PySem.W.mg_of X G a19) (PySem.W.mg_of X G a20) (PySem.W.mg_of X G aM)
theorem err_cut {G0 : Prop} {K : PySem.W.Frag} {h : Heap} {mg : Str → Option Value} {x : Str} {c0 c1 c2 c3 c4 c5 c6 c7 c8 c9 c10 c11 c12 c13 c14 c15 c16 c17 c18 c19 c20 cM d : Addr} (X : K.In h) (i : Nat)
    (h0 : mg "NoBoard" = some (.ref c0)) (h1 : mg "NoStand" = some (.ref c1)) (h2 : mg "NoMoment" = some (.ref c2)) (h3 : mg "NoWheel" = some (.ref c3)) (h4 : mg "NotNow" = some (.ref c4)) (h5 : mg "NoRow" = some (.ref c5)) (h6 : mg "NoDrain" = some (.ref c6)) (h7 : mg "NoDrops" = some (.ref c7)) (h8 : mg "NoAgain" = some (.ref c8)) (h9 : mg "NoNumber" = some (.ref c9)) (h10 : mg "NoLinks" = some (.ref c10)) (h11 : mg "NoMouths" = some (.ref c11)) (h12 : mg "NoWord" = some (.ref c12)) (h13 : mg "NotAlike" = some (.ref c13)) (h14 : mg "NoFault" = some (.ref c14)) (h15 : mg "NoSeen" = some (.ref c15)) (h16 : mg "NoHands" = some (.ref c16)) (h17 : mg "NoDeed" = some (.ref c17)) (h18 : mg "NoLine" = some (.ref c18)) (h19 : mg "NoText" = some (.ref c19)) (h20 : mg "TooMany" = some (.ref c20)) (hM : mg "MarbleError" = some (.ref cM)) (g : mg x = some (.ref d))
    (kC : PySem.W.keepIn K (.ref d) = true) (ex : PySem.W.excIn K d veTail "ValueError.__new__" = true) (sb : PySem.W.subIn K (.ref d) (.type "BaseException") = some true) (ty : PySem.W.typeIn K (.ref d) = some (.type "type"))
    (e1 : PySem.W.findIn K (.ref d) "__getattribute__" = some (some (.builtin "BaseException.__getattribute__"))) (e2 : PySem.W.findIn K (.ref d) "__getattr__" = some none) (e3 : PySem.W.hasDictIn K d = true) (e4 : PySem.W.findIn K (.ref d) "__class__" = some (some (.builtin "object.__class__")))
    (e5 : PySem.W.specialIn K (.builtin "object.__class__") "__get__" = some (some (.builtin "getset_descriptor.__get__"))) (e6 : PySem.W.takesIn K (.builtin "object.__class__") = some true) (e7 : PySem.W.mroIn K d (.type "object") = some true) (ve : PySem.W.kitOne K (.ref d) (.type "ValueError") = some true) (xm : PySem.W.exmOne K (.ref d) (.ref cM) = some true)
    (k0 : PySem.W.kitOne K (.ref d) (.ref c0) = some (decide (0 = i))) (k1 : PySem.W.kitOne K (.ref d) (.ref c1) = some (decide (1 = i))) (k2 : PySem.W.kitOne K (.ref d) (.ref c2) = some (decide (2 = i))) (k3 : PySem.W.kitOne K (.ref d) (.ref c3) = some (decide (3 = i))) (k4 : PySem.W.kitOne K (.ref d) (.ref c4) = some (decide (4 = i))) (k5 : PySem.W.kitOne K (.ref d) (.ref c5) = some (decide (5 = i))) (k6 : PySem.W.kitOne K (.ref d) (.ref c6) = some (decide (6 = i))) (k7 : PySem.W.kitOne K (.ref d) (.ref c7) = some (decide (7 = i))) (k8 : PySem.W.kitOne K (.ref d) (.ref c8) = some (decide (8 = i))) (k9 : PySem.W.kitOne K (.ref d) (.ref c9) = some (decide (9 = i))) (k10 : PySem.W.kitOne K (.ref d) (.ref c10) = some (decide (10 = i))) (k11 : PySem.W.kitOne K (.ref d) (.ref c11) = some (decide (11 = i))) (k12 : PySem.W.kitOne K (.ref d) (.ref c12) = some (decide (12 = i))) (k13 : PySem.W.kitOne K (.ref d) (.ref c13) = some (decide (13 = i))) (k14 : PySem.W.kitOne K (.ref d) (.ref c14) = some (decide (14 = i))) (k15 : PySem.W.kitOne K (.ref d) (.ref c15) = some (decide (15 = i))) (k16 : PySem.W.kitOne K (.ref d) (.ref c16) = some (decide (16 = i))) (k17 : PySem.W.kitOne K (.ref d) (.ref c17) = some (decide (17 = i))) (k18 : PySem.W.kitOne K (.ref d) (.ref c18) = some (decide (18 = i))) (k19 : PySem.W.kitOne K (.ref d) (.ref c19) = some (decide (19 = i))) (k20 : PySem.W.kitOne K (.ref d) (.ref c20) = some (decide (20 = i)))
    (z : Err K mg x d → EF K (fun j => [c0, c1, c2, c3, c4, c5, c6, c7, c8, c9, c10, c11, c12, c13, c14, c15, c16, c17, c18, c19, c20].getD j 0) d i → PySem.W.exmOne K (.ref d) (.ref cM) = some true → G0) : G0 := by
  refine z ⟨g, kC, ex, sb, ty⟩ ⟨⟨e1, e2, sb, e3, e4, e5, e6, e7⟩, ve, fun j hj => ?_⟩ xm
  match j, hj with
  | 0, _ => exact k0
  | 1, _ => exact k1
  | 2, _ => exact k2
  | 3, _ => exact k3
  | 4, _ => exact k4
  | 5, _ => exact k5
  | 6, _ => exact k6
  | 7, _ => exact k7
  | 8, _ => exact k8
  | 9, _ => exact k9
  | 10, _ => exact k10
  | 11, _ => exact k11
  | 12, _ => exact k12
  | 13, _ => exact k13
  | 14, _ => exact k14
  | 15, _ => exact k15
  | 16, _ => exact k16
  | 17, _ => exact k17
  | 18, _ => exact k18
  | 19, _ => exact k19
  | 20, _ => exact k20
  | n + 21, h => omega
end HX
set_option maxRecDepth 100000
set_option maxHeartbeats 2000000
namespace HX
open PySem PySem.Spec PyProof.Rows L2
section
variable {X : Cx}
theorem laidF {pins : List (Addr × Obj)} {σ : L2.St} {H : Hp} {s : Shared} {ys : List V} {its : List Value} {Q : VK} (I : Inv X pins σ H s) (hz : ys.length ≤ sizeLine) (r : Vals ys its) (q : ∀ p o, H p = none → o.dict = none → Q (.ref p) (upd H p (.frz o (.tup ys)))) :
    EP X pins σ Q (.ref s.heap.objs.size) { s with heap := s.heap.push { cls := .type "tuple", data := .seq its.toArray } } := by
  have I2 : Inv X pins σ (upd H s.heap.objs.size (.frz { cls := .type "tuple", data := .seq its.toArray } (.tup ys))) { s with heap := s.heap.push { cls := .type "tuple", data := .seq its.toArray } } :=
    I.laid (t' := s.toks) (fun b o e => Heap.get?_push_of_some _ e) (Nat.le_refl _) (show ObjOk X.prog X.w _ _ _ (.frz _ (.tup ys)) from ⟨Heap.get?_push_size _ rfl, hz, its, r, IsTup.new _ _⟩)
  exact ⟨.ref s.heap.objs.size, _, I2, rfl, q _ _ (I.hok.fresh (Nat.le_refl _)) rfl⟩
def rSlF (K : PySem.W.Frag) : V → Option Int → Option Int → Hp → VK → Prop := fun x lo hi H Q => ∃ a xs, x = .ref a ∧ SqT K H a xs ∧ (HT.sIx xs.length 0 lo = 0 ∧ HT.sIx xs.length xs.length hi = xs.length → Q (.ref a) H) ∧
  (¬ (HT.sIx xs.length 0 lo = 0 ∧ HT.sIx xs.length xs.length hi = xs.length) → ∀ p o, H p = none → o.dict = none → Q (.ref p) (upd H p (.frz o (.tup (cutV xs lo hi)))))
theorem sl_tupF : SlR X (rSlF X.K) := by
  intro pins s σ H x v vl vu lo hi sl Q I rx hs pl pu h
  obtain ⟨a, xs, rfl, hx, q1, q2⟩ := h
  cases rx
  obtain ⟨its, r, ht, hz⟩ := I.tuple hx
  have hn : its.toArray.size = xs.length := by rw [List.size_toArray]; exact r.length.symm
  refine ⟨"tuple", _, PyProof.Rows.slot_tuple_getitem.lookup, ht.typeIs, ?_⟩
  by_cases hw : HT.sIx xs.length 0 lo = 0 ∧ HT.sIx xs.length xs.length hi = xs.length
  · exact getItem_tuple_whole ht hs pl pu (by rw [hn]; exact hw) ⟨.ref a, H, I, rfl, q1 hw⟩
  · refine HT.getItem_tuple_cut ht hs pl pu (by rw [hn]; exact hw) ?_ (by rw [hn]; exact hz)
    rw [hn]
    exact laidF I (Nat.le_trans (cutV_length xs lo hi) hz) ((r.drop (HT.sIx xs.length 0 lo)).take (HT.sIx xs.length xs.length hi - HT.sIx xs.length 0 lo)) (q2 hw)
def rCatF (K : PySem.W.Frag) : R2 := fun x y H Q => ∃ a b xs ys, x = .ref a ∧ y = .ref b ∧ SqT K H a xs ∧ SqT K H b ys ∧ xs.length + ys.length ≤ sizeLine ∧
  (xs = [] → Q (.ref b) H) ∧ (xs ≠ [] → ys = [] → Q (.ref a) H) ∧ (xs ≠ [] → ys ≠ [] → ∀ p o, H p = none → o.dict = none → Q (.ref p) (upd H p (.frz o (.tup (xs ++ ys)))))
theorem op_catF : OpR X (binaryOp .Add) (rCatF X.K) := by
  intro pins s σ H x y v u Q I rx ry h
  obtain ⟨a, b, xs, ys, rfl, rfl, ha, hb, hz, q0, q1, q2⟩ := h
  cases rx
  cases ry
  obtain ⟨i1, r1, p1, _⟩ := I.tuple ha
  obtain ⟨i2, r2, p2, _⟩ := I.tuple hb
  by_cases hx : xs = []
  · subst hx
    cases r1
    exact cat_tup0 p1 p2 ⟨.ref b, H, I, rfl, q0 rfl⟩
  · refine HT.cat_tup p1 p2 (fun z => hx (r1.nil_iff.mp z)) (fun z => ⟨.ref a, H, I, rfl, q1 hx (r2.nil_iff.mp z)⟩) (fun z => ?_) (by rw [← r1.length, ← r2.length]; exact hz)
    exact laidF I (by rw [List.length_append]; exact hz) (r1.append r2) (q2 hx (fun w => z (r2.nil_iff.mpr w)))
def tTupF (t : TA) : TE := fun σ H Q => t σ H fun xs H1 => xs.length ≤ sizeLine ∧ ∀ p o, H1 p = none → o.dict = none → Q (.ref p) (upd H1 p (.frz o (.tup xs)))
theorem pe_tupF {es : List Expr} {t : TA} {x1} {pos : Pos} (h : PA X es t) : PE X (.Tuple es x1 pos) (tTupF t) := by
  refine ⟨fun pins s σ H Q I hq => ?_⟩
  refine wpAny_Tuple_spliced (thn (h.run pos pins s σ H _ I hq) fun us s1 ⟨xs, H1, I1, r, z, q⟩ => ⟨by rw [← r.length]; exact z, ?_⟩)
  exact laidF I1 z r q
end
end HX
set_option maxRecDepth 100000
set_option maxHeartbeats 2000000
namespace HX
open PySem PySem.Spec PyProof.Rows L2 L2H LamX
def rReprP (K : PySem.W.Frag) : List V → Hp → VK → Prop := fun xs H Q => ∃ (v : V) (d : PyData), xs = [v] ∧ Dp K H v d ∧ d.hasDict = false ∧ Gd 16000000 100 d ∧ Q (.str d.shown) H
theorem call_reprP {X : Cx} (en : EntX X) (hu : X.A.units + 150 < cLine) : CallR X (.builtin "repr") (rReprP X.K) := by
  intro pins s σ H xs us Q I r h
  obtain ⟨v, d, rfl, hd, nd, hg, q⟩ := h
  obtain ⟨u, rfl, rv⟩ := vals1 r
  obtain ⟨as, hr⟩ := Dp.reads I d v u hd rv
  obtain ⟨z1, z2⟩ := shown_le (by decide) d hg.iw
  have hs : d.shown.length ≤ sizeLine := Nat.le_trans z1 (Nat.le_trans hg.wn (by decide))
  have hsm : d.hasDict = true → sysModules ∉ as := fun z => by rw [nd] at z; cases z
  have hdp := hg.dp
  cases hr with
  | none => exact PySem.P.repr_of_none ⟨.str _, H, I.tok _, ⟨_, rfl⟩, by simpa only [PyData.shown] using q⟩
  | bool b => exact PySem.P.repr_of_bool ⟨.str _, H, I.tok _, ⟨_, rfl⟩, by simpa only [PyData.shown] using q⟩
  | int i t => exact PySem.P.repr_of_int (by simpa [PyData.showable] using z2) ⟨.str _, H, I.tok _, ⟨_, rfl⟩, by simpa only [PyData.shown] using q⟩
  | str x t => exact PySem.P.repr_of_str ⟨.str _, H, I.tok _, ⟨_, rfl⟩, by simpa only [PyData.shown] using q⟩ (by simpa only [PyData.shown] using hs)
  | list a1 a2 a3 a4 => exact repr_of_reads' (.list a1 a2 a3 a4) z2 hsm en.gu (by omega) (fun _ _ e => e) (fun h' u' tk k => ⟨.str _, H, I.kept (t' := tk) k, ⟨_, rfl⟩, q⟩) hs
  | tuple a1 a2 a3 a4 => exact repr_of_reads' (.tuple a1 a2 a3 a4) z2 hsm en.gu (by omega) (fun _ _ e => e) (fun h' u' tk k => ⟨.str _, H, I.kept (t' := tk) k, ⟨_, rfl⟩, q⟩) hs
  | dict a1 a2 a3 a4 a5 => exact repr_of_reads' (.dict a1 a2 a3 a4 a5) z2 hsm en.gu (by omega) (fun _ _ e => e) (fun h' u' tk k => ⟨.str _, H, I.kept (t' := tk) k, ⟨_, rfl⟩, q⟩) hs
def relabelS (scope sc : Scope) : Scope := { scope with names := scope.names.map fun (n, k) => if (k == .free && sc.kind == .function && sc.names.lookup n == some .cell) then (n, .cell) else (n, k) }
def KX (pn : Addr) (H H' : Hp) : Prop := ∀ b o, H b = some o → b ≠ pn → (∀ ps, o ≠ .tbl ps) → H' b = some o
theorem KX.refl (pn : Addr) (H : Hp) : KX pn H H := fun _ _ h _ _ => h
theorem KX.trans {pn : Addr} {H H1 H2 : Hp} (a : KX pn H H1) (b : KX pn H1 H2) : KX pn H H2 := fun c o h n t => b c o (a c o h n t) n t
theorem KX.kp {pn : Addr} {H H1 : Hp} (a : Kp (· = pn) H H1) : KX pn H H1 := fun c o h n _ => a c o h n
theorem KX.ext {pn : Addr} {H H1 : Hp} (a : ExtN H H1) : KX pn H H1 := fun c o h _ t => a c o h t
theorem KX.seq {K : PySem.W.Frag} {pn : Addr} {H H' : Hp} {a : Addr} {xs : List V} (k : KX pn H H') (n : H pn = none) (h : SqL K H a xs) : SqL K H' a xs := by
  rcases h with (h | ⟨o, h⟩) | h
  · exact .inl (.inl (k _ _ h (ne_of_none h n) fun _ z => nomatch z))
  · exact .inl (.inr ⟨o, k _ _ h (ne_of_none h n) fun _ z => nomatch z⟩)
  · exact .inr h
end HX
namespace HX
open PySem PySem.Spec PyProof.Rows L2
end HX
set_option maxRecDepth 100000
set_option maxHeartbeats 1000000
namespace HX
open PySem PySem.Spec PyProof.Rows L2
end HX
set_option maxRecDepth 100000
set_option maxHeartbeats 2000000
namespace HX
open PySem PySem.Spec PyProof.Rows L2
mutual
def pureK : NestedKey → Bool
  | .num _ => true
  | .tup ks => pureA ks
  | _ => false
def pureA : List NestedKey → Bool
  | [] => true
  | k :: ks => pureK k && pureA ks
end
mutual
def hN : NestedKey → Int
  | .num i => hashInt i
  | .tup ks => reduceHash (Builtin.Tuple.tupleHashOf (hNs ks))
  | _ => 0
def hNs : List NestedKey → List Int
  | [] => []
  | k :: ks => hN k :: hNs ks
end
mutual
theorem hN_eq (w : World) : ∀ k : NestedKey, pureK k = true → k.hash w = hN k
  | .none, h => by simp [pureK] at h
  | .num i, _ => by rw [NestedKey.hash, hN]
  | .text x, h => by simp [pureK] at h
  | .tup ks, h => by
    rw [NestedKey.hash, hN, hNs_eq w ks (by simpa [pureK] using h)]
theorem hNs_eq (w : World) : ∀ ks : List NestedKey, pureA ks = true → NestedKey.hashes w ks = hNs ks
  | [], _ => by rw [NestedKey.hashes, hNs]
  | k :: ks, h => by
    rw [pureA, Bool.and_eq_true] at h
    rw [NestedKey.hashes, hNs, hN_eq w k h.1, hNs_eq w ks h.2]
end
def KTup (H : Hp) (v : V) (xs : List V) : Prop := ∃ (a : Addr) (o : Obj), v = .ref a ∧ H a = some (.frz o (.tup xs))
mutual
def KeyV (H : Hp) : NestedKey → V → Prop
  | .num i, v => v = .int i
  | .tup ks, v => ∃ xs, KTup H v xs ∧ KeyVs H ks xs
  | _, _ => False
def KeyVs (H : Hp) : List NestedKey → List V → Prop
  | [], vs => vs = []
  | k :: ks, vs => ∃ v r, vs = v :: r ∧ KeyV H k v ∧ KeyVs H ks r
end
section
variable {P : Program} {w : World} {H : Hp} {h : Heap}
mutual
theorem KeyV.nested (ok : HOk P w H h) : ∀ (k : NestedKey) (v : V) (u : Value), KeyV H k v → RelV v u → NestedIs h k u
  | .none, v, u, e, _ => by simp [KeyV] at e
  | .text x, v, u, e, _ => by simp [KeyV] at e
  | .num i, v, u, e, r => by
    rw [KeyV] at e
    subst e
    obtain ⟨t, rfl⟩ := r
    exact .int i t
  | .tup ks, v, u, e, r => by
    rw [KeyV] at e
    obtain ⟨xs, ⟨a, o, rfl, ha⟩, hk⟩ := e
    cases (show u = Value.ref a from r)
    obtain ⟨e1, _, its, rv, o', h1, h2, n, h3⟩ := (show ObjOk P w H h a (.frz o (.tup xs)) from ok a _ ha)
    exact .tup h1 h2 h3 (KeyVs.nested ok ks xs _ hk (by simpa using rv))
theorem KeyVs.nested (ok : HOk P w H h) : ∀ (ks : List NestedKey) (vs : List V) (us : List Value), KeyVs H ks vs → Vals vs us → NestedAll h ks us
  | [], vs, us, e, r => by
    rw [KeyVs] at e
    subst e
    cases r
    exact .nil
  | k :: ks, vs, us, e, r => by
    rw [KeyVs] at e
    obtain ⟨v, r', rfl, e1, e2⟩ := e
    cases r with
    | cons r1 r2 => exact .cons (KeyV.nested ok k _ _ e1 r1) (KeyVs.nested ok ks _ _ e2 r2)
end
abbrev NE := NestedKey × Addr × V
def nEnt (x : NestedKey × Addr × Value) : DictEntry := ⟨hN x.1, .ref x.2.1, x.2.2⟩
def NRel : List NE → List (NestedKey × Addr × Value) → Prop := Paired fun p q => p.1 = q.1 ∧ p.2.1 = q.2.1 ∧ RelV p.2.2 q.2.2
def NdAt (h : Heap) (d : Addr) (xs : List NE) : Prop := (d == sysModules) = false ∧ xs.length ≤ sizeLine ∧ ∃ us, NRel xs us ∧ ∃ o es ep, h.get? d = some o ∧ o.ExactDict ∧ o.data = .dict es ep ∧ es.toList = us.map nEnt ∧ (us.map (·.1)).Nodup
def NdO (d : Addr) (xs : List NE) : HO := .ext fun h => NdAt h d xs
theorem NdAt.ok {d : Addr} {xs : List NE} (n : NdAt h d xs) : ObjOk P w H h d (NdO d xs) := by
  refine ⟨n, ?_, fun h1 h2 n1 k => ?_⟩
  · obtain ⟨_, _, us, _, o, es, ep, ho, _⟩ := n
    exact ⟨o, ho⟩
  · obtain ⟨a, b, us, r, o, es, ep, ho, q⟩ := n1
    exact ⟨a, b, us, r, o, es, ep, k o ho, q⟩
def KeysOk (H : Hp) (xs : List NE) : Prop := ∀ x ∈ xs, pureK x.1 = true ∧ x.1.depth ≤ 8 ∧ KeyV H x.1 (.ref x.2.1)
def nGet (xs : List NE) (k : NestedKey) : Option V := (xs.find? fun x => decide (x.1 = k)).map (·.2.2)
def nPut (xs : List NE) (k : NestedKey) (a : Addr) (v : V) : List NE := if (nGet xs k).isSome = true then xs.map (fun x => if x.1 = k then (x.1, x.2.1, v) else x) else xs ++ [(k, a, v)]
theorem NRel.mem {xs : List NE} {us : List (NestedKey × Addr × Value)} (r : NRel xs us) : ∀ u ∈ us, ∃ x ∈ xs, x.1 = u.1 ∧ x.2.1 = u.2.1 := by
  induction r with
  | nil => intro u hu; cases hu
  | cons q _ ih =>
    intro u hu
    rcases List.mem_cons.mp hu with rfl | hu
    · exact ⟨_, List.mem_cons_self .., q.1, q.2.1⟩
    · obtain ⟨x, hx, e⟩ := ih u hu
      exact ⟨x, List.mem_cons_of_mem _ hx, e⟩
theorem NRel.len {xs : List NE} {us : List (NestedKey × Addr × Value)} (r : NRel xs us) : xs.length = us.length := Paired.length r
theorem NRel.get {xs : List NE} {us : List (NestedKey × Addr × Value)} (r : NRel xs us) (k : NestedKey) : (nGet xs k = none ∧ atKey us k = none) ∨ ∃ v p, nGet xs k = some v ∧ atKey us k = some p ∧ RelV v p.2 := by
  induction r with
  | nil => exact .inl ⟨rfl, rfl⟩
  | @cons x u xs us q _ ih =>
    obtain ⟨e1, e2, e3⟩ := q
    by_cases hk : x.1 = k
    · refine .inr ⟨x.2.2, u.2, ?_, ?_, e3⟩
      · simp [nGet, List.find?_cons, hk]
      · simp [atKey, List.find?_cons, ← e1, hk]
    · have h1 : nGet (x :: xs) k = nGet xs k := by simp [nGet, List.find?_cons, hk]
      have h2 : atKey (u :: us) k = atKey us k := by simp [atKey, List.find?_cons, ← e1, hk]
      rw [h1, h2]
      exact ih
theorem NRel.put {xs : List NE} {us : List (NestedKey × Addr × Value)} (r : NRel xs us) (k : NestedKey) (a : Addr) {v : V} {u : Value} (rv : RelV v u) : NRel (nPut xs k a v) (storedH us k a u) := by
  have rep : NRel (xs.map fun x => if x.1 = k then (x.1, x.2.1, v) else x) (us.map (putAt k u)) := by
    induction r with
    | nil => exact .nil
    | @cons x y xs us q _ ih =>
      obtain ⟨e1, e2, e3⟩ := q
      refine .cons ?_ ih
      dsimp only
      by_cases hk : x.1 = k
      · rw [if_pos hk, putAt, if_pos (by rw [← e1]; exact hk)]
        exact ⟨e1, e2, rv⟩
      · rw [if_neg hk, putAt, if_neg (by rw [← e1]; exact hk)]
        exact ⟨e1, e2, e3⟩
  unfold nPut storedH
  rcases r.get k with ⟨h1, h2⟩ | ⟨v', p, h1, h2, _⟩
  · rw [h1, h2]
    exact Paired.snoc r ⟨rfl, rfl, rv⟩
  · rw [h1, h2]
    exact rep
theorem NdAt.dict {d : Addr} {xs : List NE} (ok : HOk P w H h) (n : NdAt h d xs) (hk : KeysOk H xs) : (d == sysModules) = false ∧ xs.length ≤ sizeLine ∧ ∃ us, NRel xs us ∧ h.DictOfH (nestedKind P w) d us := by
  obtain ⟨a, b, us, r, o, es, ep, ho, hx, hd, he, hn⟩ := n
  have key : ∀ u ∈ us, pureK u.1 = true ∧ (nestedKind P w).is h u.1 u.2.1 := fun u hu => by
    obtain ⟨x, hx, e1, e2⟩ := r.mem u hu
    obtain ⟨p1, p2, p3⟩ := hk x hx
    refine ⟨by rw [← e1]; exact p1, ?_, by rw [← e1]; exact p2⟩
    have := KeyV.nested ok x.1 _ (.ref x.2.1) p3 rfl
    rw [e1, e2] at this
    exact this
  refine ⟨a, b, us, r, o, es, ep, ho, hx, hd, ?_, fun u hu => (key u hu).2, hn⟩
  rw [he]
  refine List.map_congr_left fun u hu => ?_
  unfold nEnt entryOfKey
  show DictEntry.mk (hN u.1) _ _ = DictEntry.mk (u.1.hash w) _ _
  rw [hN_eq w u.1 (key u hu).1]
end
def DicAt (H : Hp) (d : Addr) (xs : List NE) : Prop := H d = some (NdO d xs) ∧ KeysOk H xs
def KeyAt (H : Hp) (a : Addr) (ks : List NestedKey) : Prop := pureA ks = true ∧ (NestedKey.tup ks).depth ≤ 8 ∧ KeyV H (.tup ks) (.ref a)
section
variable {X : Cx}
theorem DicAt.use {pins : List (Addr × Obj)} {σ : L2.St} {H : Hp} {s : Shared} {d : Addr} {xs : List NE} (I : Inv X pins σ H s) (h : DicAt H d xs) : (d == sysModules) = false ∧ xs.length ≤ sizeLine ∧ ∃ us, NRel xs us ∧ s.heap.DictOfH (nestedKind X.prog X.w) d us :=
  NdAt.dict I.hok (show ObjOk X.prog X.w H s.heap d (NdO d xs) from I.hok d _ h.1).1 h.2
theorem KeyAt.use {pins : List (Addr × Obj)} {σ : L2.St} {H : Hp} {s : Shared} {a : Addr} {ks : List NestedKey} (I : Inv X pins σ H s) (h : KeyAt H a ks) : (nestedKind X.prog X.w).is s.heap (.tup ks) a := ⟨KeyV.nested I.hok _ _ (.ref a) h.2.2 rfl, h.2.1⟩
end
end HX
set_option maxRecDepth 100000
set_option maxHeartbeats 1000000
namespace QX
open PySem PySem.Spec PyProof.Rows L2 HX
inductive D where
  | non | bl (b : Bool) | int (i : Int) | str (x : Str) | tup (ds : List D) | lst (ds : List D) | dct (ks : List Key) (ds : List D) | scr (ns : List Int) | ref (n : Nat) | adr (v : V)
inductive Cell where
  | lst (ds : List D)
  | dic (kvs : List (NestedKey × D))
abbrev Mem := List Cell
abbrev Sa := List (Option D)
def FzT (H : Hp) (a : Addr) (xs : List V) : Prop := ∃ o : Obj, o.dict = none ∧ H a = some (.frz o (.tup xs))
def ScrAt (K : PySem.W.Frag) (ρ : List Addr) (H : Hp) (a : Addr) (ns : List Int) : Prop :=
  (Rd H a (.lst (ns.map V.int)) ∧ a ∉ ρ) ∨ ∃ (o : Obj) (its : Array Value) (n : Nat), K.lookup a = some o ∧ o.cls = .type "list" ∧ o.dict = none ∧ o.data = .seq its n ∧ its.size ≤ sizeLine ∧ Vals (ns.map V.int) its.toList
mutual
inductive Rep (K : PySem.W.Frag) (ρ : List Addr) (H : Hp) : V → D → Prop
  | non : Rep K ρ H .non .non
  | bl (b : Bool) : Rep K ρ H (.bl b) (.bl b)
  | int (i : Int) : Rep K ρ H (.int i) (.int i)
  | str (x : Str) : Rep K ρ H (.str x) (.str x)
  | tup {a : Addr} {xs : List V} {ds : List D} : FzT H a xs → a ∉ ρ → RepA K ρ H xs ds → Rep K ρ H (.ref a) (.tup ds)
  | lst {a : Addr} {xs : List V} {ds : List D} : H a = some (.lst xs) → a ∉ ρ → RepA K ρ H xs ds → Rep K ρ H (.ref a) (.lst ds)
  | dct {a : Addr} {kvs : List (Key × V)} {ks : List Key} {ds : List D} : H a = some (.dK kvs) → a ∉ ρ → ks = kvs.map (·.1) → RepA K ρ H (kvs.map (·.2)) ds → Rep K ρ H (.ref a) (.dct ks ds)
  | scr {a : Addr} {ns : List Int} : ScrAt K ρ H a ns → Rep K ρ H (.ref a) (.scr ns)
  | ref {a : Addr} {n : Nat} : ρ[n]? = some a → Rep K ρ H (.ref a) (.ref n)
  | adr (v : V) : Rep K ρ H v (.adr v)
inductive RepA (K : PySem.W.Frag) (ρ : List Addr) (H : Hp) : List V → List D → Prop
  | nil : RepA K ρ H [] []
  | cons {v : V} {vs : List V} {d : D} {ds : List D} : Rep K ρ H v d → RepA K ρ H vs ds → RepA K ρ H (v :: vs) (d :: ds)
end
def Th (H : Hp) (a : Addr) : Prop := ∃ o, H a = some o ∧ ∀ ps, o ≠ .tbl ps
structure Ext (ρ : List Addr) (H : Hp) (ρ' : List Addr) (H' : Hp) : Prop where
  pre : ∃ more, ρ' = ρ ++ more ∧ ∀ a ∈ more, ¬ Th H a
  keep : ∀ a o, H a = some o → a ∉ ρ → (∀ ps, o ≠ .tbl ps) → H' a = some o
  live : ∀ a, Th H a → Th H' a
theorem Th.none {H : Hp} {a : Addr} (h : H a = none) : ¬ Th H a := fun ⟨o, e, _⟩ => by rw [h] at e; cases e
theorem Ext.refl (ρ : List Addr) (H : Hp) : Ext ρ H ρ H := ⟨⟨[], by simp, by simp⟩, fun _ _ h _ _ => h, fun _ h => h⟩
theorem Ext.notin {ρ ρ' : List Addr} {H H' : Hp} (e : Ext ρ H ρ' H') {a : Addr} (n : a ∉ ρ) (h : Th H a) : a ∉ ρ' := by
  obtain ⟨more, rfl, hm⟩ := e.pre
  intro z
  rcases List.mem_append.mp z with z | z
  · exact n z
  · exact hm a z h
theorem Ext.trans {ρ ρ1 ρ2 : List Addr} {H H1 H2 : Hp} (a : Ext ρ H ρ1 H1) (b : Ext ρ1 H1 ρ2 H2) : Ext ρ H ρ2 H2 := by
  refine ⟨?_, fun x o h n t => ?_, fun x h => b.live x (a.live x h)⟩
  · obtain ⟨m1, rfl, h1⟩ := a.pre
    obtain ⟨m2, rfl, h2⟩ := b.pre
    refine ⟨m1 ++ m2, by rw [List.append_assoc], fun x hx => ?_⟩
    rcases List.mem_append.mp hx with z | z
    · exact h1 x z
    · exact fun t => h2 x z (a.live x t)
  · exact b.keep x o (a.keep x o h n t) (a.notin n ⟨o, h, t⟩) t
theorem Ext.at {ρ ρ' : List Addr} {H H' : Hp} (e : Ext ρ H ρ' H') {n : Nat} {a : Addr} (h : ρ[n]? = some a) : ρ'[n]? = some a := by
  obtain ⟨more, rfl, hm⟩ := e.pre
  have := (List.getElem?_eq_some_iff.mp h).1
  rw [List.getElem?_append_left this]
  exact h
theorem FzT.ext {ρ ρ' : List Addr} {H H' : Hp} {a : Addr} {xs : List V} (e : Ext ρ H ρ' H') (h : FzT H a xs) (n : a ∉ ρ) : FzT H' a xs ∧ a ∉ ρ' := by
  obtain ⟨o, h1, h2⟩ := h
  exact ⟨⟨o, h1, e.keep _ _ h2 n fun _ z => nomatch z⟩, e.notin n ⟨_, h2, fun _ z => nomatch z⟩⟩
theorem ScrAt.ext {K : PySem.W.Frag} {ρ ρ' : List Addr} {H H' : Hp} {a : Addr} {ns : List Int} (e : Ext ρ H ρ' H') (h : ScrAt K ρ H a ns) : ScrAt K ρ' H' a ns := by
  rcases h with ⟨h | ⟨o, h⟩, n⟩ | h
  · exact .inl ⟨.inl (e.keep _ _ h n fun _ z => nomatch z), e.notin n ⟨_, h, fun _ z => nomatch z⟩⟩
  · exact .inl ⟨.inr ⟨o, e.keep _ _ h n fun _ z => nomatch z⟩, e.notin n ⟨_, h, fun _ z => nomatch z⟩⟩
  · exact .inr h
mutual
theorem Rep.mono {K : PySem.W.Frag} {ρ ρ' : List Addr} {H H' : Hp} (e : Ext ρ H ρ' H') : ∀ (d : D) (v : V), Rep K ρ H v d → Rep K ρ' H' v d
  | .non, _, h => by cases h; exact .non
  | .bl b, _, h => by cases h; exact .bl b
  | .int i, _, h => by cases h; exact .int i
  | .str x, _, h => by cases h; exact .str x
  | .tup ds, _, h => by
    cases h with
    | tup f n ha => exact .tup (f.ext e n).1 (f.ext e n).2 (RepA.mono e ds _ ha)
  | .lst ds, _, h => by
    cases h with
    | lst f n ha => exact .lst (e.keep _ _ f n fun _ z => nomatch z) (e.notin n ⟨_, f, fun _ z => nomatch z⟩) (RepA.mono e ds _ ha)
  | .dct ks ds, _, h => by
    cases h with
    | dct f n hk ha => exact .dct (e.keep _ _ f n fun _ z => nomatch z) (e.notin n ⟨_, f, fun _ z => nomatch z⟩) hk (RepA.mono e ds _ ha)
  | .scr ns, _, h => by
    cases h with
    | scr f => exact .scr (f.ext e)
  | .ref n, _, h => by
    cases h with
    | ref f => exact .ref (e.at f)
  | .adr v, _, h => by cases h; exact .adr v
theorem RepA.mono {K : PySem.W.Frag} {ρ ρ' : List Addr} {H H' : Hp} (e : Ext ρ H ρ' H') : ∀ (ds : List D) (vs : List V), RepA K ρ H vs ds → RepA K ρ' H' vs ds
  | [], _, h => by cases h; exact .nil
  | d :: ds, _, h => by
    cases h with
    | cons h1 h2 => exact .cons (Rep.mono e d _ h1) (RepA.mono e ds _ h2)
end
section
variable {K : PySem.W.Frag} {ρ : List Addr} {H : Hp}
theorem RepA.len : ∀ {vs : List V} {ds : List D}, RepA K ρ H vs ds → vs.length = ds.length
  | _, _, .nil => rfl
  | _, _, .cons _ t => by rw [List.length_cons, List.length_cons, RepA.len t]
theorem RepA.get : ∀ {vs : List V} {ds : List D} {i : Nat} {v : V}, RepA K ρ H vs ds → vs[i]? = some v → ∃ d, ds[i]? = some d ∧ Rep K ρ H v d
  | _, _, _, _, .nil, e => by simp at e
  | _, _, 0, _, .cons h _, e => ⟨_, rfl, by simp at e; exact e ▸ h⟩
  | _, _, i + 1, _, .cons _ t, e => by
    obtain ⟨d, h1, h2⟩ := RepA.get (i := i) t (by simpa using e)
    exact ⟨d, by simpa using h1, h2⟩
theorem RepA.at : ∀ {vs : List V} {ds : List D} {i : Nat} {d : D}, RepA K ρ H vs ds → ds[i]? = some d → ∃ v, vs[i]? = some v ∧ Rep K ρ H v d
  | _, _, _, _, .nil, e => by simp at e
  | _, _, 0, _, .cons h _, e => ⟨_, rfl, by simp at e; exact e ▸ h⟩
  | _, _, i + 1, _, .cons _ t, e => by
    obtain ⟨d, h1, h2⟩ := RepA.at (i := i) t (by simpa using e)
    exact ⟨d, by simpa using h1, h2⟩
theorem RepA.append : ∀ {vs us : List V} {ds es : List D}, RepA K ρ H vs ds → RepA K ρ H us es → RepA K ρ H (vs ++ us) (ds ++ es)
  | _, _, _, _, .nil, s => s
  | _, _, _, _, .cons r t, s => .cons r (RepA.append t s)
theorem RepA.take : ∀ {vs : List V} {ds : List D} (n : Nat), RepA K ρ H vs ds → RepA K ρ H (vs.take n) (ds.take n)
  | _, _, 0, _ => .nil
  | _, _, _ + 1, .nil => .nil
  | _, _, n + 1, .cons r t => .cons r (RepA.take n t)
theorem RepA.drop : ∀ {vs : List V} {ds : List D} (n : Nat), RepA K ρ H vs ds → RepA K ρ H (vs.drop n) (ds.drop n)
  | _, _, 0, r => r
  | _, _, _ + 1, .nil => .nil
  | _, _, n + 1, .cons _ t => RepA.drop n t
theorem RepA.set {v : V} {d : D} (r : Rep K ρ H v d) : ∀ {vs : List V} {ds : List D} (i : Nat), RepA K ρ H vs ds → RepA K ρ H (vs.set i v) (ds.set i d)
  | _, _, _, .nil => .nil
  | _, _, 0, .cons _ t => .cons r t
  | _, _, i + 1, .cons q t => .cons q (RepA.set r i t)
theorem RepA.dropLast {vs : List V} {ds : List D} (h : RepA K ρ H vs ds) : RepA K ρ H vs.dropLast ds.dropLast := by
  rw [List.dropLast_eq_take, List.dropLast_eq_take, h.len]
  exact h.take _
theorem RepA.rep {vs : List V} {ds : List D} (h : RepA K ρ H vs ds) : ∀ n : Nat, RepA K ρ H (List.replicate n vs).flatten (List.replicate n ds).flatten
  | 0 => .nil
  | n + 1 => by
    rw [List.replicate_succ, List.replicate_succ, List.flatten_cons, List.flatten_cons]
    exact h.append (RepA.rep h n)
theorem RepA.ints : ∀ (ns : List Int), RepA K ρ H (ns.map V.int) (ns.map D.int)
  | [] => .nil
  | n :: ns => .cons (.int n) (RepA.ints ns)
end
structure Sc where
  K : PySem.W.Frag
  T : List (Addr × Str)
  C : Nat → Addr
mutual
def dK : NestedKey → D
  | .none => .non
  | .num i => .int i
  | .text x => .str x
  | .tup ks => .tup (dKs ks)
def dKs : List NestedKey → List D
  | [] => []
  | k :: ks => dK k :: dKs ks
end
def DRel (K : PySem.W.Frag) (ρ : List Addr) (H : Hp) : List NE → List (NestedKey × D) → Prop := Paired fun x kv => x.1 = kv.1 ∧ pureK kv.1 = true ∧ kv.1.depth ≤ 8 ∧ Rep K ρ H (.ref x.2.1) (dK kv.1) ∧ Rep K ρ H x.2.2 kv.2
theorem DRel.mono {K : PySem.W.Frag} {ρ ρ' : List Addr} {H H' : Hp} (e : Ext ρ H ρ' H') {xs : List NE} {kvs : List (NestedKey × D)} (h : DRel K ρ H xs kvs) : DRel K ρ' H' xs kvs :=
  Paired.mapP h fun _ _ ⟨a, b, c, d, f⟩ => ⟨a, b, c, Rep.mono e _ _ d, Rep.mono e _ _ f⟩
def CellOk (K : PySem.W.Frag) (ρ : List Addr) (H : Hp) (a : Addr) : Cell → Prop
  | .lst ds => ∃ xs, H a = some (.lst xs) ∧ RepA K ρ H xs ds
  | .dic kvs => ∃ xs, H a = some (NdO a xs) ∧ DRel K ρ H xs kvs
structure MemOk (S : Sc) (ρ : List Addr) (H : Hp) (M : Mem) : Prop where
  len : ρ.length = M.length
  nd : ρ.Nodup
  cell : ∀ (n : Nat) (a : Addr) (c : Cell), ρ[n]? = some a → M[n]? = some c → CellOk S.K ρ H a c
  tab : LamX.Tabs S.T H
theorem CellOk.some {K : PySem.W.Frag} {ρ : List Addr} {H : Hp} {a : Addr} {c : Cell} (h : CellOk K ρ H a c) : H a ≠ none := by
  cases c with
  | lst ds => obtain ⟨xs, e, _⟩ := h; rw [e]; exact fun z => nomatch z
  | dic kvs => obtain ⟨xs, e, _⟩ := h; rw [e]; exact fun z => nomatch z
theorem CellOk.ext {K : PySem.W.Frag} {ρ ρ' : List Addr} {H H' : Hp} {a : Addr} {c : Cell} (h : CellOk K ρ H a c) (e : Ext ρ H ρ' H') (k : H' a = H a) : CellOk K ρ' H' a c := by
  cases c with
  | lst ds => obtain ⟨xs, e1, r⟩ := h; exact ⟨xs, k.trans e1, RepA.mono e _ _ r⟩
  | dic kvs => obtain ⟨xs, e1, r⟩ := h; exact ⟨xs, k.trans e1, DRel.mono e r⟩
section
variable {S : Sc} {ρ : List Addr} {H : Hp} {M : Mem}
theorem MemOk.at (m : MemOk S ρ H M) {n : Nat} {a : Addr} (h : ρ[n]? = some a) : ∃ c, M[n]? = some c ∧ CellOk S.K ρ H a c := by
  have hn := (List.getElem?_eq_some_iff.mp h).1
  rw [m.len] at hn
  exact ⟨_, List.getElem?_eq_getElem hn, m.cell n a _ h (List.getElem?_eq_getElem hn)⟩
theorem MemOk.there (m : MemOk S ρ H M) {a : Addr} (h : a ∈ ρ) : H a ≠ none := by
  obtain ⟨n, hn, e⟩ := List.getElem_of_mem h
  obtain ⟨c, _, ok⟩ := m.at (n := n) (a := a) (by rw [List.getElem?_eq_getElem hn, e])
  exact ok.some
theorem MemOk.new (m : MemOk S ρ H M) {p : Addr} (h : H p = none) : p ∉ ρ := fun z => m.there z h
end
def Stp (S : Sc) (ρ : List Addr) (H : Hp) (ρ' : List Addr) (H' : Hp) (M : Mem) : Prop := Ext ρ H ρ' H' ∧ MemOk S ρ' H' M
section
variable {S : Sc} {ρ : List Addr} {H : Hp} {M : Mem}
theorem Stp.refl (m : MemOk S ρ H M) : Stp S ρ H ρ H M := ⟨Ext.refl ρ H, m⟩
theorem Ext.fresh {p : Addr} {o : HO} (h : H p = none) : Ext ρ H ρ (upd H p o) := by
  refine ⟨⟨[], by simp, by simp⟩, fun a u e _ _ => by rw [upd_ne (ne_of_none e h)]; exact e, fun a ⟨u, e, t⟩ => ⟨u, by rw [upd_ne (ne_of_none e h)]; exact e, t⟩⟩
theorem Stp.fresh (m : MemOk S ρ H M) {p : Addr} {o : HO} (h : H p = none) : Stp S ρ H ρ (upd H p o) M := by
  have e : Ext ρ H ρ (upd H p o) := Ext.fresh h
  refine ⟨e, m.len, m.nd, fun n a c h1 h2 => ?_, m.tab.ext fun b u q => by rw [upd_ne (ne_of_none q h)]; exact q⟩
  have ok := m.cell n a c h1 h2
  refine ok.ext e (upd_ne ?_)
  intro z
  exact ok.some (by rw [z]; exact h)
theorem Stp.alloc (m : MemOk S ρ H M) {p : Addr} {xs : List V} {ds : List D} (h : H p = none) (r : RepA S.K ρ H xs ds) : Stp S ρ H (ρ ++ [p]) (upd H p (.lst xs)) (M ++ [.lst ds]) := by
  have e : Ext ρ H (ρ ++ [p]) (upd H p (.lst xs)) := by
    refine ⟨⟨[p], rfl, fun a ha => ?_⟩, (Ext.fresh (ρ := ρ) h).keep, (Ext.fresh (ρ := ρ) h).live⟩
    rw [List.mem_singleton.mp ha]
    exact Th.none h
  refine ⟨e, ?_, ?_, fun n a c h1 h2 => ?_, m.tab.ext fun b u q => by rw [upd_ne (ne_of_none q h)]; exact q⟩
  · rw [List.length_append, List.length_append, m.len]
    rfl
  · refine List.nodup_append.mpr ⟨m.nd, by simp, ?_⟩
    intro a ha b hb
    rw [List.mem_singleton.mp hb]
    rintro rfl
    exact m.new h ha
  · by_cases hn : n < ρ.length
    · rw [List.getElem?_append_left hn] at h1
      rw [List.getElem?_append_left (by rw [← m.len]; exact hn)] at h2
      have ok := m.cell n a c h1 h2
      refine ok.ext e (upd_ne ?_)
      intro z
      exact ok.some (by rw [z]; exact h)
    · rw [List.getElem?_append_right (by omega)] at h1
      rw [List.getElem?_append_right (by rw [← m.len]; omega)] at h2
      have e0 : n - ρ.length = 0 := by
        have := (List.getElem?_eq_some_iff.mp h1).1
        simp at this
        omega
      rw [← m.len] at h2
      rw [e0] at h1 h2
      simp at h1 h2
      subst h1 h2
      exact ⟨xs, upd_same, RepA.mono e _ _ r⟩
theorem Stp.put (m : MemOk S ρ H M) {n : Nat} {a : Addr} {ds0 : List D} {xs : List V} {ds : List D} (h : ρ[n]? = some a) (h2 : M[n]? = some (.lst ds0)) (r : RepA S.K ρ H xs ds) : Stp S ρ H ρ (upd H a (.lst xs)) (M.set n (.lst ds)) := by
  obtain ⟨ys, ey, _⟩ := m.cell n a _ h h2
  have ha : a ∈ ρ := List.mem_of_getElem? h
  have e : Ext ρ H ρ (upd H a (.lst xs)) := by
    refine ⟨⟨[], by simp, by simp⟩, fun b u q nb _ => by rw [upd_ne (fun z => nb (by rw [z]; exact ha))]; exact q, fun b ⟨u, q, t⟩ => ?_⟩
    by_cases hb : b = a
    · exact ⟨.lst xs, by rw [hb, upd_same], fun _ z => nomatch z⟩
    · exact ⟨u, by rw [upd_ne hb]; exact q, t⟩
  refine ⟨e, by rw [List.length_set]; exact m.len, m.nd, fun k b c h1 h3 => ?_, HX.Tabs.kp m.tab ey (Kp.put rfl)⟩
  by_cases hk : k = n
  · subst hk
    rw [h] at h1
    cases h1
    rw [List.getElem?_set_self (List.getElem?_eq_some_iff.mp h2).1] at h3
    cases h3
    exact ⟨xs, upd_same, RepA.mono e _ _ r⟩
  · rw [List.getElem?_set_ne (Ne.symm hk)] at h3
    have ok := m.cell k b c h1 h3
    refine ok.ext e (upd_ne ?_)
    intro z
    subst z
    exact hk ((List.getElem?_inj (List.getElem?_eq_some_iff.mp h1).1 m.nd).mp (h1.trans h.symm))
end
inductive Res (α : Type) where
  | ok (x : α) (M : Mem) | exc (c : Nat) (fs : List (Str × D)) (M : Mem) | bad
def Res.bind {α β : Type} : Res α → (α → Mem → Res β) → Res β
  | .ok x M, k => k x M
  | .exc c fs M, _ => .exc c fs M
  | .bad, _ => .bad
abbrev F (α : Type) := Sa → Mem → Res α
def XRep (K : PySem.W.Frag) (ρ : List Addr) (H : Hp) : Option Addr → List (Str × D) → Prop
  | none, fs => fs = []
  | some a, fs => a ∉ ρ ∧ ∃ vs, H a = some (.xd vs) ∧ vs.map (·.1) = fs.map (·.1) ∧ RepA K ρ H (vs.map (·.2)) (fs.map (·.2)) ∧ fs ≠ []
def Post {α β : Type} (S : Sc) (W : WX) (R : List Addr → Hp → β → α → Prop) (σ : L2.St) (ρ : List Addr) (H : Hp) (Q : β → Hp → Prop) : Res α → Prop
  | .ok x M => ∀ ρ' H' v, Stp S ρ H ρ' H' M → R ρ' H' v x → Q v H'
  | .exc c fs M => ∀ ρ' H' d, Stp S ρ H ρ' H' M → XRep S.K ρ' H' d fs → W (.ref (S.C c)) d σ H'
  | .bad => False
def RepSt (K : PySem.W.Frag) (ρ : List Addr) (H : Hp) (σ : L2.St) (σa : Sa) : Prop := σ.length = σa.length ∧ ∀ (i : Nat) (d : D), σa[i]? = some (some d) → ∃ v, σ[i]? = some (some v) ∧ Rep K ρ H v d
def tOf {α β : Type} (S : Sc) (W : WX) (R : List Addr → Hp → β → α → Prop) (f : F α) : L2.St → Hp → (β → Hp → Prop) → Prop := fun σ H Q => ∃ ρ M σa, MemOk S ρ H M ∧ RepSt S.K ρ H σ σa ∧ Post S W R σ ρ H Q (f σa M)
theorem RepSt.mono {K : PySem.W.Frag} {ρ ρ' : List Addr} {H H' : Hp} {σ : L2.St} {σa : Sa} (h : RepSt K ρ H σ σa) (e : Ext ρ H ρ' H') : RepSt K ρ' H' σ σa := ⟨h.1, fun i d q => let ⟨v, h1, h2⟩ := h.2 i d q; ⟨v, h1, Rep.mono e _ _ h2⟩⟩
section
variable {α β γ δ : Type} {S : Sc} {W : WX} {R : List Addr → Hp → β → α → Prop} {R2 : List Addr → Hp → δ → γ → Prop} {σ : L2.St} {σa : Sa} {ρ ρ' : List Addr} {H H' : Hp} {M : Mem}
theorem Post.mono {Q : β → Hp → Prop} {r : Res α} (h : Post S W R σ ρ H Q r) (e : Ext ρ H ρ' H') : Post S W R σ ρ' H' Q r := by
  cases r with
  | ok x M => exact fun ρ2 H2 v st => h ρ2 H2 v ⟨e.trans st.1, st.2⟩
  | exc c fs M => exact fun ρ2 H2 d st => h ρ2 H2 d ⟨e.trans st.1, st.2⟩
  | bad => exact h
theorem use {f : F α} {k : α → Mem → Res γ} {Q : β → Hp → Prop} {Q2 : δ → Hp → Prop} (mo : MemOk S ρ H M) (rs : RepSt S.K ρ H σ σa) (h : Post S W R2 σ ρ H Q2 ((f σa M).bind k))
    (c : ∀ x M1 ρ1 H1 v, Stp S ρ H ρ1 H1 M1 → R ρ1 H1 v x → RepSt S.K ρ1 H1 σ σa → Post S W R2 σ ρ1 H1 Q2 (k x M1) → Q v H1) : tOf S W R f σ H Q := by
  refine ⟨ρ, M, σa, mo, rs, ?_⟩
  cases e : f σa M with
  | ok x M1 =>
    rw [e] at h
    intro ρ1 H1 v st r
    exact c x M1 ρ1 H1 v st r (rs.mono st.1) (Post.mono h st.1)
  | exc c2 fs M1 => rw [e] at h; exact h
  | bad => rw [e] at h; exact h
end
section
variable {X : Cx}
theorem PE.imp {e : Expr} {t t' : TE} (h : PE X e t) (w : ∀ σ H Q, t' σ H Q → t σ H Q) : PE X e t' := ⟨fun pins s σ H Q I q => h.run pins s σ H Q I (w σ H Q q)⟩
theorem PT.imp {e : Expr} {t t' : TT} (h : PT X e t) (w : ∀ σ H Q, t' σ H Q → t σ H Q) : PT X e t' := ⟨fun pins s σ H Q I q => h.run pins s σ H Q I (w σ H Q q)⟩
theorem PW.imp {e : Expr} {t t' : TT} (h : PW X e t) (w : ∀ σ H Q, t' σ H Q → t σ H Q) : PW X e t' := ⟨fun wh pins s σ H Q I q => h.run wh pins s σ H Q I (w σ H Q q)⟩
theorem PA.imp {es : List Expr} {t t' : TA} (h : PA X es t) (w : ∀ σ H Q, t' σ H Q → t σ H Q) : PA X es t' := ⟨fun pos pins s σ H Q I q => h.run pos pins s σ H Q I (w σ H Q q)⟩
theorem PS.imp {st : Stmt} {t t' : TS} (h : PS X st t) (w : ∀ D σ H, t' D σ H → t D σ H) : PS X st t' := ⟨fun pins s σ H D I q => h.run pins s σ H D I (w D σ H q)⟩
theorem PSs.imp {st : List Stmt} {t t' : TS} (h : PSs X st t) (w : ∀ D σ H, t' D σ H → t D σ H) : PSs X st t' := ⟨fun pins s σ H D I q => h.run pins s σ H D I (w D σ H q)⟩
theorem PI.imp {tg e : Expr} {t t' : TI} (h : PI X tg e t) (w : ∀ σ H R, t' σ H R → t σ H R) : PI X tg e t' := ⟨fun pins s σ H R I q => h.run pins s σ H R I (w σ H R q)⟩
end
abbrev QE (S : Sc) (W : WX) (X : Cx) (e : Expr) (f : F D) : Prop := PE X e (tOf S W (Rep S.K) f)
def REq {α : Type} : List Addr → Hp → α → α → Prop := fun _ _ a b => a = b
abbrev QT (S : Sc) (W : WX) (X : Cx) (e : Expr) (f : F Bool) : Prop := PT X e (tOf S W REq f)
abbrev QW (S : Sc) (W : WX) (X : Cx) (e : Expr) (f : F Bool) : Prop := PW X e (tOf S W REq f)
abbrev QA (S : Sc) (W : WX) (X : Cx) (es : List Expr) (f : F (List D)) : Prop := PA X es (tOf S W (RepA S.K) f)
end QX
set_option maxRecDepth 100000
set_option maxHeartbeats 1000000
namespace QX
open PySem PySem.Spec PyProof.Rows L2 HX
section
variable {X : Cx} {S : Sc} {W : WX} {e a b c : Expr} {pos : Pos}
def fVar (i : Nat) : F D := fun σ M => match σ[i]? with | some (some d) => .ok d M | _ => .bad
def fC (d : D) : F D := fun _ M => .ok d M
theorem qe_var {i : Nat} (h : PE X e (tVar i)) : QE S W X e (fVar i) := PE.imp h fun σ H Q ⟨ρ, M, σa, mo, rs, p⟩ => by
  unfold fVar at p
  split at p
  · rename_i d hd
    obtain ⟨v, e1, r⟩ := rs.2 _ _ hd
    exact ⟨v, e1, p ρ H v (Stp.refl mo) r⟩
  · exact p.elim
theorem qe_c {v : V} {d : D} (h : PE X e (tC v)) (r : ∀ K ρ H, Rep K ρ H v d) : QE S W X e (fC d) := PE.imp h fun σ H Q ⟨ρ, M, σa, mo, rs, p⟩ => p ρ H v (Stp.refl mo) (r _ _ _)
theorem qe_int {i j pos} : QE S W X (.Constant (.int i) j pos) (fC (.int i)) := qe_c pe_int fun _ _ _ => .int i
theorem qe_bl {i j pos} : QE S W X (.Constant (.bool i) j pos) (fC (.bl i)) := qe_c pe_bl fun _ _ _ => .bl i
theorem qe_non {j pos} : QE S W X (.Constant .none j pos) (fC .non) := qe_c pe_non fun _ _ _ => .non
theorem qe_str {i j pos} : QE S W X (.Constant (.str i) j pos) (fC (.str i)) := qe_c pe_str fun _ _ _ => .str i
theorem qe_gint {x : Str} {i : Int} (h : PE X e (tC (.int i))) : QE S W X e (fC (.int i)) := qe_c h fun _ _ _ => .int i
theorem qe_adr {v : V} (h : PE X e (tC v)) : QE S W X e (fC (.adr v)) := qe_c h fun _ _ _ => .adr v
def fBin (g : D → D → Mem → Res D) (fa fb : F D) : F D := fun σ M => (fa σ M).bind fun x M1 => (fb σ M1).bind fun y M2 => g x y M2
def OpQ (S : Sc) (r : R2) (g : D → D → Mem → Res D) : Prop := ∀ (W : WX) (σ : L2.St) (ρ : List Addr) (H : Hp) (M : Mem) (x y : V) (dx dy : D) (Q : VK), MemOk S ρ H M → Rep S.K ρ H x dx → Rep S.K ρ H y dy → Post S W (Rep S.K) σ ρ H Q (g dx dy M) → r x y H Q
theorem bin_imp {r : R2} {g : D → D → Mem → Res D} {fa fb : F D} (hq : OpQ S r g) {σ : L2.St} {H : Hp} {Q : VK} (h : tOf S W (Rep S.K) (fBin g fa fb) σ H Q) : tOp r (tOf S W (Rep S.K) fa) (tOf S W (Rep S.K) fb) σ H Q := by
  obtain ⟨ρ, M, σa, mo, rs, p⟩ := h
  exact use mo rs p fun x M1 ρ1 H1 v st1 r1 rs1 p1 => use st1.2 rs1 p1 fun y M2 ρ2 H2 u st2 r2 rs2 p2 => hq _ _ _ _ _ _ _ _ _ _ st2.2 (Rep.mono st2.1 _ _ r1) r2 p2
variable {fa fb fc : F D}
theorem qe_bin {op : Operator} {r : R2} {g : D → D → Mem → Res D} (ho : OpR X (binaryOp op) r) (hq : OpQ S r g) (ha : QE S W X a fa) (hb : QE S W X b fb) : QE S W X (.BinOp a op b pos) (fBin g fa fb) :=
  PE.imp (pe_op ho ha hb) fun _ _ _ h => bin_imp hq h
theorem qe_cmp {op : CmpOp} {r : R2} {g : D → D → Mem → Res D} (ho : OpR X (compareOp op) r) (hq : OpQ S r g) (ha : QE S W X a fa) (hb : QE S W X b fb) (hm : behindInMarks op b = false) : QE S W X (.Compare a [op] [b] pos) (fBin g fa fb) :=
  PE.imp (pe_cmpR ho ha hb hm) fun _ _ _ h => bin_imp hq h
def fTest (f : F D) : F Bool := fun σ M => (f σ M).bind fun d M1 => match d with | .bl b => .ok b M1 | _ => .bad
theorem test_imp {f : F D} {σ : L2.St} {H : Hp} {Q : Bool → Hp → Prop} (h : tOf S W REq (fTest f) σ H Q) : tOf S W (Rep S.K) f σ H fun x H' => ∃ k, x = .bl k ∧ Q k H' := by
  obtain ⟨ρ, M, σa, mo, rs, p⟩ := h
  refine use mo rs p fun x M1 ρ1 H1 v st1 r1 rs1 p1 => ?_
  cases x with
  | bl b =>
    cases r1
    exact ⟨b, rfl, p1 ρ1 H1 b (Stp.refl st1.2) rfl⟩
  | _ => exact False.elim p1
theorem qt_cmp {op : CmpOp} {r : R2} {g : D → D → Mem → Res D} (ho : OpR X (compareOp op) r) (hq : OpQ S r g) (ha : QE S W X a fa) (hb : QE S W X b fb) (hm : behindInMarks op b = false) : QT S W X (.Compare a [op] [b] pos) (fTest (fBin g fa fb)) :=
  PT.imp (pt_cmpR ho ha hb hm) fun _ _ _ h => bin_imp hq (test_imp h)
theorem qt_val (h : QE S W X a fa) (he : ∀ whole, isTrue a X.env whole = (do let v ← whole; standAt a.pos; holding [v] (truthy v)) := by intro _; rfl) : QT S W X a (fTest fa) := PT.imp (pt_val h he) fun _ _ _ h => test_imp h
def fChain (g g' : D → D → Mem → Res D) (fa fb fc : F D) : F D := fun σ M => (fa σ M).bind fun x M1 => (fb σ M1).bind fun y M2 => (g x y M2).bind fun z M3 => match z with
  | .bl true => (fc σ M3).bind fun w M4 => g' y w M4
  | .bl false => .ok (.bl false) M3
  | _ => .bad
def Flat (g : D → D → Mem → Res D) : Prop := ∀ x y M, (∃ b, g x y M = .ok (.bl b) M) ∨ g x y M = .bad
theorem chain_imp {r r' : R2} {g g' : D → D → Mem → Res D} (hf : Flat g) (hq : OpQ S r g) (hq' : OpQ S r' g') {σ : L2.St} {H : Hp} {Q : VK} (h : tOf S W (Rep S.K) (fChain g g' fa fb fc) σ H Q) : tChain r r' (tOf S W (Rep S.K) fa) (tOf S W (Rep S.K) fb) (tOf S W (Rep S.K) fc) σ H Q := by
  obtain ⟨ρ, M, σa, mo, rs, p⟩ := h
  refine use mo rs p fun x M1 ρ1 H1 v st1 r1 rs1 p1 => use st1.2 rs1 p1 fun y M2 ρ2 H2 u st2 r2 rs2 p2 => ?_
  refine hq W σ ρ2 H2 M2 _ _ _ _ _ st2.2 (Rep.mono st2.1 _ _ r1) r2 ?_
  rcases hf x y M2 with ⟨k, e⟩ | e
  · rw [e] at p2 ⊢
    intro ρ3 H3 w st3 r3
    cases r3
    refine ⟨k, rfl, ?_⟩
    have p3 := Post.mono p2 st3.1
    cases k with
    | false => exact p3 ρ3 H3 _ (Stp.refl st3.2) (.bl false)
    | true =>
      refine use st3.2 (rs2.mono st3.1) p3 fun z M4 ρ4 H4 w' st4 r4 rs4 p4 => ?_
      exact hq' W σ ρ4 H4 M4 _ _ _ _ _ st4.2 (Rep.mono (st3.1.trans st4.1) _ _ r2) r4 p4
  · rw [e] at p2
    exact p2.elim
theorem qe_chain {op op' : CmpOp} {r r' : R2} {g g' : D → D → Mem → Res D} (ho : OpR X (compareOp op) r) (ho' : OpR X (compareOp op') r') (hf : Flat g) (hq : OpQ S r g) (hq' : OpQ S r' g') (ha : QE S W X a fa) (hb : QE S W X b fb) (hc : QE S W X c fc)
    (hm : lastMarks [op, op'] [b, c] = false := by with_unfolding_all rfl) : QE S W X (.Compare a [op, op'] [b, c] pos) (fChain g g' fa fb fc) := PE.imp (pe_chain ho ho' ha hb hc hm) fun _ _ _ h => chain_imp hf hq hq' h
variable {ga gb : F Bool} {rest : List Expr}
def fAndT (ga gb : F Bool) : F Bool := fun σ M => (ga σ M).bind fun c M1 => if c = true then gb σ M1 else .ok false M1
def fOrT (ga gb : F Bool) : F Bool := fun σ M => (ga σ M).bind fun c M1 => if c = true then .ok true M1 else gb σ M1
def fNotT (ga : F Bool) : F Bool := fun σ M => (ga σ M).bind fun c M1 => .ok (!c) M1
theorem qw_and1 (ha : QT S W X a ga) : QW S W X (.BoolOp .And [a] pos) ga := pw_and1 ha
theorem qw_or1 (ha : QT S W X a ga) : QW S W X (.BoolOp .Or [a] pos) ga := pw_or1 ha
theorem qw_and (ha : QT S W X a ga) (hb : QW S W X (.BoolOp .And (b :: rest) pos) gb) : QW S W X (.BoolOp .And (a :: b :: rest) pos) (fAndT ga gb) := PW.imp (pw_and ha hb) fun σ H Q ⟨ρ, M, σa, mo, rs, p⟩ => by
  refine use mo rs p fun x M1 ρ1 H1 v st1 r1 rs1 p1 => ?_
  cases (show v = x from r1)
  cases x with
  | true => exact ⟨ρ1, M1, σa, st1.2, rs1, p1⟩
  | false => exact p1 ρ1 H1 _ (Stp.refl st1.2) rfl
theorem qw_or (ha : QT S W X a ga) (hb : QW S W X (.BoolOp .Or (b :: rest) pos) gb) : QW S W X (.BoolOp .Or (a :: b :: rest) pos) (fOrT ga gb) := PW.imp (pw_or ha hb) fun σ H Q ⟨ρ, M, σa, mo, rs, p⟩ => by
  refine use mo rs p fun x M1 ρ1 H1 v st1 r1 rs1 p1 => ?_
  cases (show v = x from r1)
  cases x with
  | false => exact ⟨ρ1, M1, σa, st1.2, rs1, p1⟩
  | true => exact p1 ρ1 H1 _ (Stp.refl st1.2) rfl
theorem qt_pw (h : QW S W X a ga) : QT S W X a ga := PW.pt h
theorem qt_not (ha : QT S W X a ga) : QT S W X (.UnaryOp .Not a pos) (fNotT ga) := PT.imp (pt_not ha) fun σ H Q ⟨ρ, M, σa, mo, rs, p⟩ => by
  refine use mo rs p fun x M1 ρ1 H1 v st1 r1 rs1 p1 => ?_
  cases (show v = x from r1)
  exact p1 ρ1 H1 _ (Stp.refl st1.2) rfl
def fAnd (fa fb : F D) : F D := fun σ M => (fa σ M).bind fun x M1 => match x with | .bl true => fb σ M1 | .bl false => .ok (.bl false) M1 | _ => .bad
def fOr (fa fb : F D) : F D := fun σ M => (fa σ M).bind fun x M1 => match x with | .bl true => .ok (.bl true) M1 | .bl false => fb σ M1 | _ => .bad
def fNot (fa : F D) : F D := fun σ M => (fa σ M).bind fun x M1 => match x with | .bl b => .ok (.bl (!b)) M1 | _ => .bad
theorem qe_one {op} (h : QE S W X a fa) : QE S W X (.BoolOp op [a] pos) fa := pe_one h
theorem qe_and (ha : QE S W X a fa) (hb : QE S W X (.BoolOp .And (b :: rest) pos) fb) : QE S W X (.BoolOp .And (a :: b :: rest) pos) (fAnd fa fb) := PE.imp (pe_and ha hb) fun σ H Q ⟨ρ, M, σa, mo, rs, p⟩ => by
  refine use mo rs p fun x M1 ρ1 H1 v st1 r1 rs1 p1 => ?_
  cases x with
  | bl k =>
    cases r1
    refine ⟨k, rfl, ?_⟩
    cases k with
    | true => exact ⟨ρ1, M1, σa, st1.2, rs1, p1⟩
    | false => exact p1 ρ1 H1 _ (Stp.refl st1.2) (.bl false)
  | _ => exact False.elim p1
theorem qe_or (ha : QE S W X a fa) (hb : QE S W X (.BoolOp .Or (b :: rest) pos) fb) : QE S W X (.BoolOp .Or (a :: b :: rest) pos) (fOr fa fb) := PE.imp (pe_or ha hb) fun σ H Q ⟨ρ, M, σa, mo, rs, p⟩ => by
  refine use mo rs p fun x M1 ρ1 H1 v st1 r1 rs1 p1 => ?_
  cases x with
  | bl k =>
    cases r1
    refine ⟨k, rfl, ?_⟩
    cases k with
    | false => exact ⟨ρ1, M1, σa, st1.2, rs1, p1⟩
    | true => exact p1 ρ1 H1 _ (Stp.refl st1.2) (.bl true)
  | _ => exact False.elim p1
theorem qe_not (ha : QE S W X a fa) : QE S W X (.UnaryOp .Not a pos) (fNot fa) := PE.imp (pe_not ha) fun σ H Q ⟨ρ, M, σa, mo, rs, p⟩ => by
  refine use mo rs p fun x M1 ρ1 H1 v st1 r1 rs1 p1 => ?_
  cases x with
  | bl k =>
    cases r1
    exact ⟨k, rfl, p1 ρ1 H1 _ (Stp.refl st1.2) (.bl _)⟩
  | _ => exact False.elim p1
def fIf (g : F Bool) (fa fb : F D) : F D := fun σ M => (g σ M).bind fun c M1 => if c = true then fa σ M1 else fb σ M1
theorem qe_if (hc : QT S W X c ga) (ha : QE S W X a fa) (hb : QE S W X b fb) : QE S W X (.IfExp c a b pos) (fIf ga fa fb) := PE.imp (pe_ifExp hc ha hb) fun σ H Q ⟨ρ, M, σa, mo, rs, p⟩ => by
  refine use mo rs p fun x M1 ρ1 H1 v st1 r1 rs1 p1 => ?_
  cases (show v = x from r1)
  cases x with
  | true => exact ⟨ρ1, M1, σa, st1.2, rs1, p1⟩
  | false => exact ⟨ρ1, M1, σa, st1.2, rs1, p1⟩
variable {es : List Expr} {fs : F (List D)}
def fNil : F (List D) := fun _ M => .ok [] M
def fCons (fa : F D) (fs : F (List D)) : F (List D) := fun σ M => (fa σ M).bind fun x M1 => (fs σ M1).bind fun xs M2 => .ok (x :: xs) M2
theorem qa_nil : QA S W X [] fNil := PA.imp pa_nil fun σ H Q ⟨ρ, M, σa, mo, rs, p⟩ => p ρ H [] (Stp.refl mo) .nil
theorem qa_cons (ha : QE S W X e fa) (hr : QA S W X es fs) (hs : starEach (e :: es) X.env = (false, eval e X.env) :: starEach es X.env := by rfl) : QA S W X (e :: es) (fCons fa fs) := PA.imp (pa_cons ha hr hs) fun σ H Q ⟨ρ, M, σa, mo, rs, p⟩ =>
  use mo rs p fun x M1 ρ1 H1 v st1 r1 rs1 p1 => use st1.2 rs1 p1 fun y M2 ρ2 H2 u st2 r2 rs2 p2 => p2 ρ2 H2 _ (Stp.refl st2.2) (.cons (Rep.mono st2.1 _ _ r1) r2)
abbrev few (n : Nat) : Bool := Nat.ble n 16777216
theorem few_ok {n : Nat} (h : few n = true) : n ≤ sizeLine := by rw [sizeLine_eq]; exact Nat.le_of_ble_eq_true h
theorem ok_few {n : Nat} (h : n ≤ sizeLine) : few n = true := by rw [sizeLine_eq] at h; exact Nat.ble_eq_true_of_le h
def fTup (fs : F (List D)) : F D := fun σ M => (fs σ M).bind fun ds M1 => if few ds.length = true then .ok (.tup ds) M1 else .bad
def fLst (fs : F (List D)) : F D := fun σ M => (fs σ M).bind fun ds M1 => if few ds.length = true then .ok (.lst ds) M1 else .bad
def fNew (fs : F (List D)) : F D := fun σ M => (fs σ M).bind fun ds M1 => if few ds.length = true then .ok (.ref M1.length) (M1 ++ [.lst ds]) else .bad
theorem rep_tup {ρ : List Addr} {H : Hp} {M : Mem} {p : Addr} {o : Obj} {xs : List V} {ds : List D} (m : MemOk S ρ H M) (h : H p = none) (ho : o.dict = none) (r : RepA S.K ρ H xs ds) : Rep S.K ρ (upd H p (.frz o (.tup xs))) (.ref p) (.tup ds) :=
  .tup ⟨o, ho, upd_same⟩ (m.new h) (RepA.mono (Ext.fresh h) _ _ r)
theorem rep_lst {ρ : List Addr} {H : Hp} {M : Mem} {p : Addr} {xs : List V} {ds : List D} (m : MemOk S ρ H M) (h : H p = none) (r : RepA S.K ρ H xs ds) : Rep S.K ρ (upd H p (.lst xs)) (.ref p) (.lst ds) :=
  .lst upd_same (m.new h) (RepA.mono (Ext.fresh h) _ _ r)
theorem rep_new {ρ : List Addr} {H H' : Hp} {M : Mem} {p : Addr} (m : MemOk S ρ H M) : Rep S.K (ρ ++ [p]) H' (.ref p) (.ref M.length) := by
  refine .ref ?_
  rw [← m.len, List.getElem?_append_right (Nat.le_refl _), Nat.sub_self]
  rfl
theorem qe_tup {x1} (h : QA S W X es fs) : QE S W X (.Tuple es x1 pos) (fTup fs) := PE.imp (pe_tupF h) fun σ H Q ⟨ρ, M, σa, mo, rs, p⟩ => by
  refine use mo rs p fun ds M1 ρ1 H1 vs st1 r1 rs1 p1 => ?_
  split at p1
  · rename_i hf
    exact ⟨by rw [r1.len]; exact few_ok hf, fun q o hq ho => p1 ρ1 _ _ (Stp.fresh st1.2 hq) (rep_tup st1.2 hq ho r1)⟩
  · exact p1.elim
theorem qe_lst (h : QA S W X es fs) : QE S W X (.List es pos) (fLst fs) := PE.imp (pe_lst h) fun σ H Q ⟨ρ, M, σa, mo, rs, p⟩ => by
  refine use mo rs p fun ds M1 ρ1 H1 vs st1 r1 rs1 p1 => ?_
  split at p1
  · rename_i hf
    exact ⟨by rw [r1.len]; exact few_ok hf, fun q hq => p1 ρ1 _ _ (Stp.fresh st1.2 hq) (rep_lst st1.2 hq r1)⟩
  · exact p1.elim
theorem qe_new (h : QA S W X es fs) : QE S W X (.List es pos) (fNew fs) := PE.imp (pe_lst h) fun σ H Q ⟨ρ, M, σa, mo, rs, p⟩ => by
  refine use mo rs p fun ds M1 ρ1 H1 vs st1 r1 rs1 p1 => ?_
  split at p1
  · rename_i hf
    exact ⟨by rw [r1.len]; exact few_ok hf, fun q hq => p1 (ρ1 ++ [q]) _ _ (Stp.alloc st1.2 hq r1) (rep_new st1.2)⟩
  · exact p1.elim
end
def listOf (M : Mem) : D → Option (List D)
  | .lst ds => some ds
  | .ref n => match M[n]? with | some (.lst ds) => some ds | _ => none
  | _ => none
def seqOf (M : Mem) : D → Option (List D)
  | .tup ds => some ds
  | .scr ns => some (ns.map .int)
  | d => listOf M d
section
variable {S : Sc} {ρ : List Addr} {H : Hp} {M : Mem} {v : V} {d : D} {ds : List D}
theorem list_of (m : MemOk S ρ H M) (r : Rep S.K ρ H v d) (h : listOf M d = some ds) : ∃ a xs, v = .ref a ∧ H a = some (.lst xs) ∧ RepA S.K ρ H xs ds := by
  cases r with
  | lst e n ra => cases h; exact ⟨_, _, rfl, e, ra⟩
  | ref e =>
    rename_i a n
    unfold listOf at h
    dsimp only at h
    split at h
    · rename_i ds' hm
      cases h
      obtain ⟨xs, e1, ra⟩ := m.cell n a _ e hm
      exact ⟨a, xs, rfl, e1, ra⟩
    · cases h
  | _ => cases h
theorem scr_sq {K : PySem.W.Frag} {a : Addr} {ns : List Int} (h : ScrAt K ρ H a ns) : SqL K H a (ns.map V.int) := by
  rcases h with ⟨h, _⟩ | h
  · exact .inl h
  · exact .inr h
theorem seq_of (m : MemOk S ρ H M) (r : Rep S.K ρ H v d) (h : seqOf M d = some ds) : ∃ a xs, v = .ref a ∧ (SqL S.K H a xs ∨ SqT S.K H a xs) ∧ RepA S.K ρ H xs ds := by
  cases r with
  | tup f n ra =>
    cases h
    obtain ⟨o, _, e⟩ := f
    exact ⟨_, _, rfl, .inr (.inl (.inr ⟨o, e⟩)), ra⟩
  | scr f =>
    cases h
    exact ⟨_, _, rfl, .inl (scr_sq f), RepA.ints _⟩
  | lst e n ra => cases h; exact ⟨_, _, rfl, .inl (SqL.of e), ra⟩
  | ref e =>
    obtain ⟨a, xs, e0, e1, ra⟩ := list_of m (.ref e) h
    exact ⟨a, xs, e0, .inl (SqL.of e1), ra⟩
  | _ => cases h
theorem tup_of (r : Rep S.K ρ H v (.tup ds)) : ∃ a xs, v = .ref a ∧ SqT S.K H a xs ∧ RepA S.K ρ H xs ds ∧ FzT H a xs ∧ a ∉ ρ := by
  cases r with
  | tup f n ra =>
    obtain ⟨o, h1, e⟩ := id f
    exact ⟨_, _, rfl, .inl (.inr ⟨o, e⟩), ra, f, n⟩
theorem RepA.atI {xs : List V} {i : Int} (r : RepA S.K ρ H xs ds) (h : L2.atI ds i = some d) : ∃ v, L2.atI xs i = some v ∧ Rep S.K ρ H v d := by
  unfold L2.atI at h ⊢
  rw [r.len]
  cases e : ixN ds.length i with
  | none => rw [e] at h; cases h
  | some j => rw [e] at h; exact r.at h
end
def gIx : D → D → Mem → Res D
  | .str z, .int i, M => if few z.length = true then match atI z.cps.toList i with | some c => .ok (.str ⟨#[c]⟩) M | none => .bad else .bad
  | d, .int i, M => match seqOf M d with | some ds => (match atI ds i with | some d => .ok d M | none => .bad) | none => .bad
  | _, _, _ => .bad
theorem oq_ix {S : Sc} : OpQ S (rIx S.K) gIx := by
  intro W σ ρ H M x y dx dy Q mo rx ry p
  unfold gIx at p
  split at p
  · cases rx
    cases ry
    split at p
    · rename_i hf
      split at p
      · rename_i c hc
        exact .inr (.inr ⟨_, _, c, rfl, rfl, few_ok hf, hc, p ρ H _ (Stp.refl mo) (.str _)⟩)
      · exact p.elim
    · exact p.elim
  · cases ry
    split at p
    · rename_i ds hs
      split at p
      · rename_i d hd
        obtain ⟨a, xs, rfl, hq, ra⟩ := seq_of mo rx hs
        obtain ⟨v, hv, rv⟩ := ra.atI hd
        rcases hq with hq | hq
        · exact .inl ⟨a, xs, _, v, rfl, rfl, hq, hv, p ρ H v (Stp.refl mo) rv⟩
        · exact .inr (.inl ⟨a, xs, _, v, rfl, rfl, hq, hv, p ρ H v (Stp.refl mo) rv⟩)
      · exact p.elim
    · exact p.elim
  · exact p.elim
theorem qe_ix {X : Cx} {S : Sc} {W : WX} {a b : Expr} {pos : Pos} {fa fb : F D} (hk : X.K = S.K) (ha : QE S W X a fa) (hb : QE S W X b fb) (hs : PlainIx b := by exact fun _ _ => rfl) : QE S W X (.Subscript a b pos) (fBin gIx fa fb) := by
  have h : IxR X (rIx S.K) := hk ▸ ix_seq
  exact PE.imp (pe_ix h ha hb hs) fun _ _ _ h => bin_imp oq_ix h
section
variable {X : Cx} {S : Sc} {W : WX} {e : Expr} {lo hi : Option Expr} {p2 pos : Pos} {fe : F D} {fl fh : F (Option Int)}
abbrev QO (S : Sc) (W : WX) (X : Cx) (e : Option Expr) (f : F (Option Int)) : Prop := PO X e (tOf S W REq f)
theorem PO.imp {e : Option Expr} {t t' : TO} (h : PO X e t) (w : ∀ σ H Q, t' σ H Q → t σ H Q) : PO X e t' := ⟨fun pins s σ H Q I q => h.run pins s σ H Q I (w σ H Q q)⟩
def fNoPart : F (Option Int) := fun _ M => .ok none M
def fPart (f : F D) : F (Option Int) := fun σ M => (f σ M).bind fun d M1 => match d with | .int i => .ok (some i) M1 | _ => .bad
theorem qo_none : QO S W X none fNoPart := PO.imp po_none fun σ H Q ⟨ρ, M, σa, mo, rs, p⟩ => p ρ H none (Stp.refl mo) rfl
theorem qo_some (h : QE S W X e fe) : QO S W X (some e) (fPart fe) := PO.imp (po_some h) fun σ H Q ⟨ρ, M, σa, mo, rs, p⟩ => by
  refine use mo rs p fun x M1 ρ1 H1 v st1 r1 rs1 p1 => ?_
  cases x with
  | int i =>
    cases r1
    exact ⟨i, rfl, p1 ρ1 H1 _ (Stp.refl st1.2) rfl⟩
  | _ => exact False.elim p1
def cutD (ds : List D) (lo hi : Option Int) : List D := (ds.drop (HT.sIx ds.length 0 lo)).take (HT.sIx ds.length ds.length hi - HT.sIx ds.length 0 lo)
theorem RepA.cut {K : PySem.W.Frag} {ρ : List Addr} {H : Hp} {xs : List V} {ds : List D} (r : RepA K ρ H xs ds) (lo hi : Option Int) : RepA K ρ H (cutV xs lo hi) (cutD ds lo hi) := by
  unfold cutV cutD
  rw [r.len]
  exact (r.drop _).take _
theorem cutV_whole {xs : List V} {lo hi : Option Int} (h : HT.sIx xs.length 0 lo = 0 ∧ HT.sIx xs.length xs.length hi = xs.length) : cutV xs lo hi = xs := by
  unfold cutV
  rw [h.1, h.2]
  simp
def gSl (d : D) (lo hi : Option Int) (M : Mem) : Res D := match d with
  | .tup ds => .ok (.tup (cutD ds lo hi)) M
  | d => match listOf M d with | some ds => .ok (.lst (cutD ds lo hi)) M | none => .bad
def fSl (fe : F D) (fl fh : F (Option Int)) : F D := fun σ M => (fe σ M).bind fun d M1 => (fl σ M1).bind fun l M2 => (fh σ M2).bind fun h M3 => gSl d l h M3
theorem qe_sl (hk : X.K = S.K) (he : QE S W X e fe) (hl : QO S W X lo fl) (hh : QO S W X hi fh) : QE S W X (.Subscript e (.Slice lo hi none p2) pos) (fSl fe fl fh) := by
  have h : SlR X (fun x lo hi H Q => rSlF S.K x lo hi H Q ∨ rSlL S.K x lo hi H Q) := (hk ▸ sl_tupF : SlR X (rSlF S.K)).or (hk ▸ sl_list : SlR X (rSlL S.K))
  refine PE.imp (pe_slice h he hl hh) fun σ H Q ⟨ρ, M, σa, mo, rs, p⟩ => ?_
  refine use mo rs p fun d M1 ρ1 H1 v st1 r1 rs1 p1 => use st1.2 rs1 p1 fun l M2 ρ2 H2 l' st2 r2 rs2 p2 => use st2.2 rs2 p2 fun u M3 ρ3 H3 u' st3 r3 rs3 p3 => ?_
  cases (show l' = l from r2)
  cases (show u' = u from r3)
  have r := Rep.mono (st2.1.trans st3.1) _ _ r1
  have mo3 := st3.2
  unfold gSl at p3
  split at p3
  · obtain ⟨a, xs, rfl, hq, ra, hf, na⟩ := tup_of r
    refine .inl ⟨a, xs, rfl, hq, fun hw => ?_, fun _ q o hq ho => p3 ρ3 _ _ (Stp.fresh mo3 hq) (rep_tup mo3 hq ho (ra.cut _ _))⟩
    have rc := ra.cut l u
    rw [cutV_whole hw] at rc
    exact p3 ρ3 H3 _ (Stp.refl mo3) (.tup hf na rc)
  · split at p3
    · rename_i ds hs
      obtain ⟨a, xs, rfl, e1, ra⟩ := list_of mo3 r hs
      exact .inr ⟨a, xs, rfl, SqL.of e1, fun q hq => p3 ρ3 _ _ (Stp.fresh mo3 hq) (rep_lst mo3 hq (ra.cut _ _))⟩
    · exact p3.elim
end
end QX
set_option maxRecDepth 100000
set_option maxHeartbeats 1000000
namespace QX
open PySem PySem.Spec PyProof.Rows L2 HX
mutual
def D.beq : D → D → Bool
  | .non, .non => true
  | .bl a, .bl b => a == b
  | .int a, .int b => a == b
  | .str a, .str b => decide (a = b)
  | .tup a, .tup b => D.beqA a b
  | .lst a, .lst b => D.beqA a b
  | .dct k a, .dct l b => decide (k = l) && D.beqA a b
  | .scr a, .scr b => decide (a = b)
  | .ref a, .ref b => a == b
  | .adr a, .adr b => decide (a = b)
  | _, _ => false
def D.beqA : List D → List D → Bool
  | [], [] => true
  | a :: as, b :: bs => D.beq a b && D.beqA as bs
  | _, _ => false
end
mutual
theorem D.beq_eq : ∀ (a b : D), D.beq a b = true → a = b
  | .non, b, h => by cases b <;> first | rfl | (simp [D.beq] at h)
  | .bl a, b, h => by cases b <;> first | (simp [D.beq] at h; done) | (simp [D.beq] at h; rw [h])
  | .int a, b, h => by cases b <;> first | (simp [D.beq] at h; done) | (simp [D.beq] at h; rw [h])
  | .str a, b, h => by cases b <;> first | (simp [D.beq] at h; done) | (simp [D.beq] at h; rw [h])
  | .tup a, b, h => by cases b <;> first | (simp [D.beq] at h; done) | (simp only [D.beq] at h; rw [D.beqA_eq _ _ h])
  | .lst a, b, h => by cases b <;> first | (simp [D.beq] at h; done) | (simp only [D.beq] at h; rw [D.beqA_eq _ _ h])
  | .dct k a, b, h => by cases b <;> first | (simp [D.beq] at h; done) | (simp only [D.beq, Bool.and_eq_true, decide_eq_true_eq] at h; rw [h.1, D.beqA_eq _ _ h.2])
  | .scr a, b, h => by cases b <;> first | (simp [D.beq] at h; done) | (simp [D.beq] at h; rw [h])
  | .ref a, b, h => by cases b <;> first | (simp [D.beq] at h; done) | (simp [D.beq] at h; rw [h])
  | .adr a, b, h => by cases b <;> first | (simp [D.beq] at h; done) | (simp [D.beq] at h; rw [h])
theorem D.beqA_eq : ∀ (as bs : List D), D.beqA as bs = true → as = bs
  | [], b, h => by cases b <;> first | rfl | (simp [D.beqA] at h)
  | a :: as, b, h => by
    cases b with
    | nil => simp [D.beqA] at h
    | cons b bs =>
      simp only [D.beqA, Bool.and_eq_true] at h
      rw [D.beq_eq _ _ h.1, D.beqA_eq _ _ h.2]
end
inductive Im where
  | d (d : D) | pr (ds : List D)
def RepI (K : PySem.W.Frag) (ρ : List Addr) (H : Hp) (v : V) : Im → Prop
  | .d d => Rep K ρ H v d
  | .pr ds => ∃ a xs, v = .ref a ∧ SqT K H a xs ∧ RepA K ρ H xs ds
structure Ita where
  items : List Im
  chk : Mem → Bool
structure ItaOk (S : Sc) (ρ : List Addr) (H : Hp) (J : It) (it : Ita) : Prop where
  go : ∀ ρ' H' M' i, Ext ρ H ρ' H' → MemOk S ρ' H' M' → it.chk M' = true → i < it.items.length → J.go i H'
  stop : ∀ ρ' H' M', Ext ρ H ρ' H' → MemOk S ρ' H' M' → it.chk M' = true → J.stop it.items.length H'
  yld : ∀ ρ' H' M' i x H2, Ext ρ H ρ' H' → MemOk S ρ' H' M' → it.chk M' = true → i < it.items.length → J.yld i H' x H2 → ∃ im, it.items[i]? = some im ∧ Stp S ρ' H' ρ' H2 M' ∧ RepI S.K ρ' H2 x im
theorem ItaOk.mono {S : Sc} {ρ ρ' : List Addr} {H H' : Hp} {J : It} {it : Ita} (h : ItaOk S ρ H J it) (e : Ext ρ H ρ' H') : ItaOk S ρ' H' J it :=
  ⟨fun ρ2 H2 M i e2 => h.go ρ2 H2 M i (e.trans e2), fun ρ2 H2 M e2 => h.stop ρ2 H2 M (e.trans e2), fun ρ2 H2 M i x H3 e2 => h.yld ρ2 H2 M i x H3 (e.trans e2)⟩
abbrev QI (S : Sc) (W : WX) (X : Cx) (tg e : Expr) (f : F Ita) : Prop := PI X tg e (tOf S W (fun ρ H J it => ItaOk S ρ H J it) f)
def chkOf (n : Nat) (ds : List D) : Mem → Bool := fun M => match M[n]? with | some (.lst es) => D.beqA es ds | _ => false
def seqI (M : Mem) : D → Option (List D × (Mem → Bool))
  | .tup ds => some (ds, fun _ => true)
  | .lst ds => some (ds, fun _ => true)
  | .scr ns => some (ns.map .int, fun _ => true)
  | .ref n => match M[n]? with | some (.lst ds) => some (ds, chkOf n ds) | _ => none
  | _ => none
def SeqIOk (S : Sc) (ρ : List Addr) (H : Hp) (k : Ki) (a : Addr) (ds : List D) (chk : Mem → Bool) : Prop :=
  ∀ ρ' H' M', Ext ρ H ρ' H' → MemOk S ρ' H' M' → chk M' = true → ∃ xs, SqK S.K H' k a xs ∧ RepA S.K ρ' H' xs ds
theorem seqI_ok {S : Sc} {ρ : List Addr} {H : Hp} {M : Mem} {v : V} {d : D} {ds : List D} {chk : Mem → Bool} (m : MemOk S ρ H M) (r : Rep S.K ρ H v d) (h : seqI M d = some (ds, chk)) :
    ∃ k a xs, v = .ref a ∧ SqK S.K H k a xs ∧ SeqIOk S ρ H k a ds chk := by
  cases r with
  | tup f n ra =>
    cases h
    obtain ⟨o, h1, e⟩ := id f
    refine ⟨.t, _, _, rfl, .inl (.inr ⟨o, e⟩), fun ρ' H' M' ex mo _ => ⟨_, .inl (.inr ⟨o, ex.keep _ _ e n fun _ z => nomatch z⟩), RepA.mono ex _ _ ra⟩⟩
  | lst e n ra =>
    cases h
    exact ⟨.l, _, _, rfl, SqL.of e, fun ρ' H' M' ex mo _ => ⟨_, SqL.of (ex.keep _ _ e n fun _ z => nomatch z), RepA.mono ex _ _ ra⟩⟩
  | scr f =>
    cases h
    exact ⟨.l, _, _, rfl, scr_sq f, fun ρ' H' M' ex mo _ => ⟨_, scr_sq (f.ext ex), RepA.ints _⟩⟩
  | ref e =>
    rename_i a n
    unfold seqI at h
    dsimp only at h
    split at h
    · rename_i ds' hm
      cases h
      obtain ⟨xs, e1, ra⟩ := m.cell n a _ e hm
      refine ⟨.l, a, xs, rfl, SqL.of e1, fun ρ' H' M' ex mo hc => ?_⟩
      unfold chkOf at hc
      split at hc
      · rename_i es he
        obtain rfl := D.beqA_eq _ _ hc
        obtain ⟨ys, e2, rb⟩ := mo.cell n a _ (ex.at e) he
        exact ⟨ys, SqL.of e2, rb⟩
      · cases hc
    · cases h
  | _ => cases h
section
variable {X : Cx} {S : Sc} {W : WX} {tg e e2 e3 : Expr} {pos p tpos : Pos} {fe : F D} {fs : F (List D)}
theorem PI.or {t t' : TI} (h : PI X tg e t) (h' : PI X tg e t') : PI X tg e (fun σ H R => t σ H R ∨ t' σ H R) := ⟨fun pins s σ H R I q => q.elim (h.run pins s σ H R I) (h'.run pins s σ H R I)⟩
def gIter (d : D) (M : Mem) : Res Ita := match seqI M d with | some (ds, chk) => .ok ⟨ds.map .d, chk⟩ M | none => .bad
def fIter (fe : F D) : F Ita := fun σ M => (fe σ M).bind gIter
def ItK (K : PySem.W.Frag) (a : Addr) : Ki → It
  | .l => Itl K a
  | .t => Itt K a
def iSeq (K : PySem.W.Frag) (tl : TE) : TI := fun σ H R => tl σ H fun x H1 => ∃ k a xs, x = .ref a ∧ SqK K H1 k a xs ∧ R (ItK K a k) H1
theorem pi_seq {l : Expr} {tl : TE} (hl : PE X l tl) : PI X tg l (iSeq X.K tl) := by
  refine ⟨fun pins s σ H R I h => ?_⟩
  refine thn (hl.run pins s σ H _ I h) fun v s1 ⟨x, H1, I1, r1, q1⟩ => ?_
  obtain ⟨k, a, xs, e, hq, q⟩ := q1
  subst e
  cases r1
  cases k with
  | l =>
    obtain ⟨its, rv, p, hz⟩ := I1.list hq
    refine wpAny_pyIter_list p.isList ?_
    refine ⟨s1.heap.objs.size, [s1.heap.objs.size], _, _, H1, rfl, I1.kept (t' := s1.toks) fun b o e => Heap.get?_push_of_some _ e, turn_list a _, ⟨_, Heap.get?_push_size _ rfl, rfl, rfl⟩, fun b hb => ?_, q⟩
    have e : b = s1.heap.objs.size := by simpa using hb
    subst e
    exact I1.fpOk (Nat.le_refl _) (I1.hok.fresh (Nat.le_refl _))
  | t =>
    obtain ⟨its, rv, p, hz⟩ := I1.tuple hq
    refine wpAny_pyIter_tuple (show s1.heap.IsTuple a its.toArray from p) ?_
    refine ⟨s1.heap.objs.size, [s1.heap.objs.size], _, _, H1, rfl, I1.kept (t' := s1.toks) fun b o e => Heap.get?_push_of_some _ e, turn_tuple a _, ⟨_, Heap.get?_push_size _ rfl, rfl, rfl⟩, fun b hb => ?_, q⟩
    have e : b = s1.heap.objs.size := by simpa using hb
    subst e
    exact I1.fpOk (Nat.le_refl _) (I1.hok.fresh (Nat.le_refl _))
theorem at_of {S : Sc} {ρ : List Addr} {H : Hp} {xs : List V} {ds : List D} {i : Nat} (r : RepA S.K ρ H xs ds) (h : i < ds.length) : ∃ v d, xs[i]? = some v ∧ ds[i]? = some d ∧ Rep S.K ρ H v d := by
  obtain ⟨v, h1, h2⟩ := r.at (List.getElem?_eq_getElem h)
  exact ⟨v, _, h1, List.getElem?_eq_getElem h, h2⟩
theorem ok_iter {ρ : List Addr} {H : Hp} {k : Ki} {a : Addr} {ds : List D} {chk : Mem → Bool} (s : SeqIOk S ρ H k a ds chk) : ItaOk S ρ H (ItK S.K a k) ⟨ds.map .d, chk⟩ := by
  refine ⟨fun ρ' H' M' i ex mo hc hi => ?_, fun ρ' H' M' ex mo hc => ?_, fun ρ' H' M' i x H2 ex mo hc hi y => ?_⟩
  all_goals obtain ⟨xs, hq, ra⟩ := s ρ' H' M' ex mo hc
  · rw [List.length_map] at hi
    obtain ⟨v, d, h1, h2, _⟩ := at_of ra hi
    cases k with
    | l => exact ⟨xs, v, hq, h1⟩
    | t => exact ⟨xs, v, hq, h1⟩
  · show (ItK S.K a k).stop (ds.map Im.d).length H'
    rw [List.length_map, ← ra.len]
    cases k with
    | l => exact ⟨xs, hq, Nat.le_refl _⟩
    | t => exact ⟨xs, hq, Nat.le_refl _⟩
  · rw [List.length_map] at hi
    obtain ⟨v, d, h1, h2, rv⟩ := at_of ra hi
    have e : (ds.map Im.d)[i]? = some (.d d) := by rw [List.getElem?_map, h2]; rfl
    cases k with
    | l =>
      obtain ⟨rfl, y2⟩ := y
      obtain rfl := Option.some.inj ((y2 xs hq).symm.trans h1)
      exact ⟨_, e, Stp.refl mo, rv⟩
    | t =>
      obtain ⟨rfl, y2⟩ := y
      obtain rfl := Option.some.inj ((y2 xs hq).symm.trans h1)
      exact ⟨_, e, Stp.refl mo, rv⟩
theorem qi_seq (hk : X.K = S.K) (he : QE S W X e fe) : QI S W X tg e (fIter fe) := by
  have h : PI X tg e (iSeq S.K (tOf S W (Rep S.K) fe)) := by
    have h := pi_seq (tg := tg) he
    rw [hk] at h
    exact h
  refine PI.imp h fun σ H R ⟨ρ, M, σa, mo, rs, p⟩ => ?_
  refine use mo rs p fun d M1 ρ1 H1 v st1 r1 rs1 p1 => ?_
  unfold gIter at p1
  split at p1
  · rename_i ds chk hs
    obtain ⟨k, a, xs, rfl, hq, ok⟩ := seqI_ok st1.2 r1 hs
    exact ⟨k, a, xs, rfl, hq, p1 ρ1 H1 _ (Stp.refl st1.2) (ok_iter ok)⟩
  · exact p1.elim
def nums (lo : Int) : Nat → List Im
  | 0 => []
  | n + 1 => .d (.int lo) :: nums (lo + 1) n
theorem nums_len : ∀ (n : Nat) (lo : Int), (nums lo n).length = n
  | 0, _ => rfl
  | n + 1, lo => by rw [nums, List.length_cons, nums_len n]
theorem nums_at : ∀ (n : Nat) (lo : Int) (i : Nat), i < n → (nums lo n)[i]? = some (.d (.int (lo + i)))
  | n + 1, lo, 0, _ => by simp [nums]
  | n + 1, lo, i + 1, h => by
    rw [nums, List.getElem?_cons_succ, nums_at n (lo + 1) i (by omega)]
    congr 3
    omega
theorem ok_range {ρ : List Addr} {H : Hp} {lo : Int} {n : Nat} : ItaOk S ρ H (Itr lo n) ⟨nums lo n, fun _ => true⟩ := by
  refine ⟨fun ρ' H' M' i ex mo hc hi => ?_, fun ρ' H' M' ex mo hc => ?_, fun ρ' H' M' i x H2 ex mo hc hi y => ?_⟩
  · rw [nums_len] at hi; exact hi
  · exact Nat.le_of_eq (nums_len n lo).symm
  · rw [nums_len] at hi
    obtain ⟨rfl, rfl⟩ := y
    exact ⟨_, nums_at n lo i hi, Stp.refl mo, .int _⟩
abbrev mid (i : Int) : Bool := decide (-4611686018427387904 ≤ i) && decide (i < 4611686018427387904)
theorem mid_ok {i : Int} (h : mid i = true) : -(2 ^ 62) ≤ i ∧ i < 2 ^ 62 := by
  rw [Bool.and_eq_true, decide_eq_true_eq, decide_eq_true_eq] at h
  exact ⟨by omega, by omega⟩
def gRange1 : List D → Mem → Res Ita
  | [.int j], M => if mid j = true then .ok ⟨nums 0 j.toNat, fun _ => true⟩ M else .bad
  | _, _ => .bad
def gRange2 : List D → Mem → Res Ita
  | [.int i, .int j], M => if (mid i && mid j) = true then .ok ⟨nums i (j - i).toNat, fun _ => true⟩ M else .bad
  | _, _ => .bad
def fIt (g : List D → Mem → Res Ita) (fs : F (List D)) : F Ita := fun σ M => (fs σ M).bind g
theorem RepA.one {K : PySem.W.Frag} {ρ : List Addr} {H : Hp} {vs : List V} {d : D} (r : RepA K ρ H vs [d]) : ∃ v, vs = [v] ∧ Rep K ρ H v d := by
  cases r with
  | cons h t => cases t; exact ⟨_, rfl, h⟩
theorem RepA.two {K : PySem.W.Frag} {ρ : List Addr} {H : Hp} {vs : List V} {d d2 : D} (r : RepA K ρ H vs [d, d2]) : ∃ v v2, vs = [v, v2] ∧ Rep K ρ H v d ∧ Rep K ρ H v2 d2 := by
  cases r with
  | cons h t =>
    obtain ⟨v, rfl, h2⟩ := RepA.one t
    exact ⟨_, _, rfl, h, h2⟩
theorem qi_range1 (hg : Gl X "range") (hm : X.mg "range" = none) (ha : QA S W X [e] fs) (hs : starEach [e] X.env = [(false, eval e X.env)] := by rfl) : QI S W X tg (.Call (.Name "range" p) [e] [] pos) (fIt gRange1 fs) := by
  refine PI.imp (pi_range1 hg hm ha hs) fun σ H R ⟨ρ, M, σa, mo, rs, p⟩ => ?_
  refine use mo rs p fun ds M1 ρ1 H1 vs st1 r1 rs1 p1 => ?_
  unfold gRange1 at p1
  split at p1
  · obtain ⟨v, rfl, rv⟩ := RepA.one r1
    cases rv
    split at p1
    · rename_i hm
      exact ⟨_, rfl, (mid_ok hm).1, (mid_ok hm).2, p1 ρ1 H1 _ (Stp.refl st1.2) ok_range⟩
    · exact p1.elim
  · exact p1.elim
end
end QX
set_option maxRecDepth 100000
set_option maxHeartbeats 1000000
namespace QX
open PySem PySem.Spec PyProof.Rows L2 HX
mutual
def D.und (n : Nat) : D → Bool
  | .tup ds => D.undA n ds
  | .lst ds => D.undA n ds
  | .dct _ ds => D.undA n ds
  | .ref m => Nat.blt m n
  | _ => true
def D.undA (n : Nat) : List D → Bool
  | [] => true
  | d :: ds => D.und n d && D.undA n ds
end
def Cell.und (n : Nat) : Cell → Bool
  | .lst ds => D.undA n ds
  | .dic kvs => D.undA n (kvs.map (·.2))
def closed (n : Nat) (M : Mem) : Bool := (M.take n).all (Cell.und n)
def resL (g : D → Option D) : List D → Option (List D)
  | [] => some []
  | d :: ds => match g d, resL g ds with | some a, some b => some (a :: b) | _, _ => none
def D.res : Nat → Nat → Mem → D → Option D
  | 0, n, _, d => if d.und n = true then some d else none
  | k + 1, n, M, d => if d.und n = true then some d else match d with
    | .tup ds => (resL (D.res k n M) ds).map .tup
    | .lst ds => (resL (D.res k n M) ds).map .lst
    | .ref m => (match M[m]? with | some (.lst ds) => (resL (D.res k n M) ds).map .lst | _ => none)
    | _ => none
def trimR (n : Nat) : Res D → Res D
  | .ok d M => if Nat.ble M.length n = true then .ok d M else (match D.res 5 n M d with | some d' => if closed n M = true then .ok d' (M.take n) else .bad | none => .bad)
  | .exc c fs M => if Nat.ble M.length n = true then .exc c fs M else if (fs.all (fun p => p.2.und n) && closed n M) = true then .exc c fs (M.take n) else .bad
  | .bad => .bad
section
variable {K : PySem.W.Frag} {ρ more : List Addr} {H : Hp}
mutual
theorem Rep.down : ∀ (d : D) (v : V), d.und ρ.length = true → Rep K (ρ ++ more) H v d → Rep K ρ H v d
  | .non, _, _, h => by cases h; exact .non
  | .bl b, _, _, h => by cases h; exact .bl b
  | .int i, _, _, h => by cases h; exact .int i
  | .str x, _, _, h => by cases h; exact .str x
  | .tup ds, _, b, h => by
    cases h with
    | tup f n ha => exact .tup f (fun z => n (List.mem_append_left _ z)) (RepA.down ds _ (by simpa only [D.und] using b) ha)
  | .lst ds, _, b, h => by
    cases h with
    | lst f n ha => exact .lst f (fun z => n (List.mem_append_left _ z)) (RepA.down ds _ (by simpa only [D.und] using b) ha)
  | .dct ks ds, _, b, h => by
    cases h with
    | dct f n hk ha => exact .dct f (fun z => n (List.mem_append_left _ z)) hk (RepA.down ds _ (by simpa only [D.und] using b) ha)
  | .scr ns, _, _, h => by
    cases h with
    | scr f => exact .scr (f.imp (fun ⟨a, n⟩ => ⟨a, fun z => n (List.mem_append_left _ z)⟩) id)
  | .ref n, _, b, h => by
    cases h with
    | ref f =>
      have hn : n < ρ.length := by simpa only [D.und, Nat.blt_eq] using b
      rw [List.getElem?_append_left hn] at f
      exact .ref f
  | .adr v, _, _, h => by cases h; exact .adr v
theorem RepA.down : ∀ (ds : List D) (vs : List V), D.undA ρ.length ds = true → RepA K (ρ ++ more) H vs ds → RepA K ρ H vs ds
  | [], _, _, h => by cases h; exact .nil
  | d :: ds, _, b, h => by
    simp only [D.undA, Bool.and_eq_true] at b
    cases h with
    | cons h1 h2 => exact .cons (Rep.down d _ b.1 h1) (RepA.down ds _ b.2 h2)
end
mutual
theorem und_dK {n : Nat} : ∀ k : NestedKey, pureK k = true → (dK k).und n = true
  | .none, h => by simp [pureK] at h
  | .num i, _ => by rw [dK]; rfl
  | .text x, h => by simp [pureK] at h
  | .tup ks, h => by
    rw [dK, D.und]
    exact und_dKs ks (by simpa [pureK] using h)
theorem und_dKs {n : Nat} : ∀ ks : List NestedKey, pureA ks = true → D.undA n (dKs ks) = true
  | [], _ => by rw [dKs]; rfl
  | k :: ks, h => by
    rw [pureA, Bool.and_eq_true] at h
    rw [dKs, D.undA, und_dK k h.1, und_dKs ks h.2]
    rfl
end
theorem DRel.down {xs : List NE} {kvs : List (NestedKey × D)} (hb : D.undA ρ.length (kvs.map (·.2)) = true) (r : DRel K (ρ ++ more) H xs kvs) : DRel K ρ H xs kvs := by
  induction r with
  | nil => exact .nil
  | cons q _ ih =>
    obtain ⟨a, b, c, d, f⟩ := q
    rw [List.map_cons, D.undA, Bool.and_eq_true] at hb
    exact .cons ⟨a, b, c, Rep.down _ _ (und_dK _ b) d, Rep.down _ _ hb.1 f⟩ (ih hb.2)
theorem resL_ok {g : D → Option D} (hg : ∀ d d' v, g d = some d' → Rep K (ρ ++ more) H v d → Rep K ρ H v d') : ∀ (ds ds' : List D) (vs : List V), resL g ds = some ds' → RepA K (ρ ++ more) H vs ds → RepA K ρ H vs ds'
  | [], ds', vs, h, r => by
    cases h
    cases r
    exact .nil
  | d :: ds, ds', vs, h, r => by
    cases r with
    | cons r1 r2 =>
      unfold resL at h
      split at h
      · rename_i a b h1 h2
        cases h
        exact .cons (hg _ _ _ h1 r1) (resL_ok hg ds _ _ h2 r2)
      · cases h
theorem res_ok {S : Sc} {M : Mem} (mo : MemOk S (ρ ++ more) H M) : ∀ (k : Nat) (d d' : D) (v : V), D.res k ρ.length M d = some d' → Rep S.K (ρ ++ more) H v d → Rep S.K ρ H v d'
  | 0, d, d', v, h, r => by
    unfold D.res at h
    split at h
    · cases h
      exact Rep.down d v (by assumption) r
    · cases h
  | k + 1, d, d', v, h, r => by
    unfold D.res at h
    split at h
    · cases h
      exact Rep.down d v (by assumption) r
    · rename_i hb
      have ih := res_ok mo k
      split at h
      · rename_i ds
        cases e : resL (D.res k ρ.length M) ds with
        | none => rw [e] at h; cases h
        | some es =>
          rw [e] at h
          cases h
          cases r with
          | tup f n ha => exact .tup f (fun z => n (List.mem_append_left _ z)) (resL_ok (fun a b c => ih a b c) ds es _ e ha)
      · rename_i ds
        cases e : resL (D.res k ρ.length M) ds with
        | none => rw [e] at h; cases h
        | some es =>
          rw [e] at h
          cases h
          cases r with
          | lst f n ha => exact .lst f (fun z => n (List.mem_append_left _ z)) (resL_ok (fun a b c => ih a b c) ds es _ e ha)
      · rename_i m
        split at h
        · rename_i ds hm
          cases e : resL (D.res k ρ.length M) ds with
          | none => rw [e] at h; cases h
          | some es =>
            rw [e] at h
            cases h
            cases r with
            | ref f =>
              obtain ⟨xs, e1, ra⟩ := mo.cell _ _ _ f hm
              refine .lst e1 (fun z => ?_) (resL_ok (fun a b c => ih a b c) ds es _ e ra)
              have hge : ρ.length ≤ m := by
                simp only [D.und, Nat.blt_eq] at hb
                omega
              rw [List.getElem?_append_right hge] at f
              exact (List.nodup_append.mp mo.nd).2.2 _ z _ (List.mem_of_getElem? f) rfl
        · cases h
      · cases h
theorem mem_down {S : Sc} {M : Mem} (mo : MemOk S (ρ ++ more) H M) (hc : closed ρ.length M = true) : MemOk S ρ H (M.take ρ.length) := by
  have hl : ρ.length ≤ M.length := by
    have := mo.len
    rw [List.length_append] at this
    omega
  refine ⟨by rw [List.length_take]; omega, (List.nodup_append.mp mo.nd).1, fun n a c h1 h2 => ?_, mo.tab⟩
  have hn := (List.getElem?_eq_some_iff.mp h1).1
  rw [List.getElem?_take, if_pos hn] at h2
  have ok := mo.cell n a c (by rw [List.getElem?_append_left hn]; exact h1) h2
  have hb : Cell.und ρ.length c = true := by
    unfold closed at hc
    rw [List.all_eq_true] at hc
    refine hc c (List.mem_of_getElem? (i := n) ?_)
    rw [List.getElem?_take, if_pos hn]
    exact h2
  cases c with
  | lst ds =>
    obtain ⟨xs, e, ra⟩ := ok
    exact ⟨xs, e, RepA.down ds _ hb ra⟩
  | dic kvs =>
    obtain ⟨xs, e, r⟩ := ok
    exact ⟨xs, e, DRel.down hb r⟩
end
section
variable {S : Sc} {W : WX} {σ : L2.St} {ρ : List Addr} {H : Hp} {M : Mem} {Q : VK}
theorem Post.trim {r : Res D} (mo : MemOk S ρ H M) (h : Post S W (Rep S.K) σ ρ H Q (trimR M.length r)) : Post S W (Rep S.K) σ ρ H Q r := by
  rw [← mo.len] at h
  cases r with
  | ok d M' =>
    unfold trimR at h
    dsimp only at h
    split at h
    · exact h
    split at h
    · rename_i d' hd
      split at h
      · rename_i hc
        intro ρ' H' v st rv
        obtain ⟨e, m'⟩ := st
        obtain ⟨more, rfl, hm⟩ := e.pre
        exact h ρ H' v ⟨⟨⟨[], by simp, by simp⟩, e.keep, e.live⟩, mem_down m' hc⟩ (res_ok m' 5 d d' v hd rv)
      · exact h.elim
    · exact h.elim
  | exc c fs M' =>
    unfold trimR at h
    dsimp only at h
    split at h
    · exact h
    split at h
    · rename_i hc
      rw [Bool.and_eq_true] at hc
      intro ρ' H' d st rx
      obtain ⟨e, m'⟩ := st
      obtain ⟨more, rfl, hm⟩ := e.pre
      refine h ρ H' d ⟨⟨⟨[], by simp, by simp⟩, e.keep, e.live⟩, mem_down m' hc.2⟩ ?_
      cases d with
      | none => exact rx
      | some a =>
        obtain ⟨n1, vs, e1, e2, e3, e4⟩ := rx
        refine ⟨fun z => n1 (List.mem_append_left _ z), vs, e1, e2, RepA.down _ _ ?_ e3, e4⟩
        have ha := hc.1
        clear hc e1 e2 e3 e4 h m'
        induction fs with
        | nil => rfl
        | cons p fs ih =>
          rw [List.all_cons, Bool.and_eq_true] at ha
          rw [List.map_cons, D.undA, ha.1, ih ha.2]
          rfl
    · exact h.elim
  | bad => exact h
def fTrim (f : F D) : F D := fun σ M => trimR M.length (f σ M)
theorem qe_trim {X : Cx} {e : Expr} {f : F D} (h : QE S W X e f) : QE S W X e (fTrim f) := PE.imp h fun σ H Q ⟨ρ, M, σa, mo, rs, p⟩ => ⟨ρ, M, σa, mo, rs, Post.trim mo p⟩
end
inductive Tg where
  | name (i : Nat) | tup (is : List Nat)
def setAll : Sa → List Nat → List D → Sa
  | σ, i :: is, d :: ds => setAll (σ.set i (some d)) is ds
  | σ, _, _ => σ
def Tg.put : Tg → Im → Sa → Option Sa
  | .name i, .d d, σ => some (σ.set i (some d))
  | .tup is, .d (.tup ds), σ => if ds.length == is.length then some (setAll σ is ds) else none
  | .tup is, .pr ds, σ => if ds.length == is.length then some (setAll σ is ds) else none
  | _, _, _ => none
def Tg.slots : Tg → List Nat
  | .name i => [i]
  | .tup is => is
def gNames : List Nat → TGs
  | [] => gNil
  | i :: is => gCons (gName i) (gNames is)
def gOf (K : PySem.W.Frag) : Tg → TG
  | .name i => gName i
  | .tup is => gTup K is.length (gNames is)
theorem wipe_get (σ : L2.St) : ∀ (vs : List Nat) (j : Nat), (wipe σ vs)[j]? = if j ∈ vs then σ[j]?.map (fun _ => none) else σ[j]?
  | [], j => by simp [wipe]
  | v :: vs, j => by
    rw [wipe, List.getElem?_set]
    have hl := wipe_length σ vs
    by_cases h : v = j
    · subst h
      rw [if_pos rfl, if_pos List.mem_cons_self, hl]
      by_cases hv : v < σ.length
      · rw [if_pos hv, List.getElem?_eq_getElem hv]; rfl
      · rw [if_neg hv, List.getElem?_eq_none (by omega)]; rfl
    · rw [if_neg h, wipe_get σ vs j]
      by_cases hm : j ∈ vs
      · rw [if_pos hm, if_pos (List.mem_cons_of_mem _ hm)]
      · rw [if_neg hm, if_neg (fun z => (List.mem_cons.mp z).elim (fun e => h e.symm) hm)]
theorem wipe_set {σ : L2.St} {i : Nat} {x : Option V} {vs : List Nat} (h : i ∈ vs) : wipe (σ.set i x) vs = wipe σ vs := by
  refine List.ext_getElem? fun j => ?_
  rw [wipe_get, wipe_get]
  by_cases hj : j ∈ vs
  · rw [if_pos hj, if_pos hj, List.getElem?_set]
    by_cases e : i = j
    · subst e
      rw [if_pos rfl]
      by_cases hl : i < σ.length
      · rw [if_pos hl, List.getElem?_eq_getElem hl]; rfl
      · rw [if_neg hl, List.getElem?_eq_none (by omega)]
    · rw [if_neg e]
  · rw [if_neg hj, if_neg hj, List.getElem?_set_ne (fun e => hj (by rw [← e]; exact h))]
def wipeA (σ : Sa) : List Nat → Sa
  | [] => σ
  | v :: vs => (wipeA σ vs).set v none
theorem RepSt.forget {K : PySem.W.Frag} {ρ : List Addr} {H : Hp} {σ : L2.St} {σa : Sa} (h : RepSt K ρ H σ σa) (i : Nat) : RepSt K ρ H (σ.set i none) (σa.set i none) := by
  refine ⟨by rw [List.length_set, List.length_set]; exact h.1, fun j d e => ?_⟩
  by_cases hj : i = j
  · subst hj
    by_cases hl : i < σa.length
    · rw [List.getElem?_set_self hl] at e; cases e
    · rw [List.getElem?_eq_none (by rw [List.length_set]; omega)] at e; cases e
  · rw [List.getElem?_set_ne hj] at e ⊢
    exact h.2 j d e
theorem RepSt.wipe {K : PySem.W.Frag} {ρ : List Addr} {H : Hp} {σ : L2.St} {σa : Sa} (h : RepSt K ρ H σ σa) : ∀ vs : List Nat, RepSt K ρ H (L2.wipe σ vs) (wipeA σa vs)
  | [] => h
  | v :: vs => (RepSt.wipe h vs).forget v
theorem RepSt.set {K : PySem.W.Frag} {ρ : List Addr} {H : Hp} {σ : L2.St} {σa : Sa} {v : V} {d : D} (h : RepSt K ρ H σ σa) (i : Nat) (r : Rep K ρ H v d) : RepSt K ρ H (σ.set i (some v)) (σa.set i (some d)) := by
  refine ⟨by rw [List.length_set, List.length_set]; exact h.1, fun j d' e => ?_⟩
  by_cases hj : i = j
  · subst hj
    by_cases hl : i < σa.length
    · rw [List.getElem?_set_self hl] at e
      cases e
      exact ⟨v, List.getElem?_set_self (by rw [h.1]; exact hl), r⟩
    · rw [List.getElem?_eq_none (by rw [List.length_set]; omega)] at e; cases e
  · rw [List.getElem?_set_ne hj] at e ⊢
    exact h.2 j d' e
theorem names_ok {K : PySem.W.Frag} {ρ : List Addr} {H : Hp} {Q : L2.St → Hp → Prop} : ∀ (is : List Nat) (xs : List V) (ds : List D) (σ : L2.St) (σa : Sa), RepA K ρ H xs ds → ds.length = is.length → RepSt K ρ H σ σa →
    (∀ σ', RepSt K ρ H σ' (setAll σa is ds) → (∀ vs : List Nat, (∀ i ∈ is, i ∈ vs) → wipe σ' vs = wipe σ vs) → Q σ' H) → gNames is xs σ H Q
  | [], _, _, σ, σa, .nil, _, rs, q => ⟨rfl, q σ rs fun _ _ => rfl⟩
  | [], _, _, _, _, .cons _ _, hl, _, _ => by simp at hl
  | i :: is, _, _, _, _, .nil, hl, _, _ => by simp at hl
  | i :: is, _, _, σ, σa, .cons r1 r2, hl, rs, q => by
    refine ⟨_, _, rfl, ?_⟩
    refine names_ok is _ _ _ _ r2 (by simpa using hl) (rs.set i r1) fun σ' rs' w' => q σ' rs' fun vs hvs => ?_
    rw [w' vs fun j hj => hvs j (List.mem_cons_of_mem _ hj), wipe_set (hvs i List.mem_cons_self)]
theorem put_ok {S : Sc} {ρ : List Addr} {H : Hp} {Q : L2.St → Hp → Prop} {t : Tg} {v : V} {im : Im} {σ : L2.St} {σa σa' : Sa} (rs : RepSt S.K ρ H σ σa) (ri : RepI S.K ρ H v im) (h : t.put im σa = some σa')
    (q : ∀ σ', RepSt S.K ρ H σ' σa' → (∀ vs : List Nat, (∀ i ∈ t.slots, i ∈ vs) → wipe σ' vs = wipe σ vs) → Q σ' H) : gOf S.K t v σ H Q := by
  unfold Tg.put at h
  split at h
  · cases h
    exact q _ (rs.set _ ri) fun vs hvs => wipe_set (hvs _ (by simp [Tg.slots]))
  · rename_i is ds
    split at h
    · rename_i hl
      cases h
      obtain ⟨a, xs, rfl, hq, ra, _, _⟩ := tup_of ri
      have hl' : ds.length = is.length := by simpa using hl
      exact ⟨a, xs, rfl, hq, by rw [ra.len]; exact hl', names_ok is xs ds _ _ ra hl' rs q⟩
    · cases h
  · rename_i is ds
    split at h
    · rename_i hl
      cases h
      obtain ⟨a, xs, rfl, hq, ra⟩ := ri
      have hl' : ds.length = is.length := by simpa using hl
      exact ⟨a, xs, rfl, hq, by rw [ra.len]; exact hl', names_ok is xs ds _ _ ra hl' rs q⟩
    · cases h
  · cases h
abbrev QG (S : Sc) (X : Cx) (tg : Expr) (t : Tg) : Prop := PG X tg (gOf S.K t)
def Res.nox {α : Type} : Res α → Res α
  | .exc _ _ _ => .bad
  | r => r
def compL (t : Tg) (c : F Bool) (e : F D) (chk : Mem → Bool) (σ : Sa) (n : Nat) : List Im → Mem → Res Unit
  | [], M => if chk M = true then .ok () M else .bad
  | im :: ims, M => if chk M = true then (match t.put im σ with
      | none => .bad
      | some σ1 => (c σ1 M).nox.bind fun b M1 => if b = true then (e σ1 M1).nox.bind fun d M2 => (match M2[n]? with
          | some (.lst acc) => if Nat.blt acc.length 16777216 = true then compL t c e chk σ n ims (M2.set n (.lst (acc ++ [d]))) else .bad
          | _ => .bad) else compL t c e chk σ n ims M1) else .bad
def fCompC (fi : F Ita) (vs : List Nat) (t : Tg) (c : F Bool) (e : F D) : F D := fun σ M => (fi σ M).bind fun it M1 => (compL t c e it.chk (wipeA σ vs) M1.length it.items (M1 ++ [.lst []])).bind fun _ M2 => .ok (.ref M1.length) M2
abbrev W0 : WX := fun _ _ _ _ => False
def fYes : F Bool := fun _ M => .ok true M
theorem nox_use {α β : Type} {S : Sc} {R : List Addr → Hp → β → α → Prop} {f : F α} {σ : L2.St} {σa : Sa} {ρ : List Addr} {H : Hp} {M : Mem} {Q : β → Hp → Prop} (mo : MemOk S ρ H M) (rs : RepSt S.K ρ H σ σa) {γ : Type} {k : α → Mem → Res γ} {P : Res γ → Prop} (hb : P .bad → False)
    (h : P ((f σa M).nox.bind k)) (c : ∀ x M1 ρ1 H1 v, Stp S ρ H ρ1 H1 M1 → R ρ1 H1 v x → P (k x M1) → Q v H1) : tOf S W0 R f σ H Q := by
  refine ⟨ρ, M, σa, mo, rs, ?_⟩
  cases e : f σa M with
  | ok x M1 =>
    rw [e] at h
    exact fun ρ1 H1 v st r => c x M1 ρ1 H1 v st r h
  | exc c2 fs M1 => rw [e] at h; exact (hb h).elim
  | bad => rw [e] at h; exact (hb h).elim
section
variable {X : Cx} {S : Sc} {W : WX}
theorem lc_imp {fi : F Ita} {vs : List Nat} {t : Tg} {c : F Bool} {e : F D} (ht : ∀ i ∈ t.slots, i ∈ vs) {σ : L2.St} {H : Hp} {Q : VK} (h : tOf S W (Rep S.K) (fCompC fi vs t c e) σ H Q) :
    tLc (tOf S W (fun ρ H J it => ItaOk S ρ H J it) fi) (gOf S.K t) (tOf S W0 REq c) (tOf S W0 (Rep S.K) e) vs σ H Q := by
  obtain ⟨ρ, M, σa, mo, rs, p⟩ := h
  refine use mo rs p fun it M1 ρ1 H1 J st1 ok rs1 p1 => ?_
  intro D hD
  have sA : Stp S ρ1 H1 (ρ1 ++ [D]) (upd H1 D (.lst [])) (M1 ++ [.lst []]) := Stp.alloc st1.2 hD .nil
  have hl1 := st1.2.len
  have atn : ∀ {ρ2 : List Addr} {H2 : Hp}, Ext (ρ1 ++ [D]) (upd H1 D (.lst [])) ρ2 H2 → ρ2[M1.length]? = some D := fun e => e.at (by
    rw [List.getElem?_append_right (by omega), hl1, Nat.sub_self]
    rfl)
  refine ⟨fun i m Hc => m = it.items.length - i ∧ i ≤ it.items.length ∧ ∃ ρc Mc, Stp S (ρ1 ++ [D]) (upd H1 D (.lst [])) ρc Hc Mc ∧ Post S W (Rep S.K) σ ρ1 H1 Q ((compL t c e it.chk (wipeA σa vs) M1.length (it.items.drop i) Mc).bind fun _ M2 => .ok (.ref M1.length) M2),
    ⟨_, rfl, Nat.zero_le _, ρ1 ++ [D], M1 ++ [.lst []], Stp.refl sA.2, by rw [List.drop_zero]; exact p1⟩, ?_⟩
  rintro i m Hc ⟨rfl, hi, ρc, Mc, stc, pc⟩
  have ex1 : Ext ρ1 H1 ρc Hc := sA.1.trans stc.1
  by_cases hlt : i < it.items.length
  · have hdrop : it.items.drop i = it.items[i] :: it.items.drop (i + 1) := List.drop_eq_getElem_cons hlt
    rw [hdrop] at pc
    unfold compL at pc
    by_cases hc : it.chk Mc = true
    · rw [if_pos hc] at pc
      refine .inr ⟨ok.go ρc Hc Mc i ex1 stc.2 hc hlt, fun H' => ∃ ρc' Mc', Stp S (ρ1 ++ [D]) (upd H1 D (.lst [])) ρc' H' Mc' ∧ Post S W (Rep S.K) σ ρ1 H1 Q ((compL t c e it.chk (wipeA σa vs) M1.length (it.items.drop (i + 1)) Mc').bind fun _ M2 => .ok (.ref M1.length) M2),
        fun H' ⟨ρc', Mc', a, b⟩ => ⟨_, by omega, rfl, hlt, ρc', Mc', a, b⟩, fun x H2 y => ?_⟩
      obtain ⟨im, him, st2, ri⟩ := ok.yld ρc Hc Mc i x H2 ex1 stc.2 hc hlt y
      have e0 : it.items[i] = im := by
        rw [List.getElem?_eq_getElem hlt] at him
        exact Option.some.inj him
      rw [e0] at pc
      split at pc
      · exact pc.elim
      · rename_i σ1 hput
        have rsw : RepSt S.K ρc H2 (wipe σ vs) (wipeA σa vs) := (rs1.mono (ex1.trans st2.1)).wipe vs
        refine put_ok rsw ri hput fun σ' rs' hw => ⟨?_, ?_⟩
        · have := hw vs ht
          rw [this]
          refine List.ext_getElem? fun j => ?_
          rw [wipe_get, wipe_get]
          by_cases hj : j ∈ vs
          · rw [if_pos hj, if_pos hj]
            cases σ[j]? <;> rfl
          · rw [if_neg hj, if_neg hj]
        · have stc2 : Stp S (ρ1 ++ [D]) (upd H1 D (.lst [])) ρc H2 Mc := ⟨stc.1.trans st2.1, st2.2⟩
          refine nox_use (P := fun r => Post S W (Rep S.K) σ ρ1 H1 Q (r.bind fun _ M2 => .ok (.ref M1.length) M2)) stc2.2 rs' (fun z => z) pc fun b M3 ρ3 H3 b' st3 rb p3 => ?_
          cases (show b' = b from rb)
          cases b with
          | false => exact ⟨ρ3, M3, ⟨stc2.1.trans st3.1, st3.2⟩, p3⟩
          | true =>
            refine nox_use (P := fun r => Post S W (Rep S.K) σ ρ1 H1 Q (r.bind fun _ M2 => .ok (.ref M1.length) M2)) st3.2 (rs'.mono st3.1) (fun z => z) p3 fun d M4 ρ4 H4 v st4 rv p4 => ?_
            have ex4 := stc2.1.trans (st3.1.trans st4.1)
            have hD4 := atn ex4
            split at p4
            · rename_i acc hacc
              obtain ⟨xs, e1, ra⟩ := st4.2.cell _ _ _ hD4 hacc
              split at p4
              · rename_i hsz
                refine ⟨xs, e1, ?_, ρ4, _, ?_, p4⟩
                · rw [ra.len, sizeLine_eq]
                  simpa [Nat.blt_eq] using hsz
                · have sp := Stp.put st4.2 hD4 hacc (ra.append (.cons rv .nil))
                  exact ⟨ex4.trans sp.1, sp.2⟩
              · exact p4.elim
            · exact p4.elim
    · rw [if_neg hc] at pc
      exact pc.elim
  · have e : i = it.items.length := by omega
    subst e
    rw [List.drop_length] at pc
    unfold compL at pc
    by_cases hc : it.chk Mc = true
    · rw [if_pos hc] at pc
      refine .inl ⟨ok.stop ρc Hc Mc ex1 stc.2 hc, ?_⟩
      exact pc ρc Hc (.ref D) ⟨ex1, stc.2⟩ (.ref (atn stc.1))
    · rw [if_neg hc] at pc
      exact pc.elim
variable {elt tg iter : Expr} {ifs : List Expr} {scope : Scope} {own : List (Str × Nat)} {pos : Pos} {fi : F Ita} {t : Tg} {c : F Bool} {e : F D}
abbrev QTs (S : Sc) (W : WX) (X : Cx) (es : List Expr) (f : F Bool) : Prop := PTs X es (tOf S W REq f)
theorem PTs.imp {es : List Expr} {t t' : TT} (h : PTs X es t) (w : ∀ σ H Q, t' σ H Q → t σ H Q) : PTs X es t' := ⟨fun pins s σ H Q I q => h.run pins s σ H Q I (w σ H Q q)⟩
theorem qts_nil : QTs S W X [] fYes := PTs.imp pts_nil fun σ H Q ⟨ρ, M, σa, mo, rs, p⟩ => p ρ H true (Stp.refl mo) rfl
theorem qe_lcC (hc : X.calm = true) (hN : X.N.Nodup) (hi : QI S W X tg iter fi) (ok : BlkOk X.N X.env.scope scope own)
    (hg : ∀ (s : Shared) (H : Hp) (C : Addr) (cl : List (Str × Addr)) (fp : List Addr), QG S (X.blk s H scope (compEnvC scope cl C X.env) fp) tg t) (ht : ∀ (s : Shared) (H : Hp) (C : Addr) (cl : List (Str × Addr)) (fp : List Addr), QTs S W0 (X.blk s H scope (compEnvC scope cl C X.env) fp) ifs c)
    (he : ∀ (s : Shared) (H : Hp) (C : Addr) (cl : List (Str × Addr)) (fp : List Addr), QE S W0 (X.blk s H scope (compEnvC scope cl C X.env) fp) elt e) (hsl : ∀ i ∈ t.slots, i ∈ own.map (·.2) := by decide) (hs : ∀ x, foldedSetIterable iter X.env x = pure x := by intro _; rfl) :
    QE S W X (.ListComp elt [⟨tg, iter, ifs, 0⟩] scope pos) (fCompC fi (own.map (·.2)) t c e) := PE.imp (pe_lc hc hN hi ok hg ht he hs) fun _ _ _ h => lc_imp hsl h
theorem qe_lc (hc : X.calm = true) (hN : X.N.Nodup) (hi : QI S W X tg iter fi) (ok : BlkOk X.N X.env.scope scope own)
    (hg : ∀ (s : Shared) (H : Hp) (C : Addr) (cl : List (Str × Addr)) (fp : List Addr), QG S (X.blk s H scope (compEnvC scope cl C X.env) fp) tg t) (ht : ∀ (s : Shared) (H : Hp) (C : Addr) (cl : List (Str × Addr)) (fp : List Addr), QTs S W0 (X.blk s H scope (compEnvC scope cl C X.env) fp) ifs c)
    (he : ∀ (s : Shared) (H : Hp) (C : Addr) (cl : List (Str × Addr)) (fp : List Addr), QE S W0 (X.blk s H scope (compEnvC scope cl C X.env) fp) elt e) (hsl : ∀ i ∈ t.slots, i ∈ own.map (·.2) := by decide) (hs : ∀ x, foldedSetIterable iter X.env x = pure x := by intro _; rfl) :
    QE S W X (.ListComp elt [⟨tg, iter, ifs, 0⟩] scope pos) (fTrim (fCompC fi (own.map (·.2)) t c e)) := qe_trim (qe_lcC hc hN hi ok hg ht he hsl hs)
end
end QX
set_option maxRecDepth 100000
set_option maxHeartbeats 1000000
namespace QX
open PySem PySem.Spec PyProof.Rows L2 HX
inductive Fl where
  | nx (σ : Sa) | rt (d : D) | bk (σ : Sa) | ct (σ : Sa)
inductive RS where
  | ok (f : Fl) (M : Mem) | exc (c : Nat) (fs : List (Str × D)) (σ : Sa) (M : Mem) | bad
abbrev FS := Sa → Mem → RS
def Res.bindS {α : Type} (r : Res α) (σ : Sa) (k : α → Mem → RS) : RS := match r with
  | .ok x M => k x M
  | .exc c fs M => .exc c fs σ M
  | .bad => .bad
def PostS (S : Sc) (W : WX) (ρ : List Addr) (H : Hp) (E : Ends) : RS → Prop
  | .ok (.nx σa) M => ∀ ρ' H' σ, Stp S ρ H ρ' H' M → RepSt S.K ρ' H' σ σa → E.nx σ H'
  | .ok (.rt d) M => ∀ ρ' H' v, Stp S ρ H ρ' H' M → Rep S.K ρ' H' v d → E.rt v H'
  | .ok (.bk σa) M => ∀ ρ' H' σ, Stp S ρ H ρ' H' M → RepSt S.K ρ' H' σ σa → E.bk σ H'
  | .ok (.ct σa) M => ∀ ρ' H' σ, Stp S ρ H ρ' H' M → RepSt S.K ρ' H' σ σa → E.ct σ H'
  | .exc c fs σa M => ∀ ρ' H' σ d, Stp S ρ H ρ' H' M → RepSt S.K ρ' H' σ σa → XRep S.K ρ' H' d fs → W (.ref (S.C c)) d σ H'
  | .bad => False
def tOfS (S : Sc) (W : WX) (f : FS) : TS := fun E σ H => ∃ ρ M σa, MemOk S ρ H M ∧ RepSt S.K ρ H σ σa ∧ PostS S W ρ H E (f σa M)
abbrev QS (S : Sc) (W : WX) (X : Cx) (st : Stmt) (f : FS) : Prop := PS X st (tOfS S W f)
abbrev QSs (S : Sc) (W : WX) (X : Cx) (st : List Stmt) (f : FS) : Prop := PSs X st (tOfS S W f)
section
variable {S : Sc} {W : WX} {ρ ρ' : List Addr} {H H' : Hp} {E : Ends}
theorem PostS.mono {r : RS} (h : PostS S W ρ H E r) (e : Ext ρ H ρ' H') : PostS S W ρ' H' E r := by
  cases r with
  | ok f M =>
    cases f with
    | nx σ => exact fun ρ2 H2 v st => h ρ2 H2 v ⟨e.trans st.1, st.2⟩
    | rt d => exact fun ρ2 H2 v st => h ρ2 H2 v ⟨e.trans st.1, st.2⟩
    | bk σ => exact fun ρ2 H2 v st => h ρ2 H2 v ⟨e.trans st.1, st.2⟩
    | ct σ => exact fun ρ2 H2 v st => h ρ2 H2 v ⟨e.trans st.1, st.2⟩
  | exc c fs σ M => exact fun ρ2 H2 σ d st => h ρ2 H2 σ d ⟨e.trans st.1, st.2⟩
  | bad => exact h
theorem useS {α β : Type} {R : List Addr → Hp → β → α → Prop} {σ : L2.St} {σa : Sa} {M : Mem} {f : F α} {k : α → Mem → RS} {Q : β → Hp → Prop} (mo : MemOk S ρ H M) (rs : RepSt S.K ρ H σ σa) (h : PostS S W ρ H E ((f σa M).bindS σa k))
    (c : ∀ x M1 ρ1 H1 v, Stp S ρ H ρ1 H1 M1 → R ρ1 H1 v x → RepSt S.K ρ1 H1 σ σa → PostS S W ρ1 H1 E (k x M1) → Q v H1) : tOf S W R f σ H Q := by
  refine ⟨ρ, M, σa, mo, rs, ?_⟩
  cases e : f σa M with
  | ok x M1 =>
    rw [e] at h
    intro ρ1 H1 v st r
    exact c x M1 ρ1 H1 v st r (rs.mono st.1) (PostS.mono h st.1)
  | exc c2 fs M1 =>
    rw [e] at h
    exact fun ρ1 H1 d st xr => h ρ1 H1 σ d st (rs.mono st.1) xr
  | bad => rw [e] at h; exact h
variable {X : Cx} {st : Stmt} {rest : List Stmt} {e : Expr} {pos : Pos} {fe : F D} {s1 s2 : FS} {g : F Bool}
def sNext : FS := fun σ M => .ok (.nx σ) M
def sRet (f : F D) : FS := fun σ M => (f σ M).bindS σ fun d M1 => .ok (.rt d) M1
def sRetN : FS := fun σ M => .ok (.rt .non) M
def sExpr (f : F D) : FS := fun σ M => (f σ M).bindS σ fun _ M1 => .ok (.nx σ) M1
def sSet (i : Nat) (f : F D) : FS := fun σ M => (f σ M).bindS σ fun d M1 => .ok (.nx (σ.set i (some d))) M1
def sAsg (f : F D) (t : Tg) : FS := fun σ M => (f σ M).bindS σ fun d M1 => match t.put (.d d) σ with | some σ1 => .ok (.nx σ1) M1 | none => .bad
def sPar (i j : Nat) (fs : F (List D)) : FS := fun σ M => (fs σ M).bindS σ fun ds M1 => match ds with | [a, b] => .ok (.nx ((σ.set i (some a)).set j (some b))) M1 | _ => .bad
def sIf (g : F Bool) (s1 s2 : FS) : FS := fun σ M => (g σ M).bindS σ fun c M1 => if c = true then s1 σ M1 else s2 σ M1
def sSeq (s1 s2 : FS) : FS := fun σ M => match s1 σ M with | .ok (.nx σ1) M1 => s2 σ1 M1 | r => r
def sBreak : FS := fun σ M => .ok (.bk σ) M
def sCont : FS := fun σ M => .ok (.ct σ) M
def sRaise (c : Nat) : FS := fun σ M => .exc c [] σ M
def sNever : FS := fun _ _ => .bad
theorem qss_nil : QSs S W X [] sNext := PSs.imp pss_nil fun E σ H ⟨ρ, M, σa, mo, rs, p⟩ => p ρ H σ (Stp.refl mo) rs
theorem qss_one (h : QS S W X st s1) : QSs S W X [st] s1 := pss_one h
theorem qss_cons (h1 : QS S W X st s1) (h2 : QSs S W X rest s2) : QSs S W X (st :: rest) (sSeq s1 s2) := PSs.imp (pss_cons h1 h2) fun E σ H ⟨ρ, M, σa, mo, rs, p⟩ => by
  refine ⟨ρ, M, σa, mo, rs, ?_⟩
  unfold sSeq at p
  cases e : s1 σa M with
  | ok f M1 =>
    rw [e] at p
    cases f with
    | nx σ1 => exact fun ρ1 H1 σ' st rs' => ⟨ρ1, M1, σ1, st.2, rs', PostS.mono p st.1⟩
    | rt d => exact p
    | bk σ1 => exact p
    | ct σ1 => exact p
  | exc c fs σ1 M1 => rw [e] at p; exact p
  | bad => rw [e] at p; exact p
theorem qs_ret (h : QE S W X e fe) : QS S W X (.Return (some e) pos) (sRet fe) := PS.imp (ps_ret h) fun E σ H ⟨ρ, M, σa, mo, rs, p⟩ => useS mo rs p fun x M1 ρ1 H1 v st1 r1 rs1 p1 => p1 ρ1 H1 v (Stp.refl st1.2) r1
theorem qs_expr (h : QE S W X e fe) (hs : swapsWith e none pos.line X.env = pure false := by rfl) : QS S W X (.Expr e pos) (sExpr fe) := PS.imp (ps_expr h hs) fun E σ H ⟨ρ, M, σa, mo, rs, p⟩ => useS mo rs p fun x M1 ρ1 H1 v st1 r1 rs1 p1 => p1 ρ1 H1 σ (Stp.refl st1.2) rs1
theorem asg_imp {i : Nat} {E : Ends} {σ : L2.St} {H : Hp} (h : tOfS S W (sSet i fe) E σ H) : tAsg (tOf S W (Rep S.K) fe) (gName i) E σ H := by
  obtain ⟨ρ, M, σa, mo, rs, p⟩ := h
  exact useS mo rs p fun x M1 ρ1 H1 v st1 r1 rs1 p1 => p1 ρ1 H1 _ (Stp.refl st1.2) (rs1.set i r1)
theorem qs_set {i : Nat} {x : Str} {pos' : Pos} (hN : X.N.Nodup) (hi : X.N[i]? = some x) (hx : Loc X.env.scope x) (he : QE S W X e fe) (hs : swapsWith e (some (.Name x pos')) pos.line X.env = pure false := by rfl) (hf : X.fn x = true ∨ X.env.scope.names.lookup x = some .local := by first | exact .inl rfl | exact .inr rfl | assumption) :
    QS S W X (.Assign [.Name x pos'] e pos) (sSet i fe) := PS.imp (ps_set hN hi hx he hs hf) fun _ _ _ h => asg_imp h
theorem qs_asg {tg : Expr} {t : Tg} (he : QE S W X e fe) (hg : QG S X tg t) (hs : swapsWithSole [tg] e pos.line X.env = pure false := by rfl) (hw : swappedStores [tg] e X.env = pure none := by rfl)
    (h1 : (assignEach [tg] X.env).map (·.2) = [assign tg X.env] := by rfl) : QS S W X (.Assign [tg] e pos) (sAsg fe t) := PS.imp (ps_asg he hg hs hw h1) fun E σ H ⟨ρ, M, σa, mo, rs, p⟩ => by
  refine useS mo rs p fun x M1 ρ1 H1 v st1 r1 rs1 p1 => ?_
  split at p1
  · rename_i σ1 hp
    exact put_ok (im := .d x) rs1 r1 hp fun σ' rs' _ => p1 ρ1 H1 σ' (Stp.refl st1.2) rs'
  · exact p1.elim
theorem qs_par {i j : Nat} {x y : Str} {a b : Expr} {fs : F (List D)} {px py pt : Pos} {kt k2 pt2} (hc : X.calm = true) (hN : X.N.Nodup) (hi : X.N[i]? = some x) (hj : X.N[j]? = some y) (hij : i ≠ j)
    (hx : X.env.scope.names.lookup x = some .local) (hy : X.env.scope.names.lookup y = some .local) (ha : QA S W X [a, b] fs)
    (hw : swappedStores [.Tuple [.Name x px, .Name y py] kt pt] (.Tuple [a, b] k2 pt2) X.env = pure (some [x, y]))
    (hs : swapsWithSole [.Tuple [.Name x px, .Name y py] kt pt] (.Tuple [a, b] k2 pt2) pos.line X.env = pure false := by rfl) :
    QS S W X (.Assign [.Tuple [.Name x px, .Name y py] kt pt] (.Tuple [a, b] k2 pt2) pos) (sPar i j fs) := PS.imp (ps_par hc hN hi hj hij hx hy ha hw hs) fun E σ H ⟨ρ, M, σa, mo, rs, p⟩ => by
  refine useS mo rs p fun ds M1 ρ1 H1 vs st1 r1 rs1 p1 => ?_
  split at p1
  · obtain ⟨v, w, rfl, rv, rw'⟩ := RepA.two r1
    exact ⟨v, w, rfl, p1 ρ1 H1 _ (Stp.refl st1.2) ((rs1.set i rv).set j rw')⟩
  · exact p1.elim
theorem qs_if {c : Expr} {a b : List Stmt} (hc : QT S W X c g) (ha : QSs S W X a s1) (hb : QSs S W X b s2) : QS S W X (.If c a b pos) (sIf g s1 s2) := PS.imp (ps_if hc ha hb) fun E σ H ⟨ρ, M, σa, mo, rs, p⟩ => by
  refine useS mo rs p fun x M1 ρ1 H1 v st1 r1 rs1 p1 => ?_
  cases (show v = x from r1)
  cases x with
  | true => exact ⟨ρ1, M1, σa, st1.2, rs1, p1⟩
  | false => exact ⟨ρ1, M1, σa, st1.2, rs1, p1⟩
theorem qs_err {x : Str} {n : Nat} {p pos pos2 : Pos} (R : Err X.K X.mg x (S.C n)) (tk : Takes X W) (hc : X.calm = true := by rfl) (hg : Gl X x := by rfl) (hdb : (x == ("__debug__" : Str)) = false := by decide) :
    QS S W X (.Raise (some (.Call (.Name x p) [] [] pos)) none pos2) (sRaise n) := PS.imp (ps_err R tk hc hg hdb) fun E σ H ⟨ρ, M, σa, mo, rs, p⟩ => p ρ H σ none (Stp.refl mo) rs rfl
def keepS (n : Nat) : Option D → Option D
  | some d => if d.und n = true then some d else none
  | none => none
def gc (n : Nat) (σ : Sa) (M : Mem) : Sa × Mem := if Nat.ble M.length n = true then (σ, M) else if closed n M = true then (σ.map (keepS n), M.take n) else (σ, M)
theorem gc_ok {ρ0 : List Addr} {H0 : Hp} {M : Mem} {σ : L2.St} {σa : Sa} (e : Ext ρ0 H0 ρ H) (mo : MemOk S ρ H M) (rs : RepSt S.K ρ H σ σa) : ∃ ρ', Stp S ρ0 H0 ρ' H (gc ρ0.length σa M).2 ∧ RepSt S.K ρ' H σ (gc ρ0.length σa M).1 := by
  unfold gc
  split
  · exact ⟨ρ, ⟨e, mo⟩, rs⟩
  · split
    · rename_i hc
      obtain ⟨more, rfl, hm⟩ := e.pre
      refine ⟨ρ0, ⟨⟨⟨[], by simp, by simp⟩, e.keep, e.live⟩, mem_down mo hc⟩, by rw [List.length_map]; exact rs.1, fun i d h => ?_⟩
      rw [List.getElem?_map] at h
      cases q : σa[i]? with
      | none => rw [q] at h; cases h
      | some o =>
        rw [q] at h
        cases o with
        | none => cases h
        | some d' =>
          have h' : keepS ρ0.length (some d') = some d := Option.some.inj h
          have h2 : (if d'.und ρ0.length = true then some d' else none) = some d := h'
          by_cases hb : d'.und ρ0.length = true
          · rw [if_pos hb] at h2
            cases h2
            obtain ⟨v, h1, h2⟩ := rs.2 i d q
            exact ⟨v, h1, Rep.down d v hb h2⟩
          · rw [if_neg hb] at h2
            cases h2
    · exact ⟨ρ, ⟨e, mo⟩, rs⟩
def forL (t : Tg) (b : FS) (chk : Mem → Bool) (n : Nat) : List Im → FS
  | [], σ, M => if chk M = true then .ok (.nx σ) M else .bad
  | im :: ims, σ, M => if chk M = true then (match t.put im σ with
      | none => .bad
      | some σ1 => (match b σ1 M with
        | .ok (.nx σ2) M2 => forL t b chk n ims (gc n σ2 M2).1 (gc n σ2 M2).2
        | .ok (.ct σ2) M2 => forL t b chk n ims (gc n σ2 M2).1 (gc n σ2 M2).2
        | .ok (.bk σ2) M2 => .ok (.nx σ2) M2
        | .ok (.rt d) M2 => .ok (.rt d) M2
        | .exc c fs σ2 M2 => .exc c fs σ2 M2
        | .bad => .bad)) else .bad
def sFor (fi : F Ita) (t : Tg) (b : FS) : FS := fun σ M => (fi σ M).bindS σ fun it M1 => forL t b it.chk M1.length it.items σ M1
theorem qs_for {iter tg : Expr} {body : List Stmt} {fi : F Ita} {t : Tg} {b : FS} {pos : Pos} (hp : PassesOwn (model X.prog X.w) X.A X.env X.xe) (hc : X.calm = true) (hi : QI S W X tg iter fi) (hg : QG S X tg t) (hb : QSs S W X body b)
    (hs : ∀ x, foldedSetIterable iter X.env x = pure x := by intro _; rfl) : QS S W X (.For tg iter body [] pos) (sFor fi t b) := PS.imp (ps_for hp hc hi hg hb hs) fun E σ H ⟨ρ, M, σa, mo, rs, p⟩ => by
  refine useS mo rs p fun it M1 ρ1 H1 J st1 ok rs1 p1 => ?_
  rw [← st1.2.len] at p1
  refine ⟨fun i m σ H => m = it.items.length - i ∧ i ≤ it.items.length ∧ ∃ ρc Mc σc, Stp S ρ1 H1 ρc H Mc ∧ RepSt S.K ρc H σ σc ∧ PostS S W ρ1 H1 E (forL t b it.chk ρ1.length (it.items.drop i) σc Mc),
    ⟨_, rfl, Nat.zero_le _, ρ1, M1, σa, Stp.refl st1.2, rs1, by rw [List.drop_zero]; exact p1⟩, ?_⟩
  rintro i m σ' Hc ⟨rfl, hi, ρc, Mc, σc, stc, rsc, pc⟩
  by_cases hlt : i < it.items.length
  · rw [List.drop_eq_getElem_cons hlt] at pc
    unfold forL at pc
    by_cases hc : it.chk Mc = true
    · rw [if_pos hc] at pc
      refine .inr ⟨ok.go ρc Hc Mc i stc.1 stc.2 hc hlt, fun σ' H' => ∃ ρc' Mc' σc', Stp S ρ1 H1 ρc' H' Mc' ∧ RepSt S.K ρc' H' σ' σc' ∧ PostS S W ρ1 H1 E (forL t b it.chk ρ1.length (it.items.drop (i + 1)) σc' Mc'),
        fun σ' H' ⟨ρc', Mc', σc', a1, a2, a3⟩ => ⟨_, by omega, rfl, hlt, ρc', Mc', σc', a1, a2, a3⟩, fun x H2 y => ?_⟩
      obtain ⟨im, him, st2, ri⟩ := ok.yld ρc Hc Mc i x H2 stc.1 stc.2 hc hlt y
      have e0 : it.items[i] = im := by
        rw [List.getElem?_eq_getElem hlt] at him
        exact Option.some.inj him
      rw [e0] at pc
      split at pc
      · exact pc.elim
      · rename_i σ1 hput
        refine put_ok (rsc.mono st2.1) ri hput fun σ2 rs2 _ => ⟨ρc, Mc, σ1, st2.2, rs2, ?_⟩
        have ex2 := stc.1.trans st2.1
        have go : ∀ {σ3 : Sa} {M3 : Mem}, PostS S W ρ1 H1 E (forL t b it.chk ρ1.length (it.items.drop (i + 1)) (gc ρ1.length σ3 M3).1 (gc ρ1.length σ3 M3).2) → ∀ ρ' H' σ', Stp S ρc H2 ρ' H' M3 → RepSt S.K ρ' H' σ' σ3 → ∃ ρc' Mc' σc', Stp S ρ1 H1 ρc' H' Mc' ∧ RepSt S.K ρc' H' σ' σc' ∧ PostS S W ρ1 H1 E (forL t b it.chk ρ1.length (it.items.drop (i + 1)) σc' Mc') := by
          intro σ3 M3 p3 ρ' H' σ' st' rs'
          obtain ⟨ρ4, a1, a2⟩ := gc_ok (ex2.trans st'.1) st'.2 rs'
          exact ⟨ρ4, _, _, a1, a2, p3⟩
        cases e : b σ1 Mc with
        | ok f M3 =>
          rw [e] at pc
          cases f with
          | nx σ3 => exact go pc
          | ct σ3 => exact go pc
          | bk σ3 => exact (PostS.mono pc ex2 : PostS S W ρc H2 E (.ok (.nx σ3) M3))
          | rt d => exact (PostS.mono pc ex2 : PostS S W ρc H2 E (.ok (.rt d) M3))
        | exc c fs σ3 M3 => rw [e] at pc; exact (PostS.mono pc ex2 : PostS S W ρc H2 E (.exc c fs σ3 M3))
        | bad => rw [e] at pc; exact pc
    · rw [if_neg hc] at pc
      exact pc.elim
  · have e : i = it.items.length := by omega
    subst e
    rw [List.drop_length] at pc
    unfold forL at pc
    by_cases hc : it.chk Mc = true
    · rw [if_pos hc] at pc
      exact .inl ⟨ok.stop ρc Hc Mc stc.1 stc.2 hc, pc ρc Hc σ' stc rsc⟩
    · rw [if_neg hc] at pc
      exact pc.elim
def gSetIx (o i v : D) (M : Mem) : Option Mem := match o, i with
  | .ref n, .int k => (match M[n]? with | some (.lst ds) => (match ixN ds.length k with | some j => some (M.set n (.lst (ds.set j v))) | none => none) | _ => none)
  | _, _ => none
theorem set_ok {M M2 : Mem} {o i v : D} {vo vi vv : V} {Q : Hp → Prop} (mo : MemOk S ρ H M) (ro : Rep S.K ρ H vo o) (ri : Rep S.K ρ H vi i) (rv : Rep S.K ρ H vv v) (h : gSetIx o i v M = some M2) (q : ∀ H', Stp S ρ H ρ H' M2 → Q H') : rSetL vo vi vv H Q := by
  unfold gSetIx at h
  split at h
  · split at h
    · rename_i ds hm
      split at h
      · rename_i j hj
        cases h
        cases ri
        cases ro with
        | ref e =>
          obtain ⟨xs, e1, ra⟩ := mo.cell _ _ _ e hm
          exact ⟨_, xs, _, j, rfl, rfl, e1, by rw [ra.len]; exact hj, q _ (Stp.put mo e hm (ra.set rv j))⟩
      · cases h
    · cases h
  · cases h
def sSetIx (fo fi fv : F D) : FS := fun σ M => (fv σ M).bindS σ fun v M1 => (fo σ M1).bindS σ fun o M2 => (fi σ M2).bindS σ fun i M3 => match gSetIx o i v M3 with | some M4 => .ok (.nx σ) M4 | none => .bad
theorem qs_setIx {o i e : Expr} {fo fi fv : F D} {pos pos' : Pos} (ho : QE S W X o fo) (hi : QE S W X i fi) (he : QE S W X e fv)
    (ha : ∀ v, assign (.Subscript o i pos') X.env v = (do
      let ov ← holding [v] (eval o X.env)
      let iv ← holding [v, ov] (eval i X.env)
      standAt pos'
      holding [v, ov, iv] (setItem ov iv v)
      release [v, ov, iv] []) := by intro _; rfl) (hs : swapsWithSole [.Subscript o i pos'] e pos.line X.env = pure false := by rfl) (hw : swappedStores [.Subscript o i pos'] e X.env = pure none := by rfl)
    (h1 : (assignEach [.Subscript o i pos'] X.env).map (·.2) = [assign (.Subscript o i pos') X.env] := by rfl) : QS S W X (.Assign [.Subscript o i pos'] e pos) (sSetIx fo fi fv) :=
  PS.imp (ps_asg he (pg_sub ho hi set_list ha) hs hw h1) fun E σ H ⟨ρ, M, σa, mo, rs, p⟩ => by
  refine useS mo rs p fun x M1 ρ1 H1 v st1 r1 rs1 p1 => useS st1.2 rs1 p1 fun x2 M2 ρ2 H2 v2 st2 r2 rs2 p2 => useS st2.2 rs2 p2 fun x3 M3 ρ3 H3 v3 st3 r3 rs3 p3 => ?_
  split at p3
  · rename_i M4 h4
    exact set_ok st3.2 (Rep.mono st3.1 _ _ r2) r3 (Rep.mono (st2.1.trans st3.1) _ _ r1) h4 fun H' st4 => p3 ρ3 H' σ st4 (rs3.mono st4.1)
  · exact p3.elim
def gAug (sub : Bool) : D → D → Option D
  | .int i, .int j => some (.int (if sub = true then i - j else i + j))
  | _, _ => none
def IpQ (S : Sc) (ti : TIp) (g : D → D → Option D) : Prop := ∀ (ρ : List Addr) (H : Hp) (x y : V) (dx dy d : D) (Q : VK), Rep S.K ρ H x dx → Rep S.K ρ H y dy → g dx dy = some d → (∀ v, Rep S.K ρ H v d → Q v H) → ti x y H Q
theorem ipq_add : IpQ S (ipI fun i j => i + j) (gAug false) := by
  intro ρ H x y dx dy d Q rx ry h q
  unfold gAug at h
  split at h
  · cases h; cases rx; cases ry
    exact ⟨_, _, rfl, rfl, q _ (.int _)⟩
  · cases h
def sAug (i : Nat) (g : D → D → Option D) (f : F D) : FS := fun σ M => (fVar i σ M).bindS σ fun x M0 => (f σ M0).bindS σ fun y M1 => match g x y with | some z => .ok (.nx (σ.set i (some z))) M1 | none => .bad
theorem qs_aug {i : Nat} {x : Str} {op : Operator} {ti : TIp} {g : D → D → Option D} {pos' : Pos} (hN : X.N.Nodup) (hi : X.N[i]? = some x) (hx : Loc X.env.scope x) (he : QE S W X e fe) (ho : PIp X op ti) (hq : IpQ S ti g) (hf : X.fn x = true ∨ X.env.scope.names.lookup x = some .local := by first | exact .inl rfl | exact .inr rfl | assumption) :
    QS S W X (.AugAssign (.Name x pos') op e pos) (sAug i g fe) := PS.imp (ps_aug hN hi hx he ho hf) fun E σ H ⟨ρ, M, σa, mo, rs, p⟩ => by
  unfold sAug fVar at p
  cases q : σa[i]? with
  | none => rw [q] at p; exact p.elim
  | some o =>
    cases o with
    | none => rw [q] at p; exact p.elim
    | some d =>
      rw [q] at p
      obtain ⟨v, h1, r⟩ := rs.2 i d q
      refine ⟨v, h1, useS mo rs p fun y M1 ρ1 H1 vy st1 r1 rs1 p1 => ?_⟩
      split at p1
      · rename_i z hz
        exact hq ρ1 H1 v vy d y z _ (Rep.mono st1.1 _ _ r) r1 hz fun w rw' => p1 ρ1 H1 _ (Stp.refl st1.2) (rs1.set i rw')
      · exact p1.elim
def gGetN (o i : D) (M : Mem) : Option D := match i with
  | .int k => if decide (0 ≤ k) = true then (match listOf M o with | some ds => ds[k.toNat]? | none => none) else none
  | _ => none
def sAugIx (fo fi fe : F D) (g : D → D → Option D) : FS := fun σ M => (fo σ M).bindS σ fun o M1 => (fi σ M1).bindS σ fun i M2 => match gGetN o i M2 with
  | some x => (fe σ M2).bindS σ fun y M3 => (match g x y with | some z => (match gSetIx o i z M3 with | some M4 => .ok (.nx σ) M4 | none => .bad) | none => .bad)
  | none => .bad
end
def startA (n : Nat) (ds : List D) : Sa := ds.map some ++ List.replicate (n - ds.length) none
def runD (n k : Nat) (b : FS) (ds : List D) (M : Mem) : Res D := if ds.length == k then (match b (startA n ds) M with
  | .ok (.rt d) M1 => .ok d M1
  | .ok (.nx _) M1 => .ok .non M1
  | .exc c fs _ M1 => .exc c fs M1
  | _ => .bad) else .bad
def runT (n k : Nat) (b : FS) (ds : List D) (M : Mem) : Res D := trimR M.length (runD n k b ds M)
def spM (S : Sc) (n : Nat) (m : List D → Mem → Res D) : Sp := fun vs H Q E => vs.length = n ∧ ∃ ρ M ds, MemOk S ρ H M ∧ RepA S.K ρ H vs ds ∧ Post S (fun cls d _ H => E cls d H) (Rep S.K) [] ρ H Q (m ds M)
abbrev CalQ (S : Sc) (P : Program) (w : World) (mg : Str → Option Value) (base : Heap) (k : Nat) (x : Str) (ps : List Str) (m : List D → Mem → Res D) : Prop := CalX P w S.K mg base k x ps (spM S ps.length m)
theorem rep_start {K : PySem.W.Frag} {ρ : List Addr} {H : Hp} {N : List Str} {vs : List V} {ds : List D} (r : RepA K ρ H vs ds) : RepSt K ρ H (start N vs) (startA N.length ds) := by
  refine ⟨?_, fun i d h => ?_⟩
  · unfold L2.start startA
    rw [List.length_append, List.length_append, List.length_map, List.length_map, List.length_replicate, List.length_replicate, r.len]
  · unfold startA at h
    unfold L2.start
    by_cases hi : i < ds.length
    · rw [List.getElem?_append_left (by rw [List.length_map]; exact hi), List.getElem?_map] at h
      rw [List.getElem?_append_left (by rw [List.length_map, r.len]; exact hi), List.getElem?_map]
      cases q : ds[i]? with
      | none => rw [q] at h; cases h
      | some d' =>
        rw [q] at h
        cases h
        obtain ⟨v, h1, h2⟩ := r.at q
        exact ⟨v, by rw [h1]; rfl, h2⟩
    · rw [List.getElem?_append_right (by rw [List.length_map]; omega), List.length_map, List.getElem?_replicate] at h
      split at h
      · cases h
      · cases h
section
variable {S : Sc} {P : Program} {w : World} {mg : Str → Option Value} {base : Heap} {k : Nat} {x : Str} {ps N : List Str} {st : Stmt} {b : FS}
theorem Def.okQ (T : HX.Def S.K mg x st ps) (sc : FnScope N ps (defScope st))
    (hb : ∀ (f : Addr) (cdv : Value) (A : Around) (outer : List Env) (s : Shared) (H : Hp) (E : XK), Room k (A.deeper (envOfC x (defScope st) s.heap.objs.size f cdv)) → Takes (cxOf (L2.CX P w) P w S.K mg base N x (defScope st) f cdv A outer s H E) (fun cls d _ H => E cls d H) →
      PassesOwn (model P w) (cxOf (L2.CX P w) P w S.K mg base N x (defScope st) f cdv A outer s H E).A (cxOf (L2.CX P w) P w S.K mg base N x (defScope st) f cdv A outer s H E).env (cxOf (L2.CX P w) P w S.K mg base N x (defScope st) f cdv A outer s H E).xe →
      QSs S (fun cls d _ H => E cls d H) (cxOf (L2.CX P w) P w S.K mg base N x (defScope st) f cdv A outer s H E) (defBody st) b) : CalQ S P w mg base (k + 1) x ps (runD N.length ps.length b) := by
  refine HX.Def.okX T sc (fun vs H Q E h => h.1) fun f cdv A outer s H vs Q E hr h tk => ⟨_, hb f cdv A outer s H E hr tk (passes_of (X := cxOf (L2.CX P w) P w S.K mg base N x (defScope st) f cdv A outer s H E) rfl), ?_⟩
  obtain ⟨hl, ρ, M, ds, mo, ra, p⟩ := h
  refine ⟨ρ, M, _, mo, rep_start ra, ?_⟩
  unfold runD at p
  split at p
  · cases e : b (startA N.length ds) M with
    | ok fl M1 =>
      rw [e] at p
      cases fl with
      | rt d => exact p
      | nx σ => exact fun ρ' H' _ st' _ => p ρ' H' .non st' .non
      | bk σ => exact p.elim
      | ct σ => exact p.elim
    | exc c fs σ M1 => rw [e] at p; exact fun ρ' H' _ d st' _ xr => p ρ' H' d st' xr
    | bad => rw [e] at p; exact p
  · exact p.elim
theorem CalQ.imp {m m' : List D → Mem → Res D} (c : CalQ S P w mg base k x ps m) (h : ∀ (W : WX) (ρ : List Addr) (H : Hp) (Q : VK) (vs : List V) (ds : List D) (M : Mem), MemOk S ρ H M → RepA S.K ρ H vs ds → Post S W (Rep S.K) [] ρ H Q (m' ds M) → Post S W (Rep S.K) [] ρ H Q (m ds M)) : CalQ S P w mg base k x ps m' := by
  obtain ⟨f, fd, F, a1, a2, a3⟩ := c
  exact ⟨f, fd, F.imp fun vs H Q E ⟨hl, ρ, M, ds, mo, ra, p⟩ => ⟨hl, ρ, M, ds, mo, ra, h _ _ _ _ _ _ _ mo ra p⟩, a1, a2, a3⟩
theorem CalQ.trim {m : List D → Mem → Res D} (c : CalQ S P w mg base k x ps m) : CalQ S P w mg base k x ps (fun ds M => trimR M.length (m ds M)) := CalQ.imp c fun _ _ _ _ _ _ _ mo _ p => Post.trim mo p
end
theorem len_nil : ∀ σ M ds M1, fNil σ M = .ok ds M1 → ds.length = 0 := fun σ M ds M1 h => by cases h; rfl
theorem len_cons {fa : F D} {fs : F (List D)} {n : Nat} (h : ∀ σ M ds M1, fs σ M = .ok ds M1 → ds.length = n) : ∀ σ M ds M1, fCons fa fs σ M = .ok ds M1 → ds.length = n + 1 := fun σ M ds M1 e => by
  unfold fCons at e
  cases q : fa σ M with
  | ok x M2 =>
    rw [q] at e
    dsimp only [Res.bind] at e
    cases q2 : fs σ M2 with
    | ok xs M3 =>
      rw [q2] at e
      cases e
      rw [List.length_cons, h _ _ _ _ q2]
    | exc c f2 M3 => rw [q2] at e; cases e
    | bad => rw [q2] at e; cases e
  | exc c f2 M3 => rw [q] at e; cases e
  | bad => rw [q] at e; cases e
def fCall (m : List D → Mem → Res D) (fs : F (List D)) : F D := fun σ M => (fs σ M).bind m
theorem qe_call {X : Cx} {S : Sc} {W : WX} {k : Nat} {x : Str} {ps : List Str} {m : List D → Mem → Res D} {p pos : Pos} {e : Expr} {es : List Expr} {fs : F (List D)} (tk : Takes X W) (hk : X.K = S.K) (c : CalQ S X.prog X.w X.mg X.base k x ps m) (hr : Room k X.A) (hg : Gl X x) (ha : QA S W X (e :: es) fs) (hn : ∀ σ M ds M1, fs σ M = .ok ds M1 → ds.length = ps.length) (hdb : (x == ("__debug__" : Str)) = false := by decide)
    (he : starEach (e :: es) X.env = (false, eval e X.env) :: starEach es X.env := by rfl) (hpl : (backTo pos (starEach es X.env)).any (·.1) = false := by rfl) : QE S W X (.Call (.Name x p) (e :: es) [] pos) (fCall m fs) := by
  have c' : CalX X.prog X.w X.K X.mg X.base k x ps (spM S ps.length m) := by rw [hk]; exact c
  refine PE.imp (pe_calX tk c' hr hg ha hdb he hpl) fun σ H Q ⟨ρ, M, σa, mo, rs, p⟩ => ?_
  refine ⟨ρ, M, σa, mo, rs, ?_⟩
  unfold fCall at p
  cases e0 : fs σa M with
  | ok ds M1 =>
    rw [e0] at p
    intro ρ1 H1 vs st1 r1
    refine ⟨by rw [r1.len]; exact hn _ _ _ _ e0, ρ1, M1, ds, st1.2, r1, ?_⟩
    have p1 := Post.mono p st1.1
    cases e1 : m ds M1 with
    | ok d M2 => dsimp only [Res.bind] at p1; rw [e1] at p1; exact p1
    | exc c fs M2 => dsimp only [Res.bind] at p1; rw [e1] at p1; exact p1
    | bad => dsimp only [Res.bind] at p1; rw [e1] at p1; exact p1
  | exc c fs M1 => rw [e0] at p; exact p
  | bad => rw [e0] at p; exact p
end QX
set_option maxRecDepth 100000
set_option maxHeartbeats 2000000
namespace QX
open PySem PySem.Spec PyProof.Rows L2 HX
theorem tuple_mulS (l : Addr) (items : Array Value) (n : Nat) (dd : Option Addr) (sl : Array (Option Value)) (x : Int) (u : Tok) (c0 : (decide (x < -(2 ^ 63)) || decide (x ≥ 2 ^ 63)) = false) (c1 : (items.isEmpty || x == 1) = true) :
    Meets (Builtin.«tuple.__mul__» ⟨[.ref l, .int x u], []⟩) (fun _ R s => s.heap.get? l = some { cls := .type "tuple", dict := dd, data := .seq items n, slots := sl } ∧ R (.ok (.ret (Value.ref l))) s) :=
  .of_wp fun prog w A R s h => by
    obtain ⟨hp, g, d, tk, os⟩ := s
    obtain ⟨hl, h⟩ := h
    have f1 := AutoSeq1.idx_int
    wp_walk using wpAny_loadPart' hl
    repeat (first
      | (refine wpAny_ite_false (decide_eq_false (by rw [c0]; exact Bool.false_ne_true)) ?_; wp_walk using wpAny_loadPart' hl)
      | (refine wpAny_ite_true (decide_eq_true (by rw [c1])) ?_; wp_walk using wpAny_loadPart' hl)
      | (refine wpAny_ite_true (decide_eq_true rfl) ?_; wp_walk using wpAny_loadPart' hl))
    exact ⟨_, rfl, h⟩
theorem tuple_mul0 (l : Addr) (items : Array Value) (n : Nat) (dd : Option Addr) (sl : Array (Option Value)) (x : Int) (u : Tok) (c0 : (decide (x < -(2 ^ 63)) || decide (x ≥ 2 ^ 63)) = false) (c1 : (items.isEmpty || x == 1) = false) (c2 : (decide (x ≤ 0) || items.isEmpty) = true) :
    Meets (Builtin.«tuple.__mul__» ⟨[.ref l, .int x u], []⟩) (fun _ R s => s.heap.get? l = some { cls := .type "tuple", dict := dd, data := .seq items n, slots := sl } ∧
      R (.ok (.ret (Value.ref s.heap.objs.size))) { s with heap := s.heap.push { cls := Value.type "tuple", data := Data.seq #[] }, toks := s.toks }) :=
  .of_wp fun prog w A R s h => by
    obtain ⟨hp, g, d, tk, os⟩ := s
    obtain ⟨hl, h⟩ := h
    have f1 := AutoSeq1.idx_int
    wp_walk using wpAny_loadPart' hl
    repeat (first
      | (refine wpAny_ite_false (decide_eq_false (by rw [c0]; exact Bool.false_ne_true)) ?_; wp_walk using wpAny_loadPart' hl)
      | (refine wpAny_ite_false (decide_eq_false (by rw [c1]; exact Bool.false_ne_true)) ?_; wp_walk using wpAny_loadPart' hl)
      | (refine wpAny_ite_true (decide_eq_true (by rw [c2])) ?_; wp_walk using wpAny_loadPart' hl)
      | (refine wpAny_ite_false (decide_eq_false (Nat.not_lt.mpr (by show 0 ≤ sizeLine; exact Nat.zero_le _))) ?_; wp_walk using wpAny_loadPart' hl))
    exact ⟨_, rfl, h⟩
section
variable {X : Cx}
def rRepF (K : PySem.W.Frag) : R2 := fun x y H Q => ∃ l k xs, x = .ref l ∧ y = .int k ∧ SqT K H l xs ∧ -1000 ≤ k ∧ k ≤ 1000 ∧ xs.length ≤ 1000 ∧ ((xs = [] ∨ k = 1) → Q (.ref l) H) ∧ (xs ≠ [] → k ≠ 1 → ∀ p o, H p = none → o.dict = none → Q (.ref p) (upd H p (.frz o (.tup (List.replicate k.toNat xs).flatten))))
theorem op_repF : OpR X (binaryOp .Mult) (rRepF X.K) := by
  intro pins s σ H x y v u Q I rx ry h
  obtain ⟨l, k, xs, rfl, rfl, hT, h1, h2, hz, q1, q2⟩ := h
  cases rx
  obtain ⟨t, rfl⟩ := ry
  obtain ⟨its, r, ⟨⟨cls, dd, data, sl⟩, ho, hc, n, hd⟩, hs⟩ := I.tuple hT
  simp only at hc hd
  subst hc hd
  have hle : its.length = xs.length := r.length.symm
  have c0 : (decide (k < -(2 ^ 63)) || decide (k ≥ 2 ^ 63)) = false := by
    rw [decide_eq_false (by omega), decide_eq_false (by omega)] <;> rfl
  by_cases hs1 : xs = [] ∨ k = 1
  · have c1 : (its.toArray.isEmpty || k == 1) = true := by
      rcases hs1 with e | e
      · rw [e] at hle
        have : its = [] := List.eq_nil_of_length_eq_zero hle
        rw [this]
        rfl
      · rw [e, show ((1 : Int) == 1) = true from rfl, Bool.or_true]
    exact wpAny_binaryOp_repeat_ref (T := "tuple") (U := "int") (by decide) ⟨_, ho, rfl⟩ (fun s' => typeIs_int s' k t) noFill_tuple_mul F.fills_int_mul F.slot_int_rmul repeat_tuple F.slot_int_index.lookup
      (call_meets F.slot_int_rmul (typeIs_int s k t) F.entry_int_rmul (F.args_int_rmul_2 _ _) (int_rmul_tuple k t l its.toArray n dd sl)
        ⟨ho, rfl, ⟨_, ho, rfl⟩, call_meets F.slot_tuple_mul ⟨_, ho, rfl⟩ F.entry_tuple_mul (F.args_tuple_mul_2 _ _) (tuple_mulS l its.toArray n dd sl k t c0 c1) ⟨ho, .ref l, H, I, rfl, q1 hs1⟩⟩)
  · have hne : xs ≠ [] := fun e => hs1 (.inl e)
    have hk1 : k ≠ 1 := fun e => hs1 (.inr e)
    have hn : its ≠ [] := fun e => hne (by
      rw [e] at hle
      exact List.eq_nil_of_length_eq_zero hle.symm)
    have hi : its.toArray.isEmpty = false := by
      cases its with
      | nil => exact absurd rfl hn
      | cons a b => rfl
    have c1 : (its.toArray.isEmpty || k == 1) = false := by
      rw [hi, Bool.false_or]
      exact beq_eq_false_iff_ne.mpr hk1
    by_cases hk0 : k ≤ 0
    · have c2 : (decide (k ≤ 0) || its.toArray.isEmpty) = true := by rw [decide_eq_true hk0]; rfl
      refine wpAny_binaryOp_repeat_ref (T := "tuple") (U := "int") (by decide) ⟨_, ho, rfl⟩ (fun s' => typeIs_int s' k t) noFill_tuple_mul F.fills_int_mul F.slot_int_rmul repeat_tuple F.slot_int_index.lookup
        (call_meets F.slot_int_rmul (typeIs_int s k t) F.entry_int_rmul (F.args_int_rmul_2 _ _) (int_rmul_tuple k t l its.toArray n dd sl)
          ⟨ho, rfl, ⟨_, ho, rfl⟩, call_meets F.slot_tuple_mul ⟨_, ho, rfl⟩ F.entry_tuple_mul (F.args_tuple_mul_2 _ _) (tuple_mul0 l its.toArray n dd sl k t c0 c1 c2) ⟨ho, ?_⟩⟩)
      have e0 : (List.replicate k.toNat xs).flatten = [] := by
        rw [show k.toNat = 0 by omega]
        rfl
      rw [e0] at q2
      exact laidF (its := []) I (Nat.zero_le _) .nil (q2 hne hk1)
    · have hsz0 : its.toArray.size = xs.length := by rw [List.size_toArray, hle]
      have hm : ((its.toArray.size : Nat) : Int) * k ≤ 1000000 := by
        rw [hsz0]
        have a1 : ((xs.length : Nat) : Int) * k ≤ 1000 * k := Int.mul_le_mul_of_nonneg_right (by omega) (by omega)
        omega
      have flen : (List.replicate k.toNat its).flatten.length ≤ sizeLine := by
        rw [PyProof.Rows.lm_len_rep_flat, hle, sizeLine_eq]
        have a1 : k.toNat * xs.length ≤ 1000 * 1000 := Nat.mul_le_mul (by omega) hz
        omega
      have c2 : (decide (k ≤ 0) || its.toArray.isEmpty) = false := by
        rw [hi, Bool.or_false]
        exact decide_eq_false hk0
      have c4 : Builtin.Tuple.tupleTooMany (((its.toArray.size : Nat) : Int) * k) = false := by
        unfold Builtin.Tuple.tupleTooMany
        rw [sizeLine_eq]
        exact decide_eq_false (by omega)
      refine wpAny_binaryOp_repeat_ref (T := "tuple") (U := "int") (by decide) ⟨_, ho, rfl⟩ (fun s' => typeIs_int s' k t) noFill_tuple_mul F.fills_int_mul F.slot_int_rmul repeat_tuple F.slot_int_index.lookup
        (call_meets F.slot_int_rmul (typeIs_int s k t) F.entry_int_rmul (F.args_int_rmul_2 _ _) (int_rmul_tuple k t l its.toArray n dd sl)
          ⟨ho, rfl, ⟨_, ho, rfl⟩, call_meets F.slot_tuple_mul ⟨_, ho, rfl⟩ F.entry_tuple_mul (F.args_tuple_mul_2 _ _) (tuple_mulW l its.toArray n dd sl k t c0 c1 c2 (by omega) c4 (by rw [size_rep, List.size_toArray]; exact flen)) ⟨ho, ?_⟩⟩)
      rw [size_rep]
      refine laidF I ?_ (r.rep k.toNat) (q2 hne hk1)
      rw [PyProof.Rows.lm_len_rep_flat, sizeLine_eq]
      have a1 : k.toNat * xs.length ≤ 1000 * 1000 := Nat.mul_le_mul (by omega) hz
      omega
end
section
variable {S : Sc} {X : Cx}
def gAdd : D → D → Mem → Res D
  | .int i, .int j, M => .ok (.int (i + j)) M
  | .str a, .str b, M => if few (a.length + b.length) = true then .ok (.str (a ++ b)) M else .bad
  | .tup a, .tup b, M => if few (a.length + b.length) = true then .ok (.tup (a ++ b)) M else .bad
  | x, y, M => match listOf M x, listOf M y with | some a, some b => if few (a.length + b.length) = true then .ok (.lst (a ++ b)) M else .bad | _, _ => .bad
def rAddA (K : PySem.W.Frag) : R2 := fun x y H Q => (∃ i j, x = .int i ∧ y = .int j ∧ Q (.int (i + j)) H) ∨ (∃ i j, x = .str i ∧ y = .str j ∧ i.length + j.length ≤ sizeLine ∧ Q (.str (i ++ j)) H) ∨ rCatF K x y H Q ∨ rCat x y H Q
theorem op_addA : OpR X (binaryOp .Add) (rAddA X.K) := op_add.or (op_add_str.or (op_catF.or op_cat))
theorem rep_cat {ρ : List Addr} {H : Hp} {M : Mem} {a b : Addr} {xs ys : List V} {as bs : List D} {W : WX} {σ : L2.St} {Q : VK} (mo : MemOk S ρ H M) (fa : FzT H a xs) (na : a ∉ ρ) (ra : RepA S.K ρ H xs as) (fb : FzT H b ys) (nb : b ∉ ρ) (rb : RepA S.K ρ H ys bs) (hz : few (as.length + bs.length) = true) (p : Post S W (Rep S.K) σ ρ H Q (.ok (.tup (as ++ bs)) M)) : rCatF S.K (.ref a) (.ref b) H Q := by
  obtain ⟨oa, ha, ea⟩ := id fa
  obtain ⟨ob, hb, eb⟩ := id fb
  refine ⟨a, b, xs, ys, rfl, rfl, .inl (.inr ⟨oa, ea⟩), .inl (.inr ⟨ob, eb⟩), by rw [ra.len, rb.len]; exact few_ok hz, fun e => ?_, fun _ e => ?_, fun _ _ q o hq ho => p ρ _ _ (Stp.fresh mo hq) (rep_tup mo hq ho (ra.append rb))⟩
  · subst e
    cases ra
    exact p ρ H _ (Stp.refl mo) (.tup fb nb rb)
  · subst e
    cases rb
    rw [List.append_nil] at p
    exact p ρ H _ (Stp.refl mo) (.tup fa na ra)
theorem oq_add : OpQ S (rAddA S.K) gAdd := by
  intro W σ ρ H M x y dx dy Q mo rx ry p
  unfold gAdd at p
  split at p
  · cases rx; cases ry
    exact .inl ⟨_, _, rfl, rfl, p ρ H _ (Stp.refl mo) (.int _)⟩
  · split at p
    · rename_i hf
      cases rx; cases ry
      exact .inr (.inl ⟨_, _, rfl, rfl, few_ok hf, p ρ H _ (Stp.refl mo) (.str _)⟩)
    · exact p.elim
  · split at p
    · rename_i hf
      cases rx with
      | tup fa na ra =>
        cases ry with
        | tup fb nb rb => exact .inr (.inr (.inl (rep_cat mo fa na ra fb nb rb hf p)))
    · exact p.elim
  · split at p
    · rename_i a b h1 h2
      split at p
      · rename_i hf
        obtain ⟨l, xs, rfl, e1, ra⟩ := list_of mo rx h1
        obtain ⟨l2, ys, rfl, e2, rb⟩ := list_of mo ry h2
        exact .inr (.inr (.inr ⟨l, l2, xs, ys, rfl, rfl, e1, e2, by rw [ra.len, rb.len]; exact few_ok hf, fun q hq => p ρ _ _ (Stp.fresh mo hq) (rep_lst mo hq (ra.append rb))⟩))
      · exact p.elim
    · exact p.elim
def gSub : D → D → Mem → Res D
  | .int i, .int j, M => .ok (.int (i - j)) M
  | _, _, _ => .bad
theorem oq_sub : OpQ S (rI0 fun i j => .int (i - j)) gSub := by
  intro W σ ρ H M x y dx dy Q mo rx ry p
  unfold gSub at p
  split at p
  · cases rx; cases ry
    exact ⟨_, _, rfl, rfl, p ρ H _ (Stp.refl mo) (.int _)⟩
  · exact p.elim
def mulOk (i j : Int) : Bool := Nat.blt (i.natAbs.log2 + j.natAbs.log2) 1000000
abbrev thou (k : Int) : Bool := decide (-1000 ≤ k) && decide (k ≤ 1000)
def gMul : D → D → Mem → Res D
  | .int i, .int j, M => if mulOk i j = true then .ok (.int (i * j)) M else .bad
  | .tup a, .int k, M => if (thou k && Nat.ble a.length 1000) = true then .ok (.tup (List.replicate k.toNat a).flatten) M else .bad
  | x, .int k, M => match listOf M x with | some a => if (thou k && Nat.ble a.length 1000) = true then .ok (.lst (List.replicate k.toNat a).flatten) M else .bad | none => .bad
  | _, _, _ => .bad
def rMulA (K : PySem.W.Frag) : R2 := fun x y H Q => rI CMulW (fun i j => .int (i * j)) x y H Q ∨ rRepF K x y H Q ∨ rRep x y H Q
theorem op_mulA : OpR X (binaryOp .Mult) (rMulA X.K) := op_mulW.or (op_repF.or op_rep)
theorem thou_ok {k : Int} {n : Nat} (h : (thou k && Nat.ble n 1000) = true) : -1000 ≤ k ∧ k ≤ 1000 ∧ n ≤ 1000 := by
  rw [Bool.and_eq_true, Bool.and_eq_true, decide_eq_true_eq, decide_eq_true_eq] at h
  exact ⟨h.1.1, h.1.2, Nat.le_of_ble_eq_true h.2⟩
theorem oq_mul : OpQ S (rMulA S.K) gMul := by
  intro W σ ρ H M x y dx dy Q mo rx ry p
  unfold gMul at p
  split at p
  · split at p
    · rename_i hm
      cases rx; cases ry
      exact .inl ⟨_, _, rfl, rfl, (show CMulW _ _ from by unfold CMulW; simpa [mulOk, Nat.blt_eq] using hm), p ρ H _ (Stp.refl mo) (.int _)⟩
    · exact p.elim
  · split at p
    · rename_i hm
      obtain ⟨h1, h2, h3⟩ := thou_ok hm
      cases ry
      cases rx with
      | tup fa na ra =>
        obtain ⟨oa, ha, ea⟩ := id fa
        refine .inr (.inl ⟨_, _, _, rfl, rfl, .inl (.inr ⟨oa, ea⟩), h1, h2, by rw [ra.len]; exact h3, fun e => ?_, fun _ _ q o hq ho => p ρ _ _ (Stp.fresh mo hq) (rep_tup mo hq ho (ra.rep _))⟩)
        refine p ρ H _ (Stp.refl mo) (.tup fa na ?_)
        rcases e with e | e
        · subst e
          cases ra
          have : ∀ n : Nat, (List.replicate n ([] : List D)).flatten = [] := fun n => by simp
          rw [this]
          exact .nil
        · subst e
          show RepA S.K ρ H _ (List.replicate 1 _).flatten
          rw [show (List.replicate 1 _).flatten = (_ : List D) ++ [] from rfl, List.append_nil]
          exact ra
    · exact p.elim
  · split at p
    · rename_i a h1
      split at p
      · rename_i hm
        obtain ⟨g1, g2, g3⟩ := thou_ok hm
        cases ry
        obtain ⟨l, xs, rfl, e1, ra⟩ := list_of mo rx h1
        refine .inr (.inr ⟨l, _, xs, rfl, rfl, e1, by omega, by omega, ?_, fun q hq => p ρ _ _ (Stp.fresh mo hq) (rep_lst mo hq (ra.rep _))⟩)
        rw [ra.len, sizeLine_eq]
        have a0 : ∀ k : Int, k ≤ 1000 → a.length * k.toNat ≤ 1000 * 1000 := fun k hk => Nat.mul_le_mul g3 (by omega)
        have a1 := a0 _ g2
        omega
      · exact p.elim
    · exact p.elim
  · exact p.elim
def gMod : D → D → Mem → Res D
  | .int i, .int j, M => if decide (0 < j) = true then .ok (.int (i % j)) M else .bad
  | _, _, _ => .bad
theorem oq_mod : OpQ S (rI (fun _ j => 0 < j) fun i j => .int (i % j)) gMod := by
  intro W σ ρ H M x y dx dy Q mo rx ry p
  unfold gMod at p
  split at p
  · split at p
    · rename_i hm
      cases rx; cases ry
      exact ⟨_, _, rfl, rfl, of_decide_eq_true hm, p ρ H _ (Stp.refl mo) (.int _)⟩
    · exact p.elim
  · exact p.elim
def gFdiv : D → D → Mem → Res D
  | .int i, .int j, M => if (decide (0 < j) && Nat.blt j.natAbs.log2 9000) = true then .ok (.int (i / j)) M else .bad
  | _, _, _ => .bad
theorem oq_fdiv : OpQ S (rI CDivW fun i j => .int (i / j)) gFdiv := by
  intro W σ ρ H M x y dx dy Q mo rx ry p
  unfold gFdiv at p
  split at p
  · split at p
    · rename_i hm
      rw [Bool.and_eq_true, decide_eq_true_eq, Nat.blt_eq] at hm
      cases rx; cases ry
      exact ⟨_, _, rfl, rfl, hm, p ρ H _ (Stp.refl mo) (.int _)⟩
    · exact p.elim
  · exact p.elim
def gPow : D → D → Mem → Res D
  | .int i, .int j, M => if (decide (0 ≤ j) && decide (j ≤ 1000000) && Nat.blt i.natAbs 18446744073709551616) = true then .ok (.int (i ^ j.toNat)) M else .bad
  | _, _, _ => .bad
theorem oq_pow : OpQ S (rI CPow fun i j => .int (i ^ j.toNat)) gPow := by
  intro W σ ρ H M x y dx dy Q mo rx ry p
  unfold gPow at p
  split at p
  · split at p
    · rename_i hm
      rw [Bool.and_eq_true, Bool.and_eq_true, decide_eq_true_eq, decide_eq_true_eq, Nat.blt_eq] at hm
      cases rx; cases ry
      exact ⟨_, _, rfl, rfl, ⟨hm.1.1, hm.1.2, by have := hm.2; omega⟩, p ρ H _ (Stp.refl mo) (.int _)⟩
    · exact p.elim
  · exact p.elim
def gCmp (f : Int → Int → Bool) : D → D → Mem → Res D
  | .int i, .int j, M => .ok (.bl (f i j)) M
  | _, _, _ => .bad
theorem oq_cmp (f : Int → Int → Bool) : OpQ S (rI0 fun i j => .bl (f i j)) (gCmp f) := by
  intro W σ ρ H M x y dx dy Q mo rx ry p
  unfold gCmp at p
  split at p
  · cases rx; cases ry
    exact ⟨_, _, rfl, rfl, p ρ H _ (Stp.refl mo) (.bl _)⟩
  · exact p.elim
theorem flat_cmp (f : Int → Int → Bool) : Flat (gCmp f) := by
  intro x y M
  unfold gCmp
  split
  · exact .inl ⟨_, rfl⟩
  · exact .inr rfl
def gIsN (neg : Bool) : D → D → Mem → Res D
  | .adr _, _, _ => .bad
  | .non, .non, M => .ok (.bl (!neg)) M
  | _, .non, M => .ok (.bl neg) M
  | _, _, _ => .bad
theorem not_non {K : PySem.W.Frag} {ρ : List Addr} {H : Hp} {x : V} {d : D} (r : Rep K ρ H x d) (h1 : d ≠ .non) (h2 : ∀ v, d ≠ .adr v) : x ≠ .non := by
  intro e
  subst e
  cases r with
  | non => exact h1 rfl
  | adr => exact h2 _ rfl
theorem oq_isN : OpQ S (fun x y H Q => y = .non ∧ Q (.bl (decide (x = .non))) H) (gIsN false) := by
  intro W σ ρ H M x y dx dy Q mo rx ry p
  unfold gIsN at p
  split at p
  · exact p.elim
  · cases rx; cases ry
    exact ⟨rfl, p ρ H _ (Stp.refl mo) (.bl _)⟩
  · rename_i h1 h2
    cases ry
    refine ⟨rfl, ?_⟩
    rw [decide_eq_false (not_non rx (fun e => h2 e) h1)]
    exact p ρ H _ (Stp.refl mo) (.bl _)
  · exact p.elim
mutual
def D.py : D → Option PyData
  | .non => some .none
  | .bl b => some (.bool b)
  | .int i => some (.int i)
  | .str x => some (.str x)
  | .tup ds => (match D.pyA ds with | some ps => some (.tuple ps) | none => none)
  | .lst ds => (match D.pyA ds with | some ps => some (.list ps) | none => none)
  | _ => none
def D.pyA : List D → Option (List PyData)
  | [] => some []
  | d :: ds => (match D.py d, D.pyA ds with | some p, some ps => some (p :: ps) | _, _ => none)
end
def toPy (M : Mem) : D → Option PyData
  | .ref n => (match M[n]? with | some (.lst ds) => (match D.pyA ds with | some ps => some (.list ps) | none => none) | _ => none)
  | d => D.py d
mutual
theorem py_dp {K : PySem.W.Frag} {ρ : List Addr} {H : Hp} : ∀ (d : D) (v : V) (p : PyData), Rep K ρ H v d → D.py d = some p → Dp K H v p
  | .non, _, _, r, h => by cases r; cases h; exact .non
  | .bl b, _, _, r, h => by cases r; cases h; exact .bl b
  | .int i, _, _, r, h => by cases r; cases h; exact .int i
  | .str x, _, _, r, h => by cases r; cases h; exact .str x
  | .tup ds, _, _, r, h => by
    unfold D.py at h
    split at h
    · rename_i ps e
      cases h
      cases r with
      | tup f n ra =>
        obtain ⟨o, _, e1⟩ := f
        exact .tup (.inl (.inr ⟨o, e1⟩)) (pyA_dp ds _ _ ra e)
    · cases h
  | .lst ds, _, _, r, h => by
    unfold D.py at h
    split at h
    · rename_i ps e
      cases h
      cases r with
      | lst f n ra => exact .lst (SqL.of f) (pyA_dp ds _ _ ra e)
    · cases h
  | .dct _ _, _, _, _, h => by cases h
  | .scr _, _, _, _, h => by cases h
  | .ref _, _, _, _, h => by cases h
  | .adr _, _, _, _, h => by cases h
theorem pyA_dp {K : PySem.W.Frag} {ρ : List Addr} {H : Hp} : ∀ (ds : List D) (vs : List V) (ps : List PyData), RepA K ρ H vs ds → D.pyA ds = some ps → DpAll K H vs ps
  | [], _, _, r, h => by cases r; cases h; exact .nil
  | d :: ds, _, _, r, h => by
    unfold D.pyA at h
    split at h
    · rename_i p ps e1 e2
      cases h
      cases r with
      | cons r1 r2 => exact .cons (py_dp d _ _ r1 e1) (pyA_dp ds _ _ r2 e2)
    · cases h
end
theorem toPy_dp {ρ : List Addr} {H : Hp} {M : Mem} {d : D} {v : V} {p : PyData} (mo : MemOk S ρ H M) (r : Rep S.K ρ H v d) (h : toPy M d = some p) : Dp S.K H v p := by
  unfold toPy at h
  split at h
  · split at h
    · rename_i ds hm
      split at h
      · rename_i ps e
        cases h
        cases r with
        | ref f =>
          obtain ⟨xs, e1, ra⟩ := mo.cell _ _ _ f hm
          exact .lst (SqL.of e1) (pyA_dp ds _ _ ra e)
      · cases h
    · cases h
  · exact py_dp _ _ _ r h
def gEq (neg : Bool) (x y : D) (M : Mem) : Res D := match toPy M x, toPy M y with
  | some a, some b => if (SeqAt.shaped a && SeqAt.shaped b) = true then .ok (.bl (if neg = true then !PyData.eqv a b else PyData.eqv a b)) M else .bad
  | _, _ => .bad
theorem oq_eq : OpQ S (rEqD S.K) (gEq false) := by
  intro W σ ρ H M x y dx dy Q mo rx ry p
  unfold gEq at p
  split at p
  · rename_i a b h1 h2
    split at p
    · rename_i hs
      rw [Bool.and_eq_true] at hs
      exact ⟨a, b, toPy_dp mo rx h1, toPy_dp mo ry h2, hs.1, hs.2, p ρ H _ (Stp.refl mo) (.bl _)⟩
    · exact p.elim
  · exact p.elim
theorem oq_ne : OpQ S (rNeD S.K) (gEq true) := by
  intro W σ ρ H M x y dx dy Q mo rx ry p
  unfold gEq at p
  split at p
  · rename_i a b h1 h2
    split at p
    · rename_i hs
      rw [Bool.and_eq_true] at hs
      exact ⟨a, b, toPy_dp mo rx h1, toPy_dp mo ry h2, hs.1, hs.2, p ρ H _ (Stp.refl mo) (.bl _)⟩
    · exact p.elim
  · exact p.elim
def gNeg : D → Mem → Res D
  | .int i, M => .ok (.int (-i)) M
  | _, _ => .bad
def fUn (g : D → Mem → Res D) (f : F D) : F D := fun σ M => (f σ M).bind g
theorem qe_neg {W : WX} {a : Expr} {pos : Pos} {fa : F D} (ha : QE S W X a fa) : QE S W X (.UnaryOp .USub a pos) (fUn gNeg fa) := PE.imp (pe_un un_neg ha) fun σ H Q ⟨ρ, M, σa, mo, rs, p⟩ => by
  refine use mo rs p fun x M1 ρ1 H1 v st1 r1 rs1 p1 => ?_
  cases x with
  | int i => cases r1; exact ⟨i, rfl, p1 ρ1 H1 _ (Stp.refl st1.2) (.int _)⟩
  | _ => exact False.elim p1
end
section
variable {S : Sc} {X : Cx} {W : WX}
def CallQ (S : Sc) (r : List V → Hp → VK → Prop) (g : List D → Mem → Res D) : Prop := ∀ (W : WX) (σ : L2.St) (ρ : List Addr) (H : Hp) (M : Mem) (xs : List V) (ds : List D) (Q : VK), MemOk S ρ H M → RepA S.K ρ H xs ds → Post S W (Rep S.K) σ ρ H Q (g ds M) → r xs H Q
theorem cb_imp {r : List V → Hp → VK → Prop} {g : List D → Mem → Res D} {fs : F (List D)} (hq : CallQ S r g) {σ : L2.St} {H : Hp} {Q : VK} (h : tOf S W (Rep S.K) (fCall g fs) σ H Q) : tCB r (tOf S W (RepA S.K) fs) σ H Q := by
  obtain ⟨ρ, M, σa, mo, rs, p⟩ := h
  exact use mo rs p fun ds M1 ρ1 H1 vs st1 r1 rs1 p1 => hq _ _ _ _ _ _ _ _ st1.2 r1 p1
variable {e : Expr} {es : List Expr} {fs : F (List D)} {x : Str} {p pos : Pos}
theorem qe_callB {id : String} {r : List V → Hp → VK → Prop} {g : List D → Mem → Res D} (hc : CallR X (.builtin id) r) (hq : CallQ S r g) (hg : Gl X x) (hm : X.mg x = none) (hv : bootBuiltins x = some (.builtin id)) (ha : QA S W X (e :: es) fs) (hn : x ≠ "__name__" := by decide) (hdb : (x == ("__debug__" : Str)) = false := by decide)
    (he : starEach (e :: es) X.env = (false, eval e X.env) :: starEach es X.env := by rfl) (hpl : (backTo pos (starEach es X.env)).any (·.1) = false := by rfl) : QE S W X (.Call (.Name x p) (e :: es) [] pos) (fCall g fs) := PE.imp (pe_callB hc hg hm hv ha hn hdb he hpl) fun _ _ _ h => cb_imp hq h
theorem qe_callTy {id : String} {r : List V → Hp → VK → Prop} {g : List D → Mem → Res D} (hc : CallR X (.type id) r) (hq : CallQ S r g) (hg : Gl X x) (hm : X.mg x = none) (hv : bootBuiltins x = some (.type id)) (ha : QA S W X (e :: es) fs) (hn : x ≠ "__name__" := by decide) (hdb : (x == ("__debug__" : Str)) = false := by decide)
    (he : starEach (e :: es) X.env = (false, eval e X.env) :: starEach es X.env := by rfl) (hpl : (backTo pos (starEach es X.env)).any (·.1) = false := by rfl) : QE S W X (.Call (.Name x p) (e :: es) [] pos) (fCall g fs) := PE.imp (pe_callTy hc hg hm hv ha hn hdb he hpl) fun _ _ _ h => cb_imp hq h
end
end QX
set_option maxRecDepth 100000
set_option maxHeartbeats 2000000
namespace QX
open PySem PySem.Spec PyProof.Rows L2 HX
section
variable {S : Sc} {X : Cx} {W : WX}
inductive Ty where
  | none | bool | int | str | tuple | list | dict
  deriving DecidableEq
def Ty.name : Ty → String
  | .none => "NoneType" | .bool => "bool" | .int => "int" | .str => "str" | .tuple => "tuple" | .list => "list" | .dict => "dict"
def D.ty : D → Option Ty
  | .non => some .none
  | .bl _ => some .bool
  | .int _ => some .int
  | .str _ => some .str
  | .tup _ => some .tuple
  | .lst _ => some .list
  | .dct _ _ => some .dict
  | .ref _ => none
  | .scr _ => none
  | .adr _ => none
def Ty.is (t c : Ty) : Bool := decide (t = c) || (decide (t = .bool) && decide (c = .int))
theorem kit_is : ∀ t c : Ty, c ≠ .none → kitB t.name c.name = some (t.is c) := by
  intro t c h
  cases c with
  | none => exact absurd rfl h
  | _ => cases t <;> decide +kernel
theorem ty_ok {ρ : List Addr} {H : Hp} {M : Mem} {v : V} {d : D} {t : Ty} (mo : MemOk S ρ H M) (r : Rep S.K ρ H v d) (h : d.ty = some t) : TyX S.K H v (.type t.name) := by
  cases r with
  | non => cases h; exact .base .non
  | bl b => cases h; exact .base (.bl b)
  | int i => cases h; exact .base (.int i)
  | str x => cases h; exact .base (.str x)
  | tup f n ra =>
    cases h
    obtain ⟨o, _, e⟩ := f
    exact .fTuple e
  | lst e n ra => cases h; exact .base (.lst e)
  | dct e n hk ra => cases h; exact .base (.dK e)
  | scr f => cases h
  | ref f => cases h
  | adr v => cases h
def gIsi (c : Ty) : List D → Mem → Res D
  | [d, .adr (.ty n)], M => if n = c.name then (match d.ty with | some t => .ok (.bl (t.is c)) M | none => .bad) else .bad
  | _, _ => .bad
theorem cq_isi (c : Ty) (hc : c ≠ .none) : CallQ S (rIsi S.K) (gIsi c) := by
  intro W σ ρ H M xs ds Q mo ra p
  unfold gIsi at p
  split at p
  · split at p
    · rename_i hn
      split at p
      · rename_i t ht
        obtain ⟨v, v2, rfl, r1, r2⟩ := RepA.two ra
        cases r2
        subst hn
        exact ⟨v, _, _, _, _, rfl, .ty _, ty_ok mo r1 ht, kit_ty (kit_is t c hc), p ρ H _ (Stp.refl mo) (.bl _)⟩
      · exact p.elim
    · exact p.elim
  · exact p.elim
def gLen : List D → Mem → Res D
  | [.str z], M => if few z.length = true then .ok (.int z.length) M else .bad
  | [d], M => (match seqOf M d with | some ds => .ok (.int ds.length) M | none => .bad)
  | _, _ => .bad
def rLenA (K : PySem.W.Frag) : List V → Hp → VK → Prop := fun xs H Q => (∃ p ys, xs = [.ref p] ∧ (SqL K H p ys ∨ SqT K H p ys) ∧ Q (.int ys.length) H) ∨ ∃ z, xs = [.str z] ∧ z.length ≤ sizeLine ∧ Q (.int z.length) H
theorem call_lenA : CallR X (.builtin "len") (rLenA X.K) := call_len_seq.or call_len_str
theorem cq_len : CallQ S (rLenA S.K) gLen := by
  intro W σ ρ H M xs ds Q mo ra p
  unfold gLen at p
  split at p
  · split at p
    · rename_i hf
      obtain ⟨v, rfl, r⟩ := RepA.one ra
      cases r
      exact .inr ⟨_, rfl, few_ok hf, p ρ H _ (Stp.refl mo) (.int _)⟩
    · exact p.elim
  · split at p
    · rename_i ds hs
      obtain ⟨v, rfl, r⟩ := RepA.one ra
      obtain ⟨a, ys, rfl, hq, rb⟩ := seq_of mo r hs
      refine .inl ⟨a, ys, rfl, hq, ?_⟩
      rw [rb.len]
      exact p ρ H _ (Stp.refl mo) (.int _)
    · exact p.elim
  · exact p.elim
def blsOf : List D → Option (List Bool)
  | [] => some []
  | .bl b :: ds => (match blsOf ds with | some bs => some (b :: bs) | none => none)
  | _ => none
theorem bls_ok {K : PySem.W.Frag} {ρ : List Addr} {H : Hp} : ∀ (ds : List D) (xs : List V) (bs : List Bool), RepA K ρ H xs ds → blsOf ds = some bs → xs = bs.map V.bl
  | [], _, _, r, h => by cases r; cases h; rfl
  | d :: ds, _, bs, r, h => by
    cases r with
    | cons r1 r2 =>
      cases d with
      | bl b =>
        unfold blsOf at h
        split at h
        · rename_i bs' e
          cases h
          cases r1
          rw [List.map_cons, bls_ok ds _ _ r2 e]
        · cases h
      | _ => cases h
def gAll : List D → Mem → Res D
  | [d], M => (match listOf M d with | some ds => (match blsOf ds with | some bs => .ok (.bl (bs.all id)) M | none => .bad) | none => .bad)
  | _, _ => .bad
theorem cq_all : CallQ S (rAll S.K) gAll := by
  intro W σ ρ H M xs ds Q mo ra p
  unfold gAll at p
  split at p
  · split at p
    · rename_i es hl
      split at p
      · rename_i bs hb
        obtain ⟨v, rfl, r⟩ := RepA.one ra
        obtain ⟨a, ys, rfl, e, rb⟩ := list_of mo r hl
        rw [bls_ok es ys bs rb hb] at e
        exact ⟨a, bs, rfl, SqL.of e, p ρ H _ (Stp.refl mo) (.bl _)⟩
      · exact p.elim
    · exact p.elim
  · exact p.elim
def gMax2 : List D → Mem → Res D
  | [.int i, .int j], M => .ok (.int (if j > i then j else i)) M
  | _, _ => .bad
def gMin2 : List D → Mem → Res D
  | [.int i, .int j], M => .ok (.int (if j < i then j else i)) M
  | _, _ => .bad
theorem cq_max2 : CallQ S (fun xs H Q => ∃ i j, xs = [.int i, .int j] ∧ Q (.int (if j > i then j else i)) H) gMax2 := by
  intro W σ ρ H M xs ds Q mo ra p
  unfold gMax2 at p
  split at p
  · obtain ⟨v, v2, rfl, r1, r2⟩ := RepA.two ra
    cases r1; cases r2
    exact ⟨_, _, rfl, p ρ H _ (Stp.refl mo) (.int _)⟩
  · exact p.elim
theorem cq_min2 : CallQ S (fun xs H Q => ∃ i j, xs = [.int i, .int j] ∧ Q (.int (if j < i then j else i)) H) gMin2 := by
  intro W σ ρ H M xs ds Q mo ra p
  unfold gMin2 at p
  split at p
  · obtain ⟨v, v2, rfl, r1, r2⟩ := RepA.two ra
    cases r1; cases r2
    exact ⟨_, _, rfl, p ρ H _ (Stp.refl mo) (.int _)⟩
  · exact p.elim
def gTuple : List D → Mem → Res D
  | [.tup ds], M => .ok (.tup ds) M
  | [d], M => (match listOf M d with | some ds => .ok (.tup ds) M | none => .bad)
  | _, _ => .bad
def rTupleA (K : PySem.W.Frag) : List V → Hp → VK → Prop := fun xs H Q => (∃ p ys, xs = [.ref p] ∧ SqL K H p ys ∧ ∀ l o, H l = none → o.dict = none → Q (.ref l) (upd H l (.frz o (.tup ys)))) ∨ ∃ a ys, xs = [.ref a] ∧ SqT K H a ys ∧ Q (.ref a) H
theorem call_tupleA : CallR X (.type "tuple") (rTupleA X.K) := call_tuple_frz.or call_tupleT
theorem cq_tuple : CallQ S (rTupleA S.K) gTuple := by
  intro W σ ρ H M xs ds Q mo ra p
  unfold gTuple at p
  split at p
  · obtain ⟨v, rfl, r⟩ := RepA.one ra
    have r' := r
    obtain ⟨a, ys, rfl, hq, rb, _, _⟩ := tup_of r
    exact .inr ⟨a, ys, rfl, hq, p ρ H _ (Stp.refl mo) r'⟩
  · split at p
    · rename_i es hl
      obtain ⟨v, rfl, r⟩ := RepA.one ra
      obtain ⟨a, ys, rfl, e, rb⟩ := list_of mo r hl
      exact .inl ⟨a, ys, rfl, SqL.of e, fun q o hq ho => p ρ _ _ (Stp.fresh mo hq) (rep_tup mo hq ho rb)⟩
    · exact p.elim
  · exact p.elim
def gList : List D → Mem → Res D
  | [d], M => (match seqOf M d with | some ds => .ok (.lst ds) M | none => .bad)
  | _, _ => .bad
def gListC : List D → Mem → Res D
  | [d], M => (match seqOf M d with | some ds => .ok (.ref M.length) (M ++ [.lst ds]) | none => .bad)
  | _, _ => .bad
def rListA (K : PySem.W.Frag) : List V → Hp → VK → Prop := fun xs H Q => ∃ p ys, xs = [.ref p] ∧ (SqL K H p ys ∨ SqT K H p ys) ∧ ∀ l, H l = none → Q (.ref l) (upd H l (.lst ys))
theorem call_listA : CallR X (.type "list") (rListA X.K) := call_list_of
theorem cq_list : CallQ S (rListA S.K) gList := by
  intro W σ ρ H M xs ds Q mo ra p
  unfold gList at p
  split at p
  · split at p
    · rename_i es hl
      obtain ⟨v, rfl, r⟩ := RepA.one ra
      obtain ⟨a, ys, rfl, hq, rb⟩ := seq_of mo r hl
      exact ⟨a, ys, rfl, hq, fun q hq => p ρ _ _ (Stp.fresh mo hq) (rep_lst mo hq rb)⟩
    · exact p.elim
  · exact p.elim
def gInt : List D → Mem → Res D
  | [.int i], M => .ok (.int i) M
  | [.bl b], M => .ok (.int (if b then 1 else 0)) M
  | _, _ => .bad
theorem cq_int : CallQ S (fun xs H Q => (∃ i, xs = [.int i] ∧ Q (.int i) H) ∨ ∃ k, xs = [.bl k] ∧ Q (.int (if k then 1 else 0)) H) gInt := by
  intro W σ ρ H M xs ds Q mo ra p
  unfold gInt at p
  split at p
  · obtain ⟨v, rfl, r⟩ := RepA.one ra
    cases r
    exact .inl ⟨_, rfl, p ρ H _ (Stp.refl mo) (.int _)⟩
  · obtain ⟨v, rfl, r⟩ := RepA.one ra
    cases r
    exact .inr ⟨_, rfl, p ρ H _ (Stp.refl mo) (.int _)⟩
  · exact p.elim
def numsD (lo : Int) : Nat → List D
  | 0 => []
  | n + 1 => .int lo :: numsD (lo + 1) n
theorem numsD_eq : ∀ (n : Nat) (lo : Int), numsD lo n = (List.range n).map fun i : Nat => D.int (lo + i)
  | 0, _ => rfl
  | n + 1, lo => by
    rw [numsD, numsD_eq n, List.range_succ_eq_map, List.map_cons, List.map_map]
    congr 1
    · simp
    · refine List.map_congr_left fun i _ => ?_
      simp only [Function.comp]
      congr 1
      omega
def rgOk (a b : Int) : Bool := mid a && mid b && Nat.ble (b - a).toNat 16777216
def fListRg (c : Bool) (fa : F D) (fb : F D) : F D := fun σ M => (fa σ M).bind fun x M1 => (fb σ M1).bind fun y M2 => match x, y with
  | .int a, .int b => if rgOk a b = true then (if c = true then .ok (.ref M2.length) (M2 ++ [.lst (numsD a (b - a).toNat)]) else .ok (.lst (numsD a (b - a).toNat)) M2) else .bad
  | _, _ => .bad
def fListRg1 (c : Bool) (fb : F D) : F D := fun σ M => (fb σ M).bind fun y M2 => match y with
  | .int b => if rgOk 0 b = true then (if c = true then .ok (.ref M2.length) (M2 ++ [.lst (numsD 0 (b - 0).toNat)]) else .ok (.lst (numsD 0 (b - 0).toNat)) M2) else .bad
  | _ => .bad
theorem rg_ok {a b : Int} (h : rgOk a b = true) : RgOk a b := by
  unfold rgOk at h
  rw [Bool.and_eq_true, Bool.and_eq_true] at h
  exact ⟨(mid_ok h.1.1).1, (mid_ok h.1.1).2, (mid_ok h.1.2).1, (mid_ok h.1.2).2, Nat.le_of_ble_eq_true h.2⟩
theorem rep_rg {K : PySem.W.Frag} {ρ : List Addr} {H : Hp} (a b : Int) : RepA K ρ H (rgV a b) (numsD a (b - a).toNat) := by
  rw [numsD_eq]
  unfold rgV
  generalize (b - a).toNat = n
  have : ∀ l : List Nat, RepA K ρ H (l.map fun i : Nat => V.int (a + i)) (l.map fun i : Nat => D.int (a + i)) := by
    intro l
    induction l with
    | nil => exact .nil
    | cons x l ih => exact .cons (.int _) ih
  exact this _
variable {a b : Expr} {fa fb : F D} {p p2 pos pos2 : Pos}
theorem rg_fin {c : Bool} {ρ : List Addr} {H : Hp} {M : Mem} {x y : Int} {σ : L2.St} {Q : VK} (mo : MemOk S ρ H M) (p1 : Post S W (Rep S.K) σ ρ H Q (if rgOk x y = true then (if c = true then .ok (.ref M.length) (M ++ [.lst (numsD x (y - x).toNat)]) else .ok (.lst (numsD x (y - x).toNat)) M) else .bad)) : RgOk x y ∧ ∀ q, H q = none → Q (.ref q) (upd H q (.lst (rgV x y))) := by
  split at p1
  · rename_i ho
    refine ⟨rg_ok ho, fun q hq => ?_⟩
    cases c with
    | true => exact p1 (ρ ++ [q]) _ _ (Stp.alloc mo hq (rep_rg x y)) (rep_new mo)
    | false => exact p1 ρ _ _ (Stp.fresh mo hq) (rep_lst mo hq (rep_rg x y))
  · exact p1.elim
theorem qe_listRg1 (c : Bool) (hc : X.calm = true) (hg : Gl X "list") (hm : X.mg "list" = none) (hg2 : Gl X "range") (hm2 : X.mg "range" = none) (ha : QE S W X a fa) (na : starEach [a] X.env = (false, eval a X.env) :: starEach [] X.env := by rfl)
    (nb : starEach [.Call (.Name "range" p) [a] [] pos] X.env = (false, eval (.Call (.Name "range" p) [a] [] pos) X.env) :: starEach [] X.env := by rfl) : QE S W X (.Call (.Name "list" p2) [.Call (.Name "range" p) [a] [] pos] [] pos2) (fListRg1 c fa) := by
  refine PE.imp (pe_listRg hc hg hm (prg_1 hg2 hm2 ha na) nb) fun σ H Q ⟨ρ, M, σa, mo, rs, p⟩ => ?_
  refine use mo rs p fun x M1 ρ1 H1 v st1 r1 rs1 p1 => ?_
  cases x with
  | int i =>
    cases r1
    exact ⟨i, rfl, rg_fin st1.2 p1⟩
  | _ => exact False.elim p1
theorem qe_listRg2 (c : Bool) (hc : X.calm = true) (hg : Gl X "list") (hm : X.mg "list" = none) (hg2 : Gl X "range") (hm2 : X.mg "range" = none) (ha : QE S W X a fa) (hb : QE S W X b fb) (na : starEach [a, b] X.env = (false, eval a X.env) :: starEach [b] X.env := by rfl)
    (nb : starEach [b] X.env = (false, eval b X.env) :: starEach [] X.env := by rfl) (hp : (backTo pos (starEach [b] X.env)).any (·.1) = false := by rfl)
    (nc : starEach [.Call (.Name "range" p) [a, b] [] pos] X.env = (false, eval (.Call (.Name "range" p) [a, b] [] pos) X.env) :: starEach [] X.env := by rfl) : QE S W X (.Call (.Name "list" p2) [.Call (.Name "range" p) [a, b] [] pos] [] pos2) (fListRg c fa fb) := by
  refine PE.imp (pe_listRg hc hg hm (prg_2 hg2 hm2 ha hb na nb hp) nc) fun σ H Q ⟨ρ, M, σa, mo, rs, p⟩ => ?_
  refine use mo rs p fun x M1 ρ1 H1 v st1 r1 rs1 p1 => use st1.2 rs1 p1 fun y M2 ρ2 H2 u st2 r2 rs2 p2 => ?_
  split at p2
  · cases r1; cases r2
    exact ⟨_, _, rfl, rfl, rg_fin st2.2 p2⟩
  · exact False.elim p2
def MtQ (S : Sc) (r : V → List V → Hp → VK → Prop) (g : D → List D → Mem → Res D) : Prop := ∀ (W : WX) (σ : L2.St) (ρ : List Addr) (H : Hp) (M : Mem) (x : V) (d : D) (xs : List V) (ds : List D) (Q : VK), MemOk S ρ H M → Rep S.K ρ H x d → RepA S.K ρ H xs ds → Post S W (Rep S.K) σ ρ H Q (g d ds M) → r x xs H Q
def isL (M : Mem) (d : D) : Bool := (listOf M d).isSome
def fMeth (g : D → List D → Mem → Res D) (fo : F D) (fs : F (List D)) : F D := fun σ M => (fo σ M).bind fun d M1 => if isL M1 d = true then (fs σ M1).bind fun ds M2 => g d ds M2 else .bad
variable {o e : Expr} {es : List Expr} {fo : F D} {fs : F (List D)} {name : Str} {id : String} {apos cpos : Pos} {r : V → List V → Hp → VK → Prop} {g : D → List D → Mem → Res D}
theorem isL_ty {ρ : List Addr} {H : Hp} {M : Mem} {v : V} {d : D} (mo : MemOk S ρ H M) (r : Rep S.K ρ H v d) (h : isL M d = true) : tyV S.K "list" v H := by
  unfold isL at h
  obtain ⟨ds, e⟩ := Option.isSome_iff_exists.mp h
  obtain ⟨a, xs, rfl, e1, _⟩ := list_of mo r e
  exact .inl ⟨rfl, xs, SqL.of e1⟩
theorem qe_bm (hk : X.K = S.K) (pa : PlainAttrs "list") (slot : Slot "list" name id) (hty : typeOf (.builtin id) = pure (.type "method_descriptor")) (hm : MtR X id r) (hq : MtQ S r g) (ho : QE S W X o fo) (ha : QA S W X (e :: es) fs)
    (hbase : attributeBase o name X.env (eval o X.env) = eval o X.env := by rfl)
    (hfew : ((backTo cpos (starEach (e :: es) X.env)).all (fun x => !x.1) && (backToKw cpos (keywordEach [] X.env)).all (fun x => x.1.isSome)
      && decide ((e :: es).length + ([] : List Keyword).length + (if ([] : List Keyword).isEmpty then 0 else 1) < 30)) = true := by rfl)
    (hline : (apos.endLine == cpos.line) = true := by rfl) (hs : starEach (e :: es) X.env = (false, eval e X.env) :: starEach es X.env := by rfl) (hplain : (backTo cpos (starEach es X.env)).any (·.1) = false := by rfl) :
    QE S W X (.Call (.Attribute o name apos) (e :: es) [] cpos) (fMeth g fo fs) := by
  have h := pe_bm pa slot hty hm ho ha hbase hfew hline hs hplain
  rw [hk] at h
  refine PE.imp h fun σ H Q ⟨ρ, M, σa, mo, rs, p⟩ => ?_
  refine use mo rs p fun d M1 ρ1 H1 v st1 r1 rs1 p1 => ?_
  split at p1
  · rename_i hl
    refine ⟨isL_ty st1.2 r1 hl, use st1.2 rs1 p1 fun ds M2 ρ2 H2 vs st2 r2 rs2 p2 => hq _ _ _ _ _ _ _ _ _ _ st2.2 (Rep.mono st2.1 _ _ r1) r2 p2⟩
  · exact p1.elim
def gAppend : D → List D → Mem → Res D
  | .ref n, [d], M => (match M[n]? with | some (.lst ds) => if Nat.blt ds.length 16777216 = true then .ok .non (M.set n (.lst (ds ++ [d]))) else .bad | _ => .bad)
  | _, _, _ => .bad
theorem mq_append : MtQ S rAppend gAppend := by
  intro W σ ρ H M x d xs ds Q mo rx ra p
  unfold gAppend at p
  split at p
  · split at p
    · rename_i es hm
      split at p
      · rename_i hf
        obtain ⟨v, rfl, r⟩ := RepA.one ra
        cases rx with
        | ref f =>
          obtain ⟨ys, e, rb⟩ := mo.cell _ _ _ f hm
          refine ⟨_, ys, v, rfl, rfl, e, ?_, p ρ _ _ (Stp.put mo f hm (rb.append (.cons r .nil))) .non⟩
          rw [rb.len, sizeLine_eq]
          simpa [Nat.blt_eq] using hf
      · exact p.elim
    · exact p.elim
  · exact p.elim
end
end QX
set_option maxRecDepth 100000
set_option maxHeartbeats 2000000
namespace QX
open PySem PySem.Spec PyProof.Rows L2 HX
section
variable {X : Cx} {S : Sc} {W : WX}
section
variable {i : Nat} {y : Str} {py : Pos} {elt tg iter : Expr} {ifs : List Expr} {scope : Scope} {own : List (Str × Nat)} {pos spos : Pos} {fi : F Ita} {t : Tg} {c : F Bool} {e : F D}
theorem setLc_imp {f : F D} {tt : TE} (h : ∀ σ H Q, tOf S W (Rep S.K) f σ H Q → tt σ H Q) {E : Ends} {σ : L2.St} {H : Hp} (q : tOfS S W (sSet i f) E σ H) : tAsg tt (gName i) E σ H := h _ _ _ (asg_imp q)
theorem qs_setLc (hc : X.calm = true) (hN : X.N.Nodup) (hy : X.N[i]? = some y) (hyl : X.env.scope.names.lookup y = some .local)
    (hsw : swapsWith (.ListComp elt [⟨tg, iter, ifs, 0⟩] scope pos) (some (.Name y py)) spos.line X.env = pure true) (hi : QI S W X tg iter fi) (ok : BlkOk X.N X.env.scope scope own)
    (hg : ∀ (s : Shared) (H : Hp) (C : Addr) (cl : List (Str × Addr)) (fp : List Addr), QG S (X.blk s H scope (compEnvC scope cl C X.env) fp) tg t) (ht : ∀ (s : Shared) (H : Hp) (C : Addr) (cl : List (Str × Addr)) (fp : List Addr), QTs S W0 (X.blk s H scope (compEnvC scope cl C X.env) fp) ifs c)
    (he : ∀ (s : Shared) (H : Hp) (C : Addr) (cl : List (Str × Addr)) (fp : List Addr), QE S W0 (X.blk s H scope (compEnvC scope cl C X.env) fp) elt e) (hsl : ∀ i ∈ t.slots, i ∈ own.map (·.2) := by decide) (hs : ∀ x, foldedSetIterable iter X.env x = pure x := by intro _; rfl) :
    QS S W X (.Assign [.Name y py] (.ListComp elt [⟨tg, iter, ifs, 0⟩] scope pos) spos) (sSet i (fTrim (fCompC fi (own.map (·.2)) t c e))) :=
  PS.imp (ps_setLc hc hN hy hyl hsw hi ok hg ht he hs) fun _ _ _ h => setLc_imp (fun σ H Q ⟨ρ, M, σa, mo, rs, p⟩ => lc_imp hsl ⟨ρ, M, σa, mo, rs, Post.trim mo p⟩) h
end
def D.flat : D → Option V
  | .non => some .non
  | .bl b => some (.bl b)
  | .int i => some (.int i)
  | .str x => some (.str x)
  | _ => none
def flats : List D → Option (List V)
  | [] => some []
  | d :: ds => (match d.flat, flats ds with | some v, some vs => some (v :: vs) | _, _ => none)
theorem flat_ok {K : PySem.W.Frag} {ρ : List Addr} {H : Hp} {d : D} {v w : V} (r : Rep K ρ H v d) (h : d.flat = some w) : v = w ∧ flatV w = true := by
  cases r with
  | non => cases h; exact ⟨rfl, rfl⟩
  | bl b => cases h; exact ⟨rfl, rfl⟩
  | int i => cases h; exact ⟨rfl, rfl⟩
  | str x => cases h; exact ⟨rfl, rfl⟩
  | _ => cases h
theorem flats_ok {K : PySem.W.Frag} {ρ : List Addr} {H : Hp} : ∀ (ds : List D) (vs ws : List V), RepA K ρ H vs ds → flats ds = some ws → vs = ws ∧ ws.all flatV = true
  | [], _, _, r, h => by cases r; cases h; exact ⟨rfl, rfl⟩
  | d :: ds, _, _, r, h => by
    unfold flats at h
    split at h
    · rename_i v vs e1 e2
      cases h
      cases r with
      | cons r1 r2 =>
        obtain ⟨rfl, f1⟩ := flat_ok r1 e1
        obtain ⟨rfl, f2⟩ := flats_ok ds _ _ r2 e2
        exact ⟨rfl, by rw [List.all_cons, f1, f2]; rfl⟩
    · cases h
def rCntTF (K : PySem.W.Frag) : V → List V → Hp → VK → Prop := fun x xs H Q => ∃ (a : Addr) (ys : List V) (y : V), x = V.ref a ∧ xs = [y] ∧ SqT K H a ys ∧ flatV y = true ∧ ys.all flatV = true ∧ Q (.int ((ys.countP fun z => eqV z y : Nat) : Int)) H
theorem mt_tcountF : MtR X "tuple.count" (rCntTF X.K) := by
  intro pins s σ H x xs v us Q I rx rxs h
  obtain ⟨a, ys, y, rfl, rfl, hs, fy, fys, q⟩ := h
  cases rx
  obtain ⟨u, rfl, ru⟩ := rxs.one
  obtain ⟨its, rv, ⟨⟨cls, dd, data, sl⟩, ho, hc, n, hd⟩, hlen⟩ := I.tuple hs
  simp only at hc hd
  subst hc hd
  refine call_meets PySem.F.slot_tuple_count ⟨_, ho, rfl⟩ PySem.F.entry_tuple_count (PySem.F.args_tuple_count_2 _ _) (SeqAt.tuple_countAt a its.toArray n dd sl u (eqU y)) ⟨ho, fun z hz => mem_eqAt ru fy rv fys z (by simpa using hz), ?_⟩
  refine ⟨.int ((ys.countP fun z => eqV z y : Nat) : Int), H, I.tok _, ⟨s.toks, ?_⟩, q⟩
  show Value.int ((its.toArray.toList.countP (eqU y) : Nat) : Int) s.toks = _
  rw [show its.toArray.toList = its from rfl, countP_flat rv fys]
def gCountT (x : D) (ds : List D) (M : Mem) : Res D := match x, ds with
  | .tup es, [y] => (match y.flat, flats es with | some v, some vs => .ok (.int ((vs.countP fun z => eqV z v : Nat) : Int)) M | _, _ => .bad)
  | _, _ => .bad
def fCountT (fo : F D) (fs : F (List D)) : F D := fun σ M => (fo σ M).bind fun d M1 => match d with | .tup es => (fs σ M1).bind fun ds M2 => gCountT (.tup es) ds M2 | _ => .bad
variable {o e : Expr} {es : List Expr} {fo : F D} {fs : F (List D)} {apos cpos : Pos}
theorem qe_countT (hk : X.K = S.K) (ho : QE S W X o fo) (ha : QA S W X (e :: es) fs)
    (hbase : attributeBase o "count" X.env (eval o X.env) = eval o X.env := by rfl)
    (hfew : ((backTo cpos (starEach (e :: es) X.env)).all (fun x => !x.1) && (backToKw cpos (keywordEach [] X.env)).all (fun x => x.1.isSome)
      && decide ((e :: es).length + ([] : List Keyword).length + (if ([] : List Keyword).isEmpty then 0 else 1) < 30)) = true := by rfl)
    (hline : (apos.endLine == cpos.line) = true := by rfl) (hs : starEach (e :: es) X.env = (false, eval e X.env) :: starEach es X.env := by rfl) (hplain : (backTo cpos (starEach es X.env)).any (·.1) = false := by rfl) :
    QE S W X (.Call (.Attribute o "count" apos) (e :: es) [] cpos) (fCountT fo fs) := by
  have hm : MtR X "tuple.count" (rCntTF S.K) := hk ▸ mt_tcountF
  refine PE.imp (pe_bmT PySem.F.plainAttrs_tuple PySem.F.slot_tuple_count PySem.F.type_tuple_count hm ho ha hbase hfew hline hs hplain) fun σ H Q ⟨ρ, M, σa, mo, rs, p⟩ => ?_
  refine use mo rs p fun d M1 ρ1 H1 v st1 r1 rs1 p1 => ?_
  cases d with
  | tup ds =>
    obtain ⟨a, xs, rfl, hq, ra, ⟨ob, hd, ho⟩, na⟩ := tup_of r1
    refine ⟨⟨a, ob, xs, rfl, ho, hd⟩, use st1.2 rs1 p1 fun ys M2 ρ2 H2 vs st2 r2 rs2 p2 => ?_⟩
    unfold gCountT at p2
    split at p2
    · rename_i es' y heq
      cases heq
      split at p2
      · rename_i u us h1 h2
        obtain ⟨w, rfl, rw'⟩ := RepA.one r2
        obtain ⟨rfl, f1⟩ := flat_ok rw' h1
        have r3 := Rep.mono st2.1 _ _ r1
        obtain ⟨a', xs', e', hq', ra', _, _⟩ := tup_of r3
        cases e'
        obtain ⟨rfl, f2⟩ := flats_ok _ _ _ ra' h2
        exact ⟨a, xs', w, rfl, rfl, hq', f1, f2, p2 ρ2 H2 _ (Stp.refl st2.2) (.int _)⟩
      · exact p2.elim
    · exact p2.elim
  | _ => exact False.elim p1
def gTru (d : D) (M : Mem) : Res Bool := match d with
  | .non => .ok false M
  | .bl b => .ok b M
  | .int i => .ok (i != 0) M
  | d => match seqOf M d with | some ds => .ok (!ds.isEmpty) M | none => .bad
def fTru (f : F D) : F Bool := fun σ M => (f σ M).bind gTru
mutual
def withinB : PyData → Bool
  | .int i => decide (-100000000000000000000000000000000000000000000000000000000000000000000000000000000000000000000000000000000000000000000000 ≤ i) && decide (i ≤ 100000000000000000000000000000000000000000000000000000000000000000000000000000000000000000000000000000000000000000000000)
  | .list ds => withinBA ds
  | .tuple ds => withinBA ds
  | .dict _ => false
  | _ => true
def withinBA : List PyData → Bool
  | [] => true
  | d :: ds => withinB d && withinBA ds
end
mutual
theorem within_ok : ∀ d : PyData, withinB d = true → within 100000000000000000000000000000000000000000000000000000000000000000000000000000000000000000000000000000000000000000000000 d
  | .none, _ => by simp [within]
  | .bool _, _ => by simp [within]
  | .int i, h => by simpa [withinB, within] using h
  | .str _, _ => by simp [within]
  | .list ds, h => by simp only [within]; exact withinA_ok ds (by simpa only [withinB] using h)
  | .tuple ds, h => by simp only [within]; exact withinA_ok ds (by simpa only [withinB] using h)
  | .dict _, h => by simp [withinB] at h
theorem withinA_ok : ∀ ds : List PyData, withinBA ds = true → withinAll 100000000000000000000000000000000000000000000000000000000000000000000000000000000000000000000000000000000000000000000000 ds
  | [], _ => by simp [withinAll]
  | d :: ds, h => by
    simp only [withinBA, Bool.and_eq_true] at h
    simp only [withinAll]
    exact ⟨within_ok d h.1, withinA_ok ds h.2⟩
end
def okRepr (p : PyData) : Bool := withinB p && Nat.ble (wt p) 16000000 && Nat.ble p.depth 100 && !p.hasDict
def gRepr : List D → Mem → Res D
  | [d], M => (match toPy M d with | some p => if okRepr p = true then .ok (.str p.shown) M else .bad | none => .bad)
  | _, _ => .bad
theorem cq_repr : CallQ S (rReprP S.K) gRepr := by
  intro W σ ρ H M xs ds Q mo ra p
  unfold gRepr at p
  split at p
  · split at p
    · rename_i d hd
      split at p
      · rename_i ho
        unfold okRepr at ho
        simp only [Bool.and_eq_true, Bool.not_eq_true'] at ho
        obtain ⟨v, rfl, r⟩ := RepA.one ra
        exact ⟨v, d, rfl, toPy_dp mo r hd, ho.2, ⟨within_ok d ho.1.1.1, Nat.le_of_ble_eq_true ho.1.1.2, Nat.le_of_ble_eq_true ho.1.2⟩, p ρ H _ (Stp.refl mo) (.str _)⟩
      · exact p.elim
    · exact p.elim
  · exact p.elim
end
def kidE : Expr → List Expr
  | .BoolOp _ vs _ => vs
  | .BinOp l _ r _ => [l, r]
  | .UnaryOp _ x _ => [x]
  | .Lambda _ b _ _ => [b]
  | .IfExp t b o _ => [t, b, o]
  | .ListComp e gs _ _ => e :: gs.flatMap fun g => g.iter :: g.ifs
  | .Compare l _ cs _ => l :: cs
  | .Call f as ks _ => f :: as ++ ks.map (·.value)
  | .Attribute v _ _ => [v]
  | .Subscript v s _ => [v, s]
  | .List es _ => es
  | .Tuple es _ _ => es
  | .Slice a b c _ => a.toList ++ b.toList ++ c.toList
  | .Starred v _ => [v]
  | _ => []
def kidX : Stmt → List Expr
  | .Return (some v) _ => [v]
  | .Assign _ v _ => [v]
  | .AugAssign _ _ v _ => [v]
  | .For _ it _ _ _ => [it]
  | .While t _ _ _ => [t]
  | .If t _ _ _ => [t]
  | .Expr v _ => [v]
  | .Raise (some v) _ _ => [v]
  | _ => []
def kidS : Stmt → List Stmt
  | .For _ _ b o _ => b ++ o
  | .While _ b o _ => b ++ o
  | .If _ b o _ => b ++ o
  | _ => []
def noE : Expr := .Constant .none 0 default
def noS : Stmt := .Pass default
def eAt : List Nat → Expr → Expr
  | [], e => e
  | i :: p, e => eAt p ((kidE e).getD i noE)
def sAt : List Nat → List Stmt → Stmt
  | [], _ => noS
  | [i], b => b.getD i noS
  | i :: p, b => sAt p (kidS (b.getD i noS))
def lcSc : Expr → Scope
  | .ListComp _ _ sc _ => sc
  | .Lambda _ _ sc _ => sc
  | _ => ⟨.function, [], false, false, []⟩
def lcAt (b : List Stmt) (p q : List Nat) : Scope := match q with
  | i :: q => lcSc (eAt q ((kidX (sAt p b)).getD i noE))
  | [] => ⟨.function, [], false, false, []⟩
def spG (S : Sc) (n : Nat) (m : List D → Mem → Res D) : Sp := fun vs H Q _ => vs.length = n ∧ ∃ ρ M ds, MemOk S ρ H M ∧ RepA S.K ρ H vs ds ∧ Post S W0 (Rep S.K) [] ρ H Q (m ds M)
abbrev CalGQ (S : Sc) (P : Program) (w : World) (mg : Str → Option Value) (base : Heap) (k : Nat) (x : Str) (ps : List Str) (m : List D → Mem → Res D) : Prop := CalG P w S.K mg base k x ps (spG S ps.length m)
theorem run_start {S : Sc} {N : List Str} {k : Nat} {b : FS} {vs : List V} {H : Hp} {Q : VK} {ρ : List Addr} {M : Mem} {ds : List D} (mo : MemOk S ρ H M) (ra : RepA S.K ρ H vs ds) (p : Post S W0 (Rep S.K) [] ρ H Q (runD N.length k b ds M)) :
    tOfS S W0 b { nx := fun _ H' => Q .non H', rt := Q } (L2.start N vs) H := by
  refine ⟨ρ, M, _, mo, rep_start ra, ?_⟩
  unfold runD at p
  split at p
  · cases e : b (startA N.length ds) M with
    | ok fl M1 =>
      rw [e] at p
      cases fl with
      | rt d => exact p
      | nx σ => exact fun ρ' H' _ st' _ => p ρ' H' .non st' .non
      | bk σ => exact p.elim
      | ct σ => exact p.elim
    | exc c fs σ M1 => rw [e] at p; exact fun ρ' H' _ d st' _ xr => p ρ' H' d st' xr
    | bad => rw [e] at p; exact p
  · exact p.elim
section
variable {S : Sc} {P : Program} {w : World} {mg : Str → Option Value} {base : Heap} {k : Nat} {x : Str} {ps N : List Str} {st : Stmt} {b : FS}
end
theorem law_sp {S : Sc} {H : Hp} {a : Addr} {ns : List Int} {m : List D → Mem → Res D} (hT : LamX.Tabs S.T H) (hS : SqL S.K H a (ns.map V.int)) (h : ∃ M, m [.scr ns] [] = .ok (.bl true) M) : spG S 1 m [.ref a] H (fun v _ => v = .bl true) fun _ _ _ => False := by
  obtain ⟨M, e⟩ := h
  refine ⟨rfl, [], [], [.scr ns], ⟨rfl, List.nodup_nil, fun n a c h => by simp at h, hT⟩, .cons (.scr ?_) .nil, ?_⟩
  · rcases hS with h | h
    · exact .inl ⟨h, by simp⟩
    · exact .inr h
  · rw [e]
    intro ρ' H' v st r
    cases r
    rfl
abbrev cLt (i j : Int) : Bool := decide (i < j)
abbrev cLe (i j : Int) : Bool := decide (i ≤ j)
abbrev cGt (i j : Int) : Bool := decide (j < i)
end QX
namespace QX
open PySem PySem.Spec PyProof.Rows L2 HX
theorem CalGQ.trim {S : Sc} {P : Program} {w : World} {mg : Str → Option Value} {base : Heap} {k : Nat} {x : Str} {ps : List Str} {m : List D → Mem → Res D} (c : CalGQ S P w mg base k x ps m) : CalGQ S P w mg base k x ps (fun ds M => trimR M.length (m ds M)) := by
  obtain ⟨f, fd, F, a1, a2, a3⟩ := c
  exact ⟨f, fd, ⟨fun vs H Q E h => h.1, fun A outer s H args us vs Q E en hr e0 hb rv h => F.run A outer s H args us vs Q E en hr e0 hb rv (by
    obtain ⟨hl, ρ, M, ds, mo, ra, p⟩ := h
    exact ⟨hl, ρ, M, ds, mo, ra, Post.trim mo p⟩)⟩, a1, a2, a3⟩
end QX
set_option maxRecDepth 100000
set_option maxHeartbeats 2000000
namespace QX
open PySem PySem.Spec PyProof.Rows L2 HX
def sAsgL (f : F D) (is : List Nat) : FS := fun σ M => (f σ M).bindS σ fun d M1 => match listOf M1 d with | some ds => if ds.length == is.length then .ok (.nx (setAll σ is ds)) M1 else .bad | none => .bad
section
variable {X : Cx} {S : Sc} {W : WX} {e : Expr} {fe : F D} {pos : Pos}
end
section
variable {S : Sc}
end
section
variable {S : Sc}
def gIsB (neg : Bool) : D → D → Mem → Res D
  | .bl a, .bl b, M => .ok (.bl (if neg = true then !decide (a = b) else decide (a = b))) M
  | _, _, _ => .bad
@[simp] theorem gIsB_bl {neg a b : Bool} {M : Mem} : gIsB neg (.bl a) (.bl b) M = .ok (.bl (if neg = true then !decide (a = b) else decide (a = b))) M := rfl
end
@[simp] theorem ev_asgL {f : F D} {is : List Nat} {σ : Sa} {M : Mem} : sAsgL f is σ M = (f σ M).bindS σ fun d M1 => match listOf M1 d with | some ds => if ds.length == is.length then .ok (.nx (setAll σ is ds)) M1 else .bad | none => .bad := rfl
end QX
set_option maxRecDepth 100000
set_option maxHeartbeats 2000000
namespace QX
open PySem PySem.Spec PyProof.Rows L2 HX
structure Bi5 (mg : Str → Option Value) : Prop where
  abs_ : mg "abs" = none
  divmod_ : mg "divmod" = none
  any_ : mg "any" = none
section
variable {S : Sc}
def gAbs : List D → Mem → Res D
  | [.int i], M => .ok (.int (if i < 0 then -i else i)) M
  | _, _ => .bad
@[simp] theorem gAbs_int {i : Int} {M : Mem} : gAbs [.int i] M = .ok (.int (if i < 0 then -i else i)) M := rfl
end
end QX
set_option maxRecDepth 100000
set_option maxHeartbeats 2000000
namespace QX
open PySem PySem.Spec PyProof.Rows L2 HX
section
variable {prog : Program} {w : World} {A : Around} {E : Value → Shared → Prop} {s : Shared} {l : Addr} {xs : Array (Int × Tok)}
end
section
variable {X : Cx} {S : Sc}
end
end QX
set_option maxRecDepth 100000
set_option maxHeartbeats 2000000
namespace QX
open PySem PySem.Spec PyProof.Rows L2 HX
def pk {α : Type} : List Nat → List α → List α
  | [], _ => []
  | i :: is, l => match l[i]? with | some a => a :: pk is l | none => pk is l
theorem RepA.pk {K : PySem.W.Frag} {ρ : List Addr} {H : Hp} {vs : List V} {ds : List D} (r : RepA K ρ H vs ds) : ∀ is : List Nat, RepA K ρ H (QX.pk is vs) (QX.pk is ds)
  | [] => .nil
  | i :: is => by
    unfold QX.pk
    cases e : vs[i]? with
    | some v =>
      obtain ⟨d, h1, h2⟩ := r.get e
      rw [h1]
      exact .cons h2 (RepA.pk r is)
    | none =>
      have : ds[i]? = none := by
        rw [List.getElem?_eq_none_iff] at e ⊢
        rw [← r.len]
        exact e
      rw [this]
      exact RepA.pk r is
abbrev FunDS (K : PySem.W.Frag) (x : Str) (st : Stmt) (dvs : List V) (kws : List (Str × V)) (f : Addr) (fd : FuncData) : Prop := FunD K x x (defArgs st) (defBody st) (defScope st) dvs kws f fd
def DefD (K : PySem.W.Frag) (mg : Str → Option Value) (x : Str) (st : Stmt) (dvs : List V) (kws : List (Str × V)) : Prop := ∃ (f : Addr) (fd : FuncData), FunDS K x st dvs kws f fd ∧ mg x = some (.ref f)
def CalDQ (S : Sc) (P : Program) (w : World) (mg : Str → Option Value) (base : Heap) (k : Nat) (x : Str) (st : Stmt) (dvs : List V) (kws : List (Str × V)) (ps : List Str) (m : List D → Mem → Res D) : Prop :=
  ∃ (f : Addr) (fd : FuncData), FnOk P w S.K mg base (L2.CX P w) k f fd ps (spM S ps.length m) ∧ mg x = some (.ref f) ∧ FunDS S.K x st dvs kws f fd
section
variable {S : Sc} {P : Program} {w : World} {mg : Str → Option Value} {base : Heap} {j k : Nat} {x : Str} {ps N : List Str} {st : Stmt} {b : FS} {dvs : List V} {kws : List (Str × V)} {m m' : List D → Mem → Res D}
theorem CalDQ.mono (c : CalDQ S P w mg base j x st dvs kws ps m) (h : j ≤ k) : CalDQ S P w mg base k x st dvs kws ps m := by
  obtain ⟨f, fd, F, a, d⟩ := c
  exact ⟨f, fd, F.mono h, a, d⟩
theorem CalDQ.imp (c : CalDQ S P w mg base k x st dvs kws ps m) (h : ∀ (W : WX) (ρ : List Addr) (H : Hp) (Q : VK) (vs : List V) (ds : List D) (M : Mem), MemOk S ρ H M → RepA S.K ρ H vs ds → Post S W (Rep S.K) [] ρ H Q (m' ds M) → Post S W (Rep S.K) [] ρ H Q (m ds M)) : CalDQ S P w mg base k x st dvs kws ps m' := by
  obtain ⟨f, fd, F, a1, a2⟩ := c
  exact ⟨f, fd, F.imp fun vs H Q E ⟨hl, ρ, M, ds, mo, ra, p⟩ => ⟨hl, ρ, M, ds, mo, ra, h _ _ _ _ _ _ _ mo ra p⟩, a1, a2⟩
theorem CalDQ.trim (c : CalDQ S P w mg base k x st dvs kws ps m) : CalDQ S P w mg base k x st dvs kws ps (fun ds M => trimR M.length (m ds M)) := CalDQ.imp c fun _ _ _ _ _ _ _ mo _ p => Post.trim mo p
theorem DefD.okQ (T : DefD S.K mg x st dvs kws) (sc : FnScope N ps (defScope st))
    (hb : ∀ (f : Addr) (cdv : Value) (A : Around) (outer : List Env) (s : Shared) (H : Hp) (E : XK), Room k (A.deeper (envOfC x (defScope st) s.heap.objs.size f cdv)) → Takes (cxOf (L2.CX P w) P w S.K mg base N x (defScope st) f cdv A outer s H E) (fun cls d _ H => E cls d H) →
      PassesOwn (model P w) (cxOf (L2.CX P w) P w S.K mg base N x (defScope st) f cdv A outer s H E).A (cxOf (L2.CX P w) P w S.K mg base N x (defScope st) f cdv A outer s H E).env (cxOf (L2.CX P w) P w S.K mg base N x (defScope st) f cdv A outer s H E).xe →
      QSs S (fun cls d _ H => E cls d H) (cxOf (L2.CX P w) P w S.K mg base N x (defScope st) f cdv A outer s H E) (defBody st) b) : CalDQ S P w mg base (k + 1) x st dvs kws ps (runD N.length ps.length b) := by
  obtain ⟨f, fd, F, hm⟩ := T
  refine ⟨f, fd, FunD.ok F sc (fun vs H Q E h => h.1) fun cdv A outer s H vs Q E hr h => ⟨_, hb f cdv A outer s H E hr (takes_of rfl rfl rfl rfl) (passes_of (X := cxOf (L2.CX P w) P w S.K mg base N x (defScope st) f cdv A outer s H E) rfl), ?_⟩, hm, F⟩
  obtain ⟨hl, ρ, M, ds, mo, ra, p⟩ := h
  refine ⟨ρ, M, _, mo, rep_start ra, ?_⟩
  unfold runD at p
  split at p
  · cases e : b (startA N.length ds) M with
    | ok fl M1 =>
      rw [e] at p
      cases fl with
      | rt d => exact p
      | nx σ => exact fun ρ' H' _ st' _ => p ρ' H' .non st' .non
      | bk σ => exact p.elim
      | ct σ => exact p.elim
    | exc c fs σ M1 => rw [e] at p; exact fun ρ' H' _ d st' _ xr => p ρ' H' d st' xr
    | bad => rw [e] at p; exact p
  · exact p.elim
end
section
variable {X : Cx} {S : Sc} {W : WX} {k : Nat} {x : Str} {ps ks : List Str} {m : List D → Mem → Res D} {p pos kpos : Pos} {e : Expr} {es : List Expr} {kws : List Keyword} {fs fk : F (List D)} {fe : F D} {st : Stmt} {dvs : List V} {kds : List (Str × V)} {nm : Option Str}
theorem PK.imp {es : List Keyword} {t t' : TA} (h : PK X es t) (w : ∀ σ H Q, t' σ H Q → t σ H Q) : PK X es t' := ⟨fun pos pins s σ H Q I q => h.run pos pins s σ H Q I (w σ H Q q)⟩
def fCallK (m : List D → Mem → Res D) (is : List Nat) (fs fk : F (List D)) : F D := fun σ M => (fs σ M).bind fun ds M1 => (fk σ M1).bind fun es M2 => m (pk is (ds ++ es)) M2
end
@[simp] theorem ev_callK {m : List D → Mem → Res D} {is : List Nat} {fs fk : F (List D)} {σ : Sa} {M : Mem} : fCallK m is fs fk σ M = (fs σ M).bind fun ds M1 => (fk σ M1).bind fun es M2 => m (pk is (ds ++ es)) M2 := rfl
end QX
namespace QX
open PySem PySem.Spec PyProof.Rows L2 HX
end QX
set_option maxRecDepth 100000
set_option maxHeartbeats 2000000
namespace QX
open PySem PySem.Spec PyProof.Rows L2 HX
structure Bi6 (mg : Str → Option Value) : Prop where
  str_ : mg "str" = none
  reversed_ : mg "reversed" = none
section
variable {X : Cx} {S : Sc} {W : WX} {e o : Expr} {fe fo : F D} {pos : Pos}
end
section
variable {f fo fe : F D} {g : D → D → Mem → Res D} {i j : Nat} {is : List Nat} {σ : Sa} {M : Mem} {a b : Str} {n : Int}
end
end QX
set_option maxRecDepth 100000
set_option maxHeartbeats 2000000
namespace QX
open PySem PySem.Spec PyProof.Rows L2 HX
section
variable {S : Sc}
end
end QX
set_option maxRecDepth 100000
set_option maxHeartbeats 2000000
namespace QX
open PySem PySem.Spec PyProof.Rows L2 HX
section
variable {X : Cx} {S : Sc} {W : WX}
end
end QX
set_option maxRecDepth 100000
set_option maxHeartbeats 1000000
namespace QX
open PySem PySem.Spec PyProof.Rows L2 L2H HX
section
variable {S : Sc} {ρ : List Addr} {H H1 : Hp} {M : Mem}
theorem Stp.lam (m : MemOk S ρ H M) (e : LamX.ExtN H H1) (t : LamX.Tabs S.T H1) : Stp S ρ H ρ H1 M := by
  have x : Ext ρ H ρ H1 := ⟨⟨[], by simp, by simp⟩, fun a o h _ n => e a o h n, fun a ⟨o, h, n⟩ => ⟨o, e a o h n, n⟩⟩
  refine ⟨x, m.len, m.nd, fun n a c h1 h2 => ?_, t⟩
  have ok := m.cell n a c h1 h2
  refine ok.ext x ?_
  cases c with
  | lst ds =>
    obtain ⟨xs, e1, _⟩ := ok
    rw [e1]
    exact e a _ e1 fun _ z => nomatch z
  | dic kvs =>
    obtain ⟨xs, e1, _⟩ := ok
    rw [e1]
    exact e a _ e1 fun _ z => nomatch z
theorem Stp.same (m : MemOk S ρ H M) (s : Same H H1) : Stp S ρ H ρ H1 M := Stp.lam m (LamX.ExtN.of s) (m.tab.ext s)
end
def spRef (K : PySem.W.Frag) (C : Nat → Addr) (a : Addr) (cls : Value) (d : Option Addr) (H : Hp) (Q : VK) : Prop :=
  ∃ (D : Addr) (i : Nat), cls = .ref D ∧ d = none ∧ i < 20 ∧ EF K C D i ∧ ∀ H', Same H H' → Q (.str (wordAt i)) H'
def spWordF (K : PySem.W.Frag) (C : Nat → Addr) (a : Addr) (cls : Value) (d : Option Addr) (H : Hp) (Q : VK) : Prop :=
  ∃ (D : Addr) (i : Nat), cls = .ref D ∧ d = none ∧ i < 19 ∧ EF K C D i ∧ ∀ (p : Addr) (o : Obj) (H' : Hp), Same H H' → o.dict = none → H p = none → H' p = some (.frz o (.tup [.str (wordAt i)])) → Q (.ref p) H'
def tIsQ (K : PySem.W.Frag) (Dc a c : Addr) : TE := tCB (rIsE K Dc a) (tCons (tVar 0) (tCons (tC (.ref c)) tNil))
theorem isQ_one {K : PySem.W.Frag} {Dc a : Addr} {C : Nat → Addr} {i j : Nat} (E : EF K C Dc i) (hj : j < 21) {σ : L2.St} {H : Hp} {Q : VK} (hs : σ[0]? = some (some (.ref a))) (q : Q (.bl (decide (j = i))) H) : tIsQ K Dc a (C j) σ H Q :=
  ⟨.ref a, hs, .ref (C j), .ref (C j), _, rfl, fun u r => r, E.is j hj, q⟩
theorem marksQ_take {i m : Nat} (h : m < 21) : (marks i).take (m + 1) = (marks i).take m ++ [.bl (decide (m = i))] := by
  have e : (marks i)[m]? = some (.bl (decide (m = i))) := by
    unfold marks
    rw [List.getElem?_map, List.getElem?_range h]
    rfl
  rw [List.take_add_one, e]
  rfl
theorem catQ4 {K : PySem.W.Frag} {Dc a L : Addr} {C : Nat → Addr} {i m : Nat} (E : EF K C Dc i) (hm : m + 4 ≤ 21) {σ : L2.St} {H : Hp} {Q : VK} (h0 : σ[0]? = some (some (.ref a))) (h1 : σ[1]? = some (some (.ref L))) (eL : H L = some (.lst ((marks i).take m)))
    (q : ∀ L' H', Same H H' → H' L' = some (.lst ((marks i).take (m + 4))) → H L' = none → Q (.ref L') H') :
    tOp rCat (tVar 1) (tLst (tCons (tIsQ K Dc a (C m)) (tCons (tIsQ K Dc a (C (m + 1))) (tCons (tIsQ K Dc a (C (m + 2))) (tCons (tIsQ K Dc a (C (m + 3))) tNil))))) σ H Q := by
  refine ⟨.ref L, h1, isQ_one E (by omega) h0 (isQ_one E (by omega) h0 (isQ_one E (by omega) h0 (isQ_one E (by omega) h0 ⟨by show 4 ≤ sizeLine; decide, fun M n => ?_⟩)))⟩
  have sM : Same H (upd H M (.lst [.bl (decide (m = i)), .bl (decide (m + 1 = i)), .bl (decide (m + 2 = i)), .bl (decide (m + 3 = i))])) := Same.new n
  refine ⟨L, M, _, _, rfl, rfl, sM _ _ eL, upd_same, ?_, fun p np => q p _ (sM.trans (Same.new np)) ?_ ?_⟩
  · rw [List.length_take]
    show _ + 4 ≤ sizeLine
    have : min m (marks i).length ≤ m := Nat.min_le_left ..
    exact Nat.le_of_lt (small1000 (by omega))
  · rw [upd_same, show m + 4 = m + 3 + 1 by omega, marksQ_take (by omega), show m + 3 = m + 2 + 1 by omega, marksQ_take (by omega), show m + 2 = m + 1 + 1 by omega, marksQ_take (by omega), marksQ_take (by omega)]
    simp only [List.append_assoc, List.cons_append, List.nil_append]
  · cases e : H p with
    | none => rfl
    | some o => rw [sM _ _ e] at np; cases np
theorem FnE.imp {P : Program} {w : World} {K : PySem.W.Frag} {mg : Str → Option Value} {base : Heap} {k : Nat} {f : Addr} {fd : FuncData} {a : Str} {sp sp' : Addr → Value → Option Addr → Hp → VK → Prop} (F : FnE P w K mg base k f fd a sp) (h : ∀ ea cls d H Q, sp' ea cls d H Q → sp ea cls d H Q) : FnE P w K mg base k f fd a sp' :=
  ⟨fun A outer s H p cls d Q hr hp hz hf e0 hb hs => F.run A outer s H p cls d Q hr hp hz hf e0 hb (h _ _ _ _ _ hs)⟩
def TSaidF (K : PySem.W.Frag) (CM : Addr) (told : Str) (spW : Addr → Value → Option Addr → Hp → VK → Prop) : (XK → Hp → VK → Prop) → Hp → VK → Prop := fun tl H Q =>
  tl (fun cls d H' => ∃ b, PySem.W.exmOne K cls (.ref CM) = some b ∧ (b = true → ∀ a, H' a = none → spW a cls d H' Q) ∧ (b = false → False)) H fun v H1 => [V.str told, v].length ≤ sizeLine ∧ ∀ p o, H1 p = none → o.dict = none → Q (.ref p) (upd H1 p (.frz o (.tup [.str told, v])))
theorem said_givesH {X : Cx} {k : Nat} {x a n e q told : Str} {sg : Scope} {g CM : Addr} {cdg : Value} {spW : Addr → Value → Option Addr → Hp → VK → Prop} {he : Expr} {j kt : Nat} {p1 p2 p3 p4 p5 p6 p10 p11 p12 : Pos} (hr : Room (k + 1) X.A)
    (hge : sg.names.lookup e = some .globalImplicit) (hme : X.mg e = some (.ref CM)) (hnd : [a, n].Nodup) (hln : sg.names.lookup n = some .local)
    (hh : ∀ (Y : Cx) (ea : Addr) (oe : Obj) (cls : Value) (d : Option Addr) (pn : List (Addr × Obj)), Y.prog = X.prog → Y.w = X.w → Y.K = X.K → Y.mg = X.mg → Y.base = X.base → Y.N = [a, n] → Y.env.scope = sg → RoomH k Y.A → Zc cls d oe → (∃ vs, oe.data = .fields vs) →
      PE (Y.suite ea ((ea, oe) :: pn)) he (fun σ H Q => σ[1]? = some (some (.ref ea)) ∧ spW ea cls d H Q))
    (hde : (e == ("__debug__" : Str)) = false := by decide) :
    LamX.GivesTo X [a, n] x sg g cdg [.Try [.Return (some (.Tuple [.Constant (.str told) j p1, .Call (.Name a p2) [] [] p3] kt p4)) p5] [.ExceptHandler (some (.Name e p6)) (some n) [.Return (some he) p10] p11] [] [] p12] a q (TSaidF X.K CM told spW) := by
  intro f c' s H Q tl act hc h
  have hgl : Gl (cxOf C8.CX0 X.prog X.w X.K X.mg X.base [a, n] x sg g cdg X.A X.stack s H C8.E0).nox e := hge
  have hrm : RoomH k (cxOf C8.CX0 X.prog X.w X.K X.mg X.base [a, n] x sg g cdg X.A X.stack s H C8.E0).nox.A := roomH_of (hr.deeper _)
  refine ⟨_, pss_one (ps_try_as (X := (cxOf C8.CX0 X.prog X.w X.K X.mg X.base [a, n] x sg g cdg X.A X.stack s H C8.E0).nox) (c := .ref CM) (i := 1)
      (tb := fun W D σ H => ∃ Ech : XK, (∀ cls d σ' H', σ'.length = 2 → Ech cls d H' → W cls d σ' H') ∧ σ[0]? = some (some (.ref f)) ∧ H c' = some (LamX.CodeO c' q) ∧ tl Ech H fun v H1 => [V.str told, v].length ≤ sizeLine ∧ ∀ p o, H1 p = none → o.dict = none → D.rt (.ref p) (upd H1 p (.frz o (.tup [.str told, v]))))
      rfl rfl hnd rfl hln ⟨hgl, hde, .inl hme⟩ LamX.takes0 (fun W pn xe tk _ => ?_) (fun ea oe cls d pn hz hf => pss_one (ps_ret (hh _ ea oe cls d pn rfl rfl rfl rfl rfl rfl rfl hrm hz hf)))), ?_⟩
  · refine ⟨fun pins s' σ H' D I h' => ?_⟩
    obtain ⟨Ech, hW, h1, h2, h3⟩ := h'
    have hp := act (fun cls d σ H => σ.length = 2 → W cls d σ H) pn xe Ech p2 p3 (takes_len tk) fun cls d σ' H' he hl => hW cls d σ' H' hl he
    refine (pss_one (ps_ret (pos := p5) (PE.imp (t' := fun σZ HZ (Q' : VK) => σZ[0]? = some (some (.ref f)) ∧ HZ c' = some (LamX.CodeO c' q) ∧ tl Ech HZ fun v H1 => [V.str told, v].length ≤ sizeLine ∧ ∀ p o, H1 p = none → o.dict = none → Q' (.ref p) (upd H1 p (.frz o (.tup [.str told, v])))) (pe_tupF (x1 := kt) (pos := p4) (pa_cons (pe_str (pos := p1)) (pa_cons hp pa_nil))) fun σ H Q z => ?_))).run pins s' σ H' D I ⟨h1, h2, h3⟩
    exact z
  · refine ⟨fun cls d H' => ∃ b, PySem.W.exmOne X.K cls (.ref CM) = some b ∧ (b = true → ∀ a, H' a = none → spW a cls d H' Q) ∧ (b = false → False), ?_, rfl, hc, h⟩
    rintro cls d σ' H' hl ⟨b, e1, e2, e3⟩
    refine ⟨b, e1, fun hb ea na => ?_, fun hb => (e3 hb).elim⟩
    refine ⟨?_, e2 hb ea na⟩
    rw [List.getElem?_set_self (by omega)]
theorem iteF' {b : Bool} {p q : Prop} (h : b = false) (x : q) : if b = true then p else q := by rw [h]; exact x
theorem pe_cameH {X Y : Cx} {k : Nat} {C : Nat → Addr} {a n wd aw : Str} {sg : Scope} {A : Expr} {j1 : Nat} {q1 q2 q3 q4 q5 q6 q7 q8 q9 : Pos} (cw : CalE X.prog X.w X.K X.mg X.base k wd aw (spRef X.K C)) (hit : X.mg "isinstance" = none) (ht : X.mg "TooMany" = some (.ref (C 20)))
    (e1 : Y.prog = X.prog) (e2 : Y.w = X.w) (e3 : Y.K = X.K) (e4 : Y.mg = X.mg) (e5 : Y.base = X.base) (e6 : Y.N = [a, n]) (e7 : Y.env.scope = sg) (hr : RoomH k Y.A)
    (hln : sg.names.lookup n = some .local) (hgw : sg.names.lookup wd = some .globalImplicit) (hgi : sg.names.lookup (Str.ofString "isinstance") = some .globalImplicit) (hgt : sg.names.lookup (Str.ofString "TooMany") = some .globalImplicit)
    {ea : Addr} {oe : Obj} {cls : Value} {d : Option Addr} {pn : List (Addr × Obj)} (hz : Zc cls d oe) (hf : ∃ vs, oe.data = .fields vs) (hdn : (n == ("__debug__" : Str)) = false := by decide) (hcn : (n == ("__classdict__" : Str)) = false := by decide) (hdw : (wd == ("__debug__" : Str)) = false := by decide) :
    PE (Y.suite ea ((ea, oe) :: pn)) (.IfExp (.Call (.Name "isinstance" q1) [.Name n q2, .Name "TooMany" q3] [] q4) A (.Tuple [.Call (.Name wd q5) [.Name n q6] [] q7] j1 q8) q9) (fun σ H Q => σ[1]? = some (some (.ref ea)) ∧ spWordF X.K C ea cls d H Q) := by
  refine ⟨fun pins s σ H Q I h => ?_⟩
  obtain ⟨hs, D, i, rfl, rfl, hi, E, q⟩ := h
  rw [← e3] at E
  have hN : (Y.suite ea ((ea, oe) :: pn)).N[1]? = some n := by show Y.N[1]? = _; rw [e6]; rfl
  have hsc : (Y.suite ea ((ea, oe) :: pn)).env.scope = sg := e7
  have gl : ∀ {x : Str}, sg.names.lookup x = some .globalImplicit → Gl (Y.suite ea ((ea, oe) :: pn)) x := fun {x} h => by show (Y.suite ea ((ea, oe) :: pn)).env.scope.names.lookup x = _; rw [hsc]; exact h
  have vn : PE (Y.suite ea ((ea, oe) :: pn)) (.Name n q2) (tVar 1) := pe_var hN (by rw [hsc]; exact .inl hln) hdn hcn
  have vn6 : PE (Y.suite ea ((ea, oe) :: pn)) (.Name n q6) (tVar 1) := pe_var hN (by rw [hsc]; exact .inl hln) hdn hcn
  have c1 : PE (Y.suite ea ((ea, oe) :: pn)) (.Call (.Name "isinstance" q1) [.Name n q2, .Name "TooMany" q3] [] q4) _ := pe_callB (call_isE (X := Y) (pn := pn) E.ec hz hf) (gl hgi) (by show Y.mg _ = _; rw [e4]; exact hit) (by decide +kernel) (pa_cons vn (pa_cons (pe_glob (v := .ref (C 20)) (gl hgt) (by show Y.mg _ = _; rw [e4]; exact ht) rfl) pa_nil))
  have cw' : CalE Y.prog Y.w Y.K Y.mg Y.base k wd aw (spRef Y.K C) := by rw [e1, e2, e3, e4, e5]; exact cw
  have c2 : PE (Y.suite ea ((ea, oe) :: pn)) (.Tuple [.Call (.Name wd q5) [.Name n q6] [] q7] j1 q8) _ := pe_tupF (pa_cons (pe_calE (X := Y) (pn := pn) cw' hr hz hf (by show Y.env.scope.names.lookup _ = _; rw [e7]; exact hgw) vn6 hdw) pa_nil)
  refine (pe_ifExp (pt_val c1) (pe_never (e := A)) c2).run pins s σ H Q I ?_
  refine ⟨.ref ea, hs, .ref (C 20), .ref (C 20), _, rfl, fun u r => r, E.is 20 (by decide), ?_⟩
  refine ⟨_, rfl, ?_⟩
  have hd : decide (20 = i) = false := decide_eq_false (by omega)
  refine iteF' hd ⟨.ref ea, hs, rfl, D, i, rfl, rfl, by omega, E, fun H' s' => ⟨by show 1 ≤ sizeLine; decide, fun p o hp ho => q p o _ (s'.trans (Same.new hp)) ho ?_ upd_same⟩⟩
  cases e : H p with
  | none => rfl
  | some u => rw [s' _ _ e] at hp; cases hp
def XCs (S : Sc) (CM : Addr) (L : List Nat) : Prop := ∀ c ∈ L, c < 19 ∧ EF S.K S.C (S.C c) c ∧ PySem.W.exmOne S.K (.ref (S.C c)) (.ref CM) = some true
theorem qe_dct0 {X : Cx} {S : Sc} {W : WX} {pos : Pos} : QE S W X (.Dict [] [] pos) (fC (.dct [] [])) := PE.imp pe_dnewK fun σ H Q ⟨ρ, M, σa, mo, rs, p⟩ q hq => p ρ _ _ (Stp.fresh mo hq) (.dct upd_same (mo.new hq) rfl .nil)
section
variable {S : Sc} {P : Program} {w : World} {mg : Str → Option Value} {base : Heap} {k : Nat} {x : Str} {ps N : List Str} {st : Stmt} {b : FS} {c : Addr}
theorem Fun.okGCQ {f : Addr} {fd : FuncData} (F : Fun S.K x x st f fd) (hc : fd.code = .ref c) (sc : FnScope N ps (defScope st))
    (hb : ∀ (A : Around) (outer : List Env) (s : Shared) (H : Hp) (E : XK), Ent A s H → Room k (A.deeper (envOfC x (defScope st) s.heap.objs.size f (.ref c))) → QSs S W0 (cxOf CX0 P w S.K mg base N x (defScope st) f (.ref c) A outer s H E).nox (defBody st) b) : FnG P w S.K mg base (k + 1) f fd ps (spG S ps.length (runD N.length ps.length b)) := by
  refine HX.Fun.okGC F hc sc (fun vs H Q E h => h.1) fun A outer s H vs Q E en hr h => ⟨_, hb A outer s H E en hr, ?_⟩
  obtain ⟨hl, ρ, M, ds, mo, ra, p⟩ := h
  exact run_start mo ra p
end
theorem law_tgT {l : PySem.W.OpenLaw} {w : World} {S : Sc} {k n : Nat} {x q : Str} {mg : Str → Option Value} {fa c T : Addr} {h : Heap} {fd : FuncData} {m : List D → Mem → Res D} (hS : S.T = [(T, q)])
    (h1 : h.get? T = some { cls := .none, data := .fields #[] }) (h2 : S.K.lookup T = none) (h3 : PySem.W.CodeHd h c T)
    (hb : ∀ (s : Shared) (u : Value), S.K.In s.heap → BindsTo s fd ⟨[u], []⟩ [(x, u)]) (hF : ∀ base : Heap, LamX.TabB base mg c T → FnG l.prog w S.K mg base k fa fd [x] (spG S 1 m))
    (hm : ∀ ns : List Int, ns.length ≤ n → ∃ M, m [.scr ns] [] = .ok (.bl true) M) : LawTG l w S.K k n x mg fa h :=
  ⟨fd, [(c, T)], spG S 1 m, fun p hp => by rw [List.mem_singleton.mp hp]; exact h1, fun p hp => by rw [List.mem_singleton.mp hp]; exact h2, fun p hp => by rw [List.mem_singleton.mp hp]; exact h3, hb,
    fun H a ns hl hP hS' => law_sp (by rw [hS]; exact fun p hp => by rw [List.mem_singleton.mp hp]; exact LamX.TabS.nil (hP _ (List.mem_singleton.mpr rfl))) hS' (hm ns hl), fun base _ _ TB => hF base (TB _ (List.mem_singleton.mpr rfl))⟩
end QX
set_option maxRecDepth 100000
set_option maxHeartbeats 1000000
namespace QX
open PySem PySem.Spec PyProof.Rows L2 HX
end QX
set_option maxRecDepth 100000
set_option maxHeartbeats 1000000
namespace QX
open PySem PySem.Spec PyProof.Rows L2 HX
end QX
set_option maxRecDepth 100000
set_option maxHeartbeats 1000000
namespace HX
open PySem PySem.Spec PyProof.Rows L2
end HX
set_option maxRecDepth 100000
set_option maxHeartbeats 1000000
namespace QX
open PySem PySem.Spec PyProof.Rows L2 HX
section
variable {K : PySem.W.Frag} {ρ : List Addr} {H : Hp}
def dGet (kvs : List (NestedKey × D)) (k : NestedKey) : Option D := (kvs.find? fun p => decide (p.1 = k)).map (·.2)
def dPut (kvs : List (NestedKey × D)) (k : NestedKey) (d : D) : List (NestedKey × D) := if (dGet kvs k).isSome = true then kvs.map (fun p => if p.1 = k then (p.1, d) else p) else kvs ++ [(k, d)]
theorem DRel.len {xs : List NE} {kvs : List (NestedKey × D)} (r : DRel K ρ H xs kvs) : xs.length = kvs.length := Paired.length r
theorem DRel.get {xs : List NE} {kvs : List (NestedKey × D)} (r : DRel K ρ H xs kvs) (k : NestedKey) : (nGet xs k = none ∧ dGet kvs k = none) ∨ ∃ v d, nGet xs k = some v ∧ dGet kvs k = some d ∧ Rep K ρ H v d := by
  induction r with
  | nil => exact .inl ⟨rfl, rfl⟩
  | @cons x p xs kvs q _ ih =>
    obtain ⟨e1, _, _, _, e5⟩ := q
    by_cases hk : x.1 = k
    · exact .inr ⟨x.2.2, p.2, by simp [nGet, List.find?_cons, hk], by simp [dGet, List.find?_cons, ← e1, hk], e5⟩
    · have h1 : nGet (x :: xs) k = nGet xs k := by simp [nGet, List.find?_cons, hk]
      have h2 : dGet (p :: kvs) k = dGet kvs k := by simp [dGet, List.find?_cons, ← e1, hk]
      rw [h1, h2]
      exact ih
theorem DRel.put {xs : List NE} {kvs : List (NestedKey × D)} (r : DRel K ρ H xs kvs) {k : NestedKey} {a : Addr} {v : V} {d : D} (p1 : pureK k = true) (p2 : k.depth ≤ 8) (p3 : Rep K ρ H (.ref a) (dK k)) (rv : Rep K ρ H v d) : DRel K ρ H (nPut xs k a v) (dPut kvs k d) := by
  have rep : DRel K ρ H (xs.map fun x => if x.1 = k then (x.1, x.2.1, v) else x) (kvs.map fun p => if p.1 = k then (p.1, d) else p) := by
    induction r with
    | nil => exact .nil
    | @cons x p xs kvs q _ ih =>
      obtain ⟨e1, e2, e3, e4, e5⟩ := q
      refine .cons ?_ ih
      dsimp only
      by_cases hk : x.1 = k
      · rw [if_pos hk, if_pos (by rw [← e1]; exact hk)]
        exact ⟨e1, e2, e3, e4, rv⟩
      · rw [if_neg hk, if_neg (by rw [← e1]; exact hk)]
        exact ⟨e1, e2, e3, e4, e5⟩
  unfold nPut dPut
  rcases r.get k with ⟨h1, h2⟩ | ⟨v', d', h1, h2, _⟩
  · rw [h1, h2]
    exact Paired.snoc r ⟨rfl, p1, p2, p3, rv⟩
  · rw [h1, h2]
    exact rep
end
section
variable {X : Cx} {S : Sc} {W : WX} {σ : L2.St} {ρ : List Addr} {H : Hp} {M : Mem}
inductive Tn where
  | nm (i : Nat) | tp (ts : List Tn)
end
end QX
set_option maxRecDepth 100000
set_option maxHeartbeats 1000000
namespace HX
open PySem PySem.Spec PyProof.Rows L2
variable {X : Cx} {pins : List (Addr × Obj)} {σ : L2.St} {H : Hp} {s : Shared}
end HX
set_option maxRecDepth 100000
set_option maxHeartbeats 1000000
namespace QX
open PySem PySem.Spec PyProof.Rows L2 HX
section
variable {S : Sc} {ρ : List Addr} {H : Hp}
end
end QX
set_option maxRecDepth 100000
set_option maxHeartbeats 1000000
namespace HX
open PySem PySem.Spec PyProof.Rows L2 PySem.W PyProof.V PySem.Calls
section
variable {prog : Program} {w : World} {A : Around} {E : Value → Shared → Prop} {s : Shared} {d : Addr}
end
section
variable {prog : Program} {w : World} {A : Around} {E : Value → Shared → Prop} {s : Shared} {T : String} {r d : Addr} {n : Nat} {P : Nat → Value → Prop} {OK : Heap → Prop}
end
mutual
def nkPy : NestedKey → PyData
  | .num i => .int i
  | .tup ks => .tuple (nkPys ks)
  | _ => .none
def nkPys : List NestedKey → List PyData
  | [] => []
  | k :: ks => nkPy k :: nkPys ks
end
section
variable {P : Program} {w : World} {H : Hp} {h : Heap}
mutual
theorem KeyV.reads (ok : HOk P w H h) : ∀ (k : NestedKey) (v : V) (u : Value), KeyV H k v → RelV v u → Reads h u (nkPy k) []
  | .none, v, u, e, _ => by simp [KeyV] at e
  | .text x, v, u, e, _ => by simp [KeyV] at e
  | .num i, v, u, e, r => by
    rw [KeyV] at e
    subst e
    obtain ⟨t, rfl⟩ := r
    rw [nkPy]
    exact .int i t
  | .tup ks, v, u, e, r => by
    rw [KeyV] at e
    obtain ⟨xs, ⟨a, o, rfl, ha⟩, hk⟩ := e
    cases (show u = Value.ref a from r)
    obtain ⟨e1, _, its, rv, o', h1, h2, n, h3⟩ := (show ObjOk P w H h a (.frz o (.tup xs)) from ok a _ ha)
    rw [nkPy]
    exact .tuple h1 h2 h3 (KeyVs.reads ok ks xs _ hk (by simpa using rv))
theorem KeyVs.reads (ok : HOk P w H h) : ∀ (ks : List NestedKey) (vs : List V) (us : List Value), KeyVs H ks vs → Vals vs us → ReadsAll h us (nkPys ks) []
  | [], vs, us, e, r => by
    rw [KeyVs] at e
    subst e
    cases r
    rw [nkPys]
    exact .nil
  | k :: ks, vs, us, e, r => by
    rw [KeyVs] at e
    obtain ⟨v, r', rfl, e1, e2⟩ := e
    cases r with
    | cons r1 r2 =>
      rw [nkPys]
      exact .cons (KeyV.reads ok k _ _ e1 r1) (KeyVs.reads ok ks _ _ e2 r2)
end
end
variable {X : Cx}
end HX
set_option maxRecDepth 100000
set_option maxHeartbeats 1000000
namespace QX
open PySem PySem.Spec PyProof.Rows L2 HX
section
variable {S : Sc} {ρ : List Addr} {H : Hp}
end
end QX
set_option maxRecDepth 100000
set_option maxHeartbeats 1000000
namespace QX
open PySem PySem.Spec PyProof.Rows L2 HX
section
variable {X : Cx} {S : Sc} {W : WX} {σ : L2.St} {ρ : List Addr} {H : Hp} {M : Mem}
end
end QX
set_option maxRecDepth 100000
set_option maxHeartbeats 2000000
namespace HX
open PySem PySem.Spec PyProof.Rows L2 PySem.W PyProof.V PySem.Calls
section
variable {X : Cx}
end
end HX
set_option maxRecDepth 100000
set_option maxHeartbeats 1000000
namespace QX
open PySem PySem.Spec PyProof.Rows L2 HX
section
variable {X : Cx} {S : Sc} {W : WX} {σ : L2.St} {ρ : List Addr} {H : Hp} {M : Mem} {e : Expr} {fe : F D}
end
end QX
set_option maxRecDepth 100000
set_option maxHeartbeats 1000000
namespace QX
open PySem PySem.Spec PyProof.Rows L2 HX
section
variable {X : Cx} {S : Sc} {W : WX}
variable {elt tg iter tg1 iter1 : Expr} {ifs ifs1 : List Expr} {scope : Scope} {own : List (Str × Nat)} {pos : Pos} {fi fi1 : F Ita} {t t1 : Tg} {c c1 : F Bool} {e : F D} {vs1 : List Nat}
variable {i : Nat} {y : Str} {py spos : Pos}
end
section
variable {X : Cx} {S : Sc}
end
end QX
set_option maxRecDepth 100000
set_option maxHeartbeats 1000000
namespace QX
open PySem PySem.Spec PyProof.Rows L2 HX
section
variable {X : Cx} {S : Sc} {W : WX} {e : Expr} {fe : F D}
end
end QX
set_option maxRecDepth 100000
set_option maxHeartbeats 2000000
namespace HX
open PySem PySem.Spec PyProof.Rows L2 PySem.W PyProof.V PySem.Calls
section
variable {X : Cx}
end
end HX
set_option maxRecDepth 100000
set_option maxHeartbeats 1000000
namespace QX
open PySem PySem.Spec PyProof.Rows L2 HX
section
variable {X : Cx} {S : Sc} {W : WX}
end
end QX
set_option maxRecDepth 100000
set_option maxHeartbeats 1000000
namespace HX
open PySem PySem.Spec PyProof.Rows L2
end HX
namespace QX
open PySem PySem.Spec PyProof.Rows L2 HX
end QX
set_option maxRecDepth 100000
set_option maxHeartbeats 2000000
namespace HX
open PySem PySem.Spec PyProof.Rows L2 PySem.W PySem.Calls
section
variable {prog : Program} {w : World} {A : Around} {E : Value → Shared → Prop} {h : Heap} {g : Array GenState} {d : Drawn} {t : Nat} {os : OsState}
variable {nm q : Str} {C N : Addr} {bs bm : List Value} {hdct : Bool} {sn : List Str} {sub : List Value} {ab : Bool} {col : Option Bool} {dd : Option Addr} {k0 k1 k2 k3 k5 : Option Value}
theorem mw_call {u e t0 : Addr} {rest : List Value} {Q : Value → Shared → Prop} (hC : h.get? C = some (excClassObj nm q C N bs bm hdct sn sub ab col dd k0 k1 k2 k3 k5 "ValueError.__new__")) (he : h.get? e = some (PySem.HandSPX.excO C t0)) (hu : h.get? u = some (kxs_mw "ValueError.__init__" e)) (hr : rest.length ≤ sizeLine)
    (hq : ∀ hh t1, (∀ b o, b ≠ e → h.get? b = some o → hh.get? b = some o) → hh.get? e = some (PySem.HandSPX.excO C t1) → Q .none ⟨hh, g, d, t, os⟩) : wpAny (model prog w) A (call (.ref u) rest) Q E ⟨h, g, d, t, os⟩ := by
  have FB := PySem.F.excBase_ValueError
  refine wpAny_call (codeAny_of_tree ?_)
  show wpAny _ A.in1 (callAny (.ref u) ⟨rest, []⟩) _ _ _
  unfold callAny
  refine wpAny_bind (wpAny_load hu ?_)
  simp only [kxs_mw, show (Value.type "method-wrapper" == Value.type "method" || Value.type "method-wrapper" == Value.type "builtin_function_or_method" || Value.type "method-wrapper" == Value.type "method-wrapper") = true from by decide, if_true]
  refine PySem.W.KFB.if_so (by decide) (wpAny_bind (check_bound_init FB.toExcCallFacts hC he rfl (wpAny_bind (wpAny_pure (wpAny_pure ⟨plainId_quiet FB.init.plain _, codeAny_builtin FB.initEntry ?_⟩)))))
  rw [Around.under_plainId FB.init.plain _]
  wp_walk
  exact hq _ h.objs.size (fun b o hb ho => (Heap.get?_update_other _ _ (Ne.symm hb)).trans (Heap.get?_push_of_some _ ho)) ((Heap.get?_update_self _ (Heap.get?_push_of_some _ he) rfl).trans rfl)
end
theorem meth_eq {env : Env} {o : Expr} {name : Str} {p2 q0 : Pos} {e : Expr} (h : (p2.endLine == q0.line) = true) (hs : starEach [e] env = [(false, eval e env)] := by rfl) : eval (.Call (.Attribute o name p2) [e] [] q0) env = (do
      let ov ← attributeBase o name env (eval o env)
      standAt p2.atName
      let (f, first) ← holding [ov] (getMethod ov name (do return (← importBound o env).getD true))
      callWith q0 f first (backTo q0 (starEach [e] env)) []) := by
  show (do
      let ov ← attributeBase o name env (eval o env)
      standAt p2.atName
      methodCall o name p2 q0 env ov _ (backTo q0 (starEach [e] env)) []) = _
  unfold methodCall methodCallPos
  rw [h, hs, Bool.or_true]
  rfl
theorem backTo_one {env : Env} {q0 : Pos} {e : Expr} (hs : starEach [e] env = [(false, eval e env)] := by rfl) : backTo q0 (starEach [e] env) = [(false, eval e env)] := by
  rw [hs]
  rfl
section
variable {prog : Program} {w : World} {A : Around} {E : Value → Shared → Prop} {h : Heap} {g : Array GenState} {d : Drawn} {t : Nat} {os : OsState}
theorem too_text {env : Env} {m : Str → Option Value} {i j : Int} {ti tj : Tok} {fa fb : Nat} {p3 p4 p5 p6 p7 p8 p9 : Pos} {Q : Value → Shared → Prop} (hk : env.scope.kind = .function) (ha : env.kindOf "many" = some .local) (hb : env.kindOf "most" = some .local) (hn : h.Ns env.locals m) (hm : m "many" = some (.int i ti)) (hj : m "most" = some (.int j tj))
    (li : i.natAbs.log2 < 1900) (lj : j.natAbs.log2 < 1900) (hq : ∀ x tk t', Q (.str x tk) ⟨h, g, d, t', os⟩) :
    wpAny (model prog w) A (eval (.JoinedStr [.Constant (.str "too many: ") fa p3, .FormattedValue (.Name "many" p4) (-1) none p5, .Constant (.str ", at most ") fb p6, .FormattedValue (.Name "most" p7) (-1) none p8] p9) env) Q E ⟨h, g, d, t, os⟩ := by
  have la := int_text_length_le (a := i) (k := 1900) (by decide) li
  have lb := int_text_length_le (a := j) (k := 1900) (by decide) lj
  have ea := PySem.ofString_length (toString i)
  have eb := PySem.ofString_length (toString j)
  have c1 : (Str.ofString "too many: ").length = 10 := by decide
  have c2 : (Str.ofString ", at most ").length = 10 := by decide
  have c0 : Str.empty.length = 0 := rfl
  refine wpAny_JoinedStr ?_
  refine wpAny_Constant_str ⟨_, _, rfl, by rw [strLen_append, sizeLine_eq, c0, c1]; omega, ?_⟩
  refine wpAny_FormattedValue_plain (wpAny_Name (wpAny_loadName_local hk ha hn hm (wpAny_formatField_int (by omega) ⟨_, _, rfl, by simp only [strLen_append]; rw [sizeLine_eq]; omega, ?_⟩)))
  refine wpAny_Constant_str ⟨_, _, rfl, by simp only [strLen_append]; rw [sizeLine_eq]; omega, ?_⟩
  refine wpAny_FormattedValue_plain (wpAny_Name (wpAny_loadName_local hk hb hn hj (wpAny_formatField_int (by omega) ⟨_, _, rfl, by simp only [strLen_append]; rw [sizeLine_eq]; omega, ?_⟩)))
  exact ⟨by simp only [strLen_append]; rw [sizeLine_eq]; omega, hq _ _ _⟩
end
def tooScope : Scope := { kind := .function, names := [(PySem.Str.ofString "self", .local), (PySem.Str.ofString "many", .local), (PySem.Str.ofString "most", .local), (PySem.Str.ofString "__class__", .free), (PySem.Str.ofString "super", .globalImplicit)], isGenerator := false, isCoroutine := false, more := [] }
def TooB (body : List Stmt) : Prop := ∃ (p0 p1 p2 p3 p4 p5 p6 p7 p8 p9 q0 q1 q2 q3 r0 r1 s0 s1 s2 s3 : Pos) (fa fb : Nat), (p2.endLine == q0.line) = true ∧ body = [
  .Expr (.Call (.Attribute (.Call (.Name "super" p0) [] [] p1) "__init__" p2) [.JoinedStr [.Constant (.str "too many: ") fa p3, .FormattedValue (.Name "many" p4) (-1) none p5, .Constant (.str ", at most ") fb p6, .FormattedValue (.Name "most" p7) (-1) none p8] p9] [] q0) q1,
  .Assign [.Attribute (.Name "self" q2) "many" q3] (.Name "many" r0) r1,
  .Assign [.Attribute (.Name "self" s0) "most" s1] (.Name "most" s2) s3]
abbrev tooFn (qual : Str) (params : Arguments) (body : List Stmt) (dV kV doc pm : Value) (an : Option Addr) (cdv ct : Value) (cc : Addr) : FuncData := ksFn "__init__" qual params body tooScope dV kV doc pm an cdv ct cc
def TooI (P : Program) (K : Frag) (C fI : Addr) : Prop := ∃ (qual : Str) (params : Arguments) (body : List Stmt) (dV kV doc pm : Value) (an : Option Addr) (cda : Addr) (ct : Value) (cc : Addr) (oc : Value) (od : Option Addr) (osl : Array (Option Value)) (ar : Arg),
  K.lookup fI = some ⟨oc, od, .func (tooFn qual params body dV kV doc pm an (.ref cda) ct cc), osl⟩ ∧ codeIn K (.ref cda) qual = true ∧ (∃ (ccl : Value) (cdd : Option Addr) (vs : Array Value) (ccs : Array (Option Value)) (file : Str) (tf : Tok), K.lookup cda = some ⟨ccl, cdd, .fields vs, ccs⟩ ∧ vs[2]? = some (.str file tf) ∧ ((P.main.file : Str) == file) = true) ∧
  (∃ (cl : Value) (cld : Option Addr) (csl : Array (Option Value)), K.lookup cc = some ⟨cl, cld, .cell (some (.ref C)), csl⟩) ∧ TooB body ∧ (params.posonlyargs ++ params.args).head? = some ar ∧ ar.arg = "self" ∧
  ∀ a b c : Value, bindArgs (tooFn qual params body dV kV doc pm an (.ref cda) ct cc) ⟨[a, b, c], []⟩ = (pure [(("self" : Str), a), (("many" : Str), b), (("most" : Str), c)] : Sem (List (Str × Value)))
structure TooC (P : Program) (K : Frag) (mg : Str → Option Value) (C : Addr) : Prop where
  T : OexC K C
  gC : mg "TooMany" = some (.ref C)
  fm : findIn K (.ref C) "many" = some none
  fn : findIn K (.ref C) "most" = some none
  sp : ks_superIn K C C "__init__" = some (some (.builtin "ValueError.__init__"))
  op : nsIn K cStatics "thirdparty.any" = some none
  iv : subIn K (.ref C) (.type "ValueError") = some true
  sb : mroIn K C (.ref C) = some true
  tp : (P.main.scope.names.lookup ("super" : Str)).isSome = false
  gs : mg "super" = none
  ini : ∃ fI, findIn K (.ref C) "__init__" = some (some (.ref fI)) ∧ typeIn K (.ref fI) = some (.type "function") ∧ TooI P K C fI
section
variable {P : Program} {w : World} {K : Frag} {mg : Str → Option Value} {base : Heap} {C : Addr} {A : Around} {R : Result → Shared → Prop} {h : Heap} {g : Array GenState} {d : Drawn} {t : Nat} {os : OsState}
theorem too_walk {fI e t0 : Addr} {i j : Int} {ti tj : Tok} (T : TooC P K mg C) (I : TooI P K C fI) (X : K.In h) (MG : h.Ns mainGlobals mg) (MB : ∃ mb, h.Ns builtinsNs mb ∧ ∀ x : Str, x ≠ "__name__" → mb x = bootBuiltins x) (NL : h.NoLimit) (hroom : A.depth < recursionLimit) (he : h.get? e = some (PySem.HandSPX.excO C t0)) (hek : ∀ o, K.lookup e ≠ some o) (hi : i.natAbs.log2 < 1900) (hj : j.natAbs.log2 < 1900)
    (hq : ∀ hh tk dx t1, (∀ b o, b ≠ e → h.get? b = some o → hh.get? b = some o) → h.objs.size ≤ dx → dx ≠ e → hh.get? e = some ({ cls := .ref C, dict := some dx, data := .fields #[.ref t1, .none, .none, .none, .bool false, .none] } : Obj) → hh.Ns1 dx (fun y => if y = "most" then some (.int j tj) else if y = "many" then some (.int i ti) else none) → R (.ok (.ret .none)) ⟨hh, g, d, tk, os⟩) :
    codeAny (model P w) A (.call (.ref fI) ⟨[.ref e, .int i ti, .int j tj], []⟩) R ⟨h, g, d, t, os⟩ := by
  obtain ⟨qual, params, body, dV, kV, doc, pm, an, cda, ct, cc, oc, od, osl, ar, lk, hcd, ⟨ccl, cdd, vs, ccs, file, tf, lkc, hvs, hfile⟩, ⟨cl, cld, csl, lkk⟩, ⟨p0, p1, p2, p3, p4, p5, p6, p7, p8, p9, q0, q1, q2, q3, r0, r1, s0, s1, s2, s3, fa, fb, hpe, rfl⟩, hp, har, hbind⟩ := I
  obtain ⟨nm, q, N, bs, bm, sn, sub, ab, col, dd, k0, k1, k2, k3, k5, hC, hbm⟩ := T.T.cls
  have hcl : PySem.W.clsIn K C = some { name := nm, bases := bs, mro := .ref C :: bm, ns := N, qualname := q, hasDict := true, slotNames := sn, subclasses := sub, abstract := ab, collection := col, hasDel := false } := by unfold PySem.W.clsIn; rw [hC] <;> rfl
  obtain ⟨mb, MB1, MB2⟩ := MB
  refine ks_codeAny_call_defAt (fd := tooFn qual params _ dV kV doc pm an (.ref cda) ct cc) (binds := [("self", .ref e), ("many", .int i ti), ("most", .int j tj)]) hroom (X _ _ lk) rfl NL (codeRec_of X hcd) rfl (BindsTo.of_eq (hbind _ _ _)) (show ∀ x ∈ tooScope.names, x.2 ≠ .cell by unfold tooScope; decide) (show ∀ x ∈ [(("self" : Str), Value.ref e), (("many" : Str), Value.int i ti), (("most" : Str), Value.int j tj)], tooScope.names.lookup x.1 = some .local from fun x hx => by
    rcases List.mem_cons.mp hx with rfl | hx
    · rfl
    rcases List.mem_cons.mp hx with rfl | hx
    · rfl
    rcases List.mem_cons.mp hx with rfl | hx
    · rfl
    cases hx) (fun h1 hns hk1 => ?_)
  have X1 : K.In h1 := X.keeps hk1
  have he1 := hk1 _ _ he
  refine ks_wpAt_execs_cons ?_
  refine ks_wpAt_Expr_any ?_
  refine ks_wpAt_MethodCall ?_ (meth_eq hpe)
  refine (ks_wpAt_super_base (vs := vs) (oc := ⟨ccl, cdd, .fields vs, ccs⟩) (ar := ar) rfl rfl rfl rfl (X1 _ _ lk) rfl hp rfl (X1 _ _ lkc) rfl hvs hfile T.tp ?_)
  refine ks_loadName_global rfl rfl (loadGlobal_builtin (MG.keeps hk1) T.gs (MB1.keeps hk1) ((MB2 _ (by decide +kernel)).trans PyProof.Rows.Boot.«super») ⟨rfl, ?_⟩)
  refine wpAny_loadName_free rfl rfl rfl ⟨_, X1 _ _ lkk, rfl⟩ ?_
  refine wpAny_loadName_local rfl (by rw [har]; rfl) hns (by rw [har]; rfl) ?_
  have hC1 := X1 _ _ hC
  refine ks_wpAny_isType_cls hC1 rfl ⟨rfl, ?_⟩
  refine ks_wpAny_call_super hC1 rfl he1 rfl (fun c z => by cases z) (looks_mroIn X1 T.sb) (fun h2 hso k2 => ?_)
  have X2 : K.In h2 := X1.keeps k2
  have he2 := k2 _ _ he1
  have hC2 := X2 _ _ hC
  have hne : e ≠ C := by
    rintro rfl
    rw [hC2] at he2
    cases he2
  have I2 : PySem.W.InstAt h2 e (PySem.HandSPX.excO C t0) C none := ⟨he2, rfl, rfl, trivial⟩
  have hsp := T.sp
  unfold ks_superIn at hsp
  rw [hcl] at hsp
  refine kxs_getMethod kxs_ValueError hso (looks_opaque X2 T.op) ((looks_clsIn X2 hcl).andThen .now) rfl X2 hsp (I2.type.andThen (looks_subIn X2 T.iv)) hne (by decide) ?_
  have up3 : ∀ b o, h2.get? b = some o → (h2.push (kxs_mw "ValueError.__init__" e)).get? b = some o := fun b o z => Heap.get?_push_of_some _ z
  have he3 := up3 _ _ he2
  have hC3 := up3 _ _ hC2
  have hu3 : (h2.push (kxs_mw "ValueError.__init__" e)).get? h2.objs.size = some (kxs_mw "ValueError.__init__" e) := Heap.get?_push_at rfl rfl
  have hns3 := (hns.keeps k2).keeps up3
  rw [backTo_one]
  refine kxs_callWith (i := "ValueError.__init__") (x := e) rfl ?_
  refine evalArgs_plain (spliced_cons (too_text rfl rfl rfl hns3 rfl rfl hi hj fun x tk t' => spliced_nil ⟨hu3, ?_⟩))
  refine mw_call hC3 he3 hu3 (show 1 ≤ sizeLine by rw [sizeLine_eq]; decide) (fun h4 t4 k4 he4 => ?_)
  have X3 : K.In (h2.push (kxs_mw "ValueError.__init__" e)) := X2.keeps up3
  have nek : ∀ {b : Addr} {o : Obj}, K.lookup b = some o → b ≠ e := fun {b o} z y => hek o (y ▸ z)
  have X4 : K.In h4 := fun b o z => k4 b o (nek z) (X3 b o z)
  have hLe : h.objs.size ≠ e := fun z => absurd (Heap.lt_size he) (by rw [← z]; exact Nat.lt_irrefl _)
  have hns4 : h4.Ns h.objs.size _ := hns3.at fun o z => k4 _ _ hLe z
  have hrefs : PySem.HandSPX.refsVE (.ref C :: bm) = true := hbm
  refine wpAt_of_wpAny (wpAny_execs_cons (plainObj_wpAny_Assign_Attribute ?_))
  refine wpAny_Name (wpAny_loadName_local rfl rfl hns4 rfl (wpAny_Name (wpAny_loadName_local rfl rfl hns4 rfl ?_)))
  refine PySem.W.set_plain X4 (ox := PySem.HandSPX.excO C t4) (od := none) ⟨he4, rfl, rfl, trivial⟩ T.T.sa ?_
  refine PySem.HandSPX.exc_osa X4 he4 hcl hrefs rfl T.fm (fun h5 tk5 dx k5 dn dne hx hn5 => ?_)
  have X5 : K.In h5 := fun b o z => k5 b o (nek z) (X4 b o z)
  have hns5 : h5.Ns h.objs.size _ := hns4.at fun o z => k5 _ _ hLe z
  have hLd : h.objs.size ≤ dx := Nat.le_trans (Nat.le_of_lt hns4.lt) dn
  refine wpAny_execs_cons (plainObj_wpAny_Assign_Attribute ?_)
  refine wpAny_Name (wpAny_loadName_local rfl rfl hns5 rfl (wpAny_Name (wpAny_loadName_local rfl rfl hns5 rfl ?_)))
  obtain ⟨oD, esD, epD, hoD, hrD⟩ := id hn5
  refine PySem.W.set_plain X5 (ox := { cls := .ref C, dict := some dx, data := .fields #[.ref t4, .none, .none, .none, .bool false, .none] }) (od := some oD) ⟨hx, rfl, rfl, hoD⟩ T.T.sa ?_
  refine PySem.OEX.osa_old X5 hx hn5 (nl := ["many"]) (fun y hy => ?_) (by decide) hcl hrefs rfl T.fn (fun h6 tk6 k6 hn6 => ?_)
  · by_cases hz : y = "many"
    · rw [hz]
      exact List.mem_cons_self ..
    · exact absurd (if_neg hz) hy
  refine wpAny_execs_nil (hq h6 _ dx t4 (fun b o hb z => ?_) hLd dne (k6 _ _ (Ne.symm dne) hx) ?_)
  · exact k6 _ _ (fun y => absurd (Heap.lt_size z) (by rw [y]; exact Nat.not_lt.mpr hLd)) (k5 _ _ hb (k4 _ _ hb (up3 _ _ (k2 _ _ (hk1 _ _ z)))))
  · exact hn6
end
section
variable {X : Cx} {C : Addr} {e1 e2 : Expr} {p pos : Pos} {ta : TA} {k : Nat}
theorem pmk_too (T : TooC X.prog X.K X.mg C) (hr : Room k X.A) (hg : Gl X "TooMany") (ha : PA X [e1, e2] ta)
    (he : starEach [e1, e2] X.env = (false, eval e1 X.env) :: starEach [e2] X.env := by rfl) (hpl : (backTo pos (starEach [e2] X.env)).any (·.1) = false := by rfl) :
    PMk X (.Call (.Name "TooMany" p) [e1, e2] [] pos) (fun σ H Q => ta σ H fun vs H1 => ∃ i j : Int, vs = [.int i, .int j] ∧ i.natAbs.log2 < 1900 ∧ j.natAbs.log2 < 1900 ∧ ∀ d : Addr, H1 d = none → Q (.ref C) (some d) (upd H1 d (.xd [("most", .int j), ("many", .int i)]))) := by
  intro pins s σ H Q I h
  obtain ⟨nm, q, N, bs, bm, sn, sub, ab, col, dd, k0, k1, k2, k3, k5, hC, hbm⟩ := T.T.cls
  obtain ⟨fI, iC, tI, init⟩ := T.ini
  refine wpAny_Call_Name_kw (ld_glob I hg T.gC ?_)
  refine PySem.W.callWith_K (h₀ := X.base) I.ok.mod.kin T.T.kC (thn (ha.run pos pins s σ H _ I h) fun us s1 ⟨vs, H1, I1, r1, i, j, evs, li, lj, q1⟩ => ⟨I1.kIn, ?_⟩) he hpl
  show wpAny _ _ (call (.ref C) us) _ _ _
  subst evs
  obtain ⟨u1, u2, rfl, ⟨ti, rfl⟩, ⟨tj, rfl⟩⟩ := r1.two
  obtain ⟨hp, g, dr, tk, os⟩ := s1
  have hsz : hp.objs.size ≤ hp.objs.size + 1 := Nat.le_succ _
  have hna : H1 (hp.objs.size + 1) = none := I1.hok.fresh hsz
  have kk : ∀ b o, hp.get? b = some o → ((hp.push (PySem.W.kdv_tup [.int i ti, .int j tj])).push (PySem.HandSPX.excO C hp.objs.size)).get? b = some o := fun b o e => Heap.get?_push_of_some _ (Heap.get?_push_of_some _ e)
  have hget : ((hp.push (PySem.W.kdv_tup [.int i ti, .int j tj])).push (PySem.HandSPX.excO C hp.objs.size)).get? (hp.objs.size + 1) = some (PySem.HandSPX.excO C hp.objs.size) := by heap_get
  have hlt : ∀ {b : Addr} {o : Obj}, hp.get? b = some o → b ≠ hp.objs.size + 1 := fun {b o} z => Nat.ne_of_lt (Nat.lt_succ_of_lt (Heap.lt_size z))
  have hek : ∀ o, X.K.lookup (hp.objs.size + 1) ≠ some o := fun o z => hlt (I1.kIn _ _ z) rfl
  obtain ⟨mb, hb1, hb2⟩ := I1.ok.mod.blt
  refine wpAny_call (PySem.HandSPX.call_own PySem.F.excBase_ValueError (fun Y => PySem.HandSPX.refsVE_contains Y bm hbm) (I1.kIn _ _ hC) (PySem.W.looks_findIn I1.kIn iC) (fun self => PySem.W.bind_fn I1.kIn self tI) (show 2 ≤ sizeLine by rw [sizeLine_eq]; decide) ?_)
  refine too_walk T init (fun b o z => kk _ _ (I1.kIn _ _ z)) ((I1.ok.mod.glob.keeps I1.bk).keeps kk) ⟨mb, (hb1.keeps I1.bk).keeps kk, hb2⟩ (I1.nolimit.keeps kk) (by have := hr.dp; rw [make_depth]; omega) hget hek li lj (fun hh tk2 dx t1 kh hdx hda hx hn => ⟨rfl, ?_⟩)
  have hs2 : ∀ {b : Addr} {o : Obj}, ((hp.push (PySem.W.kdv_tup [.int i ti, .int j tj])).push (PySem.HandSPX.excO C hp.objs.size)).get? b = some o → b ≠ dx := fun {b o} z => Nat.ne_of_lt (Nat.lt_of_lt_of_le (Heap.lt_size z) hdx)
  have hnd : H1 dx = none := by
    cases z : H1 dx with
    | none => rfl
    | some u =>
      have z1 := I1.hok.lt z
      have z2 := Heap.lt_size hget
      exact absurd (Nat.lt_trans (Nat.lt_succ_of_lt z1) z2) (Nat.not_lt.mpr hdx)
  have na : ∀ {b : Addr}, upd H1 (hp.objs.size + 1) (exo (hp.objs.size + 1) C none) b = none → b ≠ hp.objs.size + 1 ∧ H1 b = none := fun {b} n => by
    by_cases hb : b = hp.objs.size + 1
    · rw [hb, upd_same] at n
      cases n
    · exact ⟨hb, by rw [upd_ne hb] at n; exact n⟩
  have un : Un (frs X.stack) [] (upd H1 (hp.objs.size + 1) (exo (hp.objs.size + 1) C none)) (upd (upd H1 dx (exd dx [("most", .int j), ("many", .int i)])) (hp.objs.size + 1) (exo (hp.objs.size + 1) C (some dx))) ((hp.push (PySem.W.kdv_tup [.int i ti, .int j tj])).push (PySem.HandSPX.excO C hp.objs.size)) hh := {
    keep := fun b o q n _ _ => kh b o (na n).1 q
    slot := fun b o q n _ _ => ⟨o.slots, kh b o (na n).1 q⟩
    free := fun b o q n _ => by rw [upd_ne (na n).1, upd_ne (hs2 q)]; exact (na n).2
    there := fun b o q _ => by
      by_cases hb : b = hp.objs.size + 1
      · exact ⟨_, by rw [hb]; exact hx⟩
      · exact ⟨o, kh b o hb q⟩
    tups := fun b xs q => by
      have hb := at_ne (upd_same (H := H1) (a := hp.objs.size + 1) (o := exo (hp.objs.size + 1) C none)) q exo_tup
      rw [upd_ne hb] at q
      rw [upd_ne hb, upd_ne (ne_of_none q hnd)]
      exact q
    frzs := fun b o v q => by
      have hb := at_ne (upd_same (H := H1) (a := hp.objs.size + 1) (o := exo (hp.objs.size + 1) C none)) q exo_frz
      rw [upd_ne hb] at q
      rw [upd_ne hb, upd_ne (ne_of_none q hnd)]
      exact q
    tbls := fun b ps q => by
      have hb := at_ne (upd_same (H := H1) (a := hp.objs.size + 1) (o := exo (hp.objs.size + 1) C none)) q exo_tbl
      rw [upd_ne hb] at q
      exact ⟨#[], by rw [upd_ne hb, upd_ne (ne_of_none q hnd), q]; simp⟩ }
  have hok : HOk X.prog X.w (upd (upd H1 dx (exd dx [("most", .int j), ("many", .int i)])) (hp.objs.size + 1) (exo (hp.objs.size + 1) C (some dx))) hh := fun b o z => by
    by_cases hb : b = hp.objs.size + 1
    · subst hb
      rw [upd_same] at z
      cases z
      exact exo_ok hx
    · rw [upd_ne hb] at z
      by_cases hd : b = dx
      · subst hd
        rw [upd_same] at z
        cases z
        exact exd_ok hn (relO_put (fs := [("many", .int i)]) ⟨tj, rfl⟩ (relO_put (fs := []) ⟨ti, rfl⟩ fun g => True.intro))
      · rw [upd_ne hd] at z
        exact (I1.hok b o z).stay (fun c v _ y => kh c v (hlt y) (kk c v y)) (fun c hc => by rw [upd_ne (ne_of_none hc hna), upd_ne (ne_of_none hc hnd)]; exact hc) (fun c xs hc => by rw [upd_ne (ne_of_none hc hna), upd_ne (ne_of_none hc hnd)]; exact hc)
  have e2 : upd (del (upd (upd H1 dx (exd dx [("most", .int j), ("many", .int i)])) (hp.objs.size + 1) (exo (hp.objs.size + 1) C (some dx))) (hp.objs.size + 1)) dx (.xd [("most", .int j), ("many", .int i)]) = upd H1 dx (.xd [("most", .int j), ("many", .int i)]) := by
    funext b
    by_cases hd : b = dx
    · rw [hd, upd_same, upd_same]
    · rw [upd_ne hd, upd_ne hd]
      by_cases hb : b = hp.objs.size + 1
      · rw [hb, del_same, hna]
      · rw [del_ne hb, upd_ne hb, upd_ne hd]
  exact mk_end (raises_own T.T.exC T.T.tyC) I1 hsz kk un hok rfl I1.bare upd_same (by rw [upd_ne (Ne.symm (Ne.symm hda)), upd_same]) hnd (by rw [e2]; exact q1 dx hnd)
end
end HX
set_option maxRecDepth 100000
set_option maxHeartbeats 1000000
namespace QX
open PySem PySem.Spec PyProof.Rows L2 L2H HX
def fsMany (i j : Int) : List (Str × D) := [("most", .int j), ("many", .int i)]
def sRaiseM (f : F (List D)) : FS := fun σ M => (f σ M).bindS σ fun ds M1 => match ds with
  | [.int i, .int j] => if (decide (i.natAbs < 2 ^ 100) && decide (j.natAbs < 2 ^ 100)) = true then .exc 20 (fsMany i j) σ M1 else .bad
  | _ => .bad
theorem log_small {i : Int} (h : i.natAbs < 2 ^ 100) : i.natAbs.log2 < 1900 := by
  by_cases h0 : i.natAbs = 0
  · rw [h0]
    decide
  · exact Nat.lt_trans ((Nat.log2_lt h0).mpr h) (by decide)
theorem qs_too {X : Cx} {S : Sc} {W : WX} {e1 e2 : Expr} {f : F (List D)} {p pos pos2 : Pos} {k : Nat} (T : TooC X.prog X.K X.mg (S.C 20)) (hK : X.K = S.K) (hr : Room k X.A) (tk : Takes X W) (ha : QA S W X [e1, e2] f) (hc : X.calm = true := by rfl) (hg : Gl X "TooMany" := by rfl)
    (he : starEach [e1, e2] X.env = (false, eval e1 X.env) :: starEach [e2] X.env := by rfl) (hpl : (backTo pos (starEach [e2] X.env)).any (·.1) = false := by rfl) :
    QS S W X (.Raise (some (.Call (.Name "TooMany" p) [e1, e2] [] pos)) none pos2) (sRaiseM f) := PS.imp (ps_raise hc tk (pmk_too T hr hg ha he hpl)) fun E σ H ⟨ρ, M, σa, mo, rs, p⟩ => by
  refine useS mo rs p fun ds M1 ρ1 H1 vs st1 r1 rs1 p1 => ?_
  split at p1
  · rename_i i j
    split at p1
    · rename_i hb
      rw [Bool.and_eq_true, decide_eq_true_eq, decide_eq_true_eq] at hb
      obtain ⟨v, w, rfl, rv, rw'⟩ := RepA.two r1
      cases rv
      cases rw'
      refine ⟨i, j, rfl, log_small hb.1, log_small hb.2, fun d hd => ?_⟩
      have st2 := Stp.fresh st1.2 hd (o := .xd [("most", .int j), ("many", .int i)])
      exact p1 ρ1 _ σ (some d) st2 (rs1.mono st2.1) ⟨st1.2.new hd, _, upd_same, rfl, .cons (.int _) (.cons (.int _) .nil), fun z => by cases z⟩
    · exact p1.elim
  · exact p1.elim
def spWordM (K : PySem.W.Frag) (C : Nat → Addr) (a : Addr) (cls : Value) (d : Option Addr) (H : Hp) (Q : VK) : Prop :=
  spWordF K C a cls d H Q ∨ ∃ (dd : Addr) (vs : List (Str × V)) (i j : Int), cls = .ref (C 20) ∧ d = some dd ∧ H dd = some (.xd vs) ∧ vs.lookup (Str.ofString "many") = some (V.int i) ∧ vs.lookup (Str.ofString "most") = some (V.int j) ∧
    ∀ (p : Addr) (o : Obj) (H' : Hp), Same H H' → o.dict = none → H p = none → H' p = some (.frz o (.tup [.str "many", .int i, .int j])) → Q (.ref p) H'
structure XMany (K : PySem.W.Frag) (C : Nat → Addr) (CM : Addr) : Prop where
  ef : EF K C (C 20) 20
  xf : XfC K (C 20)
  f1 : PySem.W.findIn K (.ref (C 20)) "many" = some none
  f2 : PySem.W.findIn K (.ref (C 20)) "most" = some none
  xm : PySem.W.exmOne K (.ref (C 20)) (.ref CM) = some true
def rIsX (K : PySem.W.Frag) (D a dd : Addr) : List V → Hp → VK → Prop := fun xs H Q => (∃ fs, H dd = some (.xd fs)) ∧ ∃ (c : V) (cv : Value) (b : Bool), xs = [.ref a, c] ∧ (∀ u, RelV c u → u = cv) ∧ PySem.W.kitOne K (.ref D) cv = some b ∧ Q (.bl b) H
theorem call_isX {X : Cx} {a D dd : Addr} {oe : Obj} {pn : List (Addr × Obj)} (C : ExcC X.K D) (hz : Zc (.ref D) (some dd) oe) (hf : ∃ vs, oe.data = .fields vs) : CallR (X.suite a ((a, oe) :: pn)) (.builtin "isinstance") (rIsX X.K D a dd) := by
  intro pins s σ H xs us Q I r h
  obtain ⟨⟨fs, ea⟩, c, cv, b, rfl, hcv, e, q⟩ := h
  cases r with
  | cons rx rr =>
    cases rr with
    | cons rt rr =>
      cases rr
      cases rx
      have ec := hcv _ rt
      subst ec
      obtain ⟨hget, _⟩ := I.pin (a, oe) (List.mem_append.mpr (.inl List.mem_cons_self))
      obtain ⟨vs, hv⟩ := hf
      have hx : ObjOk X.prog X.w H s.heap dd (.xd fs) := I.hok dd _ ea
      obtain ⟨mA, ⟨od, es, ep, ho, _⟩, hr⟩ := hx
      have J : PySem.W.InstAt s.heap a oe D (some od) := ⟨hget, hz.1, by unfold PySem.W.notCls; rw [hv] <;> rfl, by rw [hz.2]; exact ho⟩
      obtain ⟨cdD, hcD, _⟩ := PySem.W.any_some C.hd
      exact PySem.W.kia_one (PySem.W.kitx_exc (by rw [hcD]; rfl) C.hg C.hk C.hs C.ha C.hn C.ht C.hm) I.kIn J e (fun z => nomatch z) fun tk => ⟨.bl b, H, I.kept (t' := tk) fun _ _ z => z, rfl, q⟩
theorem iteT' {b : Bool} {p q : Prop} (h : b = true) (x : p) : if b = true then p else q := by rw [h]; exact x
theorem pe_cameM {X Y : Cx} {k : Nat} {C : Nat → Addr} {CM : Addr} {a n wd aw : Str} {sg : Scope} {j1 j2 j3 : Nat} {q1 q2 q3 q4 q5 q6 q7 q8 q9 u1 u2 u3 u4 u5 u6 : Pos} (cw : CalE X.prog X.w X.K X.mg X.base k wd aw (spRef X.K C)) (xm : XMany X.K C CM) (hit : X.mg "isinstance" = none) (ht : X.mg "TooMany" = some (.ref (C 20)))
    (e1 : Y.prog = X.prog) (e2 : Y.w = X.w) (e3 : Y.K = X.K) (e4 : Y.mg = X.mg) (e5 : Y.base = X.base) (e6 : Y.N = [a, n]) (e7 : Y.env.scope = sg) (hr : RoomH k Y.A)
    (hln : sg.names.lookup n = some .local) (hgw : sg.names.lookup wd = some .globalImplicit) (hgi : sg.names.lookup (Str.ofString "isinstance") = some .globalImplicit) (hgt : sg.names.lookup (Str.ofString "TooMany") = some .globalImplicit)
    {ea : Addr} {oe : Obj} {cls : Value} {d : Option Addr} {pn : List (Addr × Obj)} (hz : Zc cls d oe) (hf : ∃ vs, oe.data = .fields vs) (hdn : (n == ("__debug__" : Str)) = false := by decide) (hcn : (n == ("__classdict__" : Str)) = false := by decide) (hdw : (wd == ("__debug__" : Str)) = false := by decide) :
    PE (Y.suite ea ((ea, oe) :: pn)) (.IfExp (.Call (.Name "isinstance" q1) [.Name n q2, .Name "TooMany" q3] [] q4) (.Tuple [.Constant (.str "many") j2 u1, .Attribute (.Name n u2) "many" u3, .Attribute (.Name n u4) "most" u5] j3 u6) (.Tuple [.Call (.Name wd q5) [.Name n q6] [] q7] j1 q8) q9) (fun σ H Q => σ[1]? = some (some (.ref ea)) ∧ spWordM X.K C ea cls d H Q) := by
  refine ⟨fun pins s σ H Q I h => ?_⟩
  obtain ⟨hs, h | ⟨dd, vs, i, j, rfl, rfl, hd, l1, l2, q⟩⟩ := h
  · exact (pe_cameH (X := X) (A := .Tuple [.Constant (.str "many") j2 u1, .Attribute (.Name n u2) "many" u3, .Attribute (.Name n u4) "most" u5] j3 u6) cw hit ht e1 e2 e3 e4 e5 e6 e7 hr hln hgw hgi hgt hz hf hdn hcn hdw).run pins s σ H Q I ⟨hs, h⟩
  have E := xm.ef
  rw [← e3] at E
  have hN : (Y.suite ea ((ea, oe) :: pn)).N[1]? = some n := by show Y.N[1]? = _; rw [e6]; rfl
  have hsc : (Y.suite ea ((ea, oe) :: pn)).env.scope = sg := e7
  have gl : ∀ {x : Str}, sg.names.lookup x = some .globalImplicit → Gl (Y.suite ea ((ea, oe) :: pn)) x := fun {x} h => by show (Y.suite ea ((ea, oe) :: pn)).env.scope.names.lookup x = _; rw [hsc]; exact h
  have vn : ∀ p : Pos, PE (Y.suite ea ((ea, oe) :: pn)) (.Name n p) (tVar 1) := fun p => pe_var hN (by rw [hsc]; exact .inl hln) hdn hcn
  have c1 : PE (Y.suite ea ((ea, oe) :: pn)) (.Call (.Name "isinstance" q1) [.Name n q2, .Name "TooMany" q3] [] q4) _ := pe_callB (call_isX (X := Y) (pn := pn) E.ec hz hf) (gl hgi) (by show Y.mg _ = _; rw [e4]; exact hit) (by decide +kernel) (pa_cons (vn q2) (pa_cons (pe_glob (v := .ref (C 20)) (gl hgt) (by show Y.mg _ = _; rw [e4]; exact ht) rfl) pa_nil))
  have T1 : XfC Y.K (C 20) := by rw [e3]; exact xm.xf
  have a1 : PE (Y.suite ea ((ea, oe) :: pn)) (.Attribute (.Name n u2) "many" u3) _ := pe_xf (C := C 20) T1 (by rw [e3]; exact xm.f1) hz hf (vn u2)
  have a2 : PE (Y.suite ea ((ea, oe) :: pn)) (.Attribute (.Name n u4) "most" u5) _ := pe_xf (C := C 20) T1 (by rw [e3]; exact xm.f2) hz hf (vn u4)
  have c2 : PE (Y.suite ea ((ea, oe) :: pn)) (.Tuple [.Constant (.str "many") j2 u1, .Attribute (.Name n u2) "many" u3, .Attribute (.Name n u4) "most" u5] j3 u6) _ := pe_tupF (pa_cons pe_str (pa_cons a1 (pa_cons a2 pa_nil)))
  refine (pe_ifExp (pt_val c1) c2 (pe_never (e := .Tuple [.Call (.Name wd q5) [.Name n q6] [] q7] j1 q8))).run pins s σ H Q I ?_
  refine ⟨.ref ea, hs, ⟨vs, hd⟩, .ref (C 20), .ref (C 20), _, rfl, fun u r => r, E.is 20 (by decide), ?_⟩
  refine ⟨_, rfl, ?_⟩
  refine iteT' (by decide) ?_
  refine ⟨.ref ea, hs, rfl, rfl, dd, vs, .int i, rfl, hd, l1, .ref ea, hs, rfl, rfl, dd, vs, .int j, rfl, hd, l2, by show 3 ≤ sizeLine; decide, fun p o hp ho => q p o _ (Same.new hp) ho hp upd_same⟩
def fSaidM (L : List Nat) (f : F D) : F D := fun σ M => match f σ M with
  | .ok d M1 => .ok (.tup [.str "told", d]) M1
  | .exc c fs M1 => if L.contains c && fs.isEmpty then .ok (.tup [.str (wordAt c)]) M1 else match c, fs with
    | 20, [(a, .int j), (b, .int i)] => if a == ("most" : Str) && b == ("many" : Str) then .ok (.tup [.str "many", .int i, .int j]) M1 else .bad
    | _, _ => .bad
  | .bad => .bad
theorem qe_lamM {X : Cx} {S : Sc} {W : WX} {CM : Addr} {L : List Nat} {e : Expr} {f : F D} (xs : XCs S CM L) (xy : XMany S.K S.C CM) (h : PE X e (LamX.tLam S.T (TSaidF S.K CM "told" (spWordM S.K S.C)) (fun E => tOf S (fun cls d _ H => E cls d H) (Rep S.K) f))) : QE S W X e (fSaidM L f) := by
  refine PE.imp h fun σ H Q ⟨ρ, M, σa, mo, rs, p⟩ => ⟨mo.tab, fun H1 eN T1 => ?_⟩
  have st := Stp.lam mo eN T1
  refine ⟨ρ, M, σa, st.2, rs.mono st.1, ?_⟩
  have p1 := Post.mono p st.1
  unfold fSaidM at p1
  cases e1 : f σa M with
  | ok d M1 =>
    rw [e1] at p1
    intro ρ' H' v st' r
    refine ⟨by show 2 ≤ sizeLine; decide, fun q o hq ho => p1 ρ' _ _ ⟨st'.1.trans (Stp.fresh st'.2 hq).1, (Stp.fresh st'.2 hq).2⟩ (rep_tup st'.2 hq ho (.cons (.str _) (.cons r .nil)))⟩
  | exc c fs M1 =>
    rw [e1] at p1
    dsimp only at p1
    split at p1
    · rename_i hc
      rw [Bool.and_eq_true, List.contains_iff_mem, List.isEmpty_iff] at hc
      obtain ⟨hc, rfl⟩ := hc
      obtain ⟨c19, ef, xm⟩ := xs c hc
      intro ρ' H' d st' xr
      refine ⟨true, xm, fun _ a na => ?_, fun z => by cases z⟩
      have hd : d = none := by
        cases d with
        | none => rfl
        | some q => obtain ⟨_, _, _, _, _, z⟩ := xr; exact absurd rfl z
      refine Or.inl ⟨S.C c, c, rfl, hd, c19, ef, fun q o H2 s2 ho nq e2 => ?_⟩
      have s3 := Stp.same st'.2 s2
      exact p1 ρ' H2 _ ⟨st'.1.trans s3.1, s3.2⟩ (.tup ⟨o, ho, e2⟩ (st'.2.new nq) (.cons (.str _) .nil))
    · split at p1
      · rename_i a j b i hn
        split at p1
        · rename_i hab
          rw [Bool.and_eq_true, beq_iff_eq, beq_iff_eq] at hab
          obtain ⟨rfl, rfl⟩ := hab
          intro ρ' H' d st' xr
          refine ⟨true, xy.xm, fun _ a na => ?_, fun z => by cases z⟩
          cases d with
          | none => cases (show [((Str.ofString "most"), D.int j), ((Str.ofString "many"), D.int i)] = [] from xr)
          | some dd =>
            obtain ⟨_, vs, hd, hm, ra, _⟩ := xr
            obtain ⟨v, w, ev, rv, rw'⟩ := RepA.two ra
            cases rv
            cases rw'
            have evs : vs = [((Str.ofString "most"), V.int j), ((Str.ofString "many"), V.int i)] := by
              match vs, hm, ev with
              | [(x1, y1), (x2, y2)], hm, ev =>
                simp only [List.map_cons, List.map_nil, List.cons.injEq, and_true] at hm ev
                obtain ⟨h1, h2⟩ := hm
                obtain ⟨h3, h4⟩ := ev
                rw [h1, h2, h3, h4]
            subst evs
            refine Or.inr ⟨dd, _, i, j, rfl, rfl, hd, rfl, rfl, fun q o H2 s2 ho nq e2 => ?_⟩
            have s3 := Stp.same st'.2 s2
            exact p1 ρ' H2 _ ⟨st'.1.trans s3.1, s3.2⟩ (.tup ⟨o, ho, e2⟩ (st'.2.new nq) (.cons (.str _) (.cons (.int _) (.cons (.int _) .nil))))
        · exact p1.elim
      · exact p1.elim
  | bad => rw [e1] at p1; exact p1.elim
end QX
set_option maxRecDepth 100000
set_option maxHeartbeats 2000000
namespace HX
open PySem PySem.Spec PyProof.Rows L2 PySem.W
def oexIn (K : Frag) (C : Addr) : Bool := match K.lookup C with
  | some ⟨.type "type", _, .cls cd, sl⟩ => (match cd.mro, sl.toList with
    | .ref C' :: bm, [_, _, _, _, some (.builtin n), _] => C' == C && n == "ValueError.__new__" && !cd.hasDel && cd.hasDict && PySem.HandSPX.refsVE bm
    | _, _ => false)
  | _ => false
theorem oex_of {K : Frag} {C : Addr} (q : oexIn K C = true) : ∃ nm q N bs bm sn sub ab col dd k0 k1 k2 k3 k5, K.lookup C = some (excClassObj nm q C N bs bm true sn sub ab col dd k0 k1 k2 k3 k5 "ValueError.__new__") ∧ PySem.HandSPX.refsVE bm = true := by
  unfold oexIn at q
  split at q
  · rename_i dd cd sl ho
    split at q
    · rename_i C' bm k0 k1 k2 k3 n k5 hm hs
      simp only [Bool.and_eq_true, beq_iff_eq, Bool.not_eq_true'] at q
      obtain ⟨⟨⟨⟨rfl, rfl⟩, hdel⟩, hd⟩, ht⟩ := q
      obtain ⟨nm, bs, mro, ns, qn, hdct, sn, sub, ab, col, del⟩ := cd
      dsimp only at hm hdel hd
      subst hm hdel hd
      have hsl : sl = #[k0, k1, k2, k3, some (.builtin "ValueError.__new__"), k5] := by
        obtain ⟨l⟩ := sl
        simp only at hs
        rw [hs]
      subst hsl
      exact ⟨nm, qn, ns, bs, bm, sn, sub, ab, col, dd, k0, k1, k2, k3, k5, ho, ht⟩
    · cases q
  · cases q
theorem too_cut {G0 : Prop} {P : Program} {K : PySem.W.Frag} {h : Heap} {mg : Str → Option Value} {c0 c1 c2 c3 c4 c5 c6 c7 c8 c9 c10 c11 c12 c13 c14 c15 c16 c17 c18 c19 c20 cM fI cda cc : Addr} {qual file : Str} {params : Arguments} {body : List Stmt} {dV kV doc pm ct oc cl ccl : Value} {an od cld cdd : Option Addr} {osl csl ccs : Array (Option Value)} {vs : Array Value} {tf : Tok} {ar : Arg} (X : K.In h) (G : h.Ns mainGlobals mg)
    (h0 : mg "NoBoard" = some (.ref c0)) (h1 : mg "NoStand" = some (.ref c1)) (h2 : mg "NoMoment" = some (.ref c2)) (h3 : mg "NoWheel" = some (.ref c3)) (h4 : mg "NotNow" = some (.ref c4)) (h5 : mg "NoRow" = some (.ref c5)) (h6 : mg "NoDrain" = some (.ref c6)) (h7 : mg "NoDrops" = some (.ref c7)) (h8 : mg "NoAgain" = some (.ref c8)) (h9 : mg "NoNumber" = some (.ref c9)) (h10 : mg "NoLinks" = some (.ref c10)) (h11 : mg "NoMouths" = some (.ref c11)) (h12 : mg "NoWord" = some (.ref c12)) (h13 : mg "NotAlike" = some (.ref c13)) (h14 : mg "NoFault" = some (.ref c14)) (h15 : mg "NoSeen" = some (.ref c15)) (h16 : mg "NoHands" = some (.ref c16)) (h17 : mg "NoDeed" = some (.ref c17)) (h18 : mg "NoLine" = some (.ref c18)) (h19 : mg "NoText" = some (.ref c19)) (h20 : mg "TooMany" = some (.ref c20)) (hM : mg "MarbleError" = some (.ref cM))
    (ox : oexIn K c20 = true) (sa : PySem.W.findIn K (.ref c20) "__setattr__" = some (some (.builtin "object.__setattr__")))
    (kC : PySem.W.keepIn K (.ref c20) = true) (sb : PySem.W.subIn K (.ref c20) (.type "BaseException") = some true) (ty : PySem.W.typeIn K (.ref c20) = some (.type "type"))
    (e1 : PySem.W.findIn K (.ref c20) "__getattribute__" = some (some (.builtin "BaseException.__getattribute__"))) (e2 : PySem.W.findIn K (.ref c20) "__getattr__" = some none) (e3 : PySem.W.hasDictIn K c20 = true) (e4 : PySem.W.findIn K (.ref c20) "__class__" = some (some (.builtin "object.__class__")))
    (e5 : PySem.W.specialIn K (.builtin "object.__class__") "__get__" = some (some (.builtin "getset_descriptor.__get__"))) (e6 : PySem.W.takesIn K (.builtin "object.__class__") = some true) (e7 : PySem.W.mroIn K c20 (.type "object") = some true) (ve : PySem.W.kitOne K (.ref c20) (.type "ValueError") = some true) (xm : PySem.W.exmOne K (.ref c20) (.ref cM) = some true)
    (k0 : PySem.W.kitOne K (.ref c20) (.ref c0) = some (decide (0 = 20))) (k1 : PySem.W.kitOne K (.ref c20) (.ref c1) = some (decide (1 = 20))) (k2 : PySem.W.kitOne K (.ref c20) (.ref c2) = some (decide (2 = 20))) (k3 : PySem.W.kitOne K (.ref c20) (.ref c3) = some (decide (3 = 20))) (k4 : PySem.W.kitOne K (.ref c20) (.ref c4) = some (decide (4 = 20))) (k5 : PySem.W.kitOne K (.ref c20) (.ref c5) = some (decide (5 = 20))) (k6 : PySem.W.kitOne K (.ref c20) (.ref c6) = some (decide (6 = 20))) (k7 : PySem.W.kitOne K (.ref c20) (.ref c7) = some (decide (7 = 20))) (k8 : PySem.W.kitOne K (.ref c20) (.ref c8) = some (decide (8 = 20))) (k9 : PySem.W.kitOne K (.ref c20) (.ref c9) = some (decide (9 = 20))) (k10 : PySem.W.kitOne K (.ref c20) (.ref c10) = some (decide (10 = 20))) (k11 : PySem.W.kitOne K (.ref c20) (.ref c11) = some (decide (11 = 20))) (k12 : PySem.W.kitOne K (.ref c20) (.ref c12) = some (decide (12 = 20))) (k13 : PySem.W.kitOne K (.ref c20) (.ref c13) = some (decide (13 = 20))) (k14 : PySem.W.kitOne K (.ref c20) (.ref c14) = some (decide (14 = 20))) (k15 : PySem.W.kitOne K (.ref c20) (.ref c15) = some (decide (15 = 20))) (k16 : PySem.W.kitOne K (.ref c20) (.ref c16) = some (decide (16 = 20))) (k17 : PySem.W.kitOne K (.ref c20) (.ref c17) = some (decide (17 = 20))) (k18 : PySem.W.kitOne K (.ref c20) (.ref c18) = some (decide (18 = 20))) (k19 : PySem.W.kitOne K (.ref c20) (.ref c19) = some (decide (19 = 20))) (k20 : PySem.W.kitOne K (.ref c20) (.ref c20) = some (decide (20 = 20)))
    (fm : findIn K (.ref c20) "many" = some none) (fn : findIn K (.ref c20) "most" = some none) (sp : ks_superIn K c20 c20 "__init__" = some (some (.builtin "ValueError.__init__"))) (op : nsIn K cStatics "thirdparty.any" = some none)
    (iv : subIn K (.ref c20) (.type "ValueError") = some true) (mr : mroIn K c20 (.ref c20) = some true) (tp : (P.main.scope.names.lookup ("super" : Str)).isSome = false) (gs : nsIn K mainGlobals "super" = some none)
    (fi : findIn K (.ref c20) "__init__" = some (some (.ref fI))) (ft : typeIn K (.ref fI) = some (.type "function"))
    (i1 : K.lookup fI = some ⟨oc, od, .func (tooFn qual params body dV kV doc pm an (.ref cda) ct cc), osl⟩) (i2 : codeIn K (.ref cda) qual = true) (i3 : K.lookup cda = some ⟨ccl, cdd, .fields vs, ccs⟩) (i4 : vs[2]? = some (.str file tf)) (i5 : ((P.main.file : Str) == file) = true)
    (i6 : K.lookup cc = some ⟨cl, cld, .cell (some (.ref c20)), csl⟩) (i7 : TooB body) (i8 : (params.posonlyargs ++ params.args).head? = some ar) (i9 : ar.arg = "self")
    (ib : ∀ a b c : Value, bindArgs (tooFn qual params body dV kV doc pm an (.ref cda) ct cc) ⟨[a, b, c], []⟩ = (pure [(("self" : Str), a), (("many" : Str), b), (("most" : Str), c)] : Sem (List (Str × Value))))
    (z : TooC P K mg c20 → QX.XMany K (fun j => [c0, c1, c2, c3, c4, c5, c6, c7, c8, c9, c10, c11, c12, c13, c14, c15, c16, c17, c18, c19, c20].getD j 0) cM → G0) : G0 :=
  z ⟨⟨oex_of ox, sa, sb, ty, kC⟩, h20, fm, fn, sp, op, iv, mr, tp, PySem.W.mg_none_of X G gs, fI, fi, ft, qual, params, body, dV, kV, doc, pm, an, cda, ct, cc, oc, od, osl, ar, i1, i2, ⟨ccl, cdd, vs, ccs, file, tf, i3, i4, i5⟩, ⟨cl, cld, csl, i6⟩, i7, i8, i9, ib⟩
    ⟨⟨⟨e1, e2, sb, e3, e4, e5, e6, e7⟩, ve, fun j hj => by
      match j, hj with
      | 0, _ => exact k0
      | 1, _ => exact k1
      | 2, _ => exact k2
      | 3, _ => exact k3
      | 4, _ => exact k4
      | 5, _ => exact k5
      | 6, _ => exact k6
      | 7, _ => exact k7
      | 8, _ => exact k8
      | 9, _ => exact k9
      | 10, _ => exact k10
      | 11, _ => exact k11
      | 12, _ => exact k12
      | 13, _ => exact k13
      | 14, _ => exact k14
      | 15, _ => exact k15
      | 16, _ => exact k16
      | 17, _ => exact k17
      | 18, _ => exact k18
      | 19, _ => exact k19
      | 20, _ => exact k20
      | n + 21, h => omega⟩, ⟨e1, e2, sb, e3⟩, fm, fn, xm⟩
end HX
set_option maxRecDepth 100000
set_option maxHeartbeats 1000000
namespace QX
open PySem PySem.Spec PyProof.Rows L2 HX
def Wf (M : Mem) : Prop := ∀ c ∈ M, Cell.und M.length c = true
mutual
theorem und_mono {n m : Nat} (h : n ≤ m) : ∀ d : D, d.und n = true → d.und m = true
  | .non, _ => rfl
  | .bl _, _ => rfl
  | .int _, _ => rfl
  | .str _, _ => rfl
  | .tup ds, e => by simp only [D.und] at e ⊢; exact undA_mono h ds e
  | .lst ds, e => by simp only [D.und] at e ⊢; exact undA_mono h ds e
  | .dct _ ds, e => by simp only [D.und] at e ⊢; exact undA_mono h ds e
  | .scr _, _ => rfl
  | .ref k, e => by simp only [D.und, Nat.blt_eq] at e ⊢; omega
  | .adr _, _ => rfl
theorem undA_mono {n m : Nat} (h : n ≤ m) : ∀ ds : List D, D.undA n ds = true → D.undA m ds = true
  | [], _ => rfl
  | d :: ds, e => by
    simp only [D.undA, Bool.and_eq_true] at e ⊢
    exact ⟨und_mono h d e.1, undA_mono h ds e.2⟩
end
theorem cund_mono {n m : Nat} (h : n ≤ m) {c : Cell} (e : Cell.und n c = true) : Cell.und m c = true := by
  cases c with
  | lst ds => exact undA_mono h ds e
  | dic kvs => exact undA_mono h _ e
theorem undA_iff {n : Nat} : ∀ {ds : List D}, D.undA n ds = true ↔ ∀ d ∈ ds, d.und n = true
  | [] => by simp [D.undA]
  | d :: ds => by simp only [D.undA, Bool.and_eq_true, undA_iff (ds := ds), List.mem_cons, forall_eq_or_imp]
theorem Wf.nil : Wf [] := fun c h => by simp at h
theorem Wf.push {M : Mem} {c : Cell} (h : Wf M) (hc : Cell.und (M.length + 1) c = true) : Wf (M ++ [c]) := by
  intro x hx
  rw [List.length_append, List.length_singleton]
  rcases List.mem_append.mp hx with z | z
  · exact cund_mono (Nat.le_succ _) (h x z)
  · rw [List.mem_singleton.mp z]; exact hc
theorem Wf.set {M : Mem} {c : Cell} {p : Nat} (h : Wf M) (hc : Cell.und M.length c = true) : Wf (M.set p c) := by
  intro x hx
  rw [List.length_set]
  rcases List.mem_or_eq_of_mem_set hx with z | z
  · exact h x z
  · rw [z]; exact hc
theorem closed_app {M g : Mem} {n : Nat} (hn : M.length = n) (h : Wf M) : closed n (M ++ g) = true := by
  unfold closed
  rw [← hn, List.take_left, List.all_eq_true]
  exact h
theorem res_und {k n : Nat} {M : Mem} {d : D} (h : d.und n = true) : D.res k n M d = some d := by
  cases k <;> simp only [D.res, h, if_true]
theorem resL_und {k n : Nat} {M : Mem} : ∀ {ds : List D}, D.undA n ds = true → resL (D.res k n M) ds = some ds
  | [], _ => rfl
  | d :: ds, h => by
    simp only [D.undA, Bool.and_eq_true] at h
    simp only [resL, res_und h.1, resL_und h.2]
theorem trim_app {M g : Mem} {n : Nat} {d : D} (hn : M.length = n) (h : Wf M) (hd : d.und n = true) : trimR n (.ok d (M ++ g)) = .ok d M := by
  unfold trimR
  by_cases hg : g = []
  · subst hg
    rw [List.append_nil]
    dsimp only
    rw [hn, if_pos (by simp)]
  · have hl : 0 < g.length := List.length_pos_iff.mpr hg
    have hb : Nat.ble (M ++ g).length n = false := by
      rw [List.length_append, hn]
      cases e : Nat.ble (n + g.length) n with
      | false => rfl
      | true => have := Nat.le_of_ble_eq_true e; omega
    simp only [hb, Bool.false_eq_true, if_false, res_und hd, closed_app hn h, if_true]
    rw [← hn, List.take_left]
theorem trim_id {M : Mem} {n : Nat} {d : D} (hn : M.length = n) : trimR n (.ok d M) = .ok d M := by
  unfold trimR
  dsimp only
  rw [hn, if_pos (by simp)]
theorem trim_exc {M : Mem} {n c : Nat} {fs : List (Str × D)} (hn : M.length = n) : trimR n (.exc c fs M) = .exc c fs M := by
  unfold trimR
  dsimp only
  rw [hn, if_pos (by simp)]
theorem trim_ref {M g : Mem} {n : Nat} {ds : List D} (hn : M.length = n) (h : Wf M) (hd : D.undA n ds = true) : trimR n (.ok (.ref n) (M ++ .lst ds :: g)) = .ok (.lst ds) M := by
  unfold trimR
  have hb : Nat.ble (M ++ Cell.lst ds :: g).length n = false := by
    rw [List.length_append, hn, List.length_cons]
    cases e : Nat.ble (n + (g.length + 1)) n with
    | false => rfl
    | true => have := Nat.le_of_ble_eq_true e; omega
  have hu : D.und n (.ref n) = false := by
    simp only [D.und]
    cases e : Nat.blt n n with
    | false => rfl
    | true => rw [Nat.blt_eq] at e; omega
  have hm : (M ++ Cell.lst ds :: g)[n]? = some (.lst ds) := by
    rw [List.getElem?_append_right (by omega), hn, Nat.sub_self]
    rfl
  have hr : D.res 5 n (M ++ Cell.lst ds :: g) (.ref n) = some (.lst ds) := by
    rw [D.res, hu]
    simp only [Bool.false_eq_true, if_false]
    rw [hm]
    simp only [resL_und hd, Option.map_some]
  simp only [hb, Bool.false_eq_true, if_false, hr, closed_app hn h, if_true]
  rw [← hn, List.take_left]
theorem comp_loop {t : Tg} {c : F Bool} {e : F D} {chk : Mem → Bool} {σ : Sa} {n : Nat} (Iv : Nat → List D → Mem → Prop) : ∀ (items : List Im) (i : Nat) (acc : List D) (M : Mem), acc.length + items.length ≤ 1000000 →
    (∀ j acc M im, items[j - i]? = some im → i ≤ j → Iv j acc M → chk M = true ∧ ∃ σ1, t.put im σ = some σ1 ∧ ((∃ M1, c σ1 M = .ok false M1 ∧ Iv (j + 1) acc M1) ∨ ∃ M1 d M2, c σ1 M = .ok true M1 ∧ e σ1 M1 = .ok d M2 ∧ M2[n]? = some (.lst acc) ∧ Iv (j + 1) (acc ++ [d]) (M2.set n (.lst (acc ++ [d]))))) →
    (∀ acc M, Iv (i + items.length) acc M → chk M = true) → Iv i acc M → ∃ acc' M', compL t c e chk σ n items M = .ok () M' ∧ Iv (i + items.length) acc' M' ∧ acc'.length ≤ acc.length + items.length
  | [], i, acc, M, _, _, hf, h0 => ⟨acc, M, by unfold compL; rw [if_pos (hf acc M h0)], h0, by simp⟩
  | im :: ims, i, acc, M, hl, hs, hf, h0 => by
    obtain ⟨hc, σ1, h1, h2⟩ := hs i acc M im (by rw [Nat.sub_self]; rfl) (Nat.le_refl _) h0
    have e0 : i + (im :: ims).length = (i + 1) + ims.length := by rw [List.length_cons]; omega
    have step : ∀ j acc M im', ims[j - (i + 1)]? = some im' → i + 1 ≤ j → Iv j acc M → chk M = true ∧ ∃ σ1, t.put im' σ = some σ1 ∧ ((∃ M1, c σ1 M = .ok false M1 ∧ Iv (j + 1) acc M1) ∨ ∃ M1 d M2, c σ1 M = .ok true M1 ∧ e σ1 M1 = .ok d M2 ∧ M2[n]? = some (.lst acc) ∧ Iv (j + 1) (acc ++ [d]) (M2.set n (.lst (acc ++ [d])))) := by
      intro j acc M im' hj hij
      refine hs j acc M im' ?_ (by omega)
      rw [show j - i = (j - (i + 1)) + 1 by omega, List.getElem?_cons_succ]
      exact hj
    rw [e0]
    rw [List.length_cons] at hl
    rcases h2 with ⟨M1, g1, g2⟩ | ⟨M1, d, M2, g1, g2, g3, g4⟩
    · obtain ⟨acc', M', a1, a2, a3⟩ := comp_loop Iv ims (i + 1) acc M1 (by omega) step (fun acc M h => hf acc M (by rw [e0]; exact h)) g2
      refine ⟨acc', M', ?_, a2, by rw [List.length_cons]; omega⟩
      unfold compL
      rw [if_pos hc, h1]
      simp only [g1, Res.nox, Res.bind, Bool.false_eq_true, if_false]
      exact a1
    · obtain ⟨acc', M', a1, a2, a3⟩ := comp_loop Iv ims (i + 1) (acc ++ [d]) (M2.set n (.lst (acc ++ [d]))) (by rw [List.length_append, List.length_singleton]; omega) step (fun acc M h => hf acc M (by rw [e0]; exact h)) g4
      rw [List.length_append, List.length_singleton] at a3
      refine ⟨acc', M', ?_, a2, by rw [List.length_cons]; omega⟩
      unfold compL
      rw [if_pos hc, h1]
      have hb : Nat.blt acc.length 16777216 = true := by rw [Nat.blt_eq]; omega
      simp only [g1, g2, g3, hb, Res.nox, Res.bind, if_true]
      exact a1
theorem comp_pure {fi : F Ita} {vs : List Nat} {t : Tg} {e : F D} {σ : Sa} {M : Mem} {it : Ita} (f : Im → D) (hi : fi σ M = .ok it M) (hc : ∀ M', it.chk M' = true) (hw : Wf M) (hl : it.items.length ≤ 1000000)
    (he : ∀ im ∈ it.items, (f im).und M.length = true ∧ ∃ σ1, t.put im (wipeA σ vs) = some σ1 ∧ ∀ M', Wf M' → M.length < M'.length → e σ1 M' = .ok (f im) M') : fTrim (fCompC fi vs t fYes e) σ M = .ok (.lst (it.items.map f)) M := by
  unfold fTrim fCompC
  rw [hi]
  dsimp only [Res.bind]
  have step : ∀ j acc M2 im, it.items[j - 0]? = some im → 0 ≤ j → (acc = (it.items.take j).map f ∧ M2 = M ++ [.lst acc]) → it.chk M2 = true ∧ ∃ σ1, t.put im (wipeA σ vs) = some σ1 ∧ ((∃ M1, fYes σ1 M2 = .ok false M1 ∧ (acc = (it.items.take (j + 1)).map f ∧ M1 = M ++ [.lst acc])) ∨ ∃ M1 d M3, fYes σ1 M2 = .ok true M1 ∧ e σ1 M1 = .ok d M3 ∧ M3[M.length]? = some (.lst acc) ∧ (acc ++ [d] = (it.items.take (j + 1)).map f ∧ M3.set M.length (.lst (acc ++ [d])) = M ++ [.lst (acc ++ [d])])) := by
    intro j acc M2 im hj _ ⟨ha, hM⟩
    subst hM
    rw [Nat.sub_zero] at hj
    have him := List.mem_of_getElem? hj
    obtain ⟨hu, σ1, hp, hev⟩ := he im him
    have hacc : D.undA M.length acc = true := by
      rw [ha, undA_iff]
      intro d hd
      obtain ⟨im', him', rfl⟩ := List.mem_map.mp hd
      exact (he im' (List.mem_of_mem_take him')).1
    refine ⟨hc _, σ1, hp, .inr ⟨_, f im, _, rfl, hev _ (hw.push (undA_mono (Nat.le_succ _) _ hacc)) (by simp), ?_, ?_, ?_⟩⟩
    · rw [List.getElem?_append_right (Nat.le_refl _), Nat.sub_self]; rfl
    · rw [ha, List.take_add_one, hj, List.map_append]; rfl
    · rw [List.set_append_right _ _ (Nat.le_refl _), Nat.sub_self]; rfl
  obtain ⟨acc', M', h1, ⟨h2, h3⟩, _⟩ := comp_loop (t := t) (c := fYes) (e := e) (chk := it.chk) (σ := wipeA σ vs) (n := M.length) (fun j acc M2 => acc = (it.items.take j).map f ∧ M2 = M ++ [.lst acc]) it.items 0 [] (M ++ [.lst []]) (by simpa using hl) step (fun acc M2 _ => hc M2) ⟨by simp, rfl⟩
  subst h3
  rw [h1]
  dsimp only
  rw [Nat.zero_add, List.take_length] at h2
  rw [h2]
  refine trim_ref (g := []) rfl hw ?_
  rw [undA_iff]
  intro d hd
  obtain ⟨im, him, rfl⟩ := List.mem_map.mp hd
  exact (he im him).1
theorem for_loop {t : Tg} {b : FS} {chk : Mem → Bool} {n : Nat} (Iv : Nat → Sa → Mem → Prop) : ∀ (items : List Im) (i : Nat) (σ : Sa) (M : Mem),
    (∀ j σ M im, items[j - i]? = some im → i ≤ j → Iv j σ M → chk M = true ∧ ∃ σ1, t.put im σ = some σ1 ∧ ∃ σ2 M2, (b σ1 M = .ok (.nx σ2) M2 ∨ b σ1 M = .ok (.ct σ2) M2) ∧ Iv (j + 1) (gc n σ2 M2).1 (gc n σ2 M2).2) →
    (∀ σ M, Iv (i + items.length) σ M → chk M = true) → Iv i σ M → ∃ σ' M', forL t b chk n items σ M = .ok (.nx σ') M' ∧ Iv (i + items.length) σ' M'
  | [], i, σ, M, _, hf, h0 => ⟨σ, M, by unfold forL; rw [if_pos (hf σ M h0)], h0⟩
  | im :: ims, i, σ, M, hs, hf, h0 => by
    obtain ⟨hc, σ1, h1, σ2, M2, h2, h3⟩ := hs i σ M im (by rw [Nat.sub_self]; rfl) (Nat.le_refl _) h0
    have e0 : i + (im :: ims).length = (i + 1) + ims.length := by rw [List.length_cons]; omega
    obtain ⟨σ', M', a1, a2⟩ := for_loop Iv ims (i + 1) _ _ (fun j σ M im' hj hij => hs j σ M im' (by
      rw [show j - i = (j - (i + 1)) + 1 by omega, List.getElem?_cons_succ]
      exact hj) (by omega)) (fun σ M h => hf σ M (by rw [e0]; exact h)) h3
    refine ⟨σ', M', ?_, by rw [e0]; exact a2⟩
    unfold forL
    rw [if_pos hc, h1]
    dsimp only
    rcases h2 with h2 | h2 <;> (rw [h2]; exact a1)
theorem gc_same {n : Nat} {σ : Sa} {M : Mem} (h : M.length = n) : gc n σ M = (σ, M) := by
  unfold gc
  rw [h]
  simp
theorem gc_app {n : Nat} {σ : Sa} {M g : Mem} (h : M.length = n) (hw : Wf M) (hg : g ≠ []) : gc n σ (M ++ g) = (σ.map (keepS n), M) := by
  unfold gc
  have hl : 0 < g.length := List.length_pos_iff.mpr hg
  have hb : Nat.ble (M ++ g).length n = false := by
    rw [List.length_append, h]
    cases e : Nat.ble (n + g.length) n with
    | false => rfl
    | true => have := Nat.le_of_ble_eq_true e; omega
  simp only [hb, Bool.false_eq_true, if_false, closed_app h hw, if_true]
  rw [← h, List.take_left]
end QX
set_option maxRecDepth 100000
set_option maxHeartbeats 1000000
namespace QX
open PySem
/- has_parts -/
def b_has_parts : FS :=
  (sRet (fAnd (fCall (gIsi .tuple) (fCons (fVar 0) (fCons (fC (.adr (.ty "tuple"))) fNil))) (fChain (gCmp cLe) (gCmp cLe) (fVar 1) (fCall gLen (fCons (fVar 0) fNil)) (fVar 2))))
def m_has_parts : List D → Mem → Res D := runT 3 3 b_has_parts
/- is_whole -/
def b_is_whole : FS :=
  (sRet (fAnd (fCall (gIsi .int) (fCons (fVar 0) (fCons (fC (.adr (.ty "int"))) fNil))) (fNot (fCall (gIsi .bool) (fCons (fVar 0) (fCons (fC (.adr (.ty "bool"))) fNil))))))
def m_is_whole : List D → Mem → Res D := runT 1 1 b_is_whole
/- is_within -/
def b_is_within : FS :=
  (sRet (fAnd (fCall m_is_whole (fCons (fVar 0) fNil)) (fChain (gCmp cLe) (gCmp cLe) (fVar 1) (fVar 0) (fVar 2))))
def m_is_within : List D → Mem → Res D := runT 3 3 b_is_within
/- is_step -/
def b_is_step : FS :=
  (sRet (fAnd (fCall m_has_parts (fCons (fVar 0) (fCons (fC (.int 0)) (fCons (fC (.int 3)) fNil)))) (fCall gAll (fCons (fTrim (fCompC (fIter (fVar 0)) [2] (.name 2) fYes (fCall m_is_within (fCons (fVar 2) (fCons (fC (.int 0)) (fCons (fBin gSub (fVar 1) (fC (.int 1))) fNil)))))) fNil))))
def m_is_step : List D → Mem → Res D := runT 3 2 b_is_step
/- is_wheel -/
def b_is_wheel : FS :=
  (sRet (fAnd (fCall m_has_parts (fCons (fVar 0) (fCons (fC (.int 1)) (fCons (fC (.int 4)) fNil)))) (fCall gAll (fCons (fTrim (fCompC (fIter (fVar 0)) [2] (.name 2) fYes (fCall m_is_step (fCons (fVar 2) (fCons (fVar 1) fNil))))) fNil))))
def m_is_wheel : List D → Mem → Res D := runT 3 2 b_is_wheel
/- is_board -/
def b_is_board : FS :=
  (sSeq (sIf (fNotT (fTest (fCall m_has_parts (fCons (fVar 0) (fCons (fC (.int 2)) (fCons (fC (.int 2)) fNil))))))
  (sRet (fC (.bl false)))
  sNext)
  (sSeq (sAsg (fVar 0) (.tup [1, 2]))
  (sSeq (sIf (fOrT (fNotT (fTest (fCall m_has_parts (fCons (fVar 1) (fCons (fC (.int 1)) (fCons (fC (.int 6)) fNil)))))) (fNotT (fTest (fCall m_is_within (fCons (fVar 2) (fCons (fC (.int 0)) (fCons (fC (.int 4)) fNil)))))))
  (sRet (fC (.bl false)))
  sNext)
  (sSeq (sSet 3 (fBin gAdd (fCall gLen (fCons (fVar 1) fNil)) (fVar 2)))
  (sRet (fCall gAll (fCons (fTrim (fCompC (fIter (fVar 1)) [4] (.name 4) fYes (fCall m_is_wheel (fCons (fVar 4) (fCons (fVar 3) fNil))))) fNil)))))))
def m_is_board : List D → Mem → Res D := runT 5 1 b_is_board
/- need_board -/
def b_need_board : FS :=
  (sIf (fNotT (fTest (fCall m_is_board (fCons (fVar 0) fNil))))
  (sRaise 0)
  sNext)
def m_need_board : List D → Mem → Res D := runT 1 1 b_need_board
/- is_wheel_number -/
def b_is_wheel_number : FS :=
  (sRet (fCall m_is_within (fCons (fVar 1) (fCons (fC (.int 0)) (fCons (fBin gSub (fCall gLen (fCons (fBin gIx (fVar 0) (fC (.int 0))) fNil)) (fC (.int 1))) fNil)))))
def m_is_wheel_number : List D → Mem → Res D := runT 2 2 b_is_wheel_number
/- _law_cell_at -/
def b_law_cell_at_e50a56 : FS :=
  (sSeq (sIf (fTest (fBin (gCmp cLt) (fVar 1) (fCall gLen (fCons (fVar 0) fNil))))
  (sRet (fBin gIx (fVar 0) (fVar 1)))
  sNext)
  (sRet (fC (.int 0))))
def m_law_cell_at_e50a56 : List D → Mem → Res D := runT 2 2 b_law_cell_at_e50a56
/- _law_pen -/
def b_law_pen_579b16 : FS :=
  (sRet (fNew (fCons (fCall gMax2 (fCons (fC (.int 0)) (fCons (fBin gSub (fVar 0) (fBin gPow (fC (.int 10)) (fC (.int 18)))) fNil))) (fCons (fBin gMod (fVar 0) (fC (.int 1000000007))) (fCons (fC (.int 0)) fNil)))))
def m_law_pen_579b16 : List D → Mem → Res D := runD 1 1 b_law_pen_579b16
/- _law_draw -/
def b_law_draw_321cf4 : FS :=
  (sSeq (sIf (fTest (fBin (gCmp cGt) (fBin gIx (fVar 0) (fC (.int 0))) (fC (.int 0))))
  (sSeq (sSet 2 (fBin gMod (fBin gIx (fVar 0) (fC (.int 0))) (fVar 1)))
  (sSeq (sSetIx (fVar 0) (fC (.int 0)) (fBin gFdiv (fBin gIx (fVar 0) (fC (.int 0))) (fVar 1)))
  (sRet (fVar 2))))
  sNext)
  (sSeq (sSetIx (fVar 0) (fC (.int 2)) (fBin gAdd (fBin gIx (fVar 0) (fC (.int 2))) (fC (.int 1))))
  (sSeq (sSet 3 (fBin gMod (fBin gMul (fBin gAdd (fBin gIx (fVar 0) (fC (.int 1))) (fBin gMul (fC (.int 17)) (fBin gIx (fVar 0) (fC (.int 2))))) (fBin gAdd (fC (.int 69621)) (fBin gMul (fC (.int 2)) (fBin gIx (fVar 0) (fC (.int 2)))))) (fC (.int 2147483647))))
  (sSeq (sSet 3 (fBin gMod (fBin gAdd (fBin gAdd (fBin gMul (fVar 3) (fVar 3)) (fBin gMul (fC (.int 40503)) (fBin gIx (fVar 0) (fC (.int 2))))) (fC (.int 5))) (fC (.int 2147483629))))
  (sRet (fBin gMod (fBin gFdiv (fBin gMod (fBin gMul (fVar 3) (fC (.int 48271))) (fC (.int 2147483647))) (fC (.int 32))) (fVar 1)))))))
def m_law_draw_321cf4 : List D → Mem → Res D := runT 4 2 b_law_draw_321cf4
/- _law_any_board -/
def b_law_any_board_7df546 : FS :=
  (sSeq (sAsg (fTup (fCons (fBin gAdd (fC (.int 1)) (fCall m_law_draw_321cf4 (fCons (fVar 0) (fCons (fVar 1) fNil)))) (fCons (fCall m_law_draw_321cf4 (fCons (fVar 0) (fCons (fBin gAdd (fVar 2) (fC (.int 1))) fNil))) fNil))) (.tup [3, 2]))
  (sSeq (sSet 4 (fNew fNil))
  (sSeq (sFor (fIt gRange1 (fCons (fVar 3) fNil)) (.name 5)
  (sSeq (sSet 6 (fNew fNil))
  (sSeq (sFor (fIt gRange1 (fCons (fBin gAdd (fC (.int 1)) (fCall m_law_draw_321cf4 (fCons (fVar 0) (fCons (fC (.int 4)) fNil)))) fNil)) (.name 7)
  (sSeq (sSet 8 (fTrim (fCompC (fIt gRange1 (fCons (fBin gIx (fLst (fCons (fC (.int 1)) (fCons (fC (.int 1)) (fCons (fC (.int 2)) (fCons (fC (.int 0)) (fCons (fC (.int 3)) fNil)))))) (fCall m_law_draw_321cf4 (fCons (fVar 0) (fCons (fC (.int 5)) fNil)))) fNil)) [9] (.name 9) fYes (fCall m_law_draw_321cf4 (fCons (fVar 0) (fCons (fBin gAdd (fVar 3) (fVar 2)) fNil))))))
  (sExpr (fMeth gAppend (fVar 6) (fCons (fCall gTuple (fCons (fTrim (fCompC (fIter (fVar 8)) [10] (.name 10) fYes (fIf (fAndT (fTest (fBin (gCmp cGt) (fVar 2) (fC (.int 0)))) (fTest (fBin (gEq false) (fCall m_law_draw_321cf4 (fCons (fVar 0) (fCons (fC (.int 3)) fNil))) (fC (.int 0))))) (fBin gAdd (fVar 3) (fBin gMod (fVar 10) (fVar 2))) (fVar 10)))) fNil)) fNil)))))
  (sExpr (fMeth gAppend (fVar 4) (fCons (fCall gTuple (fCons (fVar 6) fNil)) fNil))))))
  (sRet (fTup (fCons (fCall gTuple (fCons (fVar 4) fNil)) (fCons (fVar 2) fNil)))))))
def m_law_any_board_7df546 : List D → Mem → Res D := runT 11 3 b_law_any_board_7df546
/- need_few -/
/- renumbered -/
def b_renumbered : FS :=
  (sRet (fCall gTuple (fCons (fTrim (fCompC (fIter (fVar 0)) [2] (.name 2) fYes (fCall gTuple (fCons (fTrim (fCompC (fIter (fVar 2)) [3] (.name 3) fYes (fCall gTuple (fCons (fTrim (fCompC (fIter (fVar 3)) [4] (.name 4) fYes (fBin gIx (fVar 1) (fVar 4)))) fNil)))) fNil)))) fNil)))
def m_renumbered : List D → Mem → Res D := runT 5 2 b_renumbered
/- are_links -/
def b_are_links : FS :=
  (sSeq (sSet 3 (fBin gIx (fVar 0) (fC (.int 1))))
  (sRet (fAnd (fCall m_has_parts (fCons (fVar 2) (fCons (fVar 3) (fCons (fVar 3) fNil)))) (fCall gAll (fCons (fTrim (fCompC (fIter (fVar 2)) [4] (.name 4) fYes (fOr (fBin (gIsN false) (fVar 4) (fC .non)) (fCall m_is_wheel_number (fCons (fVar 1) (fCons (fVar 4) fNil)))))) fNil)))))
def m_are_links : List D → Mem → Res D := runT 5 3 b_are_links
/- ends_of_first -/
def b_ends_of_first : FS :=
  (sSeq (sSet 3 (fCall gLen (fCons (fBin gIx (fVar 0) (fC (.int 0))) fNil)))
  (sSeq (sSet 4 (fBin gAdd (fVar 3) (fCall gLen (fCons (fBin gIx (fVar 1) (fC (.int 0))) fNil))))
  (sSeq (sSet 5 (fListRg1 true (fVar 3)))
  (sSeq (sFor (fIter (fVar 2)) (.name 6)
  (sIf (fTest (fBin (gIsN false) (fVar 6) (fC .non)))
  (sSeq (sExpr (fMeth gAppend (fVar 5) (fCons (fVar 4) fNil)))
  (sAug 4 (gAug false) (fC (.int 1))))
  (sExpr (fMeth gAppend (fVar 5) (fCons (fBin gAdd (fVar 3) (fVar 6)) fNil)))))
  (sRet (fVar 5))))))
def m_ends_of_first : List D → Mem → Res D := runT 7 3 b_ends_of_first
/- ends_of_second -/
def b_ends_of_second : FS :=
  (sSeq (sSet 3 (fCall gLen (fCons (fBin gIx (fVar 0) (fC (.int 0))) fNil)))
  (sSeq (sSet 4 (fBin gAdd (fBin gAdd (fVar 3) (fCall gLen (fCons (fBin gIx (fVar 1) (fC (.int 0))) fNil))) (fCountT (fVar 2) (fCons (fC .non) fNil))))
  (sRet (fBin gAdd (fListRg false (fVar 3) (fBin gAdd (fVar 3) (fCall gLen (fCons (fBin gIx (fVar 1) (fC (.int 0))) fNil)))) (fListRg false (fVar 4) (fBin gAdd (fVar 4) (fBin gIx (fVar 1) (fC (.int 1)))))))))
def m_ends_of_second : List D → Mem → Res D := runT 5 3 b_ends_of_second
/- joined -/
end QX
set_option maxRecDepth 100000
set_option maxHeartbeats 1000000
namespace QX
open PySem
/- is_stand -/
/- are_marbles -/
/- is_moment -/
/- need_moment -/
/- loosened -/
/- fastened -/
/- handle_marble -/
/- is_row -/
/- need_row -/
/- walked -/
/- first_wrong -/
/- behind -/
/- _law_pick -/
/- _law_board -/
/- _law_moment -/
/- _law_handle -/
/- _law_ready -/
/- _law_let_row -/
end QX
set_option maxRecDepth 100000
set_option maxHeartbeats 1000000
namespace QX
open PySem
/- _law_mixed -/
/- _law_ends -/
/- _law_table -/
/- _law_falls -/
/- _law_without -/
/- _law_drained -/
/- _law_board -/
/- _law_stand -/
/- _law_moment -/
/- _law_handled -/
/- handle_beat -/
/- need_hands -/
/- rows_of -/
/- _law_rows -/
end QX
set_option maxRecDepth 100000
set_option maxHeartbeats 1000000
namespace QX
open PySem
/- _law_kept -/
/- law -/
end QX
set_option maxRecDepth 100000
set_option maxHeartbeats 1000000
namespace QX
open PySem
/- with_nought -/
/- solved -/
/- turn_ends -/
/- turn_table -/
/- solved_board -/
/- need_drain -/
/- share_tops -/
/- greatest_common -/
/- lowered -/
/- shares -/
/- need_stand -/
/- owed_top -/
/- owed -/
/- _law_least -/
/- _law_plus -/
/- _law_times -/
end QX
set_option maxRecDepth 100000
set_option maxHeartbeats 1000000
namespace QX
open PySem
/- _law_no_boards -/
def b_law_no_boards_761223 : FS :=
  (sSeq (sAsg (fVar 0) (.tup [1, 2]))
  (sSeq (sSet 3 (fLst (fCons (fC .non) (fCons (fTup fNil) (fCons (fCall gList (fCons (fVar 0) fNil)) (fCons (fSl (fVar 0) fNoPart (fPart (fC (.int 1)))) (fCons (fBin gAdd (fVar 0) (fTup (fCons (fC (.int 0)) fNil))) (fCons (fTup (fCons (fTup fNil) (fCons (fVar 2) fNil))) (fCons (fTup (fCons (fCall gList (fCons (fVar 1) fNil)) (fCons (fVar 2) fNil))) (fCons (fTup (fCons (fVar 1) (fCons (fC (.int 5)) fNil))) fNil))))))))))
  (sSeq (sSet 3 (fBin gAdd (fVar 3) (fLst (fCons (fTup (fCons (fVar 1) (fCons (fUn gNeg (fC (.int 1))) fNil))) (fCons (fTup (fCons (fVar 1) (fCons (fC (.bl true)) fNil))) (fCons (fTup (fCons (fBin gMul (fVar 1) (fC (.int 7))) (fCons (fVar 2) fNil))) (fCons (fTup (fCons (fBin gAdd (fSl (fVar 1) fNoPart (fPart (fUn gNeg (fC (.int 1))))) (fTup (fCons (fTup fNil) fNil))) (fCons (fVar 2) fNil))) (fCons (fC (.str "board")) (fCons (fC (.dct [] [])) (fCons (fC (.int 7)) fNil))))))))))
  (sSeq (sSet 4 (fBin gAdd (fCall gLen (fCons (fVar 1) fNil)) (fVar 2)))
  (sSeq (sSet 3 (fBin gAdd (fVar 3) (fLst (fCons (fTup (fCons (fBin gAdd (fSl (fVar 1) fNoPart (fPart (fUn gNeg (fC (.int 1))))) (fTup (fCons (fTup (fCons (fTup (fCons (fVar 4) fNil)) fNil)) fNil))) (fCons (fVar 2) fNil))) (fCons (fTup (fCons (fBin gAdd (fSl (fVar 1) fNoPart (fPart (fUn gNeg (fC (.int 1))))) (fTup (fCons (fTup (fCons (fBin gMul (fTup (fCons (fC (.int 0)) fNil)) (fC (.int 4))) fNil)) fNil))) (fCons (fVar 2) fNil))) fNil)))))
  (sRet (fBin gAdd (fVar 3) (fLst (fCons (fTup (fCons (fBin gAdd (fSl (fVar 1) fNoPart (fPart (fUn gNeg (fC (.int 1))))) (fTup (fCons (fBin gMul (fTup (fCons (fTup fNil) fNil)) (fC (.int 5))) fNil))) (fCons (fVar 2) fNil))) (fCons (fTup (fCons (fBin gAdd (fSl (fVar 1) fNoPart (fPart (fUn gNeg (fC (.int 1))))) (fTup (fCons (fTup (fCons (fTup (fCons (fC (.bl true)) fNil)) fNil)) fNil))) (fCons (fVar 2) fNil))) fNil))))))))))
def m_law_no_boards_761223 : List D → Mem → Res D := runT 5 1 b_law_no_boards_761223
/- _law_odd -/
/- _law_words -/
/- law -/
end QX
set_option maxRecDepth 100000
set_option maxHeartbeats 1000000
namespace QX
open PySem
/- need_few -/
def b_need_few_1d32a9 : FS :=
  (sIf (fTest (fBin (gCmp cGt) (fVar 0) (fVar 1)))
  (sRaiseM (fCons (fVar 0) (fCons (fVar 1) fNil)))
  sNext)
def m_need_few_1d32a9 : List D → Mem → Res D := runT 2 2 b_need_few_1d32a9
/- joined -/
def b_joined_f7b97f : FS :=
  (sSeq (sExpr (fCall m_need_board (fCons (fVar 0) fNil)))
  (sSeq (sExpr (fCall m_need_board (fCons (fVar 1) fNil)))
  (sSeq (sIf (fNotT (fTest (fCall m_are_links (fCons (fVar 0) (fCons (fVar 1) (fCons (fVar 2) fNil))))))
  (sRaise 10)
  sNext)
  (sSeq (sSet 3 (fBin gAdd (fCountT (fVar 2) (fCons (fC .non) fNil)) (fBin gIx (fVar 1) (fC (.int 1)))))
  (sSeq (sExpr (fCall m_need_few_1d32a9 (fCons (fBin gAdd (fCall gLen (fCons (fBin gIx (fVar 0) (fC (.int 0))) fNil)) (fCall gLen (fCons (fBin gIx (fVar 1) (fC (.int 0))) fNil))) (fCons (fC (.int 6)) fNil))))
  (sSeq (sExpr (fCall m_need_few_1d32a9 (fCons (fVar 3) (fCons (fC (.int 4)) fNil))))
  (sSeq (sSet 4 (fCall m_renumbered (fCons (fBin gIx (fVar 0) (fC (.int 0))) (fCons (fCall m_ends_of_first (fCons (fVar 0) (fCons (fVar 1) (fCons (fVar 2) fNil)))) fNil))))
  (sSeq (sSet 5 (fCall m_renumbered (fCons (fBin gIx (fVar 1) (fC (.int 0))) (fCons (fCall m_ends_of_second (fCons (fVar 0) (fCons (fVar 1) (fCons (fVar 2) fNil)))) fNil))))
  (sRet (fTup (fCons (fBin gAdd (fVar 4) (fVar 5)) (fCons (fVar 3) fNil))))))))))))
def m_joined_f7b97f : List D → Mem → Res D := runT 6 3 b_joined_f7b97f
/- law -/
def b_law_b8079b : FS :=
  (sSeq (sFor (fIt gRange1 (fCons (fCall gMax2 (fCons (fC (.int 1)) (fCons (fCall gMin2 (fCons (fCall gLen (fCons (fVar 0) fNil)) (fCons (fC (.int 3)) fNil))) fNil))) fNil)) (.name 1)
  (sSeq (sSet 2 (fCall m_law_pen_579b16 (fCons (fCall m_law_cell_at_e50a56 (fCons (fVar 0) (fCons (fVar 1) fNil))) fNil)))
  (sSeq (sAsg (fTup (fCons (fCall m_law_any_board_7df546 (fCons (fVar 2) (fCons (fC (.int 3)) (fCons (fC (.int 4)) fNil)))) (fCons (fCall m_law_any_board_7df546 (fCons (fVar 2) (fCons (fC (.int 3)) (fCons (fC (.int 3)) fNil)))) fNil))) (.tup [3, 4]))
  (sSeq (sPar 5 6 (fCons (fCall gRepr (fCons (fTup (fCons (fVar 3) (fCons (fVar 4) fNil))) fNil)) (fCons (fBin gMul (fTup (fCons (fC .non) fNil)) (fBin gIx (fVar 3) (fC (.int 1)))) fNil)))
  (sSeq (sFor (fIter (fCall m_law_no_boards_761223 (fCons (fVar 3) fNil))) (.name 7)
  (sSeq (sSet 8 (fNew (fCons (fSaidM [0, 10] (fCall m_joined_f7b97f (fCons (fVar 7) (fCons (fC .non) (fCons (fC .non) fNil))))) fNil)))
  (sSeq (sExpr (fMeth gAppend (fVar 8) (fCons (fSaidM [0, 10] (fCall m_joined_f7b97f (fCons (fVar 3) (fCons (fVar 7) (fCons (fC .non) fNil))))) fNil)))
  (sIf (fTest (fBin (gEq true) (fVar 8) (fBin gMul (fLst (fCons (fTup (fCons (fC (.str "board")) fNil)) fNil)) (fC (.int 2)))))
  (sRet (fC (.bl false)))
  sNext))))
  (sSeq (sSet 9 (fLst (fCons (fC .non) (fCons (fCall gList (fCons (fVar 6) fNil)) (fCons (fBin gAdd (fVar 6) (fTup (fCons (fC .non) fNil))) (fCons (fC (.int 7)) (fCons (fC (.dct [] [])) (fCons (fC (.str "links")) (fCons (fBin gAdd (fTup (fCons (fCall gLen (fCons (fBin gIx (fVar 4) (fC (.int 0))) fNil)) fNil)) (fSl (fVar 6) (fPart (fC (.int 1))) fNoPart)) (fCons (fBin gAdd (fTup (fCons (fUn gNeg (fC (.int 1))) fNil)) (fSl (fVar 6) (fPart (fC (.int 1))) fNoPart)) fNil))))))))))
  (sSeq (sSet 9 (fBin gAdd (fVar 9) (fLst (fCons (fBin gAdd (fTup (fCons (fC (.bl true)) fNil)) (fSl (fVar 6) (fPart (fC (.int 1))) fNoPart)) (fCons (fBin gAdd (fTup (fCons (fC (.str "0")) fNil)) (fSl (fVar 6) (fPart (fC (.int 1))) fNoPart)) (fCons (fBin gAdd (fTup (fCons (fTup (fCons (fC (.int 0)) fNil)) fNil)) (fSl (fVar 6) (fPart (fC (.int 1))) fNoPart)) (fCons (fBin gAdd (fVar 6) (fTup (fCons (fC (.int 0)) fNil))) fNil)))))))
  (sSeq (sFor (fIter (fBin gAdd (fVar 9) (fBin gMul (fLst (fCons (fSl (fVar 6) (fPart (fC (.int 1))) fNoPart) fNil)) (fCall gInt (fCons (fBin (gCmp cGt) (fBin gIx (fVar 3) (fC (.int 1))) (fC (.int 0))) fNil))))) (.name 7)
  (sIf (fTest (fBin (gEq true) (fSaidM [0, 10] (fCall m_joined_f7b97f (fCons (fVar 3) (fCons (fVar 4) (fCons (fVar 7) fNil))))) (fTup (fCons (fC (.str "links")) fNil))))
  (sRet (fC (.bl false)))
  sNext))
  (sSeq (sSet 10 (fTup (fCons (fTup (fCons (fTup fNil) fNil)) fNil)))
  (sSeq (sFor (fIter (fLst (fCons (fTup (fCons (fC (.int 6)) (fCons (fC (.int 1)) fNil))) (fCons (fTup (fCons (fC (.int 3)) (fCons (fC (.int 4)) fNil))) (fCons (fTup (fCons (fC (.int 1)) (fCons (fC (.int 6)) fNil))) (fCons (fTup (fCons (fC (.int 6)) (fCons (fC (.int 6)) fNil))) (fCons (fTup (fCons (fC (.int 3)) (fCons (fC (.int 3)) fNil))) (fCons (fTup (fCons (fC (.int 5)) (fCons (fC (.int 1)) fNil))) fNil)))))))) (.tup [11, 12])
  (sSeq (sSet 13 (fIf (fTest (fBin (gCmp cGt) (fBin gAdd (fVar 11) (fVar 12)) (fC (.int 6)))) (fTup (fCons (fC (.str "many")) (fCons (fBin gAdd (fVar 11) (fVar 12)) (fCons (fC (.int 6)) fNil)))) (fTup (fCons (fC (.str "told")) (fCons (fTup (fCons (fBin gMul (fVar 10) (fBin gAdd (fVar 11) (fVar 12))) (fCons (fC (.int 4)) fNil))) fNil)))))
  (sIf (fTest (fBin (gEq true) (fSaidM [0, 10] (fCall m_joined_f7b97f (fCons (fTup (fCons (fBin gMul (fVar 10) (fVar 11)) (fCons (fC (.int 2)) fNil))) (fCons (fTup (fCons (fBin gMul (fVar 10) (fVar 12)) (fCons (fC (.int 2)) fNil))) (fCons (fTup (fCons (fC .non) (fCons (fC .non) fNil))) fNil))))) (fVar 13)))
  (sRet (fC (.bl false)))
  sNext)))
  (sSeq (sFor (fIter (fLst (fCons (fBin gMul (fTup (fCons (fC .non) fNil)) (fC (.int 4))) (fCons (fTup (fCons (fC .non) (fCons (fC .non) (fCons (fC .non) (fCons (fC (.int 0)) fNil))))) (fCons (fTup (fCons (fC (.int 0)) (fCons (fC .non) (fCons (fC .non) (fCons (fC .non) fNil))))) (fCons (fTup (fCons (fC .non) (fCons (fC (.int 0)) (fCons (fC .non) (fCons (fC (.int 0)) fNil))))) (fCons (fBin gMul (fTup (fCons (fC (.int 0)) fNil)) (fC (.int 4))) fNil))))))) (.name 14)
  (sSeq (sSet 15 (fBin gAdd (fCountT (fVar 14) (fCons (fC .non) fNil)) (fC (.int 2))))
  (sSeq (sSet 13 (fIf (fTest (fBin (gCmp cGt) (fVar 15) (fC (.int 4)))) (fTup (fCons (fC (.str "many")) (fCons (fVar 15) (fCons (fC (.int 4)) fNil)))) (fTup (fCons (fC (.str "told")) (fCons (fTup (fCons (fBin gMul (fVar 10) (fC (.int 2))) (fCons (fVar 15) fNil))) fNil)))))
  (sIf (fTest (fBin (gEq true) (fSaidM [0, 10] (fCall m_joined_f7b97f (fCons (fTup (fCons (fVar 10) (fCons (fC (.int 4)) fNil))) (fCons (fTup (fCons (fVar 10) (fCons (fC (.int 2)) fNil))) (fCons (fVar 14) fNil))))) (fVar 13)))
  (sRet (fC (.bl false)))
  sNext))))
  (sSeq (sIf (fTest (fBin (gEq true) (fSaidM [0, 10] (fCall m_joined_f7b97f (fCons (fTup (fCons (fBin gMul (fVar 10) (fC (.int 6))) (fCons (fC (.int 4)) fNil))) (fCons (fTup (fCons (fVar 10) (fCons (fC (.int 4)) fNil))) (fCons (fBin gMul (fTup (fCons (fC .non) fNil)) (fC (.int 4))) fNil))))) (fTup (fCons (fC (.str "many")) (fCons (fC (.int 7)) (fCons (fC (.int 6)) fNil))))))
  (sRet (fC (.bl false)))
  sNext)
  (sIf (fTest (fBin (gEq true) (fCall gRepr (fCons (fTup (fCons (fVar 3) (fCons (fVar 4) fNil))) fNil)) (fVar 5)))
  (sRet (fC (.bl false)))
  sNext)))))))))))))
  (sRet (fC (.bl true))))
def m_law_b8079b : List D → Mem → Res D := runD 16 1 b_law_b8079b
end QX
set_option maxRecDepth 100000
set_option maxHeartbeats 1000000
namespace Q50
open PySem PySem.Spec PyProof.Rows L2 HX QX
def topS (i : Nat) : Stmt := PySem.Challenge.pw_marblefall_k50_joins_refused.main.body.getD i (.Pass ⟨0, 0, 0, 0⟩)
abbrev s__law_pen : Stmt := topS 45
theorem sc__law_pen : FnScope ["_law_cell"] ["_law_cell"] (defScope s__law_pen) := ⟨rfl, rfl, rfl, by decide +kernel, rfl, by decide +kernel, by decide +kernel⟩
abbrev s__law_no_boards : Stmt := topS 50
theorem sc__law_no_boards : FnScope ["_law_board", "_law_wheels", "_law_cups", "_law_some", "_law_far"] ["_law_board"] (defScope s__law_no_boards) := ⟨rfl, rfl, rfl, by decide +kernel, rfl, by decide +kernel, by decide +kernel⟩
abbrev s__law_cell_at : Stmt := topS 44
theorem sc__law_cell_at : FnScope ["_law_script", "_law_k"] ["_law_script", "_law_k"] (defScope s__law_cell_at) := ⟨rfl, rfl, rfl, by decide +kernel, rfl, by decide +kernel, by decide +kernel⟩
abbrev s__law_draw : Stmt := topS 46
theorem sc__law_draw : FnScope ["_law_pen_here", "_law_many", "_law_digit", "_law_stir"] ["_law_pen_here", "_law_many"] (defScope s__law_draw) := ⟨rfl, rfl, rfl, by decide +kernel, rfl, by decide +kernel, by decide +kernel⟩
abbrev s__law_any_board : Stmt := topS 49
theorem sc__law_any_board : FnScope ["_law_pen_here", "_law_most", "_law_cups", "_law_many", "_law_wheels", "_law_number", "_law_steps", "_law_turn", "_law_ends", "_law_lap", "_law_end"] ["_law_pen_here", "_law_most", "_law_cups"] (defScope s__law_any_board) := ⟨rfl, rfl, rfl, by decide +kernel, rfl, by decide +kernel, by decide +kernel⟩
abbrev s_has_parts : Stmt := topS 30
theorem sc_has_parts : FnScope ["thing", "least", "most"] ["thing", "least", "most"] (defScope s_has_parts) := ⟨rfl, rfl, rfl, by decide +kernel, rfl, by decide +kernel, by decide +kernel⟩
abbrev s_is_whole : Stmt := topS 28
theorem sc_is_whole : FnScope ["thing"] ["thing"] (defScope s_is_whole) := ⟨rfl, rfl, rfl, by decide +kernel, rfl, by decide +kernel, by decide +kernel⟩
abbrev s_is_within : Stmt := topS 29
theorem sc_is_within : FnScope ["thing", "least", "most"] ["thing", "least", "most"] (defScope s_is_within) := ⟨rfl, rfl, rfl, by decide +kernel, rfl, by decide +kernel, by decide +kernel⟩
abbrev s_is_step : Stmt := topS 31
theorem sc_is_step : FnScope ["thing", "ends", "end"] ["thing", "ends"] (defScope s_is_step) := ⟨rfl, rfl, rfl, by decide +kernel, rfl, by decide +kernel, by decide +kernel⟩
abbrev s_is_wheel : Stmt := topS 32
theorem sc_is_wheel : FnScope ["thing", "ends", "step"] ["thing", "ends"] (defScope s_is_wheel) := ⟨rfl, rfl, rfl, by decide +kernel, rfl, by decide +kernel, by decide +kernel⟩
abbrev s_is_board : Stmt := topS 33
theorem sc_is_board : FnScope ["thing", "wheels", "cups", "ends", "wheel"] ["thing"] (defScope s_is_board) := ⟨rfl, rfl, rfl, by decide +kernel, rfl, by decide +kernel, by decide +kernel⟩
abbrev s_need_board : Stmt := topS 34
theorem sc_need_board : FnScope ["thing"] ["thing"] (defScope s_need_board) := ⟨rfl, rfl, rfl, by decide +kernel, rfl, by decide +kernel, by decide +kernel⟩
abbrev s_need_few : Stmt := topS 38
theorem sc_need_few : FnScope ["many", "most"] ["many", "most"] (defScope s_need_few) := ⟨rfl, rfl, rfl, by decide +kernel, rfl, by decide +kernel, by decide +kernel⟩
abbrev s_renumbered : Stmt := topS 41
theorem sc_renumbered : FnScope ["wheels", "numbers", "steps", "step", "end"] ["wheels", "numbers"] (defScope s_renumbered) := ⟨rfl, rfl, rfl, by decide +kernel, rfl, by decide +kernel, by decide +kernel⟩
abbrev s_is_wheel_number : Stmt := topS 35
theorem sc_is_wheel_number : FnScope ["board", "thing"] ["board", "thing"] (defScope s_is_wheel_number) := ⟨rfl, rfl, rfl, by decide +kernel, rfl, by decide +kernel, by decide +kernel⟩
abbrev s_are_links : Stmt := topS 37
theorem sc_are_links : FnScope ["one", "other", "thing", "cups", "link"] ["one", "other", "thing"] (defScope s_are_links) := ⟨rfl, rfl, rfl, by decide +kernel, rfl, by decide +kernel, by decide +kernel⟩
abbrev s_ends_of_first : Stmt := topS 39
theorem sc_ends_of_first : FnScope ["one", "other", "links", "ahead", "cup", "found", "link"] ["one", "other", "links"] (defScope s_ends_of_first) := ⟨rfl, rfl, rfl, by decide +kernel, rfl, by decide +kernel, by decide +kernel⟩
abbrev s_ends_of_second : Stmt := topS 40
theorem sc_ends_of_second : FnScope ["one", "other", "links", "ahead", "cup"] ["one", "other", "links"] (defScope s_ends_of_second) := ⟨rfl, rfl, rfl, by decide +kernel, rfl, by decide +kernel, by decide +kernel⟩
abbrev s_joined : Stmt := topS 42
theorem sc_joined : FnScope ["one", "other", "links", "cups", "first", "second"] ["one", "other", "links"] (defScope s_joined) := ⟨rfl, rfl, rfl, by decide +kernel, rfl, by decide +kernel, by decide +kernel⟩
abbrev s_law : Stmt := topS 51
theorem sc_law : FnScope ["_law_script", "_law_k", "_law_pen_here", "_law_one", "_law_other", "_law_kept", "_law_none", "_law_bad", "_law_words", "_law_bads", "_law_some", "_law_first", "_law_second", "_law_due", "_law_links", "_law_many"] ["_law_script"] (defScope s_law) := ⟨rfl, rfl, rfl, by decide +kernel, rfl, by decide +kernel, by decide +kernel⟩
abbrev s__law_refusal : Stmt := topS 47
theorem sc__law_refusal : FnScope ["_law_e", "_law_some", "_law_words"] ["_law_e"] (defScope s__law_refusal) := ⟨rfl, rfl, rfl, by decide +kernel, rfl, by decide +kernel, by decide +kernel⟩
abbrev s__law_came : Stmt := topS 48
theorem sc__law_came : FnScope ["_law_call", "_law_e"] ["_law_call"] (defScope s__law_came) := ⟨rfl, rfl, rfl, by decide +kernel, rfl, by decide +kernel, by decide +kernel⟩
section
variable {S : Sc} {P : Program} {w : World} {mg : Str → Option Value} {base : Heap} {k : Nat}
theorem ok__law_refusal {C : Nat → Addr} (D : HX.Def S.K mg "_law_refusal" s__law_refusal ["_law_e"]) (B : Bi mg) (B4 : Bi4 mg) (G : Cls21 mg C) : CalE P w S.K mg base (k + 1) "_law_refusal" "_law_e" (spRef S.K C) := by
  refine D.okE sc__law_refusal (fun f cdv A outer s H p cls d Q hz hf hr h => ?_)
  obtain ⟨Dc, i, rfl, rfl, hi, E, q⟩ := h
  have hp : (p.1, p.2) ∈ [p] := List.mem_singleton.mpr rfl
  refine ⟨_, (pss_cons (ps_set (i := 1) sc__law_refusal.nd rfl (Or.inl rfl) (pe_lst (pa_cons (pe_callB (call_isP hp E.ec hz hf) rfl B.isinstance_ (by decide +kernel) (pa_cons (pv 0) (pa_cons (pe_glob (v := .ref _) rfl G.NoBoard rfl) pa_nil))) (pa_cons (pe_callB (call_isP hp E.ec hz hf) rfl B.isinstance_ (by decide +kernel) (pa_cons (pv 0) (pa_cons (pe_glob (v := .ref _) rfl G.NoStand rfl) pa_nil))) (pa_cons (pe_callB (call_isP hp E.ec hz hf) rfl B.isinstance_ (by decide +kernel) (pa_cons (pv 0) (pa_cons (pe_glob (v := .ref _) rfl G.NoMoment rfl) pa_nil))) (pa_cons (pe_callB (call_isP hp E.ec hz hf) rfl B.isinstance_ (by decide +kernel) (pa_cons (pv 0) (pa_cons (pe_glob (v := .ref _) rfl G.NoWheel rfl) pa_nil))) pa_nil))))))
  (pss_cons (ps_set (i := 1) sc__law_refusal.nd rfl (Or.inl rfl) (pe_op op_cat (pv 1) (pe_lst (pa_cons (pe_callB (call_isP hp E.ec hz hf) rfl B.isinstance_ (by decide +kernel) (pa_cons (pv 0) (pa_cons (pe_glob (v := .ref _) rfl G.NotNow rfl) pa_nil))) (pa_cons (pe_callB (call_isP hp E.ec hz hf) rfl B.isinstance_ (by decide +kernel) (pa_cons (pv 0) (pa_cons (pe_glob (v := .ref _) rfl G.NoRow rfl) pa_nil))) (pa_cons (pe_callB (call_isP hp E.ec hz hf) rfl B.isinstance_ (by decide +kernel) (pa_cons (pv 0) (pa_cons (pe_glob (v := .ref _) rfl G.NoDrain rfl) pa_nil))) (pa_cons (pe_callB (call_isP hp E.ec hz hf) rfl B.isinstance_ (by decide +kernel) (pa_cons (pv 0) (pa_cons (pe_glob (v := .ref _) rfl G.NoDrops rfl) pa_nil))) pa_nil)))))))
  (pss_cons (ps_set (i := 1) sc__law_refusal.nd rfl (Or.inl rfl) (pe_op op_cat (pv 1) (pe_lst (pa_cons (pe_callB (call_isP hp E.ec hz hf) rfl B.isinstance_ (by decide +kernel) (pa_cons (pv 0) (pa_cons (pe_glob (v := .ref _) rfl G.NoAgain rfl) pa_nil))) (pa_cons (pe_callB (call_isP hp E.ec hz hf) rfl B.isinstance_ (by decide +kernel) (pa_cons (pv 0) (pa_cons (pe_glob (v := .ref _) rfl G.NoNumber rfl) pa_nil))) (pa_cons (pe_callB (call_isP hp E.ec hz hf) rfl B.isinstance_ (by decide +kernel) (pa_cons (pv 0) (pa_cons (pe_glob (v := .ref _) rfl G.NoLinks rfl) pa_nil))) (pa_cons (pe_callB (call_isP hp E.ec hz hf) rfl B.isinstance_ (by decide +kernel) (pa_cons (pv 0) (pa_cons (pe_glob (v := .ref _) rfl G.NoMouths rfl) pa_nil))) pa_nil)))))))
  (pss_cons (ps_set (i := 1) sc__law_refusal.nd rfl (Or.inl rfl) (pe_op op_cat (pv 1) (pe_lst (pa_cons (pe_callB (call_isP hp E.ec hz hf) rfl B.isinstance_ (by decide +kernel) (pa_cons (pv 0) (pa_cons (pe_glob (v := .ref _) rfl G.NoWord rfl) pa_nil))) (pa_cons (pe_callB (call_isP hp E.ec hz hf) rfl B.isinstance_ (by decide +kernel) (pa_cons (pv 0) (pa_cons (pe_glob (v := .ref _) rfl G.NotAlike rfl) pa_nil))) (pa_cons (pe_callB (call_isP hp E.ec hz hf) rfl B.isinstance_ (by decide +kernel) (pa_cons (pv 0) (pa_cons (pe_glob (v := .ref _) rfl G.NoFault rfl) pa_nil))) (pa_cons (pe_callB (call_isP hp E.ec hz hf) rfl B.isinstance_ (by decide +kernel) (pa_cons (pv 0) (pa_cons (pe_glob (v := .ref _) rfl G.NoSeen rfl) pa_nil))) pa_nil)))))))
  (pss_cons (ps_set (i := 1) sc__law_refusal.nd rfl (Or.inl rfl) (pe_op op_cat (pv 1) (pe_lst (pa_cons (pe_callB (call_isP hp E.ec hz hf) rfl B.isinstance_ (by decide +kernel) (pa_cons (pv 0) (pa_cons (pe_glob (v := .ref _) rfl G.NoHands rfl) pa_nil))) (pa_cons (pe_callB (call_isP hp E.ec hz hf) rfl B.isinstance_ (by decide +kernel) (pa_cons (pv 0) (pa_cons (pe_glob (v := .ref _) rfl G.NoDeed rfl) pa_nil))) (pa_cons (pe_callB (call_isP hp E.ec hz hf) rfl B.isinstance_ (by decide +kernel) (pa_cons (pv 0) (pa_cons (pe_glob (v := .ref _) rfl G.NoLine rfl) pa_nil))) (pa_cons (pe_callB (call_isP hp E.ec hz hf) rfl B.isinstance_ (by decide +kernel) (pa_cons (pv 0) (pa_cons (pe_glob (v := .ref _) rfl G.NoText rfl) pa_nil))) pa_nil)))))))
  (pss_cons (ps_set (i := 2) sc__law_refusal.nd rfl (Or.inl rfl) (pe_lst (pa_cons pe_str (pa_cons pe_str (pa_cons pe_str (pa_cons pe_str (pa_cons pe_str (pa_cons pe_str (pa_cons pe_str (pa_cons pe_str (pa_cons pe_str (pa_cons pe_str (pa_cons pe_str pa_nil)))))))))))))
  (pss_cons (ps_set (i := 2) sc__law_refusal.nd rfl (Or.inl rfl) (pe_op op_cat (pv 2) (pe_lst (pa_cons pe_str (pa_cons pe_str (pa_cons pe_str (pa_cons pe_str (pa_cons pe_str (pa_cons pe_str (pa_cons pe_str (pa_cons pe_str (pa_cons pe_str (pa_cons pe_str pa_nil)))))))))))))
  (pss_cons (ps_expr (pe_bm PySem.F.plainAttrs_list PySem.F.slot_list_append PySem.F.type_list_append mt_append (pv 1) (pa_cons (pe_callB (call_isP hp E.ec hz hf) rfl B.isinstance_ (by decide +kernel) (pa_cons (pv 0) (pa_cons (pe_glob (v := .ref _) rfl G.TooMany rfl) pa_nil))) pa_nil)))
  (pss_cons (ps_if (PW.pt (pw_or (pt_cmpR op_ne (pe_bm PySem.F.plainAttrs_list PySem.F.slot_list_count PySem.F.type_list_count mt_countF (pv 1) (pa_cons pe_bl pa_nil)) pe_int (nomark _)) (pw_or1 (pt_not (pt_val (pe_callB (call_isP hp E.ec hz hf) rfl B.isinstance_ (by decide +kernel) (pa_cons (pv 0) (pa_cons (pe_bltn (v := .ty "ValueError") (u := .type "ValueError") rfl B4.ValueError (by decide +kernel) rfl) pa_nil))))))))
  (pss_one (ps_ret pe_str))
  pss_nil)
  (pss_one (ps_ret (pe_ix ix_list (pv 2) (pe_bm PySem.F.plainAttrs_list PySem.F.slot_list_index PySem.F.type_list_index mt_index (pv 1) (pa_cons pe_bl pa_nil)) (fun _ _ => rfl))))))))))))), ?_⟩
  refine isQ_one E (j := 0) (by decide) rfl (isQ_one E (j := 1) (by decide) rfl (isQ_one E (j := 2) (by decide) rfl (isQ_one E (j := 3) (by decide) rfl ⟨by show 4 ≤ sizeLine; decide, fun L1 n1 => ?_⟩)))
  have s1 : Same H (upd H L1 (.lst [.bl (decide (0 = i)), .bl (decide (1 = i)), .bl (decide (2 = i)), .bl (decide (3 = i))])) := Same.new n1
  have e1 : upd H L1 (.lst [.bl (decide (0 = i)), .bl (decide (1 = i)), .bl (decide (2 = i)), .bl (decide (3 = i))]) L1 = some (.lst ((marks i).take 4)) := upd_same
  generalize upd H L1 (.lst [.bl (decide (0 = i)), .bl (decide (1 = i)), .bl (decide (2 = i)), .bl (decide (3 = i))]) = H1 at s1 e1 ⊢
  refine catQ4 (m := 4) E (by decide) rfl rfl e1 fun L2 H2 s2 e2 _ => ?_
  refine catQ4 (m := 8) E (by decide) rfl rfl e2 fun L3 H3 s3 e3 _ => ?_
  refine catQ4 (m := 12) E (by decide) rfl rfl e3 fun L4 H4 s4 e4 _ => ?_
  refine catQ4 (m := 16) E (by decide) rfl rfl e4 fun L5 H5 s5 e5 n5 => ?_
  have s05 : Same H H5 := s1.trans (s2.trans (s3.trans (s4.trans s5)))
  have n05 : H L5 = none := by
    cases e : H L5 with
    | none => rfl
    | some o => rw [(s1.trans (s2.trans (s3.trans s4))) _ _ e] at n5; cases n5
  -- the words
  refine ⟨by show 11 ≤ sizeLine; decide, fun W1 m1 => ?_⟩
  refine ⟨.ref W1, rfl, by show 10 ≤ sizeLine; decide, fun W2 m2 => ?_⟩
  refine ⟨W1, W2, _, _, rfl, rfl, Same.new m2 _ _ upd_same, upd_same, by show 21 ≤ sizeLine; decide, fun W3 m3 => ?_⟩
  generalize hE : upd (upd (upd H5 W1 _) W2 _) W3 _ = H9
  have s9 : Same H5 H9 := by
    rw [← hE]
    exact (Same.new m1).trans ((Same.new m2).trans (Same.new m3))
  have ew : H9 W3 = some (.lst words21) := by
    rw [← hE]
    exact upd_same
  have w5 : W3 ≠ L5 := by
    rintro rfl
    have h1 := (s9 _ _ e5).symm.trans ew
    injection h1 with h1
    injection h1 with h1
    have h2 : ((marks i).take (16 + 4)).head? = some (V.bl (decide (0 = i))) := rfl
    rw [h1] at h2
    cases h2
  clear hE
  have em := s9 _ _ e5
  refine ⟨.ref L5, rfl, .inl ⟨rfl, _, SqL.of em⟩, isQ_one E (j := 20) (by decide) rfl ⟨L5, _, _, rfl, rfl, em, ?_, ?_⟩⟩
  · rw [List.length_take]
    have : min 20 (marks i).length ≤ 20 := Nat.min_le_left ..
    exact small1000 (by omega)
  have e6 : upd H9 L5 (.lst ((marks i).take 20 ++ [.bl (decide (20 = i))])) L5 = some (.lst (marks i)) := by
    rw [upd_same, ← marksQ_take (by decide)]
    rfl
  have ew6 : upd H9 L5 (.lst ((marks i).take 20 ++ [.bl (decide (20 = i))])) W3 = some (.lst words21) := by
    rw [upd_ne w5]
    exact ew
  have s06 : Same H (upd H9 L5 (.lst ((marks i).take 20 ++ [.bl (decide (20 = i))]))) := fun b o e => by
    rw [upd_ne (ne_of_none e n05)]
    exact (s05.trans s9) _ _ e
  generalize upd H9 L5 (.lst ((marks i).take 20 ++ [.bl (decide (20 = i))])) = H6 at e6 ew6 s06 ⊢
  -- count, ValueError
  refine ⟨.ref L5, rfl, .inl ⟨rfl, _, SqL.of e6⟩, L5, marks i, .bl true, rfl, rfl, SqL.of e6, rfl, marks_flat i, rfl, _, rfl, ?_⟩
  rw [marks_one i (by omega)]
  refine iteF ⟨.ref p.1, rfl, .ty "ValueError", .type "ValueError", _, rfl, fun u r => r, E.ve, _, rfl, iteF ?_⟩
  refine ⟨.ref W3, rfl, .ref L5, rfl, .inl ⟨rfl, _, SqL.of e6⟩, L5, marks i, .bl true, i, .bl true, rfl, rfl, SqL.of e6, rfl, marks_flat i, marks_at (by omega), rfl, fun m z hm e => marks_no hm e, W3, words21, (i : Int), _, rfl, rfl, SqL.of ew6, atI_nat (words_at i (by omega)), ?_⟩
  exact q _ s06
theorem pe__law_came {X : Cx} {T : List (Addr × Str)} {c Pt CM : Addr} {k : Nat} {C : Nat → Addr} {params : Arguments} {body : Expr} {scope : Scope} {t : XK → TE} {p lpos pos : Pos} (D : HX.Def X.K X.mg "_law_came" s__law_came ["_law_call"]) (cw : CalE X.prog X.w X.K X.mg X.base k "_law_refusal" "_law_e" (spRef X.K C)) (G : Cls21 X.mg C) (B : Bi X.mg) (xm : XMany X.K C CM) 
    (hM : X.mg "MarbleError" = some (.ref CM)) (TB : LamX.TabB X.base X.mg c Pt) (hcode : X.env.code = .ref c) (hmT : (Pt, X.env.qual ++ "<lambda>") ∈ T) (hu : ∀ p ∈ T, p.1 = Pt → p.2 = X.env.qual ++ "<lambda>") (hr : Room (k + 2) X.A) (hg : Gl X "_law_came") (L : LamX.LamS X.env.scope scope) (hdef : defaultsOf params X.env = ([], []))
    (hbind : ∀ (q : Str) (cl : List (Str × Addr)) (pm cv ctv : Value), bindArgs (PySem.W.kla_fn "<lambda>" q params body scope cl pm cv ctv) ⟨[], []⟩ = pure [])
    (hbody : ∀ (A : Around) (outer : List Env) (s : Shared) (H : Hp) (E : XK) (f c' : Addr), Room k (A.deeper (LamX.lamEnv X scope s.heap.objs.size f c')) → PE (LamX.lamCx X A outer s H E scope f c') body (t E)) :
    PE X (.Call (.Name "_law_came" p) [.Lambda params body scope lpos] [] pos) (LamX.tLam T (TSaidF X.K CM "told" (spWordM X.K C)) t) := by
  obtain ⟨g, fd, F, hm, hb⟩ := D
  obtain ⟨oc, od, kV, doc, pm, an, cdv, ct, osl, rfl, lk, hcd⟩ := F.ex
  exact LamX.pe_lamcall hg hm F.kp lk hcd hb sc__law_came rfl (.inl rfl) (said_givesH (X := X) (a := "_law_call") (n := "_law_e") (e := "MarbleError") (k := k) (hr.mono (by omega)) rfl hM (by decide) rfl (fun Y ea oe cls d pn e1 e2 e3 e4 e5 e6 e7 hrm hz hf => pe_cameM (a := "_law_call") (n := "_law_e") (wd := "_law_refusal") cw xm B.isinstance_ G.TooMany e1 e2 e3 e4 e5 e6 e7 hrm rfl rfl rfl rfl hz hf)) TB hcode hmT hu hr L hdef hbind hbody
theorem ok__law_pen (T : HX.Def S.K mg "_law_pen" s__law_pen ["_law_cell"]) (B : Bi mg) : CalQ S P w mg base (k + 1) "_law_pen" ["_law_cell"] m_law_pen_579b16 :=
  (Def.okQ T sc__law_pen (fun f cdv A outer s H E hr tk hp =>
  (qss_one (qs_ret (qe_new (qa_cons (qe_callB (S := S) (call_max2 rfl) cq_max2 rfl B.max_ (by decide +kernel) (qa_cons qe_int (qa_cons (qe_bin (S := S) op_sub oq_sub (qe_var (pv 0)) (qe_bin (S := S) op_pow oq_pow qe_int qe_int)) qa_nil))) (qa_cons (qe_bin (S := S) op_mod oq_mod (qe_var (pv 0)) qe_int) (qa_cons qe_int qa_nil))))))))
theorem ok__law_no_boards (T : HX.Def S.K mg "_law_no_boards" s__law_no_boards ["_law_board"]) (B : Bi mg) : CalQ S P w mg base (k + 1) "_law_no_boards" ["_law_board"] m_law_no_boards_761223 :=
  CalQ.trim (Def.okQ T sc__law_no_boards (fun f cdv A outer s H E hr tk hp =>
  (qss_cons (qs_asg (t := (.tup [1, 2])) (qe_var (pv 0)) (pg_tup rfl (pgs_cons (pg_name (i := 1) sc__law_no_boards.nd rfl (Or.inl rfl)) (pgs_cons (pg_name (i := 2) sc__law_no_boards.nd rfl (Or.inl rfl)) pgs_nil))))
  (qss_cons (qs_set (i := 3) sc__law_no_boards.nd rfl (Or.inl rfl) (qe_lst (qa_cons qe_non (qa_cons (qe_tup qa_nil) (qa_cons (qe_callTy (S := S) call_listA cq_list rfl B.list_ (by decide +kernel) (qa_cons (qe_var (pv 0)) qa_nil)) (qa_cons (qe_sl rfl (qe_var (pv 0)) qo_none (qo_some qe_int)) (qa_cons (qe_bin (S := S) op_addA oq_add (qe_var (pv 0)) (qe_tup (qa_cons qe_int qa_nil))) (qa_cons (qe_tup (qa_cons (qe_tup qa_nil) (qa_cons (qe_var (pv 2)) qa_nil))) (qa_cons (qe_tup (qa_cons (qe_callTy (S := S) call_listA cq_list rfl B.list_ (by decide +kernel) (qa_cons (qe_var (pv 1)) qa_nil)) (qa_cons (qe_var (pv 2)) qa_nil))) (qa_cons (qe_tup (qa_cons (qe_var (pv 1)) (qa_cons qe_int qa_nil))) qa_nil))))))))))
  (qss_cons (qs_set (i := 3) sc__law_no_boards.nd rfl (Or.inl rfl) (qe_bin (S := S) op_addA oq_add (qe_var (pv 3)) (qe_lst (qa_cons (qe_tup (qa_cons (qe_var (pv 1)) (qa_cons (qe_neg qe_int) qa_nil))) (qa_cons (qe_tup (qa_cons (qe_var (pv 1)) (qa_cons qe_bl qa_nil))) (qa_cons (qe_tup (qa_cons (qe_bin (S := S) op_mulA oq_mul (qe_var (pv 1)) qe_int) (qa_cons (qe_var (pv 2)) qa_nil))) (qa_cons (qe_tup (qa_cons (qe_bin (S := S) op_addA oq_add (qe_sl rfl (qe_var (pv 1)) qo_none (qo_some (qe_neg qe_int))) (qe_tup (qa_cons (qe_tup qa_nil) qa_nil))) (qa_cons (qe_var (pv 2)) qa_nil))) (qa_cons qe_str (qa_cons qe_dct0 (qa_cons qe_int qa_nil))))))))))
  (qss_cons (qs_set (i := 4) sc__law_no_boards.nd rfl (Or.inl rfl) (qe_bin (S := S) op_addA oq_add (qe_callB (S := S) call_lenA cq_len rfl B.len_ (by decide +kernel) (qa_cons (qe_var (pv 1)) qa_nil)) (qe_var (pv 2))))
  (qss_cons (qs_set (i := 3) sc__law_no_boards.nd rfl (Or.inl rfl) (qe_bin (S := S) op_addA oq_add (qe_var (pv 3)) (qe_lst (qa_cons (qe_tup (qa_cons (qe_bin (S := S) op_addA oq_add (qe_sl rfl (qe_var (pv 1)) qo_none (qo_some (qe_neg qe_int))) (qe_tup (qa_cons (qe_tup (qa_cons (qe_tup (qa_cons (qe_var (pv 4)) qa_nil)) qa_nil)) qa_nil))) (qa_cons (qe_var (pv 2)) qa_nil))) (qa_cons (qe_tup (qa_cons (qe_bin (S := S) op_addA oq_add (qe_sl rfl (qe_var (pv 1)) qo_none (qo_some (qe_neg qe_int))) (qe_tup (qa_cons (qe_tup (qa_cons (qe_bin (S := S) op_mulA oq_mul (qe_tup (qa_cons qe_int qa_nil)) qe_int) qa_nil)) qa_nil))) (qa_cons (qe_var (pv 2)) qa_nil))) qa_nil)))))
  (qss_one (qs_ret (qe_bin (S := S) op_addA oq_add (qe_var (pv 3)) (qe_lst (qa_cons (qe_tup (qa_cons (qe_bin (S := S) op_addA oq_add (qe_sl rfl (qe_var (pv 1)) qo_none (qo_some (qe_neg qe_int))) (qe_tup (qa_cons (qe_bin (S := S) op_mulA oq_mul (qe_tup (qa_cons (qe_tup qa_nil) qa_nil)) qe_int) qa_nil))) (qa_cons (qe_var (pv 2)) qa_nil))) (qa_cons (qe_tup (qa_cons (qe_bin (S := S) op_addA oq_add (qe_sl rfl (qe_var (pv 1)) qo_none (qo_some (qe_neg qe_int))) (qe_tup (qa_cons (qe_tup (qa_cons (qe_tup (qa_cons qe_bl qa_nil)) qa_nil)) qa_nil))) (qa_cons (qe_var (pv 2)) qa_nil))) qa_nil)))))))))))))
theorem ok__law_cell_at (T : HX.Def S.K mg "_law_cell_at" s__law_cell_at ["_law_script", "_law_k"]) (B : Bi mg) : CalQ S P w mg base (k + 1) "_law_cell_at" ["_law_script", "_law_k"] m_law_cell_at_e50a56 :=
  CalQ.trim (Def.okQ T sc__law_cell_at (fun f cdv A outer s H E hr tk hp =>
  (qss_cons (qs_if (qt_cmp (S := S) op_lt (oq_cmp cLt) (qe_var (pv 1)) (qe_callB (S := S) call_lenA cq_len rfl B.len_ (by decide +kernel) (qa_cons (qe_var (pv 0)) qa_nil)) (nomark _))
  (qss_one (qs_ret (qe_ix rfl (qe_var (pv 0)) (qe_var (pv 1)))))
  qss_nil)
  (qss_one (qs_ret qe_int)))))
theorem ok__law_draw (T : HX.Def S.K mg "_law_draw" s__law_draw ["_law_pen_here", "_law_many"])  : CalQ S P w mg base (k + 1) "_law_draw" ["_law_pen_here", "_law_many"] m_law_draw_321cf4 :=
  CalQ.trim (Def.okQ T sc__law_draw (fun f cdv A outer s H E hr tk hp =>
  (qss_cons (qs_if (qt_cmp (S := S) op_gt (oq_cmp cGt) (qe_ix rfl (qe_var (pv 0)) qe_int) qe_int (nomark _))
  (qss_cons (qs_set (i := 2) sc__law_draw.nd rfl (Or.inl rfl) (qe_bin (S := S) op_mod oq_mod (qe_ix rfl (qe_var (pv 0)) qe_int) (qe_var (pv 1))))
  (qss_cons (qs_setIx (qe_var (pv 0)) qe_int (qe_bin (S := S) op_fdivW oq_fdiv (qe_ix rfl (qe_var (pv 0)) qe_int) (qe_var (pv 1))))
  (qss_one (qs_ret (qe_var (pv 2))))))
  qss_nil)
  (qss_cons (qs_setIx (qe_var (pv 0)) qe_int (qe_bin (S := S) op_addA oq_add (qe_ix rfl (qe_var (pv 0)) qe_int) qe_int))
  (qss_cons (qs_set (i := 3) sc__law_draw.nd rfl (Or.inl rfl) (qe_bin (S := S) op_mod oq_mod (qe_bin (S := S) op_mulA oq_mul (qe_bin (S := S) op_addA oq_add (qe_ix rfl (qe_var (pv 0)) qe_int) (qe_bin (S := S) op_mulA oq_mul qe_int (qe_ix rfl (qe_var (pv 0)) qe_int))) (qe_bin (S := S) op_addA oq_add qe_int (qe_bin (S := S) op_mulA oq_mul qe_int (qe_ix rfl (qe_var (pv 0)) qe_int)))) qe_int))
  (qss_cons (qs_set (i := 3) sc__law_draw.nd rfl (Or.inl rfl) (qe_bin (S := S) op_mod oq_mod (qe_bin (S := S) op_addA oq_add (qe_bin (S := S) op_addA oq_add (qe_bin (S := S) op_mulA oq_mul (qe_var (pv 3)) (qe_var (pv 3))) (qe_bin (S := S) op_mulA oq_mul qe_int (qe_ix rfl (qe_var (pv 0)) qe_int))) qe_int) qe_int))
  (qss_one (qs_ret (qe_bin (S := S) op_mod oq_mod (qe_bin (S := S) op_fdivW oq_fdiv (qe_bin (S := S) op_mod oq_mod (qe_bin (S := S) op_mulA oq_mul (qe_var (pv 3)) qe_int) qe_int) qe_int) (qe_var (pv 1)))))))))))
theorem ok__law_any_board (T : HX.Def S.K mg "_law_any_board" s__law_any_board ["_law_pen_here", "_law_most", "_law_cups"]) (B : Bi mg) (c__law_draw : CalQ S P w mg base k "_law_draw" ["_law_pen_here", "_law_many"] m_law_draw_321cf4) : CalQ S P w mg base (k + 1) "_law_any_board" ["_law_pen_here", "_law_most", "_law_cups"] m_law_any_board_7df546 :=
  CalQ.trim (Def.okQ T sc__law_any_board (fun f cdv A outer s H E hr tk hp =>
  (qss_cons (qs_asg (t := (.tup [3, 2])) (qe_tup (qa_cons (qe_bin (S := S) op_addA oq_add qe_int (qe_call tk rfl c__law_draw hr rfl (qa_cons (qe_var (pv 0)) (qa_cons (qe_var (pv 1)) qa_nil)) (len_cons (len_cons len_nil)))) (qa_cons (qe_call tk rfl c__law_draw hr rfl (qa_cons (qe_var (pv 0)) (qa_cons (qe_bin (S := S) op_addA oq_add (qe_var (pv 2)) qe_int) qa_nil)) (len_cons (len_cons len_nil))) qa_nil))) (pg_tup rfl (pgs_cons (pg_name (i := 3) sc__law_any_board.nd rfl (Or.inr rfl)) (pgs_cons (pg_name (i := 2) sc__law_any_board.nd rfl (Or.inr rfl)) pgs_nil))))
  (qss_cons (qs_set (i := 4) sc__law_any_board.nd rfl (Or.inl rfl) (qe_new qa_nil))
  (qss_cons (qs_for (t := (.name 5)) hp rfl (qi_range1 rfl B.range_ (qa_cons (qe_var (pv 3)) qa_nil)) (pg_name (i := 5) sc__law_any_board.nd rfl (Or.inl rfl))
  (qss_cons (qs_set (i := 6) sc__law_any_board.nd rfl (Or.inl rfl) (qe_new qa_nil))
  (qss_cons (qs_for (t := (.name 7)) hp rfl (qi_range1 rfl B.range_ (qa_cons (qe_bin (S := S) op_addA oq_add qe_int (qe_call tk rfl c__law_draw hr rfl (qa_cons (qe_var (pv 0)) (qa_cons qe_int qa_nil)) (len_cons (len_cons len_nil)))) qa_nil)) (pg_name (i := 7) sc__law_any_board.nd rfl (Or.inl rfl))
  (qss_cons (qs_setLc (i := 8) (own := [("_law_lap", 9)]) (t := (.name 9)) rfl sc__law_any_board.nd rfl rfl (sw_true rfl rfl rfl (by decide +kernel)) (qi_range1 rfl B.range_ (qa_cons (qe_ix rfl (qe_lst (qa_cons qe_int (qa_cons qe_int (qa_cons qe_int (qa_cons qe_int (qa_cons qe_int qa_nil)))))) (qe_call tk rfl c__law_draw hr rfl (qa_cons (qe_var (pv 0)) (qa_cons qe_int qa_nil)) (len_cons (len_cons len_nil)))) qa_nil)) (blkOk_by (N := ["_law_pen_here", "_law_most", "_law_cups", "_law_many", "_law_wheels", "_law_number", "_law_steps", "_law_turn", "_law_ends", "_law_lap", "_law_end"]) (sc := (defScope s__law_any_board)) (by decide +kernel)) (fun _ _ _ _ _ => (pg_name (i := 9) sc__law_any_board.nd rfl (Or.inl rfl))) (fun _ _ _ _ _ => qts_nil) (fun _ _ _ _ _ => (qe_call LamX.takes0 rfl c__law_draw hr rfl (qa_cons (qe_var (pv 0)) (qa_cons (qe_bin (S := S) op_addA oq_add (qe_var (pv 3)) (qe_var (pv 2))) qa_nil)) (len_cons (len_cons len_nil)))))
  (qss_one (qs_expr (qe_bm (S := S) rfl PySem.F.plainAttrs_list PySem.F.slot_list_append PySem.F.type_list_append mt_append mq_append (qe_var (pv 6)) (qa_cons (qe_callTy (S := S) call_tupleA cq_tuple rfl B.tuple_ (by decide +kernel) (qa_cons (qe_lc (own := [("_law_end", 10)]) (t := (.name 10)) rfl sc__law_any_board.nd (qi_seq rfl (qe_var (pv 8))) (blkOk_by (N := ["_law_pen_here", "_law_most", "_law_cups", "_law_many", "_law_wheels", "_law_number", "_law_steps", "_law_turn", "_law_ends", "_law_lap", "_law_end"]) (sc := (defScope s__law_any_board)) (by decide +kernel)) (fun _ _ _ _ _ => (pg_name (i := 10) sc__law_any_board.nd rfl (Or.inl rfl))) (fun _ _ _ _ _ => qts_nil) (fun _ _ _ _ _ => (qe_if (qt_pw (qw_and (qt_cmp (S := S) op_gt (oq_cmp cGt) (qe_var (pv 2)) qe_int (nomark _)) (qw_and1 (qt_cmp (S := S) (op_eqD (hu64 hr)) oq_eq (qe_call LamX.takes0 rfl c__law_draw hr rfl (qa_cons (qe_var (pv 0)) (qa_cons qe_int qa_nil)) (len_cons (len_cons len_nil))) qe_int (nomark _))))) (qe_bin (S := S) op_addA oq_add (qe_var (pv 3)) (qe_bin (S := S) op_mod oq_mod (qe_var (pv 10)) (qe_var (pv 2)))) (qe_var (pv 10))))) qa_nil)) qa_nil))))))
  (qss_one (qs_expr (qe_bm (S := S) rfl PySem.F.plainAttrs_list PySem.F.slot_list_append PySem.F.type_list_append mt_append mq_append (qe_var (pv 4)) (qa_cons (qe_callTy (S := S) call_tupleA cq_tuple rfl B.tuple_ (by decide +kernel) (qa_cons (qe_var (pv 6)) qa_nil)) qa_nil)))))))
  (qss_one (qs_ret (qe_tup (qa_cons (qe_callTy (S := S) call_tupleA cq_tuple rfl B.tuple_ (by decide +kernel) (qa_cons (qe_var (pv 4)) qa_nil)) (qa_cons (qe_var (pv 2)) qa_nil))))))))))
theorem ok_has_parts (T : HX.Def S.K mg "has_parts" s_has_parts ["thing", "least", "most"]) (B : Bi mg) : CalQ S P w mg base (k + 1) "has_parts" ["thing", "least", "most"] m_has_parts :=
  CalQ.trim (Def.okQ T sc_has_parts (fun f cdv A outer s H E hr tk hp =>
  (qss_one (qs_ret (qe_and (qe_callB (S := S) call_isi (cq_isi .tuple (by decide)) rfl B.isinstance_ (by decide +kernel) (qa_cons (qe_var (pv 0)) (qa_cons (qe_adr (pe_bltn (v := .ty "tuple") (u := .type "tuple") rfl B.tuple_ (by decide +kernel) rfl)) qa_nil))) (qe_one (qe_chain op_le op_le (flat_cmp cLe) (oq_cmp cLe) (oq_cmp cLe) (qe_var (pv 1)) (qe_callB (S := S) call_lenA cq_len rfl B.len_ (by decide +kernel) (qa_cons (qe_var (pv 0)) qa_nil)) (qe_var (pv 2)))))))))
theorem ok_is_whole (T : HX.Def S.K mg "is_whole" s_is_whole ["thing"]) (B : Bi mg) : CalQ S P w mg base (k + 1) "is_whole" ["thing"] m_is_whole :=
  CalQ.trim (Def.okQ T sc_is_whole (fun f cdv A outer s H E hr tk hp =>
  (qss_one (qs_ret (qe_and (qe_callB (S := S) call_isi (cq_isi .int (by decide)) rfl B.isinstance_ (by decide +kernel) (qa_cons (qe_var (pv 0)) (qa_cons (qe_adr (pe_bltn (v := .ty "int") (u := .type "int") rfl B.int_ (by decide +kernel) rfl)) qa_nil))) (qe_one (qe_not (qe_callB (S := S) call_isi (cq_isi .bool (by decide)) rfl B.isinstance_ (by decide +kernel) (qa_cons (qe_var (pv 0)) (qa_cons (qe_adr (pe_bltn (v := .ty "bool") (u := .type "bool") rfl B.bool_ (by decide +kernel) rfl)) qa_nil))))))))))
theorem ok_is_within (T : HX.Def S.K mg "is_within" s_is_within ["thing", "least", "most"]) (c_is_whole : CalQ S P w mg base k "is_whole" ["thing"] m_is_whole) : CalQ S P w mg base (k + 1) "is_within" ["thing", "least", "most"] m_is_within :=
  CalQ.trim (Def.okQ T sc_is_within (fun f cdv A outer s H E hr tk hp =>
  (qss_one (qs_ret (qe_and (qe_call tk rfl c_is_whole hr rfl (qa_cons (qe_var (pv 0)) qa_nil) (len_cons len_nil)) (qe_one (qe_chain op_le op_le (flat_cmp cLe) (oq_cmp cLe) (oq_cmp cLe) (qe_var (pv 1)) (qe_var (pv 0)) (qe_var (pv 2)))))))))
theorem ok_is_step {t_MOST_ENDS : Tok} (T : HX.Def S.K mg "is_step" s_is_step ["thing", "ends"]) (B : Bi mg) (g_MOST_ENDS : mg "MOST_ENDS" = some (.int 3 t_MOST_ENDS)) (c_is_within : CalQ S P w mg base k "is_within" ["thing", "least", "most"] m_is_within) (c_has_parts : CalQ S P w mg base k "has_parts" ["thing", "least", "most"] m_has_parts) : CalQ S P w mg base (k + 1) "is_step" ["thing", "ends"] m_is_step :=
  CalQ.trim (Def.okQ T sc_is_step (fun f cdv A outer s H E hr tk hp =>
  (qss_one (qs_ret (qe_and (qe_call tk rfl c_has_parts hr rfl (qa_cons (qe_var (pv 0)) (qa_cons qe_int (qa_cons (qe_gint (x := "MOST_ENDS") (pe_gint rfl g_MOST_ENDS)) qa_nil))) (len_cons (len_cons (len_cons len_nil)))) (qe_one (qe_callB (S := S) (cr_all rfl) cq_all rfl B.all_ (by decide +kernel) (qa_cons (qe_lc (own := [("end", 2)]) (t := (.name 2)) rfl sc_is_step.nd (qi_seq rfl (qe_var (pv 0))) (blkOk_by (N := ["thing", "ends", "end"]) (sc := (defScope s_is_step)) (by decide +kernel)) (fun _ _ _ _ _ => (pg_name (i := 2) sc_is_step.nd rfl (Or.inl rfl))) (fun _ _ _ _ _ => qts_nil) (fun _ _ _ _ _ => (qe_call LamX.takes0 rfl c_is_within hr rfl (qa_cons (qe_var (pv 2)) (qa_cons qe_int (qa_cons (qe_bin (S := S) op_sub oq_sub (qe_var (pv 1)) qe_int) qa_nil))) (len_cons (len_cons (len_cons len_nil)))))) qa_nil))))))))
theorem ok_is_wheel {t_MOST_STEPS : Tok} (T : HX.Def S.K mg "is_wheel" s_is_wheel ["thing", "ends"]) (B : Bi mg) (g_MOST_STEPS : mg "MOST_STEPS" = some (.int 4 t_MOST_STEPS)) (c_is_step : CalQ S P w mg base k "is_step" ["thing", "ends"] m_is_step) (c_has_parts : CalQ S P w mg base k "has_parts" ["thing", "least", "most"] m_has_parts) : CalQ S P w mg base (k + 1) "is_wheel" ["thing", "ends"] m_is_wheel :=
  CalQ.trim (Def.okQ T sc_is_wheel (fun f cdv A outer s H E hr tk hp =>
  (qss_one (qs_ret (qe_and (qe_call tk rfl c_has_parts hr rfl (qa_cons (qe_var (pv 0)) (qa_cons qe_int (qa_cons (qe_gint (x := "MOST_STEPS") (pe_gint rfl g_MOST_STEPS)) qa_nil))) (len_cons (len_cons (len_cons len_nil)))) (qe_one (qe_callB (S := S) (cr_all rfl) cq_all rfl B.all_ (by decide +kernel) (qa_cons (qe_lc (own := [("step", 2)]) (t := (.name 2)) rfl sc_is_wheel.nd (qi_seq rfl (qe_var (pv 0))) (blkOk_by (N := ["thing", "ends", "step"]) (sc := (defScope s_is_wheel)) (by decide +kernel)) (fun _ _ _ _ _ => (pg_name (i := 2) sc_is_wheel.nd rfl (Or.inl rfl))) (fun _ _ _ _ _ => qts_nil) (fun _ _ _ _ _ => (qe_call LamX.takes0 rfl c_is_step hr rfl (qa_cons (qe_var (pv 2)) (qa_cons (qe_var (pv 1)) qa_nil)) (len_cons (len_cons len_nil))))) qa_nil))))))))
theorem ok_is_board {t_MOST_CUPS : Tok} {t_MOST_WHEELS : Tok} (T : HX.Def S.K mg "is_board" s_is_board ["thing"]) (B : Bi mg) (g_MOST_CUPS : mg "MOST_CUPS" = some (.int 4 t_MOST_CUPS)) (g_MOST_WHEELS : mg "MOST_WHEELS" = some (.int 6 t_MOST_WHEELS)) (c_is_wheel : CalQ S P w mg base k "is_wheel" ["thing", "ends"] m_is_wheel) (c_is_within : CalQ S P w mg base k "is_within" ["thing", "least", "most"] m_is_within) (c_has_parts : CalQ S P w mg base k "has_parts" ["thing", "least", "most"] m_has_parts) : CalQ S P w mg base (k + 1) "is_board" ["thing"] m_is_board :=
  CalQ.trim (Def.okQ T sc_is_board (fun f cdv A outer s H E hr tk hp =>
  (qss_cons (qs_if (qt_not (qt_val (qe_call tk rfl c_has_parts hr rfl (qa_cons (qe_var (pv 0)) (qa_cons qe_int (qa_cons qe_int qa_nil))) (len_cons (len_cons (len_cons len_nil))))))
  (qss_one (qs_ret qe_bl))
  qss_nil)
  (qss_cons (qs_asg (t := (.tup [1, 2])) (qe_var (pv 0)) (pg_tup rfl (pgs_cons (pg_name (i := 1) sc_is_board.nd rfl (Or.inl rfl)) (pgs_cons (pg_name (i := 2) sc_is_board.nd rfl (Or.inl rfl)) pgs_nil))))
  (qss_cons (qs_if (qt_pw (qw_or (qt_not (qt_val (qe_call tk rfl c_has_parts hr rfl (qa_cons (qe_var (pv 1)) (qa_cons qe_int (qa_cons (qe_gint (x := "MOST_WHEELS") (pe_gint rfl g_MOST_WHEELS)) qa_nil))) (len_cons (len_cons (len_cons len_nil)))))) (qw_or1 (qt_not (qt_val (qe_call tk rfl c_is_within hr rfl (qa_cons (qe_var (pv 2)) (qa_cons qe_int (qa_cons (qe_gint (x := "MOST_CUPS") (pe_gint rfl g_MOST_CUPS)) qa_nil))) (len_cons (len_cons (len_cons len_nil)))))))))
  (qss_one (qs_ret qe_bl))
  qss_nil)
  (qss_cons (qs_set (i := 3) sc_is_board.nd rfl (Or.inr rfl) (qe_bin (S := S) op_addA oq_add (qe_callB (S := S) call_lenA cq_len rfl B.len_ (by decide +kernel) (qa_cons (qe_var (pv 1)) qa_nil)) (qe_var (pv 2))))
  (qss_one (qs_ret (qe_callB (S := S) (cr_all rfl) cq_all rfl B.all_ (by decide +kernel) (qa_cons (qe_lc (own := [("wheel", 4)]) (t := (.name 4)) rfl sc_is_board.nd (qi_seq rfl (qe_var (pv 1))) (blkOk_by (N := ["thing", "wheels", "cups", "ends", "wheel"]) (sc := (defScope s_is_board)) (by decide +kernel)) (fun _ _ _ _ _ => (pg_name (i := 4) sc_is_board.nd rfl (Or.inl rfl))) (fun _ _ _ _ _ => qts_nil) (fun _ _ _ _ _ => (qe_call LamX.takes0 rfl c_is_wheel hr rfl (qa_cons (qe_var (pv 4)) (qa_cons (qe_var (pv 3)) qa_nil)) (len_cons (len_cons len_nil))))) qa_nil))))))))))
theorem ok_need_board (T : HX.Def S.K mg "need_board" s_need_board ["thing"]) (R_NoBoard : Err S.K mg "NoBoard" (S.C 0)) (c_is_board : CalQ S P w mg base k "is_board" ["thing"] m_is_board) : CalQ S P w mg base (k + 1) "need_board" ["thing"] m_need_board :=
  CalQ.trim (Def.okQ T sc_need_board (fun f cdv A outer s H E hr tk hp =>
  (qss_one (qs_if (qt_not (qt_val (qe_call tk rfl c_is_board hr rfl (qa_cons (qe_var (pv 0)) qa_nil) (len_cons len_nil))))
  (qss_one (qs_err (n := 0) R_NoBoard tk))
  qss_nil))))
theorem ok_need_few (T : HX.Def S.K mg "need_few" s_need_few ["many", "most"]) (TM : TooC P S.K mg (S.C 20)) : CalQ S P w mg base (k + 1) "need_few" ["many", "most"] m_need_few_1d32a9 :=
  CalQ.trim (Def.okQ T sc_need_few (fun f cdv A outer s H E hr tk hp =>
  (qss_one (qs_if (qt_cmp (S := S) op_gt (oq_cmp cGt) (qe_var (pv 0)) (qe_var (pv 1)) (nomark _))
  (qss_one (qs_too TM rfl hr tk (qa_cons (qe_var (pv 0)) (qa_cons (qe_var (pv 1)) qa_nil))))
  qss_nil))))
theorem ok_renumbered (T : HX.Def S.K mg "renumbered" s_renumbered ["wheels", "numbers"]) (B : Bi mg) : CalQ S P w mg base (k + 1) "renumbered" ["wheels", "numbers"] m_renumbered :=
  CalQ.trim (Def.okQ T sc_renumbered (fun f cdv A outer s H E hr tk hp =>
  (qss_one (qs_ret (qe_callTy (S := S) call_tupleA cq_tuple rfl B.tuple_ (by decide +kernel) (qa_cons (qe_lc (own := [("steps", 2)]) (t := (.name 2)) rfl sc_renumbered.nd (qi_seq rfl (qe_var (pv 0))) (blkOk_by (N := ["wheels", "numbers", "steps", "step", "end"]) (sc := (defScope s_renumbered)) (by decide +kernel)) (fun _ _ _ _ _ => (pg_name (i := 2) sc_renumbered.nd rfl (Or.inl rfl))) (fun _ _ _ _ _ => qts_nil) (fun _ _ _ _ _ => (qe_callTy (S := S) call_tupleA cq_tuple rfl B.tuple_ (by decide +kernel) (qa_cons (qe_lc (own := [("step", 3)]) (t := (.name 3)) rfl sc_renumbered.nd (qi_seq rfl (qe_var (pv 2))) (blkOk_by (N := ["wheels", "numbers", "steps", "step", "end"]) (sc := (relabelS (lcAt (defBody s_renumbered) [0] [0, 1]) (defScope s_renumbered))) (by decide +kernel)) (fun _ _ _ _ _ => (pg_name (i := 3) sc_renumbered.nd rfl (Or.inl rfl))) (fun _ _ _ _ _ => qts_nil) (fun _ _ _ _ _ => (qe_callTy (S := S) call_tupleA cq_tuple rfl B.tuple_ (by decide +kernel) (qa_cons (qe_lc (own := [("end", 4)]) (t := (.name 4)) rfl sc_renumbered.nd (qi_seq rfl (qe_var (pv 3))) (blkOk_by (N := ["wheels", "numbers", "steps", "step", "end"]) (sc := (relabelS (lcAt (defBody s_renumbered) [0] [0, 1, 0, 1]) (relabelS (lcAt (defBody s_renumbered) [0] [0, 1]) (defScope s_renumbered)))) (by decide +kernel)) (fun _ _ _ _ _ => (pg_name (i := 4) sc_renumbered.nd rfl (Or.inl rfl))) (fun _ _ _ _ _ => qts_nil) (fun _ _ _ _ _ => (qe_ix rfl (qe_var (pv 1)) (qe_var (pv 4))))) qa_nil)))) qa_nil)))) qa_nil))))))
theorem ok_is_wheel_number (T : HX.Def S.K mg "is_wheel_number" s_is_wheel_number ["board", "thing"]) (B : Bi mg) (c_is_within : CalQ S P w mg base k "is_within" ["thing", "least", "most"] m_is_within) : CalQ S P w mg base (k + 1) "is_wheel_number" ["board", "thing"] m_is_wheel_number :=
  CalQ.trim (Def.okQ T sc_is_wheel_number (fun f cdv A outer s H E hr tk hp =>
  (qss_one (qs_ret (qe_call tk rfl c_is_within hr rfl (qa_cons (qe_var (pv 1)) (qa_cons qe_int (qa_cons (qe_bin (S := S) op_sub oq_sub (qe_callB (S := S) call_lenA cq_len rfl B.len_ (by decide +kernel) (qa_cons (qe_ix rfl (qe_var (pv 0)) qe_int) qa_nil)) qe_int) qa_nil))) (len_cons (len_cons (len_cons len_nil))))))))
theorem ok_are_links (T : HX.Def S.K mg "are_links" s_are_links ["one", "other", "thing"]) (B : Bi mg) (c_is_wheel_number : CalQ S P w mg base k "is_wheel_number" ["board", "thing"] m_is_wheel_number) (c_has_parts : CalQ S P w mg base k "has_parts" ["thing", "least", "most"] m_has_parts) : CalQ S P w mg base (k + 1) "are_links" ["one", "other", "thing"] m_are_links :=
  CalQ.trim (Def.okQ T sc_are_links (fun f cdv A outer s H E hr tk hp =>
  (qss_cons (qs_set (i := 3) sc_are_links.nd rfl (Or.inl rfl) (qe_ix rfl (qe_var (pv 0)) qe_int))
  (qss_one (qs_ret (qe_and (qe_call tk rfl c_has_parts hr rfl (qa_cons (qe_var (pv 2)) (qa_cons (qe_var (pv 3)) (qa_cons (qe_var (pv 3)) qa_nil))) (len_cons (len_cons (len_cons len_nil)))) (qe_one (qe_callB (S := S) (cr_all rfl) cq_all rfl B.all_ (by decide +kernel) (qa_cons (qe_lc (own := [("link", 4)]) (t := (.name 4)) rfl sc_are_links.nd (qi_seq rfl (qe_var (pv 2))) (blkOk_by (N := ["one", "other", "thing", "cups", "link"]) (sc := (defScope s_are_links)) (by decide +kernel)) (fun _ _ _ _ _ => (pg_name (i := 4) sc_are_links.nd rfl (Or.inl rfl))) (fun _ _ _ _ _ => qts_nil) (fun _ _ _ _ _ => (qe_or (qe_cmp (S := S) op_isN oq_isN (qe_var (pv 4)) qe_non (nomark _)) (qe_one (qe_call LamX.takes0 rfl c_is_wheel_number hr rfl (qa_cons (qe_var (pv 1)) (qa_cons (qe_var (pv 4)) qa_nil)) (len_cons (len_cons len_nil))))))) qa_nil)))))))))
theorem ok_ends_of_first (T : HX.Def S.K mg "ends_of_first" s_ends_of_first ["one", "other", "links"]) (B : Bi mg) : CalQ S P w mg base (k + 1) "ends_of_first" ["one", "other", "links"] m_ends_of_first :=
  CalQ.trim (Def.okQ T sc_ends_of_first (fun f cdv A outer s H E hr tk hp =>
  (qss_cons (qs_set (i := 3) sc_ends_of_first.nd rfl (Or.inl rfl) (qe_callB (S := S) call_lenA cq_len rfl B.len_ (by decide +kernel) (qa_cons (qe_ix rfl (qe_var (pv 0)) qe_int) qa_nil)))
  (qss_cons (qs_set (i := 4) sc_ends_of_first.nd rfl (Or.inl rfl) (qe_bin (S := S) op_addA oq_add (qe_var (pv 3)) (qe_callB (S := S) call_lenA cq_len rfl B.len_ (by decide +kernel) (qa_cons (qe_ix rfl (qe_var (pv 1)) qe_int) qa_nil))))
  (qss_cons (qs_set (i := 5) sc_ends_of_first.nd rfl (Or.inl rfl) (qe_listRg1 true rfl rfl B.list_ rfl B.range_ (qe_var (pv 3))))
  (qss_cons (qs_for (t := (.name 6)) hp rfl (qi_seq rfl (qe_var (pv 2))) (pg_name (i := 6) sc_ends_of_first.nd rfl (Or.inl rfl))
  (qss_one (qs_if (qt_cmp (S := S) op_isN oq_isN (qe_var (pv 6)) qe_non (nomark _))
  (qss_cons (qs_expr (qe_bm (S := S) rfl PySem.F.plainAttrs_list PySem.F.slot_list_append PySem.F.type_list_append mt_append mq_append (qe_var (pv 5)) (qa_cons (qe_var (pv 4)) qa_nil)))
  (qss_one (qs_aug (S := S) (i := 4) sc_ends_of_first.nd rfl (Or.inl rfl) qe_int ip_add ipq_add)))
  (qss_one (qs_expr (qe_bm (S := S) rfl PySem.F.plainAttrs_list PySem.F.slot_list_append PySem.F.type_list_append mt_append mq_append (qe_var (pv 5)) (qa_cons (qe_bin (S := S) op_addA oq_add (qe_var (pv 3)) (qe_var (pv 6))) qa_nil)))))))
  (qss_one (qs_ret (qe_var (pv 5))))))))))
theorem ok_ends_of_second (T : HX.Def S.K mg "ends_of_second" s_ends_of_second ["one", "other", "links"]) (B : Bi mg) : CalQ S P w mg base (k + 1) "ends_of_second" ["one", "other", "links"] m_ends_of_second :=
  CalQ.trim (Def.okQ T sc_ends_of_second (fun f cdv A outer s H E hr tk hp =>
  (qss_cons (qs_set (i := 3) sc_ends_of_second.nd rfl (Or.inl rfl) (qe_callB (S := S) call_lenA cq_len rfl B.len_ (by decide +kernel) (qa_cons (qe_ix rfl (qe_var (pv 0)) qe_int) qa_nil)))
  (qss_cons (qs_set (i := 4) sc_ends_of_second.nd rfl (Or.inl rfl) (qe_bin (S := S) op_addA oq_add (qe_bin (S := S) op_addA oq_add (qe_var (pv 3)) (qe_callB (S := S) call_lenA cq_len rfl B.len_ (by decide +kernel) (qa_cons (qe_ix rfl (qe_var (pv 1)) qe_int) qa_nil))) (qe_countT rfl (qe_var (pv 2)) (qa_cons qe_non qa_nil))))
  (qss_one (qs_ret (qe_bin (S := S) op_addA oq_add (qe_listRg2 false rfl rfl B.list_ rfl B.range_ (qe_var (pv 3)) (qe_bin (S := S) op_addA oq_add (qe_var (pv 3)) (qe_callB (S := S) call_lenA cq_len rfl B.len_ (by decide +kernel) (qa_cons (qe_ix rfl (qe_var (pv 1)) qe_int) qa_nil)))) (qe_listRg2 false rfl rfl B.list_ rfl B.range_ (qe_var (pv 4)) (qe_bin (S := S) op_addA oq_add (qe_var (pv 4)) (qe_ix rfl (qe_var (pv 1)) qe_int))))))))))
theorem ok_joined {t_MOST_CUPS : Tok} {t_MOST_WHEELS : Tok} (T : HX.Def S.K mg "joined" s_joined ["one", "other", "links"]) (B : Bi mg) (g_MOST_CUPS : mg "MOST_CUPS" = some (.int 4 t_MOST_CUPS)) (g_MOST_WHEELS : mg "MOST_WHEELS" = some (.int 6 t_MOST_WHEELS)) (R_NoLinks : Err S.K mg "NoLinks" (S.C 10)) (c_renumbered : CalQ S P w mg base k "renumbered" ["wheels", "numbers"] m_renumbered) (c_ends_of_second : CalQ S P w mg base k "ends_of_second" ["one", "other", "links"] m_ends_of_second) (c_ends_of_first : CalQ S P w mg base k "ends_of_first" ["one", "other", "links"] m_ends_of_first) (c_need_few : CalQ S P w mg base k "need_few" ["many", "most"] m_need_few_1d32a9) (c_are_links : CalQ S P w mg base k "are_links" ["one", "other", "thing"] m_are_links) (c_need_board : CalQ S P w mg base k "need_board" ["thing"] m_need_board) : CalQ S P w mg base (k + 1) "joined" ["one", "other", "links"] m_joined_f7b97f :=
  CalQ.trim (Def.okQ T sc_joined (fun f cdv A outer s H E hr tk hp =>
  (qss_cons (qs_expr (qe_call tk rfl c_need_board hr rfl (qa_cons (qe_var (pv 0)) qa_nil) (len_cons len_nil)))
  (qss_cons (qs_expr (qe_call tk rfl c_need_board hr rfl (qa_cons (qe_var (pv 1)) qa_nil) (len_cons len_nil)))
  (qss_cons (qs_if (qt_not (qt_val (qe_call tk rfl c_are_links hr rfl (qa_cons (qe_var (pv 0)) (qa_cons (qe_var (pv 1)) (qa_cons (qe_var (pv 2)) qa_nil))) (len_cons (len_cons (len_cons len_nil))))))
  (qss_one (qs_err (n := 10) R_NoLinks tk))
  qss_nil)
  (qss_cons (qs_set (i := 3) sc_joined.nd rfl (Or.inl rfl) (qe_bin (S := S) op_addA oq_add (qe_countT rfl (qe_var (pv 2)) (qa_cons qe_non qa_nil)) (qe_ix rfl (qe_var (pv 1)) qe_int)))
  (qss_cons (qs_expr (qe_call tk rfl c_need_few hr rfl (qa_cons (qe_bin (S := S) op_addA oq_add (qe_callB (S := S) call_lenA cq_len rfl B.len_ (by decide +kernel) (qa_cons (qe_ix rfl (qe_var (pv 0)) qe_int) qa_nil)) (qe_callB (S := S) call_lenA cq_len rfl B.len_ (by decide +kernel) (qa_cons (qe_ix rfl (qe_var (pv 1)) qe_int) qa_nil))) (qa_cons (qe_gint (x := "MOST_WHEELS") (pe_gint rfl g_MOST_WHEELS)) qa_nil)) (len_cons (len_cons len_nil))))
  (qss_cons (qs_expr (qe_call tk rfl c_need_few hr rfl (qa_cons (qe_var (pv 3)) (qa_cons (qe_gint (x := "MOST_CUPS") (pe_gint rfl g_MOST_CUPS)) qa_nil)) (len_cons (len_cons len_nil))))
  (qss_cons (qs_set (i := 4) sc_joined.nd rfl (Or.inl rfl) (qe_call tk rfl c_renumbered hr rfl (qa_cons (qe_ix rfl (qe_var (pv 0)) qe_int) (qa_cons (qe_call tk rfl c_ends_of_first hr rfl (qa_cons (qe_var (pv 0)) (qa_cons (qe_var (pv 1)) (qa_cons (qe_var (pv 2)) qa_nil))) (len_cons (len_cons (len_cons len_nil)))) qa_nil)) (len_cons (len_cons len_nil))))
  (qss_cons (qs_set (i := 5) sc_joined.nd rfl (Or.inl rfl) (qe_call tk rfl c_renumbered hr rfl (qa_cons (qe_ix rfl (qe_var (pv 1)) qe_int) (qa_cons (qe_call tk rfl c_ends_of_second hr rfl (qa_cons (qe_var (pv 0)) (qa_cons (qe_var (pv 1)) (qa_cons (qe_var (pv 2)) qa_nil))) (len_cons (len_cons (len_cons len_nil)))) qa_nil)) (len_cons (len_cons len_nil))))
  (qss_one (qs_ret (qe_tup (qa_cons (qe_bin (S := S) op_addA oq_add (qe_var (pv 4)) (qe_var (pv 5))) (qa_cons (qe_var (pv 3)) qa_nil)))))))))))))))
theorem ok_law {c Pt CM : Addr} {f : Addr} {fd : FuncData} (F : Fun S.K "law" "law" s_law f fd) (hc : fd.code = .ref c) (B : Bi mg) (G : Cls21 mg S.C) (xs : XCs S CM [0, 10]) (hM : mg "MarbleError" = some (.ref CM)) (TB : LamX.TabB base mg c Pt) (hT : S.T = [(Pt, lamQ "law")]) (xy : XMany S.K S.C CM) (D__law_came : HX.Def S.K mg "_law_came" s__law_came ["_law_call"]) (cw : CalE P w S.K mg base k "_law_refusal" "_law_e" (spRef S.K S.C)) (c_joined : CalQ S P w mg base k "joined" ["one", "other", "links"] m_joined_f7b97f) (c__law_no_boards : CalQ S P w mg base k "_law_no_boards" ["_law_board"] m_law_no_boards_761223) (c__law_any_board : CalQ S P w mg base k "_law_any_board" ["_law_pen_here", "_law_most", "_law_cups"] m_law_any_board_7df546) (c__law_pen : CalQ S P w mg base k "_law_pen" ["_law_cell"] m_law_pen_579b16) (c__law_cell_at : CalQ S P w mg base k "_law_cell_at" ["_law_script", "_law_k"] m_law_cell_at_e50a56) : FnG P w S.K mg base (k + 3) f fd ["_law_script"] (spG S 1 m_law_b8079b) :=
  Fun.okGCQ F hc sc_law (fun A outer s H E en hr2 => by
  have hr : Room k _ := hr2.mono (by omega)
  exact (qss_cons (qs_for (t := (.name 1)) PassesOwn.never rfl (qi_range1 rfl B.range_ (qa_cons (qe_callB (S := S) (call_max2 rfl) cq_max2 rfl B.max_ (by decide +kernel) (qa_cons qe_int (qa_cons (qe_callB (S := S) (call_min2 rfl) cq_min2 rfl B.min_ (by decide +kernel) (qa_cons (qe_callB (S := S) call_lenA cq_len rfl B.len_ (by decide +kernel) (qa_cons (qe_var (pv 0)) qa_nil)) (qa_cons qe_int qa_nil))) qa_nil))) qa_nil)) (pg_name (i := 1) sc_law.nd rfl (Or.inl rfl))
  (qss_cons (qs_set (i := 2) sc_law.nd rfl (Or.inl rfl) (qe_call LamX.takes0 rfl c__law_pen hr rfl (qa_cons (qe_call LamX.takes0 rfl c__law_cell_at hr rfl (qa_cons (qe_var (pv 0)) (qa_cons (qe_var (pv 1)) qa_nil)) (len_cons (len_cons len_nil))) qa_nil) (len_cons len_nil)))
  (qss_cons (qs_asg (t := (.tup [3, 4])) (qe_tup (qa_cons (qe_call LamX.takes0 rfl c__law_any_board hr rfl (qa_cons (qe_var (pv 2)) (qa_cons qe_int (qa_cons qe_int qa_nil))) (len_cons (len_cons (len_cons len_nil)))) (qa_cons (qe_call LamX.takes0 rfl c__law_any_board hr rfl (qa_cons (qe_var (pv 2)) (qa_cons qe_int (qa_cons qe_int qa_nil))) (len_cons (len_cons (len_cons len_nil)))) qa_nil))) (pg_tup rfl (pgs_cons (pg_name (i := 3) sc_law.nd rfl (Or.inr rfl)) (pgs_cons (pg_name (i := 4) sc_law.nd rfl (Or.inr rfl)) pgs_nil))))
  (qss_cons (qs_par (i := 5) (j := 6) (by rfl) sc_law.nd rfl rfl (by decide) rfl rfl (qa_cons (qe_callB (S := S) (call_reprP (entx_of en) (hu150 hr)) cq_repr rfl B.repr_ (by decide +kernel) (qa_cons (qe_tup (qa_cons (qe_var (pv 3)) (qa_cons (qe_var (pv 4)) qa_nil))) qa_nil)) (qa_cons (qe_bin (S := S) op_mulA oq_mul (qe_tup (qa_cons qe_non qa_nil)) (qe_ix rfl (qe_var (pv 3)) qe_int)) qa_nil)) (by rfl))
  (qss_cons (qs_for (t := (.name 7)) PassesOwn.never rfl (qi_seq rfl (qe_call LamX.takes0 rfl c__law_no_boards hr rfl (qa_cons (qe_var (pv 3)) qa_nil) (len_cons len_nil))) (pg_name (i := 7) sc_law.nd rfl (Or.inr rfl))
  (qss_cons (qs_set (i := 8) sc_law.nd rfl (Or.inl rfl) (qe_new (qa_cons (qe_lamM xs xy (by rw [hT]; exact pe__law_came (k := k) D__law_came cw G B xy hM TB rfl (by rw [qual_cx]; exact List.mem_singleton.mpr rfl) (fun p hp _ => by rw [qual_cx, List.mem_singleton.mp hp]) hr2 rfl (LamX.lamS_by (sc := defScope s_law) (by decide +kernel)) rfl (fun _ _ _ _ _ => rfl) (fun A outer s H E f c hr => (qe_call (takes_of rfl rfl rfl rfl) rfl c_joined hr rfl (qa_cons (qe_var (pv 7)) (qa_cons qe_non (qa_cons qe_non qa_nil))) (len_cons (len_cons (len_cons len_nil))))))) qa_nil)))
  (qss_cons (qs_expr (qe_bm (S := S) rfl PySem.F.plainAttrs_list PySem.F.slot_list_append PySem.F.type_list_append mt_append mq_append (qe_var (pv 8)) (qa_cons (qe_lamM xs xy (by rw [hT]; exact pe__law_came (k := k) D__law_came cw G B xy hM TB rfl (by rw [qual_cx]; exact List.mem_singleton.mpr rfl) (fun p hp _ => by rw [qual_cx, List.mem_singleton.mp hp]) hr2 rfl (LamX.lamS_by (sc := defScope s_law) (by decide +kernel)) rfl (fun _ _ _ _ _ => rfl) (fun A outer s H E f c hr => (qe_call (takes_of rfl rfl rfl rfl) rfl c_joined hr rfl (qa_cons (qe_var (pv 3)) (qa_cons (qe_var (pv 7)) (qa_cons qe_non qa_nil))) (len_cons (len_cons (len_cons len_nil))))))) qa_nil)))
  (qss_one (qs_if (qt_cmp (S := S) (op_neD (hu64 hr)) oq_ne (qe_var (pv 8)) (qe_bin (S := S) op_mulA oq_mul (qe_lst (qa_cons (qe_tup (qa_cons qe_str qa_nil)) qa_nil)) qe_int) (nomark _))
  (qss_one (qs_ret qe_bl))
  qss_nil)))))
  (qss_cons (qs_set (i := 9) sc_law.nd rfl (Or.inl rfl) (qe_lst (qa_cons qe_non (qa_cons (qe_callTy (S := S) call_listA cq_list rfl B.list_ (by decide +kernel) (qa_cons (qe_var (pv 6)) qa_nil)) (qa_cons (qe_bin (S := S) op_addA oq_add (qe_var (pv 6)) (qe_tup (qa_cons qe_non qa_nil))) (qa_cons qe_int (qa_cons qe_dct0 (qa_cons qe_str (qa_cons (qe_bin (S := S) op_addA oq_add (qe_tup (qa_cons (qe_callB (S := S) call_lenA cq_len rfl B.len_ (by decide +kernel) (qa_cons (qe_ix rfl (qe_var (pv 4)) qe_int) qa_nil)) qa_nil)) (qe_sl rfl (qe_var (pv 6)) (qo_some qe_int) qo_none)) (qa_cons (qe_bin (S := S) op_addA oq_add (qe_tup (qa_cons (qe_neg qe_int) qa_nil)) (qe_sl rfl (qe_var (pv 6)) (qo_some qe_int) qo_none)) qa_nil))))))))))
  (qss_cons (qs_set (i := 9) sc_law.nd rfl (Or.inl rfl) (qe_bin (S := S) op_addA oq_add (qe_var (pv 9)) (qe_lst (qa_cons (qe_bin (S := S) op_addA oq_add (qe_tup (qa_cons qe_bl qa_nil)) (qe_sl rfl (qe_var (pv 6)) (qo_some qe_int) qo_none)) (qa_cons (qe_bin (S := S) op_addA oq_add (qe_tup (qa_cons qe_str qa_nil)) (qe_sl rfl (qe_var (pv 6)) (qo_some qe_int) qo_none)) (qa_cons (qe_bin (S := S) op_addA oq_add (qe_tup (qa_cons (qe_tup (qa_cons qe_int qa_nil)) qa_nil)) (qe_sl rfl (qe_var (pv 6)) (qo_some qe_int) qo_none)) (qa_cons (qe_bin (S := S) op_addA oq_add (qe_var (pv 6)) (qe_tup (qa_cons qe_int qa_nil))) qa_nil)))))))
  (qss_cons (qs_for (t := (.name 7)) PassesOwn.never rfl (qi_seq rfl (qe_bin (S := S) op_addA oq_add (qe_var (pv 9)) (qe_bin (S := S) op_mulA oq_mul (qe_lst (qa_cons (qe_sl rfl (qe_var (pv 6)) (qo_some qe_int) qo_none) qa_nil)) (qe_callTy (S := S) call_int1 cq_int rfl B.int_ (by decide +kernel) (qa_cons (qe_cmp (S := S) op_gt (oq_cmp cGt) (qe_ix rfl (qe_var (pv 3)) qe_int) qe_int (nomark _)) qa_nil))))) (pg_name (i := 7) sc_law.nd rfl (Or.inr rfl))
  (qss_one (qs_if (qt_cmp (S := S) (op_neD (hu64 hr)) oq_ne (qe_lamM xs xy (by rw [hT]; exact pe__law_came (k := k) D__law_came cw G B xy hM TB rfl (by rw [qual_cx]; exact List.mem_singleton.mpr rfl) (fun p hp _ => by rw [qual_cx, List.mem_singleton.mp hp]) hr2 rfl (LamX.lamS_by (sc := defScope s_law) (by decide +kernel)) rfl (fun _ _ _ _ _ => rfl) (fun A outer s H E f c hr => (qe_call (takes_of rfl rfl rfl rfl) rfl c_joined hr rfl (qa_cons (qe_var (pv 3)) (qa_cons (qe_var (pv 4)) (qa_cons (qe_var (pv 7)) qa_nil))) (len_cons (len_cons (len_cons len_nil))))))) (qe_tup (qa_cons qe_str qa_nil)) (nomark _))
  (qss_one (qs_ret qe_bl))
  qss_nil)))
  (qss_cons (qs_set (i := 10) sc_law.nd rfl (Or.inr rfl) (qe_tup (qa_cons (qe_tup (qa_cons (qe_tup qa_nil) qa_nil)) qa_nil)))
  (qss_cons (qs_for (t := (.tup [11, 12])) PassesOwn.never rfl (qi_seq rfl (qe_lst (qa_cons (qe_tup (qa_cons qe_int (qa_cons qe_int qa_nil))) (qa_cons (qe_tup (qa_cons qe_int (qa_cons qe_int qa_nil))) (qa_cons (qe_tup (qa_cons qe_int (qa_cons qe_int qa_nil))) (qa_cons (qe_tup (qa_cons qe_int (qa_cons qe_int qa_nil))) (qa_cons (qe_tup (qa_cons qe_int (qa_cons qe_int qa_nil))) (qa_cons (qe_tup (qa_cons qe_int (qa_cons qe_int qa_nil))) qa_nil)))))))) (pg_tup rfl (pgs_cons (pg_name (i := 11) sc_law.nd rfl (Or.inr rfl)) (pgs_cons (pg_name (i := 12) sc_law.nd rfl (Or.inr rfl)) pgs_nil)))
  (qss_cons (qs_set (i := 13) sc_law.nd rfl (Or.inl rfl) (qe_if (qt_cmp (S := S) op_gt (oq_cmp cGt) (qe_bin (S := S) op_addA oq_add (qe_var (pv 11)) (qe_var (pv 12))) qe_int (nomark _)) (qe_tup (qa_cons qe_str (qa_cons (qe_bin (S := S) op_addA oq_add (qe_var (pv 11)) (qe_var (pv 12))) (qa_cons qe_int qa_nil)))) (qe_tup (qa_cons qe_str (qa_cons (qe_tup (qa_cons (qe_bin (S := S) op_mulA oq_mul (qe_var (pv 10)) (qe_bin (S := S) op_addA oq_add (qe_var (pv 11)) (qe_var (pv 12)))) (qa_cons qe_int qa_nil))) qa_nil)))))
  (qss_one (qs_if (qt_cmp (S := S) (op_neD (hu64 hr)) oq_ne (qe_lamM xs xy (by rw [hT]; exact pe__law_came (k := k) D__law_came cw G B xy hM TB rfl (by rw [qual_cx]; exact List.mem_singleton.mpr rfl) (fun p hp _ => by rw [qual_cx, List.mem_singleton.mp hp]) hr2 rfl (LamX.lamS_by (sc := defScope s_law) (by decide +kernel)) rfl (fun _ _ _ _ _ => rfl) (fun A outer s H E f c hr => (qe_call (takes_of rfl rfl rfl rfl) rfl c_joined hr rfl (qa_cons (qe_tup (qa_cons (qe_bin (S := S) op_mulA oq_mul (qe_var (pv 10)) (qe_var (pv 11))) (qa_cons qe_int qa_nil))) (qa_cons (qe_tup (qa_cons (qe_bin (S := S) op_mulA oq_mul (qe_var (pv 10)) (qe_var (pv 12))) (qa_cons qe_int qa_nil))) (qa_cons (qe_tup (qa_cons qe_non (qa_cons qe_non qa_nil))) qa_nil))) (len_cons (len_cons (len_cons len_nil))))))) (qe_var (pv 13)) (nomark _))
  (qss_one (qs_ret qe_bl))
  qss_nil))))
  (qss_cons (qs_for (t := (.name 14)) PassesOwn.never rfl (qi_seq rfl (qe_lst (qa_cons (qe_bin (S := S) op_mulA oq_mul (qe_tup (qa_cons qe_non qa_nil)) qe_int) (qa_cons (qe_tup (qa_cons qe_non (qa_cons qe_non (qa_cons qe_non (qa_cons qe_int qa_nil))))) (qa_cons (qe_tup (qa_cons qe_int (qa_cons qe_non (qa_cons qe_non (qa_cons qe_non qa_nil))))) (qa_cons (qe_tup (qa_cons qe_non (qa_cons qe_int (qa_cons qe_non (qa_cons qe_int qa_nil))))) (qa_cons (qe_bin (S := S) op_mulA oq_mul (qe_tup (qa_cons qe_int qa_nil)) qe_int) qa_nil))))))) (pg_name (i := 14) sc_law.nd rfl (Or.inr rfl))
  (qss_cons (qs_set (i := 15) sc_law.nd rfl (Or.inl rfl) (qe_bin (S := S) op_addA oq_add (qe_countT rfl (qe_var (pv 14)) (qa_cons qe_non qa_nil)) qe_int))
  (qss_cons (qs_set (i := 13) sc_law.nd rfl (Or.inl rfl) (qe_if (qt_cmp (S := S) op_gt (oq_cmp cGt) (qe_var (pv 15)) qe_int (nomark _)) (qe_tup (qa_cons qe_str (qa_cons (qe_var (pv 15)) (qa_cons qe_int qa_nil)))) (qe_tup (qa_cons qe_str (qa_cons (qe_tup (qa_cons (qe_bin (S := S) op_mulA oq_mul (qe_var (pv 10)) qe_int) (qa_cons (qe_var (pv 15)) qa_nil))) qa_nil)))))
  (qss_one (qs_if (qt_cmp (S := S) (op_neD (hu64 hr)) oq_ne (qe_lamM xs xy (by rw [hT]; exact pe__law_came (k := k) D__law_came cw G B xy hM TB rfl (by rw [qual_cx]; exact List.mem_singleton.mpr rfl) (fun p hp _ => by rw [qual_cx, List.mem_singleton.mp hp]) hr2 rfl (LamX.lamS_by (sc := defScope s_law) (by decide +kernel)) rfl (fun _ _ _ _ _ => rfl) (fun A outer s H E f c hr => (qe_call (takes_of rfl rfl rfl rfl) rfl c_joined hr rfl (qa_cons (qe_tup (qa_cons (qe_var (pv 10)) (qa_cons qe_int qa_nil))) (qa_cons (qe_tup (qa_cons (qe_var (pv 10)) (qa_cons qe_int qa_nil))) (qa_cons (qe_var (pv 14)) qa_nil))) (len_cons (len_cons (len_cons len_nil))))))) (qe_var (pv 13)) (nomark _))
  (qss_one (qs_ret qe_bl))
  qss_nil)))))
  (qss_cons (qs_if (qt_cmp (S := S) (op_neD (hu64 hr)) oq_ne (qe_lamM xs xy (by rw [hT]; exact pe__law_came (k := k) D__law_came cw G B xy hM TB rfl (by rw [qual_cx]; exact List.mem_singleton.mpr rfl) (fun p hp _ => by rw [qual_cx, List.mem_singleton.mp hp]) hr2 rfl (LamX.lamS_by (sc := defScope s_law) (by decide +kernel)) rfl (fun _ _ _ _ _ => rfl) (fun A outer s H E f c hr => (qe_call (takes_of rfl rfl rfl rfl) rfl c_joined hr rfl (qa_cons (qe_tup (qa_cons (qe_bin (S := S) op_mulA oq_mul (qe_var (pv 10)) qe_int) (qa_cons qe_int qa_nil))) (qa_cons (qe_tup (qa_cons (qe_var (pv 10)) (qa_cons qe_int qa_nil))) (qa_cons (qe_bin (S := S) op_mulA oq_mul (qe_tup (qa_cons qe_non qa_nil)) qe_int) qa_nil))) (len_cons (len_cons (len_cons len_nil))))))) (qe_tup (qa_cons qe_str (qa_cons qe_int (qa_cons qe_int qa_nil)))) (nomark _))
  (qss_one (qs_ret qe_bl))
  qss_nil)
  (qss_one (qs_if (qt_cmp (S := S) (op_neD (hu64 hr)) oq_ne (qe_callB (S := S) (call_reprP (entx_of en) (hu150 hr)) cq_repr rfl B.repr_ (by decide +kernel) (qa_cons (qe_tup (qa_cons (qe_var (pv 3)) (qa_cons (qe_var (pv 4)) qa_nil))) qa_nil)) (qe_var (pv 5)) (nomark _))
  (qss_one (qs_ret qe_bl))
  qss_nil))))))))))))))
  (qss_one (qs_ret qe_bl))))
theorem law_all {t_MOST_WHEELS : Tok} {t_MOST_CUPS : Tok} {t_MOST_STEPS : Tok} {t_MOST_ENDS : Tok} {c Pt CM : Addr} {f : Addr} {fd : FuncData} (F : Fun S.K "law" "law" s_law f fd) (hc : fd.code = .ref c) (G : Cls21 mg S.C) (xs : XCs S CM [0, 10]) (hM : mg "MarbleError" = some (.ref CM)) (TB : LamX.TabB base mg c Pt) (hT : S.T = [(Pt, lamQ "law")]) (xy : XMany S.K S.C CM) (d__law_refusal : HX.Def S.K mg "_law_refusal" s__law_refusal ["_law_e"]) (d__law_came : HX.Def S.K mg "_law_came" s__law_came ["_law_call"]) (B : Bi mg) (B4 : Bi4 mg) (TM : TooC P S.K mg (S.C 20)) (g_MOST_WHEELS : mg "MOST_WHEELS" = some (.int 6 t_MOST_WHEELS)) (g_MOST_CUPS : mg "MOST_CUPS" = some (.int 4 t_MOST_CUPS)) (g_MOST_STEPS : mg "MOST_STEPS" = some (.int 4 t_MOST_STEPS)) (g_MOST_ENDS : mg "MOST_ENDS" = some (.int 3 t_MOST_ENDS)) (R_NoBoard : Err S.K mg "NoBoard" (S.C 0)) (R_NoLinks : Err S.K mg "NoLinks" (S.C 10))
    (d__law_pen : HX.Def S.K mg "_law_pen" s__law_pen ["_law_cell"]) (d__law_no_boards : HX.Def S.K mg "_law_no_boards" s__law_no_boards ["_law_board"]) (d__law_cell_at : HX.Def S.K mg "_law_cell_at" s__law_cell_at ["_law_script", "_law_k"]) (d__law_draw : HX.Def S.K mg "_law_draw" s__law_draw ["_law_pen_here", "_law_many"]) (d__law_any_board : HX.Def S.K mg "_law_any_board" s__law_any_board ["_law_pen_here", "_law_most", "_law_cups"]) (d_has_parts : HX.Def S.K mg "has_parts" s_has_parts ["thing", "least", "most"]) (d_is_whole : HX.Def S.K mg "is_whole" s_is_whole ["thing"]) (d_is_within : HX.Def S.K mg "is_within" s_is_within ["thing", "least", "most"]) (d_is_step : HX.Def S.K mg "is_step" s_is_step ["thing", "ends"]) (d_is_wheel : HX.Def S.K mg "is_wheel" s_is_wheel ["thing", "ends"]) (d_is_board : HX.Def S.K mg "is_board" s_is_board ["thing"]) (d_need_board : HX.Def S.K mg "need_board" s_need_board ["thing"]) (d_need_few : HX.Def S.K mg "need_few" s_need_few ["many", "most"]) (d_renumbered : HX.Def S.K mg "renumbered" s_renumbered ["wheels", "numbers"]) (d_is_wheel_number : HX.Def S.K mg "is_wheel_number" s_is_wheel_number ["board", "thing"]) (d_are_links : HX.Def S.K mg "are_links" s_are_links ["one", "other", "thing"]) (d_ends_of_first : HX.Def S.K mg "ends_of_first" s_ends_of_first ["one", "other", "links"]) (d_ends_of_second : HX.Def S.K mg "ends_of_second" s_ends_of_second ["one", "other", "links"]) (d_joined : HX.Def S.K mg "joined" s_joined ["one", "other", "links"]) : FnG P w S.K mg base 10 f fd ["_law_script"] (spG S 1 m_law_b8079b) := by
  have cw__law_refusal := ok__law_refusal (S := S) (P := P) (w := w) (base := base) (k := 0) d__law_refusal B B4 G
  have c__law_pen := ok__law_pen (S := S) (P := P) (w := w) (base := base) (k := 0) d__law_pen B
  have c__law_no_boards := ok__law_no_boards (S := S) (P := P) (w := w) (base := base) (k := 0) d__law_no_boards B
  have c__law_cell_at := ok__law_cell_at (S := S) (P := P) (w := w) (base := base) (k := 0) d__law_cell_at B
  have c__law_draw := ok__law_draw (S := S) (P := P) (w := w) (base := base) (k := 0) d__law_draw 
  have c__law_any_board := ok__law_any_board (S := S) (P := P) (w := w) (base := base) (k := 1) d__law_any_board B c__law_draw
  have c_has_parts := ok_has_parts (S := S) (P := P) (w := w) (base := base) (k := 0) d_has_parts B
  have c_is_whole := ok_is_whole (S := S) (P := P) (w := w) (base := base) (k := 0) d_is_whole B
  have c_is_within := ok_is_within (S := S) (P := P) (w := w) (base := base) (k := 1) d_is_within c_is_whole
  have c_is_step := ok_is_step (S := S) (P := P) (w := w) (base := base) (k := 2) d_is_step B g_MOST_ENDS c_is_within (c_has_parts.mono (by decide))
  have c_is_wheel := ok_is_wheel (S := S) (P := P) (w := w) (base := base) (k := 3) d_is_wheel B g_MOST_STEPS c_is_step (c_has_parts.mono (by decide))
  have c_is_board := ok_is_board (S := S) (P := P) (w := w) (base := base) (k := 4) d_is_board B g_MOST_CUPS g_MOST_WHEELS c_is_wheel (c_is_within.mono (by decide)) (c_has_parts.mono (by decide))
  have c_need_board := ok_need_board (S := S) (P := P) (w := w) (base := base) (k := 5) d_need_board R_NoBoard c_is_board
  have c_need_few := ok_need_few (S := S) (P := P) (w := w) (base := base) (k := 0) d_need_few TM
  have c_renumbered := ok_renumbered (S := S) (P := P) (w := w) (base := base) (k := 0) d_renumbered B
  have c_is_wheel_number := ok_is_wheel_number (S := S) (P := P) (w := w) (base := base) (k := 2) d_is_wheel_number B c_is_within
  have c_are_links := ok_are_links (S := S) (P := P) (w := w) (base := base) (k := 3) d_are_links B c_is_wheel_number (c_has_parts.mono (by decide))
  have c_ends_of_first := ok_ends_of_first (S := S) (P := P) (w := w) (base := base) (k := 0) d_ends_of_first B
  have c_ends_of_second := ok_ends_of_second (S := S) (P := P) (w := w) (base := base) (k := 0) d_ends_of_second B
  have c_joined := ok_joined (S := S) (P := P) (w := w) (base := base) (k := 6) d_joined B g_MOST_CUPS g_MOST_WHEELS R_NoLinks (c_renumbered.mono (by decide)) (c_ends_of_second.mono (by decide)) (c_ends_of_first.mono (by decide)) (c_need_few.mono (by decide)) (c_are_links.mono (by decide)) c_need_board
  exact ok_law (S := S) (P := P) (w := w) (base := base) (k := 7) F hc B G xs hM TB hT xy d__law_came (cw__law_refusal.mono (by decide)) (c_joined.mono (by decide)) (c__law_no_boards.mono (by decide)) (c__law_any_board.mono (by decide)) (c__law_pen.mono (by decide)) (c__law_cell_at.mono (by decide))
end
end Q50
set_option maxRecDepth 100000
set_option maxHeartbeats 1000000
namespace QX
open PySem
/- step_text -/
/- wheel_text -/
/- board_text -/
/- is_number_text -/
/- read_cups -/
/- read_step -/
/- read_wheel -/
/- read_board -/
/- is_let -/
/- counts_of -/
/- rests -/
/- need_wheel -/
/- handled -/
end QX
set_option maxRecDepth 100000
set_option maxHeartbeats 1000000
namespace QX
open PySem
/- _law_sums -/
/- _law_end_share -/
/- _law_turns_right -/
/- law -/
end QX
set_option maxRecDepth 100000
set_option maxHeartbeats 1000000
namespace QX
open PySem PySem.Spec PyProof.Rows L2 HX
section
variable {α β : Type} {σ : Sa} {M : Mem} {fa fb fc : F D} {ga gb : F Bool} {fs : F (List D)} {g g' : D → D → Mem → Res D} {s1 s2 : FS}
@[simp] theorem bind_ok {x : α} {k : α → Mem → Res β} : (Res.ok x M).bind k = k x M := rfl
@[simp] theorem bind_exc {c : Nat} {f : List (Str × D)} {k : α → Mem → Res β} : (Res.exc c f M : Res α).bind k = .exc c f M := rfl
@[simp] theorem bind_bad {k : α → Mem → Res β} : (Res.bad : Res α).bind k = .bad := rfl
@[simp] theorem bindS_ok {x : α} {k : α → Mem → RS} : (Res.ok x M).bindS σ k = k x M := rfl
@[simp] theorem bindS_exc {c : Nat} {f : List (Str × D)} {k : α → Mem → RS} : (Res.exc c f M : Res α).bindS σ k = .exc c f σ M := rfl
@[simp] theorem bindS_bad {k : α → Mem → RS} : (Res.bad : Res α).bindS σ k = .bad := rfl
@[simp] theorem ev_var {i : Nat} : fVar i σ M = match σ[i]? with | some (some d) => .ok d M | _ => .bad := rfl
@[simp] theorem ev_c {d : D} : fC d σ M = .ok d M := rfl
@[simp] theorem ev_bin : fBin g fa fb σ M = (fa σ M).bind fun x M1 => (fb σ M1).bind fun y M2 => g x y M2 := rfl
@[simp] theorem ev_test : fTest fa σ M = (fa σ M).bind fun d M1 => match d with | .bl b => .ok b M1 | _ => .bad := rfl
@[simp] theorem ev_chain : fChain g g' fa fb fc σ M = (fa σ M).bind fun x M1 => (fb σ M1).bind fun y M2 => (g x y M2).bind fun z M3 => match z with | .bl true => (fc σ M3).bind fun w M4 => g' y w M4 | .bl false => .ok (.bl false) M3 | _ => .bad := rfl
@[simp] theorem ev_andT : fAndT ga gb σ M = (ga σ M).bind fun c M1 => if c = true then gb σ M1 else .ok false M1 := rfl
@[simp] theorem ev_orT : fOrT ga gb σ M = (ga σ M).bind fun c M1 => if c = true then .ok true M1 else gb σ M1 := rfl
@[simp] theorem ev_notT : fNotT ga σ M = (ga σ M).bind fun c M1 => .ok (!c) M1 := rfl
@[simp] theorem ev_and : fAnd fa fb σ M = (fa σ M).bind fun x M1 => match x with | .bl true => fb σ M1 | .bl false => .ok (.bl false) M1 | _ => .bad := rfl
@[simp] theorem ev_or : fOr fa fb σ M = (fa σ M).bind fun x M1 => match x with | .bl true => .ok (.bl true) M1 | .bl false => fb σ M1 | _ => .bad := rfl
@[simp] theorem ev_not : fNot fa σ M = (fa σ M).bind fun x M1 => match x with | .bl b => .ok (.bl (!b)) M1 | _ => .bad := rfl
@[simp] theorem ev_if : fIf ga fa fb σ M = (ga σ M).bind fun c M1 => if c = true then fa σ M1 else fb σ M1 := rfl
@[simp] theorem ev_nil : fNil σ M = .ok [] M := rfl
@[simp] theorem ev_cons : fCons fa fs σ M = (fa σ M).bind fun x M1 => (fs σ M1).bind fun xs M2 => .ok (x :: xs) M2 := rfl
@[simp] theorem ev_tup : fTup fs σ M = (fs σ M).bind fun ds M1 => if few ds.length = true then .ok (.tup ds) M1 else .bad := rfl
@[simp] theorem ev_lst : fLst fs σ M = (fs σ M).bind fun ds M1 => if few ds.length = true then .ok (.lst ds) M1 else .bad := rfl
@[simp] theorem ev_new : fNew fs σ M = (fs σ M).bind fun ds M1 => if few ds.length = true then .ok (.ref M1.length) (M1 ++ [.lst ds]) else .bad := rfl
@[simp] theorem ev_nopart : fNoPart σ M = .ok none M := rfl
@[simp] theorem ev_part : fPart fa σ M = (fa σ M).bind fun d M1 => match d with | .int i => .ok (some i) M1 | _ => .bad := rfl
@[simp] theorem ev_sl {fl fh : F (Option Int)} : fSl fa fl fh σ M = (fa σ M).bind fun d M1 => (fl σ M1).bind fun l M2 => (fh σ M2).bind fun h M3 => gSl d l h M3 := rfl
@[simp] theorem ev_iter : fIter fa σ M = (fa σ M).bind gIter := rfl
@[simp] theorem ev_it {q : List D → Mem → Res Ita} : fIt q fs σ M = (fs σ M).bind q := rfl
@[simp] theorem ev_call {m : List D → Mem → Res D} : fCall m fs σ M = (fs σ M).bind m := rfl
@[simp] theorem ev_un {q : D → Mem → Res D} : fUn q fa σ M = (fa σ M).bind q := rfl
@[simp] theorem ev_meth {q : D → List D → Mem → Res D} : fMeth q fa fs σ M = (fa σ M).bind fun d M1 => if isL M1 d = true then (fs σ M1).bind fun ds M2 => q d ds M2 else .bad := rfl
@[simp] theorem ev_countT : fCountT fa fs σ M = (fa σ M).bind fun d M1 => match d with | .tup es => (fs σ M1).bind fun ds M2 => gCountT (.tup es) ds M2 | _ => .bad := rfl
@[simp] theorem ev_tru : fTru fa σ M = (fa σ M).bind gTru := rfl
@[simp] theorem ev_next : sNext σ M = .ok (.nx σ) M := rfl
@[simp] theorem ev_ret : sRet fa σ M = (fa σ M).bindS σ fun d M1 => .ok (.rt d) M1 := rfl
@[simp] theorem ev_retN : sRetN σ M = .ok (.rt .non) M := rfl
@[simp] theorem ev_expr : sExpr fa σ M = (fa σ M).bindS σ fun _ M1 => .ok (.nx σ) M1 := rfl
@[simp] theorem ev_set {i : Nat} : sSet i fa σ M = (fa σ M).bindS σ fun d M1 => .ok (.nx (σ.set i (some d))) M1 := rfl
@[simp] theorem ev_asg {t : Tg} : sAsg fa t σ M = (fa σ M).bindS σ fun d M1 => match t.put (.d d) σ with | some σ1 => .ok (.nx σ1) M1 | none => .bad := rfl
@[simp] theorem ev_par {i j : Nat} : sPar i j fs σ M = (fs σ M).bindS σ fun ds M1 => match ds with | [a, b] => .ok (.nx ((σ.set i (some a)).set j (some b))) M1 | _ => .bad := rfl
@[simp] theorem ev_sif : sIf ga s1 s2 σ M = (ga σ M).bindS σ fun c M1 => if c = true then s1 σ M1 else s2 σ M1 := rfl
@[simp] theorem ev_seq : sSeq s1 s2 σ M = match s1 σ M with | .ok (.nx σ1) M1 => s2 σ1 M1 | r => r := rfl
@[simp] theorem ev_break : sBreak σ M = .ok (.bk σ) M := rfl
@[simp] theorem ev_cont : sCont σ M = .ok (.ct σ) M := rfl
@[simp] theorem ev_raise {c : Nat} : sRaise c σ M = .exc c [] σ M := rfl
@[simp] theorem ev_never : sNever σ M = .bad := rfl
@[simp] theorem ev_for {fi : F Ita} {t : Tg} : sFor fi t s1 σ M = (fi σ M).bindS σ fun it M1 => forL t s1 it.chk M1.length it.items σ M1 := rfl
@[simp] theorem ev_setIx : sSetIx fa fb fc σ M = (fc σ M).bindS σ fun v M1 => (fa σ M1).bindS σ fun o M2 => (fb σ M2).bindS σ fun i M3 => match gSetIx o i v M3 with | some M4 => .ok (.nx σ) M4 | none => .bad := rfl
@[simp] theorem ev_aug {i : Nat} {q : D → D → Option D} : sAug i q fa σ M = (fVar i σ M).bindS σ fun x M0 => (fa σ M0).bindS σ fun y M1 => match q x y with | some z => .ok (.nx (σ.set i (some z))) M1 | none => .bad := rfl
@[simp] theorem ev_augIx {q : D → D → Option D} : sAugIx fa fb fc q σ M = (fa σ M).bindS σ fun o M1 => (fb σ M1).bindS σ fun i M2 => match gGetN o i M2 with
  | some x => (fc σ M2).bindS σ fun y M3 => (match q x y with | some z => (match gSetIx o i z M3 with | some M4 => .ok (.nx σ) M4 | none => .bad) | none => .bad)
  | none => .bad := rfl
@[simp] theorem ev_listRg {c : Bool} : fListRg c fa fb σ M = (fa σ M).bind fun x M1 => (fb σ M1).bind fun y M2 => match x, y with
  | .int a, .int b => if rgOk a b = true then (if c = true then .ok (.ref M2.length) (M2 ++ [.lst (numsD a (b - a).toNat)]) else .ok (.lst (numsD a (b - a).toNat)) M2) else .bad
  | _, _ => .bad := rfl
@[simp] theorem ev_listRg1 {c : Bool} : fListRg1 c fb σ M = (fb σ M).bind fun y M2 => match y with
  | .int b => if rgOk 0 b = true then (if c = true then .ok (.ref M2.length) (M2 ++ [.lst (numsD 0 (b - 0).toNat)]) else .ok (.lst (numsD 0 (b - 0).toNat)) M2) else .bad
  | _ => .bad := rfl
end
section
variable {M : Mem} {ds es : List D} {i j : Int} {n : Nat} {a b : Str} {p q : Bool}
@[simp] theorem seqOf_tup : seqOf M (.tup ds) = some ds := rfl
@[simp] theorem seqOf_lst : seqOf M (.lst ds) = some ds := rfl
@[simp] theorem seqOf_scr {ns : List Int} : seqOf M (.scr ns) = some (ns.map .int) := rfl
@[simp] theorem seqOf_ref : seqOf M (.ref n) = match M[n]? with | some (.lst ds) => some ds | _ => none := rfl
@[simp] theorem listOf_lst : listOf M (.lst ds) = some ds := rfl
@[simp] theorem listOf_ref : listOf M (.ref n) = match M[n]? with | some (.lst ds) => some ds | _ => none := rfl
@[simp] theorem listOf_tup : listOf M (.tup ds) = none := rfl
@[simp] theorem isL_lst : isL M (.lst ds) = true := rfl
@[simp] theorem isL_ref : isL M (.ref n) = (match M[n]? with | some (.lst ds) => some ds | _ => none : Option (List D)).isSome := rfl
@[simp] theorem gIx_tup : gIx (.tup ds) (.int i) M = match atI ds i with | some d => .ok d M | none => .bad := rfl
@[simp] theorem gIx_lst : gIx (.lst ds) (.int i) M = match atI ds i with | some d => .ok d M | none => .bad := rfl
@[simp] theorem gIx_scr {ns : List Int} : gIx (.scr ns) (.int i) M = match atI (ns.map D.int) i with | some d => .ok d M | none => .bad := rfl
theorem gIx_ref (h : M[n]? = some (.lst ds)) : gIx (.ref n) (.int i) M = match atI ds i with | some d => .ok d M | none => .bad := by
  have e : seqOf M (.ref n) = some ds := by rw [seqOf_ref, h]
  show (match seqOf M (.ref n) with | some ds => (match atI ds i with | some d => Res.ok d M | none => Res.bad) | none => Res.bad) = _
  rw [e]
@[simp] theorem gAdd_int : gAdd (.int i) (.int j) M = .ok (.int (i + j)) M := rfl
@[simp] theorem gAdd_tup : gAdd (.tup ds) (.tup es) M = if few (ds.length + es.length) = true then .ok (.tup (ds ++ es)) M else .bad := rfl
@[simp] theorem gAdd_lst : gAdd (.lst ds) (.lst es) M = if few (ds.length + es.length) = true then .ok (.lst (ds ++ es)) M else .bad := rfl
@[simp] theorem gAdd_str : gAdd (.str a) (.str b) M = if few (a.length + b.length) = true then .ok (.str (a ++ b)) M else .bad := rfl
@[simp] theorem gSub_int : gSub (.int i) (.int j) M = .ok (.int (i - j)) M := rfl
@[simp] theorem gMul_int : gMul (.int i) (.int j) M = if mulOk i j = true then .ok (.int (i * j)) M else .bad := rfl
@[simp] theorem gMul_tup : gMul (.tup ds) (.int i) M = if (thou i && Nat.ble ds.length 1000) = true then .ok (.tup (List.replicate i.toNat ds).flatten) M else .bad := rfl
@[simp] theorem gMul_lst : gMul (.lst ds) (.int i) M = if (thou i && Nat.ble ds.length 1000) = true then .ok (.lst (List.replicate i.toNat ds).flatten) M else .bad := rfl
@[simp] theorem gMod_int : gMod (.int i) (.int j) M = if decide (0 < j) = true then .ok (.int (i % j)) M else .bad := rfl
@[simp] theorem gFdiv_int : gFdiv (.int i) (.int j) M = if (decide (0 < j) && Nat.blt j.natAbs.log2 9000) = true then .ok (.int (i / j)) M else .bad := rfl
@[simp] theorem gCmp_int {f : Int → Int → Bool} : gCmp f (.int i) (.int j) M = .ok (.bl (f i j)) M := rfl
@[simp] theorem gNeg_int : gNeg (.int i) M = .ok (.int (-i)) M := rfl
@[simp] theorem gLen_tup : gLen [.tup ds] M = .ok (.int ds.length) M := rfl
@[simp] theorem gLen_lst : gLen [.lst ds] M = .ok (.int ds.length) M := rfl
@[simp] theorem gLen_scr {ns : List Int} : gLen [.scr ns] M = .ok (.int ns.length) M := by
  show Res.ok (D.int ((ns.map D.int).length : Nat)) M = _
  rw [List.length_map]
theorem gLen_ref (h : M[n]? = some (.lst ds)) : gLen [.ref n] M = .ok (.int ds.length) M := by
  show (match (match M[n]? with | some (.lst ds) => some ds | _ => none : Option (List D)) with | some ds => Res.ok (D.int ds.length) M | none => .bad) = _
  rw [h]
@[simp] theorem gTuple_tup : gTuple [.tup ds] M = .ok (.tup ds) M := rfl
@[simp] theorem gTuple_lst : gTuple [.lst ds] M = .ok (.tup ds) M := rfl
theorem gTuple_ref (h : M[n]? = some (.lst ds)) : gTuple [.ref n] M = .ok (.tup ds) M := by
  show (match (match M[n]? with | some (.lst ds) => some ds | _ => none : Option (List D)) with | some ds => Res.ok (D.tup ds) M | none => .bad) = _
  rw [h]
@[simp] theorem gList_tup : gList [.tup ds] M = .ok (.lst ds) M := rfl
@[simp] theorem gList_lst : gList [.lst ds] M = .ok (.lst ds) M := rfl
@[simp] theorem gListC_tup : gListC [.tup ds] M = .ok (.ref M.length) (M ++ [.lst ds]) := rfl
@[simp] theorem gListC_lst : gListC [.lst ds] M = .ok (.ref M.length) (M ++ [.lst ds]) := rfl
@[simp] theorem gMax2_int : gMax2 [.int i, .int j] M = .ok (.int (if j > i then j else i)) M := rfl
@[simp] theorem gMin2_int : gMin2 [.int i, .int j] M = .ok (.int (if j < i then j else i)) M := rfl
@[simp] theorem gIter_tup : gIter (.tup ds) M = .ok ⟨ds.map .d, fun _ => true⟩ M := rfl
@[simp] theorem gIter_lst : gIter (.lst ds) M = .ok ⟨ds.map .d, fun _ => true⟩ M := rfl
@[simp] theorem gRange1_int : gRange1 [.int j] M = if mid j = true then .ok ⟨nums 0 j.toNat, fun _ => true⟩ M else .bad := rfl
@[simp] theorem gRange2_int : gRange2 [.int i, .int j] M = if (mid i && mid j) = true then .ok ⟨nums i (j - i).toNat, fun _ => true⟩ M else .bad := rfl
@[simp] theorem gIsN_non {b : Bool} : gIsN b .non .non M = .ok (.bl (!b)) M := rfl
@[simp] theorem gIsN_int {b : Bool} : gIsN b (.int i) .non M = .ok (.bl b) M := rfl
@[simp] theorem gIsN_tup {b : Bool} : gIsN b (.tup ds) .non M = .ok (.bl b) M := rfl
@[simp] theorem gInt_int : gInt [.int i] M = .ok (.int i) M := rfl
@[simp] theorem gInt_bl : gInt [.bl p] M = .ok (.int (if p then 1 else 0)) M := rfl
theorem gAppend_ref {d : D} (h : M[n]? = some (.lst ds)) (hl : ds.length < 16777216) : gAppend (.ref n) [d] M = .ok .non (M.set n (.lst (ds ++ [d]))) := by
  show (match M[n]? with | some (.lst ds) => if Nat.blt ds.length 16777216 = true then Res.ok D.non (M.set n (.lst (ds ++ [d]))) else Res.bad | _ => Res.bad) = _
  rw [h]
  dsimp only
  rw [if_pos (by rw [Nat.blt_eq]; exact hl)]
@[simp] theorem put_name {i : Nat} {d : D} {σ : Sa} : (Tg.name i).put (.d d) σ = some (σ.set i (some d)) := rfl
@[simp] theorem put_tup {is : List Nat} {σ : Sa} : (Tg.tup is).put (.d (.tup ds)) σ = if ds.length == is.length then some (setAll σ is ds) else none := rfl
@[simp] theorem put_pr {is : List Nat} {σ : Sa} : (Tg.tup is).put (.pr ds) σ = if ds.length == is.length then some (setAll σ is ds) else none := rfl
theorem atI_nn {α : Type} {xs : List α} {k : Int} (h : 0 ≤ k) : atI xs k = xs[k.toNat]? := by
  unfold atI ixN
  rw [if_pos h]
  by_cases hl : k < (xs.length : Int)
  · rw [if_pos hl]; rfl
  · rw [if_neg hl]
    exact (List.getElem?_eq_none (by omega)).symm
@[simp] theorem atI_0 {α : Type} {x : α} {xs : List α} : atI (x :: xs) 0 = some x := by rw [atI_nn (by decide)]; rfl
@[simp] theorem atI_1 {α : Type} {x y : α} {xs : List α} : atI (x :: y :: xs) 1 = some y := by rw [atI_nn (by decide)]; rfl
@[simp] theorem atI_2 {α : Type} {x y z : α} {xs : List α} : atI (x :: y :: z :: xs) 2 = some z := by rw [atI_nn (by decide)]; rfl
@[simp] theorem gEq_int {b : Bool} : gEq b (.int i) (.int j) M = .ok (.bl (if b = true then !decide (i = j) else decide (i = j))) M := by
  have e : PyData.eqv (.int i) (.int j) = decide (i = j) := by
    simp [PyData.eqv]
    try rfl
  show (if (SeqAt.shaped (.int i) && SeqAt.shaped (.int j)) = true then Res.ok (D.bl (if b = true then !PyData.eqv (.int i) (.int j) else PyData.eqv (.int i) (.int j))) M else Res.bad) = _
  rw [e]
  rfl
end
section
variable {σ σ1 : Sa} {M M1 M2 : Mem} {fa fb : F D} {ga gb : F Bool} {s1 s2 : FS} {p q : Bool} {d : D}
theorem and_ev (ha : fa σ M = .ok (.bl p) M) (hb : p = true → fb σ M = .ok (.bl q) M) : fAnd fa fb σ M = .ok (.bl (p && q)) M := by
  rw [ev_and, ha]
  cases p with
  | false => rfl
  | true => exact hb rfl
theorem or_ev (ha : ga σ M = .ok p M) (hb : p = false → gb σ M = .ok q M) : fOrT ga gb σ M = .ok (p || q) M := by
  rw [ev_orT, ha]
  cases p with
  | true => rfl
  | false => exact hb rfl
theorem not_ev (ha : ga σ M = .ok p M) : fNotT ga σ M = .ok (!p) M := by rw [ev_notT, ha]; rfl
theorem test_ev (ha : fa σ M = .ok (.bl p) M1) : fTest fa σ M = .ok p M1 := by rw [ev_test, ha]; rfl
theorem sif_ev (ha : ga σ M = .ok p M1) : sIf ga s1 s2 σ M = if p = true then s1 σ M1 else s2 σ M1 := by rw [ev_sif, ha]; rfl
theorem seq_nx (h : s1 σ M = .ok (.nx σ1) M1) : sSeq s1 s2 σ M = s2 σ1 M1 := by rw [ev_seq, h]
theorem seq_rt (h : s1 σ M = .ok (.rt d) M1) : sSeq s1 s2 σ M = .ok (.rt d) M1 := by rw [ev_seq, h]
theorem seq_exc {c : Nat} {fs : List (Str × D)} (h : s1 σ M = .exc c fs σ1 M1) : sSeq s1 s2 σ M = .exc c fs σ1 M1 := by rw [ev_seq, h]
theorem set_ev {i : Nat} (h : fa σ M = .ok d M1) : sSet i fa σ M = .ok (.nx (σ.set i (some d))) M1 := by rw [ev_set, h]; rfl
theorem ret_ev (h : fa σ M = .ok d M1) : sRet fa σ M = .ok (.rt d) M1 := by rw [ev_ret, h]; rfl
theorem expr_ev (h : fa σ M = .ok d M1) : sExpr fa σ M = .ok (.nx σ) M1 := by rw [ev_expr, h]; rfl
theorem asg_ev {t : Tg} (h : fa σ M = .ok d M1) (ht : t.put (.d d) σ = some σ1) : sAsg fa t σ M = .ok (.nx σ1) M1 := by rw [ev_asg, h]; simp only [bindS_ok, ht]
theorem call_ev {m : List D → Mem → Res D} {fs : F (List D)} {ds : List D} (h : fs σ M = .ok ds M1) : fCall m fs σ M = m ds M1 := by rw [ev_call, h]; rfl
end
theorem run_rt {n k : Nat} {b : FS} {ds : List D} {M M1 : Mem} {d : D} (hl : ds.length = k) (h : b (startA n ds) M = .ok (.rt d) M1) : runT n k b ds M = trimR M.length (.ok d M1) := by
  unfold runT runD
  rw [h]
  simp [hl]
theorem run_nx {n k : Nat} {b : FS} {ds : List D} {M M1 : Mem} {σ : Sa} (hl : ds.length = k) (h : b (startA n ds) M = .ok (.nx σ) M1) : runT n k b ds M = trimR M.length (.ok .non M1) := by
  unfold runT runD
  rw [h]
  simp [hl]
theorem run_exc {n k c : Nat} {b : FS} {ds : List D} {M M1 : Mem} {σ : Sa} {fs : List (Str × D)} (hl : ds.length = k) (h : b (startA n ds) M = .exc c fs σ M1) : runT n k b ds M = trimR M.length (.exc c fs M1) := by
  unfold runT runD
  rw [h]
  simp [hl]
end QX
set_option maxRecDepth 100000
set_option maxHeartbeats 1000000
namespace QX
open PySem PySem.Spec PyProof.Rows L2 HX
def isW : D → Bool
  | .int _ => true
  | _ => false
def D.ok : D → Bool
  | .scr _ => false
  | .adr _ => false
  | .ref _ => false
  | _ => true
theorem m_is_whole_eq {d : D} {M : Mem} (h : d.ok = true) : m_is_whole [d] M = .ok (.bl (isW d)) M := by
  refine (run_rt (d := .bl (isW d)) (M1 := M) rfl ?_).trans (trim_id rfl)
  cases d <;> first | (cases h; done) | (simp [b_is_whole, startA, gIsi, D.ty, Ty.name, Ty.is, isW])
def inB (a b : Int) : D → Bool
  | .int i => decide (a ≤ i) && decide (i ≤ b)
  | _ => false
theorem m_is_within_eq {d : D} {a b : Int} {M : Mem} (h : d.ok = true) : m_is_within [d, .int a, .int b] M = .ok (.bl (inB a b d)) M := by
  refine (run_rt (d := .bl (inB a b d)) (M1 := M) rfl ?_).trans (trim_id rfl)
  cases d with
  | int i =>
    by_cases h1 : a ≤ i <;> simp [b_is_within, startA, m_is_whole_eq h, isW, inB, cLe, h1]
  | scr _ => cases h
  | adr _ => cases h
  | ref _ => cases h
  | _ => simp [b_is_within, startA, m_is_whole_eq h, isW, inB]
def partsB (a b : Int) : D → Bool
  | .tup ds => decide (a ≤ (ds.length : Int)) && decide ((ds.length : Int) ≤ b)
  | _ => false
theorem m_has_parts_eq {d : D} {a b : Int} {M : Mem} (h : d.ok = true) : m_has_parts [d, .int a, .int b] M = .ok (.bl (partsB a b d)) M := by
  refine (run_rt (d := .bl (partsB a b d)) (M1 := M) rfl ?_).trans (trim_id rfl)
  cases d with
  | tup ds =>
    by_cases h1 : a ≤ (ds.length : Int) <;> simp [b_has_parts, startA, gIsi, D.ty, Ty.name, Ty.is, partsB, cLe, h1]
  | scr _ => cases h
  | adr _ => cases h
  | ref _ => cases h
  | _ => simp [b_has_parts, startA, gIsi, D.ty, Ty.name, Ty.is, partsB]
theorem blsOf_map {α : Type} (f : α → Bool) : ∀ xs : List α, blsOf (xs.map fun x => D.bl (f x)) = some (xs.map f)
  | [] => rfl
  | x :: xs => by
    show (match blsOf (xs.map fun x => D.bl (f x)) with | some bs => some (f x :: bs) | none => none) = _
    rw [blsOf_map f xs]
    rfl
theorem gAll_map {α : Type} {M : Mem} (f : α → Bool) (xs : List α) : gAll [.lst (xs.map fun x => D.bl (f x))] M = .ok (.bl (xs.all f)) M := by
  show (match blsOf (xs.map fun x => D.bl (f x)) with | some bs => Res.ok (D.bl (bs.all id)) M | none => .bad) = _
  rw [blsOf_map]
  dsimp only
  rw [List.all_map]
  rfl
theorem run_pure {n k : Nat} {f : F D} {ds : List D} {M : Mem} {d : D} (hl : ds.length = k) (h : f (startA n ds) M = .ok d M) : runT n k (sRet f) ds M = .ok d M :=
  (run_rt hl (by rw [ev_ret, h]; rfl)).trans (trim_id rfl)
theorem all_comp {fa : F D} {vs : List Nat} {i : Nat} {e : F D} {σ : Sa} {M : Mem} {ds : List D} (f : D → Bool) (ha : fa σ M = .ok (.tup ds) M) (hw : Wf M) (hl : ds.length ≤ 1000000)
    (he : ∀ d ∈ ds, ∀ M', Wf M' → M.length < M'.length → e ((wipeA σ vs).set i (some d)) M' = .ok (.bl (f d)) M') : fCall gAll (fCons (fTrim (fCompC (fIter fa) vs (.name i) fYes e)) fNil) σ M = .ok (.bl (ds.all f)) M := by
  have h := comp_pure (fi := fIter fa) (vs := vs) (t := .name i) (e := e) (σ := σ) (M := M) (it := ⟨ds.map .d, fun _ => true⟩) (fun im => match im with | .d d => .bl (f d) | .pr _ => .non) (by rw [ev_iter, ha]; rfl) (fun _ => rfl) hw (by simpa using hl) (fun im him => by
    obtain ⟨d, hd, rfl⟩ := List.mem_map.mp him
    exact ⟨rfl, _, rfl, fun M' w1 w2 => he d hd M' w1 w2⟩)
  rw [ev_call, ev_cons, h]
  dsimp only [bind_ok, ev_nil]
  rw [List.map_map]
  exact gAll_map f ds
mutual
def D.dok : D → Bool
  | .scr _ => false
  | .adr _ => false
  | .ref _ => false
  | .tup ds => D.dokA ds
  | .lst ds => D.dokA ds
  | .dct _ ds => D.dokA ds
  | _ => true
def D.dokA : List D → Bool
  | [] => true
  | d :: ds => D.dok d && D.dokA ds
end
theorem dok_ok {d : D} (h : d.dok = true) : d.ok = true := by cases d <;> first | rfl | (simp [D.dok] at h)
theorem dokA_mem : ∀ {ds : List D}, D.dokA ds = true → ∀ d ∈ ds, d.dok = true
  | [], _, d, hd => by simp at hd
  | x :: xs, h, d, hd => by
    simp only [D.dokA, Bool.and_eq_true] at h
    rcases List.mem_cons.mp hd with rfl | z
    · exact h.1
    · exact dokA_mem h.2 d z
def stepB (n : Int) : D → Bool
  | .tup ds => partsB 0 3 (.tup ds) && ds.all (inB 0 (n - 1))
  | _ => false
theorem partsB_len {a b : Int} {ds : List D} (h : partsB a b (.tup ds) = true) : (ds.length : Int) ≤ b := by
  simp only [partsB, Bool.and_eq_true, decide_eq_true_eq] at h
  exact h.2
theorem partsB_not {a b : Int} {d : D} (h : ∀ ds, d ≠ .tup ds) : partsB a b d = false := by
  cases d <;> first | rfl | exact absurd rfl (h _)
theorem m_is_step_eq {d : D} {n : Int} {M : Mem} (h : d.dok = true) (hw : Wf M) : m_is_step [d, .int n] M = .ok (.bl (stepB n d)) M := by
  refine run_pure rfl ?_
  have h1 : fCall m_has_parts (fCons (fVar 0) (fCons (fC (.int 0)) (fCons (fC (.int 3)) fNil))) (startA 3 [d, .int n]) M = .ok (.bl (partsB 0 3 d)) M := by simp [startA, m_has_parts_eq (dok_ok h)]
  cases d with
  | tup ds =>
    refine and_ev h1 fun hp => ?_
    have hl := partsB_len hp
    exact all_comp (inB 0 (n - 1)) rfl hw (by omega) (fun d hd M' _ _ => by
      simp [wipeA, startA, m_is_within_eq (dok_ok (dokA_mem (by simpa only [D.dok] using h) d hd))])
  | _ =>
    rw [partsB_not (fun _ z => by cases z)] at h1
    exact and_ev (q := false) h1 fun hp => by cases hp
def wheelB (n : Int) : D → Bool
  | .tup ds => partsB 1 4 (.tup ds) && ds.all (stepB n)
  | _ => false
theorem m_is_wheel_eq {d : D} {n : Int} {M : Mem} (h : d.dok = true) (hw : Wf M) : m_is_wheel [d, .int n] M = .ok (.bl (wheelB n d)) M := by
  refine run_pure rfl ?_
  have h1 : fCall m_has_parts (fCons (fVar 0) (fCons (fC (.int 1)) (fCons (fC (.int 4)) fNil))) (startA 3 [d, .int n]) M = .ok (.bl (partsB 1 4 d)) M := by simp [startA, m_has_parts_eq (dok_ok h)]
  cases d with
  | tup ds =>
    refine and_ev h1 fun hp => ?_
    have hl := partsB_len hp
    exact all_comp (stepB n) rfl hw (by omega) (fun d hd M' w' _ => by
      simp [wipeA, startA, m_is_step_eq (dokA_mem (by simpa only [D.dok] using h) d hd) w'])
  | _ =>
    rw [partsB_not (fun _ z => by cases z)] at h1
    exact and_ev (q := false) h1 fun hp => by cases hp
def wheelsB (w c : D) : Bool := match w, c with
  | .tup ws, .int k => ws.all (wheelB ((ws.length : Int) + k))
  | _, _ => false
def boardB : D → Bool
  | .tup [w, c] => partsB 1 6 w && (inB 0 4 c && wheelsB w c)
  | _ => false
theorem m_is_board_eq {d : D} {M : Mem} (h : d.dok = true) (hw : Wf M) : m_is_board [d] M = .ok (.bl (boardB d)) M := by
  have hd := dok_ok h
  refine (run_rt (d := .bl (boardB d)) (M1 := M) rfl ?_).trans (trim_id rfl)
  unfold b_is_board
  have h1 : fNotT (fTest (fCall m_has_parts (fCons (fVar 0) (fCons (fC (.int 2)) (fCons (fC (.int 2)) fNil))))) (startA 5 [d]) M = .ok (!partsB 2 2 d) M := not_ev (test_ev (by simp [startA, m_has_parts_eq hd]))
  have s1 := sif_ev (s1 := sRet (fC (.bl false))) (s2 := sNext) h1
  cases hp : partsB 2 2 d with
  | false =>
    rw [hp] at s1
    have : boardB d = false := by
      cases d with
      | tup ds =>
        match ds with
        | [] => rfl
        | [_] => rfl
        | [a, b] => simp [partsB] at hp
        | _ :: _ :: _ :: _ => rfl
      | _ => rfl
    rw [this]
    exact seq_rt s1
  | true =>
    rw [hp] at s1
    refine (seq_nx s1).trans ?_
    cases d with
    | tup ds =>
      match ds, hp with
      | [], hp => simp [partsB] at hp
      | [_], hp => simp [partsB] at hp
      | _ :: _ :: _ :: _, hp => simp [partsB] at hp; omega
      | [w, c], _ =>
        simp only [D.dok, D.dokA, Bool.and_eq_true] at h
        obtain ⟨hw1, hc1, _⟩ := h
        refine (seq_nx (σ1 := [some (.tup [w, c]), some w, some c, none, none]) (asg_ev rfl rfl)).trans ?_
        have h2 : fOrT (fNotT (fTest (fCall m_has_parts (fCons (fVar 1) (fCons (fC (.int 1)) (fCons (fC (.int 6)) fNil)))))) (fNotT (fTest (fCall m_is_within (fCons (fVar 2) (fCons (fC (.int 0)) (fCons (fC (.int 4)) fNil)))))) [some (.tup [w, c]), some w, some c, none, none] M = .ok (!partsB 1 6 w || !inB 0 4 c) M :=
          or_ev (not_ev (test_ev (by simp [m_has_parts_eq (dok_ok hw1)]))) fun _ => not_ev (test_ev (by simp [m_is_within_eq (dok_ok hc1)]))
        have s2 := sif_ev (s1 := sRet (fC (.bl false))) (s2 := sNext) h2
        cases hp2 : (!partsB 1 6 w || !inB 0 4 c) with
        | true =>
          rw [hp2] at s2
          have : boardB (.tup [w, c]) = false := by
            rw [Bool.or_eq_true, Bool.not_eq_true', Bool.not_eq_true'] at hp2
            rcases hp2 with z | z <;> simp [boardB, z]
          rw [this]
          exact seq_rt s2
        | false =>
          rw [hp2] at s2
          rw [Bool.or_eq_false_iff, Bool.not_eq_false', Bool.not_eq_false'] at hp2
          refine (seq_nx s2).trans ?_
          cases w with
          | tup ws =>
            cases c with
            | int k =>
              refine (seq_nx (set_ev (M1 := M) (d := .int ((ws.length : Int) + k)) (by simp))).trans (ret_ev ?_)
              have hl := partsB_len hp2.1
              rw [all_comp (wheelB ((ws.length : Int) + k)) (ds := ws) rfl hw (by omega) (fun d hd M' w' _ => by
                simp [wipeA, m_is_wheel_eq (dokA_mem (by simpa only [D.dok] using hw1) d hd) w'])]
              simp [boardB, wheelsB, hp2]
            | _ => simp [inB] at hp2
          | _ => simp [partsB] at hp2
    | _ => simp [partsB] at hp
def stepT (es : List Int) : D := .tup (es.map .int)
def wheelT (w : List (List Int)) : D := .tup (w.map stepT)
def wheelsT (ws : List (List (List Int))) : D := .tup (ws.map wheelT)
def boardT (ws : List (List (List Int))) (c : Int) : D := .tup [wheelsT ws, .int c]
theorem und_step {n : Nat} (es : List Int) : (stepT es).und n = true := by
  simp only [stepT, D.und]
  rw [undA_iff]
  intro d hd
  obtain ⟨e, _, rfl⟩ := List.mem_map.mp hd
  rfl
theorem und_wheel {n : Nat} (w : List (List Int)) : (wheelT w).und n = true := by
  simp only [wheelT, D.und]
  rw [undA_iff]
  intro d hd
  obtain ⟨e, _, rfl⟩ := List.mem_map.mp hd
  exact und_step e
theorem und_wheels {n : Nat} (ws : List (List (List Int))) : (wheelsT ws).und n = true := by
  simp only [wheelsT, D.und]
  rw [undA_iff]
  intro d hd
  obtain ⟨e, _, rfl⟩ := List.mem_map.mp hd
  exact und_wheel e
theorem und_board {n : Nat} (ws : List (List (List Int))) (c : Int) : (boardT ws c).und n = true := by
  simp [boardT, D.und, D.undA, und_wheels]
theorem dokA_iff : ∀ {ds : List D}, D.dokA ds = true ↔ ∀ d ∈ ds, d.dok = true
  | [] => by simp [D.dokA]
  | d :: ds => by simp only [D.dokA, Bool.and_eq_true, dokA_iff (ds := ds), List.mem_cons, forall_eq_or_imp]
theorem dok_step (es : List Int) : (stepT es).dok = true := by
  simp only [stepT, D.dok]
  rw [dokA_iff]
  intro d hd
  obtain ⟨e, _, rfl⟩ := List.mem_map.mp hd
  rfl
theorem dok_wheel (w : List (List Int)) : (wheelT w).dok = true := by
  simp only [wheelT, D.dok]
  rw [dokA_iff]
  intro d hd
  obtain ⟨e, _, rfl⟩ := List.mem_map.mp hd
  exact dok_step e
theorem dok_wheels (ws : List (List (List Int))) : (wheelsT ws).dok = true := by
  simp only [wheelsT, D.dok]
  rw [dokA_iff]
  intro d hd
  obtain ⟨e, _, rfl⟩ := List.mem_map.mp hd
  exact dok_wheel e
theorem dok_board (ws : List (List (List Int))) (c : Int) : (boardT ws c).dok = true := by
  simp [boardT, D.dok, D.dokA, dok_wheels]
theorem stepB_ok {n : Int} {es : List Int} (h : EndsOk n es) : stepB n (stepT es) = true := by
  obtain ⟨h1, h2⟩ := h
  simp only [stepB, stepT, partsB, Bool.and_eq_true, decide_eq_true_eq, List.length_map, List.all_eq_true]
  refine ⟨⟨by omega, by omega⟩, fun d hd => ?_⟩
  obtain ⟨e, he, rfl⟩ := List.mem_map.mp hd
  have := h2 e he
  simp only [inB, Bool.and_eq_true, decide_eq_true_eq]
  omega
theorem wheelB_ok {n : Int} {w : List (List Int)} (h : WheelOk n w) : wheelB n (wheelT w) = true := by
  obtain ⟨h1, h2, h3⟩ := h
  simp only [wheelB, wheelT, partsB, Bool.and_eq_true, decide_eq_true_eq, List.length_map, List.all_eq_true]
  refine ⟨⟨by omega, by omega⟩, fun d hd => ?_⟩
  obtain ⟨e, he, rfl⟩ := List.mem_map.mp hd
  exact stepB_ok (h3 e he)
theorem boardB_ok {ws : List (List (List Int))} {c : Int} (h : BoardOk ws c) : boardB (boardT ws c) = true := by
  have h1 := h.w1
  have h2 := h.w6
  have h3 := h.c0
  have h4 := h.c4
  simp only [boardB, boardT, wheelsB, wheelsT, partsB, inB, Bool.and_eq_true, decide_eq_true_eq, List.length_map, List.all_eq_true]
  refine ⟨⟨by omega, by omega⟩, ⟨by omega, by omega⟩, fun d hd => ?_⟩
  obtain ⟨e, he, rfl⟩ := List.mem_map.mp hd
  exact wheelB_ok (h.wheels e he)
theorem m_need_board_eq {ws : List (List (List Int))} {c : Int} {M : Mem} (h : BoardOk ws c) (hw : Wf M) : m_need_board [boardT ws c] M = .ok .non M := by
  refine (run_nx (M1 := M) (σ := startA 1 [boardT ws c]) rfl ?_).trans (trim_id rfl)
  refine (sif_ev (p := false) (not_ev (p := true) (test_ev ?_))).trans rfl
  rw [call_ev (ds := [boardT ws c]) (M1 := M) rfl, m_is_board_eq (dok_board ws c) hw, boardB_ok h]
end QX
set_option maxRecDepth 100000
set_option maxHeartbeats 1000000
namespace QX
open PySem PySem.Spec PyProof.Rows L2 HX
theorem m_cell_at_eq {ns : List Int} {k : Nat} {M : Mem} : m_law_cell_at_e50a56 [.scr ns, .int k] M = .ok (.int (ns.getD k 0)) M := by
  have h1 : fTest (fBin (gCmp cLt) (fVar 1) (fCall gLen (fCons (fVar 0) fNil))) (startA 2 [.scr ns, .int k]) M = .ok (decide ((k : Int) < ns.length)) M := by simp [startA]
  by_cases hk : k < ns.length
  · refine (run_rt (M1 := M) (d := .int (ns.getD k 0)) rfl (seq_rt ((sif_ev h1).trans ?_))).trans (trim_id rfl)
    rw [if_pos (by simpa using hk)]
    refine ret_ev ?_
    have e : atI (ns.map D.int) (k : Int) = some (.int (ns.getD k 0)) := by
      rw [atI_nn (by omega), List.getElem?_map, Int.toNat_natCast, List.getD_eq_getElem?_getD, List.getElem?_eq_getElem hk]
      rfl
    simp [startA, e]
  · refine (run_rt (M1 := M) (d := .int (ns.getD k 0)) rfl ((seq_nx ((sif_ev h1).trans (if_neg (by simpa using hk)))).trans ?_)).trans (trim_id rfl)
    rw [List.getD_eq_getElem?_getD, List.getElem?_eq_none (by omega)]
    rfl
def PenOk (k : Nat) : Cell → Prop
  | .dic _ => False
  | .lst ds => ∃ a b c : Int, ds = [.int a, .int b, .int c] ∧ 0 ≤ b ∧ b < 1000000007 ∧ 0 ≤ c ∧ c + k ≤ 1000000000
theorem PenOk.und {k n : Nat} {x : Cell} (h : PenOk k x) : Cell.und n x = true := by
  cases x with
  | dic _ => exact h.elim
  | lst ds =>
    obtain ⟨a, b, c, rfl, _⟩ := h
    rfl
theorem PenOk.less {j k : Nat} {x : Cell} (h : PenOk k x) (hj : j ≤ k) : PenOk j x := by
  cases x with
  | dic _ => exact h.elim
  | lst ds =>
    obtain ⟨a, b, c, e, h1, h2, h3, h4⟩ := h
    exact ⟨a, b, c, e, h1, h2, h3, by omega⟩
theorem m_pen_eq {c : Int} {M : Mem} : ∃ x, m_law_pen_579b16 [.int c] M = .ok (.ref M.length) (M ++ [x]) ∧ PenOk 1000000000 x := by
  have h10 : gPow (.int 10) (.int 18) M = .ok (.int 1000000000000000000) M := by
    have : (10 : Int) ^ (18 : Int).toNat = 1000000000000000000 := by decide +kernel
    have e : (decide ((0 : Int) ≤ 18) && decide ((18 : Int) ≤ 1000000) && Nat.blt (10 : Int).natAbs 18446744073709551616) = true := by decide +kernel
    show (if (decide ((0 : Int) ≤ 18) && decide ((18 : Int) ≤ 1000000) && Nat.blt (10 : Int).natAbs 18446744073709551616) = true then Res.ok (D.int ((10 : Int) ^ (18 : Int).toNat)) M else Res.bad) = _
    rw [if_pos e, this]
  refine ⟨.lst [.int (if c - 1000000000000000000 > 0 then c - 1000000000000000000 else 0), .int (c % 1000000007), .int 0], ?_, _, _, _, rfl, by omega, by omega, by omega, by omega⟩
  unfold m_law_pen_579b16 runD b_law_pen_579b16
  simp [startA, h10]
theorem mulOk_small {i j : Int} (hi : i.natAbs < 2 ^ 64) (hj : j.natAbs < 2 ^ 64) : mulOk i j = true := by
  unfold mulOk
  rw [Nat.blt_eq]
  have a := PySem.Flt.log2_lt_of (by decide : 0 < 64) hi
  have b := PySem.Flt.log2_lt_of (by decide : 0 < 64) hj
  omega
theorem m_draw_eq {p k : Nat} {n : Int} {M : Mem} {x : Cell} (hx : M[p]? = some x) (ho : PenOk (k + 1) x) (h1 : 1 ≤ n) (h2 : n ≤ 1000000000) : ∃ z x', m_law_draw_321cf4 [.ref p, .int n] M = .ok (.int z) (M.set p x') ∧ 0 ≤ z ∧ z < n ∧ PenOk k x' := by
  cases x with
  | dic _ => exact ho.elim
  | lst ds =>
    obtain ⟨a, b, c, rfl, b0, b1, c0, c1⟩ := ho
    have hp : p < M.length := (List.getElem?_eq_some_iff.mp hx).1
    have g0 : gIx (.ref p) (.int 0) M = .ok (.int a) M := by rw [gIx_ref hx]; simp
    by_cases ha : 0 < a
    · refine ⟨a % n, .lst [.int (a / n), .int b, .int c], ?_, Int.emod_nonneg _ (by omega), Int.emod_lt_of_pos _ (by omega), _, _, _, rfl, b0, b1, c0, by omega⟩
      refine (run_rt (M1 := M.set p (.lst [.int (a / n), .int b, .int c])) (d := .int (a % n)) rfl (seq_rt ((sif_ev (p := true) (M1 := M) (test_ev ?_)).trans ((if_pos rfl).trans ?_)))).trans (trim_id (by simp))
      · simp [startA, g0, cGt, ha]
      · have hlog : n.natAbs.log2 < 9000 := Nat.lt_of_lt_of_le (PySem.Flt.log2_lt_of (by decide : 0 < 64) (by omega)) (by decide)
        have hb : Nat.blt n.natAbs.log2 9000 = true := by rw [Nat.blt_eq]; exact hlog
        refine (seq_nx (set_ev (M1 := M) (d := .int (a % n)) ?_)).trans ((seq_nx (σ1 := [some (.ref p), some (.int n), some (.int (a % n)), none]) (M1 := M.set p (.lst [.int (a / n), .int b, .int c])) ?_).trans (ret_ev ?_))
        · simp [startA, g0, show 0 < n by omega]
        · simp [startA, g0, show 0 < n by omega, hb, gSetIx, hx, ixN]
        · simp [startA]
    · have hM : ∀ d : D, (M.set p (.lst [.int a, .int b, d]))[p]? = some (.lst [.int a, .int b, d]) := fun d => List.getElem?_set_self hp
      have g1 : gIx (.ref p) (.int 2) M = .ok (.int c) M := by rw [gIx_ref hx]; simp
      let M1 := M.set p (.lst [.int a, .int b, .int (c + 1)])
      have e1 : gIx (.ref p) (.int 1) M1 = .ok (.int b) M1 := by rw [gIx_ref (hM _)]; simp; rfl
      have e2 : gIx (.ref p) (.int 2) M1 = .ok (.int (c + 1)) M1 := by rw [gIx_ref (hM _)]; simp; rfl
      let s1 := (b + 17 * (c + 1)) * (69621 + 2 * (c + 1)) % 2147483647
      let s2 := (s1 * s1 + 40503 * (c + 1) + 5) % 2147483629
      have a1 : 0 ≤ s1 ∧ s1 < 2147483647 := ⟨Int.emod_nonneg _ (by decide), Int.emod_lt_of_pos _ (by decide)⟩
      have a2 : 0 ≤ s2 ∧ s2 < 2147483629 := ⟨Int.emod_nonneg _ (by decide), Int.emod_lt_of_pos _ (by decide)⟩
      refine ⟨s2 * 48271 % 2147483647 / 32 % n, .lst [.int a, .int b, .int (c + 1)], ?_, Int.emod_nonneg _ (by omega), Int.emod_lt_of_pos _ (by omega), _, _, _, rfl, b0, b1, by omega, by omega⟩
      refine (run_rt (M1 := M1) (d := .int (s2 * 48271 % 2147483647 / 32 % n)) rfl ((seq_nx ((sif_ev (p := false) (M1 := M) (test_ev ?_)).trans (if_neg (by decide)))).trans ?_)).trans (trim_id (by simp [M1]))
      · simp [startA, g0, cGt, ha]
      · refine (seq_nx (M1 := M1) (σ1 := startA 4 [.ref p, .int n]) ?_).trans ((seq_nx (set_ev (M1 := M1) (d := .int s1) ?_)).trans ((seq_nx (set_ev (M1 := M1) (d := .int s2) ?_)).trans (ret_ev ?_)))
        · simp [startA, g1, gSetIx, hx, ixN, M1]
        · have m1 : mulOk 17 (c + 1) = true := mulOk_small (by omega) (by omega)
          have m2 : mulOk 2 (c + 1) = true := mulOk_small (by omega) (by omega)
          have m3 : mulOk (b + 17 * (c + 1)) (69621 + 2 * (c + 1)) = true := mulOk_small (by omega) (by omega)
          simp [startA, e1, e2, m1, m2, m3, s1]
        · have m1 : mulOk s1 s1 = true := mulOk_small (by omega) (by omega)
          have m2 : mulOk 40503 (c + 1) = true := mulOk_small (by omega) (by omega)
          simp [startA, e1, e2, m1, m2, s2]
        · have m1 : mulOk s2 48271 = true := mulOk_small (by omega) (by omega)
          have hb : Nat.log2 32 < 9000 := by decide +kernel
          simp [startA, m1, hb, show 0 < n by omega]
end QX
set_option maxRecDepth 100000
set_option maxHeartbeats 1000000
namespace QX
open PySem PySem.Spec PyProof.Rows L2 HX
section
variable {M0 g : Mem} {p k : Nat} {x : Cell}
theorem pen_at (hp : p < M0.length) : (M0.set p x ++ g)[p]? = some x := by
  rw [List.getElem?_append_left (by rw [List.length_set]; exact hp), List.getElem?_set_self hp]
theorem pen_set {y : Cell} (hp : p < M0.length) : (M0.set p x ++ g).set p y = M0.set p y ++ g := by
  rw [List.set_append_left _ _ (by rw [List.length_set]; exact hp), List.set_set]
theorem draw_in {n : Int} (hp : p < M0.length) (ho : PenOk (k + 1) x) (h1 : 1 ≤ n) (h2 : n ≤ 1000000000) :
    ∃ z x', m_law_draw_321cf4 [.ref p, .int n] (M0.set p x ++ g) = .ok (.int z) (M0.set p x' ++ g) ∧ 0 ≤ z ∧ z < n ∧ PenOk k x' := by
  obtain ⟨z, x', e, h3, h4, h5⟩ := m_draw_eq (pen_at (g := g) hp) ho h1 h2
  rw [pen_set hp] at e
  exact ⟨z, x', e, h3, h4, h5⟩
theorem wf_set {y : Cell} (h : Wf M0) (hy : PenOk k y) : Wf (M0.set p y) := h.set hy.und
theorem wf_app {c : Cell} (h : Wf (M0 ++ g)) (hc : Cell.und (M0 ++ g).length c = true) : Wf (M0 ++ (g ++ [c])) := by
  rw [← List.append_assoc]
  exact h.push (cund_mono (Nat.le_succ _) hc)
theorem wf_pen {y z : Cell} {j : Nat} (h : Wf (M0.set p y ++ g)) (hz : PenOk j z) : Wf (M0.set p z ++ g) := by
  intro c hc
  have hl : (M0.set p z ++ g).length = (M0.set p y ++ g).length := by simp
  rw [hl]
  rcases List.mem_append.mp hc with q | q
  · by_cases hp : p < M0.length
    · rcases List.mem_or_eq_of_mem_set q with w | w
      · -- c of M0, perhaps the one that stood at p
        obtain ⟨i, hi, e⟩ := List.getElem_of_mem q
        rw [List.length_set] at hi
        by_cases hip : p = i
        · subst hip
          rw [List.getElem_set_self] at e
          rw [← e]
          exact hz.und
        · rw [List.getElem_set_ne hip] at e
          refine h c (List.mem_append_left _ ?_)
          rw [← e]
          have : (M0.set p y)[i]'(by rw [List.length_set]; exact hi) = M0[i] := List.getElem_set_ne hip _
          rw [← this]
          exact List.getElem_mem _
      · rw [w]; exact hz.und
    · rw [List.set_eq_of_length_le (by omega)] at q
      refine h c (List.mem_append_left _ ?_)
      rw [List.set_eq_of_length_le (by omega)]
      exact q
  · exact h c (List.mem_append_right _ q)
theorem comp_pen {fi : F Ita} {vs : List Nat} {t : Tg} {e : F D} {σ : Sa} {it : Ita} {x1 : Cell} {b : Nat} (R : Im → D → Prop) (hp : p < M0.length) (hi : fi σ (M0.set p x ++ g) = .ok it (M0.set p x1 ++ g)) (hc : ∀ M', it.chk M' = true) (hw : Wf (M0.set p x ++ g)) (hl : it.items.length ≤ 1000000)
    (ho : PenOk (k + b * it.items.length) x1) (hR : ∀ im d n, R im d → d.und n = true)
    (he : ∀ im ∈ it.items, ∀ (j : Nat) (y : Cell) (g' : Mem), PenOk (j + b) y → Wf (M0.set p y ++ g') → ∃ σ1, t.put im (wipeA σ vs) = some σ1 ∧ ∃ d y', e σ1 (M0.set p y ++ g') = .ok d (M0.set p y' ++ g') ∧ R im d ∧ PenOk j y') :
    ∃ ds x2, fTrim (fCompC fi vs t fYes e) σ (M0.set p x ++ g) = .ok (.lst ds) (M0.set p x2 ++ g) ∧ ds.length = it.items.length ∧ (∀ (i : Nat) (im : Im) (d : D), it.items[i]? = some im → ds[i]? = some d → R im d) ∧ PenOk k x2 := by
  let Iv : Nat → List D → Mem → Prop := fun j acc M2 => ∃ y, M2 = M0.set p y ++ (g ++ [.lst acc]) ∧ acc.length = j ∧ (∀ (i : Nat) (im : Im) (d : D), it.items[i]? = some im → acc[i]? = some d → R im d) ∧ j ≤ it.items.length ∧ PenOk (k + b * (it.items.length - j)) y
  have step : ∀ j acc M2 im, it.items[j - 0]? = some im → 0 ≤ j → Iv j acc M2 → it.chk M2 = true ∧ ∃ σ1, t.put im (wipeA σ vs) = some σ1 ∧ ((∃ M1, fYes σ1 M2 = .ok false M1 ∧ Iv (j + 1) acc M1) ∨ ∃ M1 d M3, fYes σ1 M2 = .ok true M1 ∧ e σ1 M1 = .ok d M3 ∧ M3[(M0.set p x1 ++ g).length]? = some (.lst acc) ∧ Iv (j + 1) (acc ++ [d]) (M3.set (M0.set p x1 ++ g).length (.lst (acc ++ [d])))) := by
    rintro j acc M2 im hj _ ⟨y, rfl, ha, hr, hjl, hy⟩
    rw [Nat.sub_zero] at hj
    have him := List.mem_of_getElem? hj
    have hlt : j < it.items.length := (List.getElem?_eq_some_iff.mp hj).1
    have hacc : D.undA (M0.set p y ++ g).length acc = true := by
      rw [undA_iff]
      intro d hd
      obtain ⟨i, hi, rfl⟩ := List.getElem_of_mem hd
      exact hR _ _ _ (hr i _ _ (List.getElem?_eq_getElem (by omega)) (List.getElem?_eq_getElem hi))
    have hy' : PenOk ((k + b * (it.items.length - (j + 1))) + b) y := by
      have e1 : it.items.length - j = (it.items.length - (j + 1)) + 1 := by omega
      rw [e1, Nat.mul_add, Nat.mul_one, ← Nat.add_assoc] at hy
      exact hy
    have hwf : Wf (M0.set p y ++ (g ++ [.lst acc])) := wf_app (wf_pen hw hy) hacc
    obtain ⟨σ1, h1, d, y', h2, h3, h4⟩ := he im him _ y (g ++ [.lst acc]) hy' hwf
    have hn : (M0.set p x1 ++ g).length = (M0.set p y' ++ g).length := by simp
    refine ⟨hc _, σ1, h1, .inr ⟨_, d, _, rfl, h2, ?_, y', ?_, by rw [List.length_append, ha]; rfl, fun i im' d' hi hd => ?_, hlt, h4⟩⟩
    · rw [hn, ← List.append_assoc, List.getElem?_append_right (Nat.le_refl _), Nat.sub_self]; rfl
    · rw [hn, ← List.append_assoc, List.set_append_right _ _ (Nat.le_refl _), Nat.sub_self, List.append_assoc]; rfl
    · by_cases hij : i < acc.length
      · rw [List.getElem?_append_left hij] at hd
        exact hr i im' d' hi hd
      · rw [List.getElem?_append_right (by omega)] at hd
        have : i - acc.length = 0 := by
          have := (List.getElem?_eq_some_iff.mp hd).1
          simp at this
          omega
        rw [this] at hd
        simp at hd
        have e2 : i = j := by omega
        subst e2
        rw [hj] at hi
        cases hi
        rw [← hd]
        exact h3
  obtain ⟨acc', M', h1, ⟨y, h2, h3, h4, _, h6⟩, _⟩ := comp_loop (t := t) (c := fYes) (e := e) (chk := it.chk) (σ := wipeA σ vs) (n := (M0.set p x1 ++ g).length) Iv it.items 0 [] ((M0.set p x1 ++ g) ++ [.lst []]) (by simpa using hl) step (fun acc M2 _ => hc M2) ⟨x1, by rw [List.append_assoc], rfl, fun i im d _ hd => by simp at hd, Nat.zero_le _, by rw [Nat.sub_zero]; exact ho⟩
  rw [Nat.zero_add] at h3 h6
  rw [Nat.sub_self, Nat.mul_zero, Nat.add_zero] at h6
  refine ⟨acc', y, ?_, h3, h4, h6⟩
  unfold fTrim fCompC
  rw [hi]
  simp only [bind_ok]
  rw [h1]
  simp only [bind_ok]
  rw [h2, ← List.append_assoc]
  have hn : (M0.set p y ++ g).length = (M0.set p x ++ g).length := by simp
  have hn1 : (M0.set p x1 ++ g).length = (M0.set p x ++ g).length := by simp
  rw [hn1]
  refine trim_ref (g := []) hn (wf_pen hw h6) ?_
  rw [undA_iff]
  intro d hd
  obtain ⟨i, hi, rfl⟩ := List.getElem_of_mem hd
  exact hR _ _ _ (h4 i _ _ (List.getElem?_eq_getElem (by omega)) (List.getElem?_eq_getElem hi))
end
theorem for_nums {b : FS} {n m i : Nat} {σ : Sa} {M : Mem} (Iv : Nat → Sa → Mem → Prop) (h0 : Iv 0 σ M) (step : ∀ j σ M, j < m → Iv j σ M → ∃ σ2 M2, (b (σ.set i (some (.int (j : Int)))) M = .ok (.nx σ2) M2 ∨ b (σ.set i (some (.int (j : Int)))) M = .ok (.ct σ2) M2) ∧ Iv (j + 1) (gc n σ2 M2).1 (gc n σ2 M2).2) :
    ∃ σ' M', forL (.name i) b (fun _ => true) n (nums 0 m) σ M = .ok (.nx σ') M' ∧ Iv m σ' M' := by
  obtain ⟨σ', M', h1, h2⟩ := for_loop (t := .name i) (b := b) (chk := fun _ => true) (n := n) Iv (nums 0 m) 0 σ M (fun j σ M im hj _ hv => by
    rw [Nat.sub_zero] at hj
    have hlt : j < m := by
      have := (List.getElem?_eq_some_iff.mp hj).1
      rw [nums_len] at this
      exact this
    rw [nums_at m 0 j hlt] at hj
    cases hj
    obtain ⟨σ2, M2, h1, h2⟩ := step j σ M hlt hv
    refine ⟨rfl, _, rfl, σ2, M2, ?_, h2⟩
    rw [Int.zero_add]
    exact h1) (fun _ _ _ => rfl) h0
  rw [Nat.zero_add, nums_len] at h2
  exact ⟨σ', M', h1, h2⟩
theorem for_items {b : FS} {n i : Nat} {σ : Sa} {M : Mem} {ds : List D} (Iv : Nat → Sa → Mem → Prop) (h0 : Iv 0 σ M) (step : ∀ j σ M d, ds[j]? = some d → Iv j σ M → ∃ σ2 M2, (b (σ.set i (some d)) M = .ok (.nx σ2) M2 ∨ b (σ.set i (some d)) M = .ok (.ct σ2) M2) ∧ Iv (j + 1) (gc n σ2 M2).1 (gc n σ2 M2).2) :
    ∃ σ' M', forL (.name i) b (fun _ => true) n (ds.map .d) σ M = .ok (.nx σ') M' ∧ Iv ds.length σ' M' := by
  obtain ⟨σ', M', h1, h2⟩ := for_loop (t := .name i) (b := b) (chk := fun _ => true) (n := n) Iv (ds.map .d) 0 σ M (fun j σ M im hj _ hv => by
    rw [Nat.sub_zero, List.getElem?_map] at hj
    cases q : ds[j]? with
    | none => rw [q] at hj; cases hj
    | some d =>
      rw [q] at hj
      cases hj
      obtain ⟨σ2, M2, h1, h2⟩ := step j σ M d q hv
      exact ⟨rfl, _, rfl, σ2, M2, h1, h2⟩) (fun _ _ _ => rfl) h0
  rw [Nat.zero_add, List.length_map] at h2
  exact ⟨σ', M', h1, h2⟩
def Has (σ : Sa) (n : Nat) (l : List (Nat × D)) : Prop := σ.length = n ∧ ∀ q ∈ l, σ[q.1]? = some (some q.2)
theorem Has.at {σ : Sa} {n : Nat} {l : List (Nat × D)} (h : Has σ n l) {i : Nat} {d : D} (hm : (i, d) ∈ l) : σ[i]? = some (some d) := h.2 _ hm
theorem Has.set {σ : Sa} {n : Nat} {l : List (Nat × D)} (h : Has σ n l) {i : Nat} {o : Option D} (hi : ∀ q ∈ l, q.1 ≠ i) : Has (σ.set i o) n l :=
  ⟨by rw [List.length_set]; exact h.1, fun q hq => by rw [List.getElem?_set_ne (Ne.symm (hi q hq))]; exact h.2 q hq⟩
theorem Has.put {σ : Sa} {n : Nat} {l : List (Nat × D)} (h : Has σ n l) {i : Nat} {d : D} (hn : i < n) (hi : ∀ q ∈ l, q.1 ≠ i) : Has (σ.set i (some d)) n ((i, d) :: l) := by
  refine ⟨by rw [List.length_set]; exact h.1, fun q hq => ?_⟩
  rcases List.mem_cons.mp hq with rfl | hq
  · exact List.getElem?_set_self (by rw [h.1]; exact hn)
  · rw [List.getElem?_set_ne (Ne.symm (hi q hq))]
    exact h.2 q hq
theorem Has.keep {σ : Sa} {n m : Nat} {l : List (Nat × D)} (h : Has σ n l) (hu : ∀ q ∈ l, q.2.und m = true) : Has (σ.map (keepS m)) n l := by
  refine ⟨by rw [List.length_map]; exact h.1, fun q hq => ?_⟩
  rw [List.getElem?_map, h.2 q hq]
  show some (keepS m (some q.2)) = _
  unfold keepS
  dsimp only
  rw [if_pos (hu q hq)]
theorem Has.sub {σ : Sa} {n : Nat} {l l' : List (Nat × D)} (h : Has σ n l) (hs : ∀ q ∈ l', q ∈ l) : Has σ n l' := ⟨h.1, fun q hq => h.2 q (hs q hq)⟩
end QX
set_option maxRecDepth 100000
set_option maxHeartbeats 1000000
namespace QX
open PySem PySem.Spec PyProof.Rows L2 HX
theorem map_of {ds : List D} (P : Int → Prop) (h : ∀ d ∈ ds, ∃ z, d = .int z ∧ P z) : ∃ zs : List Int, ds = zs.map .int ∧ ∀ z ∈ zs, P z := by
  induction ds with
  | nil => exact ⟨[], rfl, fun z hz => by simp at hz⟩
  | cons d ds ih =>
    obtain ⟨z, rfl, hz⟩ := h d List.mem_cons_self
    obtain ⟨zs, rfl, hzs⟩ := ih fun d hd => h d (List.mem_cons_of_mem _ hd)
    refine ⟨z :: zs, rfl, fun y hy => ?_⟩
    rcases List.mem_cons.mp hy with rfl | hy
    · exact hz
    · exact hzs y hy
theorem last_at {A : Mem} {c : Cell} {n : Nat} (h : A.length = n) : (A ++ [c])[n]? = some c := by
  rw [List.getElem?_append_right (by omega), h, Nat.sub_self]; rfl
theorem append_last {A : Mem} {ds : List D} {d : D} {n : Nat} (h : A.length = n) (hl : ds.length < 16777216) : gAppend (.ref n) [d] (A ++ [.lst ds]) = .ok .non (A ++ [.lst (ds ++ [d])]) := by
  rw [gAppend_ref (last_at h) hl, List.set_append_right _ _ (by omega), h, Nat.sub_self]; rfl
theorem isL_last {A : Mem} {ds : List D} {n : Nat} (h : A.length = n) : isL (A ++ [.lst ds]) (.ref n) = true := by
  rw [isL_ref, last_at h]; rfl
section
variable {M0 g : Mem} {p k : Nat} {x : Cell} {σ : Sa} {many cups : Int}
theorem any_ends (hp : p < M0.length) (hw : Wf (M0.set p x ++ g)) (hl : σ.length = 11) (h0 : σ[0]? = some (some (.ref p))) (h2 : σ[2]? = some (some (.int cups))) (h3 : σ[3]? = some (some (.int many))) (hm : 1 ≤ many) (hm6 : many ≤ 6) (hc : 0 ≤ cups) (hc4 : cups ≤ 4) (ho : PenOk (k + 4) x) :
    ∃ zs x', fTrim (fCompC (fIt gRange1 (fCons (fBin gIx (fLst (fCons (fC (.int 1)) (fCons (fC (.int 1)) (fCons (fC (.int 2)) (fCons (fC (.int 0)) (fCons (fC (.int 3)) fNil)))))) (fCall m_law_draw_321cf4 (fCons (fVar 0) (fCons (fC (.int 5)) fNil)))) fNil)) [9] (.name 9) fYes (fCall m_law_draw_321cf4 (fCons (fVar 0) (fCons (fBin gAdd (fVar 3) (fVar 2)) fNil)))) σ (M0.set p x ++ g) = .ok (.lst (zs.map .int)) (M0.set p x' ++ g) ∧ EndsOk (many + cups) zs ∧ PenOk k x' := by
  obtain ⟨z, x1, e1, z0, z5, o1⟩ := draw_in (g := g) (k := k + 3) (n := 5) hp ho (by decide) (by decide)
  have hi : ∃ m : Nat, m ≤ 3 ∧ fIt gRange1 (fCons (fBin gIx (fLst (fCons (fC (.int 1)) (fCons (fC (.int 1)) (fCons (fC (.int 2)) (fCons (fC (.int 0)) (fCons (fC (.int 3)) fNil)))))) (fCall m_law_draw_321cf4 (fCons (fVar 0) (fCons (fC (.int 5)) fNil)))) fNil) σ (M0.set p x ++ g) = .ok ⟨nums 0 m, fun _ => true⟩ (M0.set p x1 ++ g) := by
    have hz : z = 0 ∨ z = 1 ∨ z = 2 ∨ z = 3 ∨ z = 4 := by omega
    have at_ : ∀ n : Int, gIx (.lst [.int 1, .int 1, .int 2, .int 0, .int 3]) (.int z) (M0.set p x1 ++ g) = .ok (.int n) (M0.set p x1 ++ g) → mid n = true → fIt gRange1 (fCons (fBin gIx (fLst (fCons (fC (.int 1)) (fCons (fC (.int 1)) (fCons (fC (.int 2)) (fCons (fC (.int 0)) (fCons (fC (.int 3)) fNil)))))) (fCall m_law_draw_321cf4 (fCons (fVar 0) (fCons (fC (.int 5)) fNil)))) fNil) σ (M0.set p x ++ g) = .ok ⟨nums 0 n.toNat, fun _ => true⟩ (M0.set p x1 ++ g) := by
      intro n hn hmid
      have hf : few 5 = true := by decide
      simp only [ev_it, ev_cons, ev_bin, ev_lst, ev_c, ev_nil, bind_ok, List.length_cons, List.length_nil, Nat.zero_add, Nat.reduceAdd, hf, if_true, ev_call, ev_var, h0, e1, hn, gRange1_int, hmid]
    rcases hz with rfl | rfl | rfl | rfl | rfl
    · exact ⟨1, by decide, at_ 1 rfl rfl⟩
    · exact ⟨1, by decide, at_ 1 rfl rfl⟩
    · exact ⟨2, by decide, at_ 2 rfl rfl⟩
    · exact ⟨0, by decide, at_ 0 rfl rfl⟩
    · exact ⟨3, by decide, at_ 3 rfl rfl⟩
  obtain ⟨m, hm3, hi⟩ := hi
  obtain ⟨ds, x2, c1, c2, c3, c4⟩ := comp_pen (k := k) (b := 1) (R := fun _ d => ∃ z, d = D.int z ∧ 0 ≤ z ∧ z < many + cups) (t := .name 9) (vs := [9]) (e := fCall m_law_draw_321cf4 (fCons (fVar 0) (fCons (fBin gAdd (fVar 3) (fVar 2)) fNil))) hp hi (fun _ => rfl) hw (by rw [nums_len]; omega) (by rw [nums_len]; exact o1.less (by omega)) (fun im d n h => by obtain ⟨z, rfl, _⟩ := h; rfl) (fun im him j y g' oy wy => by
    obtain ⟨i, hi, rfl⟩ := List.getElem_of_mem him
    have hlt : i < m := by rw [nums_len] at hi; exact hi
    have e := nums_at m 0 i hlt
    rw [List.getElem?_eq_getElem hi] at e
    rw [Option.some.inj e]
    refine ⟨_, rfl, ?_⟩
    obtain ⟨z, y', e2, q1, q2, q3⟩ := draw_in (g := g') (k := j) (n := many + cups) hp oy (by omega) (by omega)
    refine ⟨.int z, y', ?_, ⟨z, rfl, q1, q2⟩, q3⟩
    simp only [wipeA]
    simp [h0, h2, h3, e2])
  obtain ⟨zs, rfl, hz⟩ := map_of (fun z => 0 ≤ z ∧ z < many + cups) (ds := ds) (fun d hd => by
    obtain ⟨i, hi, rfl⟩ := List.getElem_of_mem hd
    exact c3 i _ _ (List.getElem?_eq_getElem (by omega)) (List.getElem?_eq_getElem hi))
  refine ⟨zs, x2, c1, ⟨?_, hz⟩, c4⟩
  rw [List.length_map] at c2
  dsimp only at c2
  rw [nums_len] at c2
  omega
theorem any_cups {zs : List Int} (hp : p < M0.length) (hw : Wf (M0.set p x ++ g)) (hl : σ.length = 11) (h0 : σ[0]? = some (some (.ref p))) (h2 : σ[2]? = some (some (.int cups))) (h3 : σ[3]? = some (some (.int many))) (h8 : σ[8]? = some (some (.lst (zs.map .int)))) (hm : 1 ≤ many) (hm6 : many ≤ 6) (hc : 0 ≤ cups) (hc4 : cups ≤ 4) (hz : EndsOk (many + cups) zs) (ho : PenOk (k + 3) x) :
    ∃ ys x', fTrim (fCompC (fIter (fVar 8)) [10] (.name 10) fYes (fIf (fAndT (fTest (fBin (gCmp cGt) (fVar 2) (fC (.int 0)))) (fTest (fBin (gEq false) (fCall m_law_draw_321cf4 (fCons (fVar 0) (fCons (fC (.int 3)) fNil))) (fC (.int 0))))) (fBin gAdd (fVar 3) (fBin gMod (fVar 10) (fVar 2))) (fVar 10))) σ (M0.set p x ++ g) = .ok (.lst (ys.map .int)) (M0.set p x' ++ g) ∧ EndsOk (many + cups) ys ∧ PenOk k x' := by
  have hl3 := hz.1
  have hi : fIter (fVar 8) σ (M0.set p x ++ g) = .ok ⟨(zs.map D.int).map .d, fun _ => true⟩ (M0.set p x ++ g) := by simp only [ev_iter, ev_var, h8, bind_ok, gIter_lst]
  obtain ⟨ds, x2, c1, c2, c3, c4⟩ := comp_pen (k := k) (b := 1) (R := fun _ d => ∃ z, d = D.int z ∧ 0 ≤ z ∧ z < many + cups) (t := .name 10) (vs := [10]) (e := fIf (fAndT (fTest (fBin (gCmp cGt) (fVar 2) (fC (.int 0)))) (fTest (fBin (gEq false) (fCall m_law_draw_321cf4 (fCons (fVar 0) (fCons (fC (.int 3)) fNil))) (fC (.int 0))))) (fBin gAdd (fVar 3) (fBin gMod (fVar 10) (fVar 2))) (fVar 10)) hp hi (fun _ => rfl) hw (by simp; omega) (by simp only [List.length_map]; exact ho.less (by omega)) (fun im d n h => by obtain ⟨z, rfl, _⟩ := h; rfl) (fun im him j y g' oy wy => by
    obtain ⟨d, hd, rfl⟩ := List.mem_map.mp him
    obtain ⟨e, he, rfl⟩ := List.mem_map.mp hd
    have he2 := hz.2 e he
    refine ⟨_, rfl, ?_⟩
    have k10 : ((wipeA σ [10]).set 10 (some (D.int e)))[10]? = some (some (.int e)) := List.getElem?_set_self (by simp [wipeA, hl])
    have k0 : ((wipeA σ [10]).set 10 (some (D.int e)))[0]? = some (some (.ref p)) := by simp [wipeA, h0]
    have k2 : ((wipeA σ [10]).set 10 (some (D.int e)))[2]? = some (some (.int cups)) := by simp [wipeA, h2]
    have k3 : ((wipeA σ [10]).set 10 (some (D.int e)))[3]? = some (some (.int many)) := by simp [wipeA, h3]
    generalize (wipeA σ [10]).set 10 (some (D.int e)) = σ1 at k10 k0 k2 k3
    by_cases hc0 : 0 < cups
    · obtain ⟨z, y', e2, q1, q2, q3⟩ := draw_in (g := g') (k := j) (n := 3) hp oy (by decide) (by decide)
      by_cases hz0 : z = 0
      · refine ⟨.int (many + e % cups), y', ?_, ⟨_, rfl, ?_, ?_⟩, q3⟩
        · subst hz0
          simp [k0, k2, k3, k10, e2, cGt, hc0]
        · have := Int.emod_nonneg e (show cups ≠ 0 by omega); omega
        · have := Int.emod_lt_of_pos e hc0; omega
      · refine ⟨.int e, y', ?_, ⟨_, rfl, he2.1, he2.2⟩, q3⟩
        simp [k0, k2, k3, k10, e2, cGt, hc0, hz0]
    · refine ⟨.int e, y, ?_, ⟨_, rfl, he2.1, he2.2⟩, oy.less (by omega)⟩
      simp [k0, k2, k3, k10, cGt, hc0])
  obtain ⟨ys, rfl, hy⟩ := map_of (fun z => 0 ≤ z ∧ z < many + cups) (ds := ds) (fun d hd => by
    obtain ⟨i, hi, rfl⟩ := List.getElem_of_mem hd
    exact c3 i _ _ (List.getElem?_eq_getElem (by omega)) (List.getElem?_eq_getElem hi))
  refine ⟨ys, x2, c1, ⟨?_, hy⟩, c4⟩
  simp only [List.length_map] at c2
  omega
end
end QX
set_option maxRecDepth 100000
set_option maxHeartbeats 1000000
namespace QX
open PySem PySem.Spec PyProof.Rows L2 HX
section
variable {M0 : Mem} {p k : Nat} {x : Cell} {many cups : Int}
def stepFS : FS := (sSeq (sSet 8 (fTrim (fCompC (fIt gRange1 (fCons (fBin gIx (fLst (fCons (fC (.int 1)) (fCons (fC (.int 1)) (fCons (fC (.int 2)) (fCons (fC (.int 0)) (fCons (fC (.int 3)) fNil)))))) (fCall m_law_draw_321cf4 (fCons (fVar 0) (fCons (fC (.int 5)) fNil)))) fNil)) [9] (.name 9) fYes (fCall m_law_draw_321cf4 (fCons (fVar 0) (fCons (fBin gAdd (fVar 3) (fVar 2)) fNil))))))
  (sExpr (fMeth gAppend (fVar 6) (fCons (fCall gTuple (fCons (fTrim (fCompC (fIter (fVar 8)) [10] (.name 10) fYes (fIf (fAndT (fTest (fBin (gCmp cGt) (fVar 2) (fC (.int 0)))) (fTest (fBin (gEq false) (fCall m_law_draw_321cf4 (fCons (fVar 0) (fCons (fC (.int 3)) fNil))) (fC (.int 0))))) (fBin gAdd (fVar 3) (fBin gMod (fVar 10) (fVar 2))) (fVar 10)))) fNil)) fNil))))
abbrev anyL (p : Nat) (cups many : Int) (n : Nat) : List (Nat × D) := [(0, .ref p), (2, .int cups), (3, .int many), (4, .ref n)]
theorem any_one {A : Mem} {ss : List D} {σ : Sa} (hp : p < M0.length) (hA : A = M0.set p x ++ [g]) (hs : Has σ 11 ((6, .ref (M0.length + 1)) :: anyL p cups many M0.length)) (hw : Wf (A ++ [.lst ss])) (hl : ss.length < 1000) (hm : 1 ≤ many) (hm6 : many ≤ 6) (hc : 0 ≤ cups) (hc4 : cups ≤ 4) (ho : PenOk (k + 7) x) :
    ∃ es x' σ', stepFS σ (A ++ [.lst ss]) = .ok (.nx σ') (M0.set p x' ++ [g] ++ [.lst (ss ++ [stepT es])]) ∧ EndsOk (many + cups) es ∧ PenOk k x' ∧ Has σ' 11 ((6, .ref (M0.length + 1)) :: anyL p cups many M0.length) := by
  subst hA
  have h0 := hs.at (i := 0) (d := .ref p) (by simp)
  have h2 := hs.at (i := 2) (d := .int cups) (by simp)
  have h3 := hs.at (i := 3) (d := .int many) (by simp)
  rw [List.append_assoc] at hw ⊢
  obtain ⟨zs, x1, e1, z1, o1⟩ := any_ends (k := k + 3) hp hw hs.1 h0 h2 h3 hm hm6 hc hc4 ho
  have hs1 : Has (σ.set 8 (some (.lst (zs.map .int)))) 11 ((8, .lst (zs.map .int)) :: (6, .ref (M0.length + 1)) :: anyL p cups many M0.length) := hs.put (by decide) (by simp)
  have w1 := wf_pen hw o1
  obtain ⟨ys, x2, e2, z2, o2⟩ := any_cups (k := k) hp w1 hs1.1 (hs1.at (i := 0) (d := .ref p) (by simp)) (hs1.at (i := 2) (d := .int cups) (by simp)) (hs1.at (i := 3) (d := .int many) (by simp)) (hs1.at (i := 8) (d := .lst (zs.map .int)) (by simp)) hm hm6 hc hc4 z1 o1
  have h6 := hs1.at (i := 6) (d := .ref (M0.length + 1)) (by simp)
  refine ⟨ys, x2, _, ?_, z2, o2, hs1.sub (by simp)⟩
  refine (seq_nx (set_ev e1)).trans (expr_ev (d := .non) ?_)
  have hn : (M0.set p x1 ++ [g]).length = M0.length + 1 := by simp
  have hn2 : (M0.set p x2 ++ [g]).length = M0.length + 1 := by simp
  have il : isL (M0.set p x1 ++ ([g] ++ [.lst ss])) (.ref (M0.length + 1)) = true := by
    rw [← List.append_assoc]
    exact isL_last hn
  rw [ev_meth, ev_var, h6]
  simp only [bind_ok, il, if_true, ev_cons, ev_call, ev_nil]
  rw [e2]
  simp only [bind_ok, gTuple_lst]
  rw [← List.append_assoc, append_last hn2 (by omega)]
  rfl
theorem undA_map {α : Type} {n : Nat} {f : α → D} (h : ∀ a, (f a).und n = true) (xs : List α) : D.undA n (xs.map f) = true := by
  rw [undA_iff]
  intro d hd
  obtain ⟨a, _, rfl⟩ := List.mem_map.mp hd
  exact h a
theorem und_anyL {p n m : Nat} {cups many : Int} (hp : p < m) (hn : n < m) : ∀ q ∈ anyL p cups many n, q.2.und m = true := by
  intro q hq
  simp only [anyL, List.mem_cons, List.mem_nil_iff, or_false] at hq
  rcases hq with rfl | rfl | rfl | rfl
  · simpa [D.und, Nat.blt_eq] using hp
  · rfl
  · rfl
  · simpa [D.und, Nat.blt_eq] using hn
def wheelFS : FS := (sSeq (sSet 6 (fNew fNil))
  (sSeq (sFor (fIt gRange1 (fCons (fBin gAdd (fC (.int 1)) (fCall m_law_draw_321cf4 (fCons (fVar 0) (fCons (fC (.int 4)) fNil)))) fNil)) (.name 7)
  stepFS)
  (sExpr (fMeth gAppend (fVar 4) (fCons (fCall gTuple (fCons (fVar 6) fNil)) fNil)))))
theorem any_wheel {ws : List (List (List Int))} {σ : Sa} (hp : p < M0.length) (hs : Has σ 11 (anyL p cups many M0.length)) (hw : Wf M0) (hl : ws.length < 1000) (hm : 1 ≤ many) (hm6 : many ≤ 6) (hc : 0 ≤ cups) (hc4 : cups ≤ 4) (ho : PenOk (k + 29) x) :
    ∃ w x' σ' e, wheelFS σ (M0.set p x ++ [.lst (ws.map wheelT)]) = .ok (.nx σ') (M0.set p x' ++ [.lst ((ws ++ [w]).map wheelT)] ++ [e]) ∧ WheelOk (many + cups) w ∧ PenOk k x' ∧ Has σ' 11 (anyL p cups many M0.length) := by
  have wW : ∀ (y : Cell) (j : Nat) (ds : List D) (us : List (List (List Int))), PenOk j y → (∀ n, D.undA n ds = true) → Wf (M0.set p y ++ [.lst (us.map wheelT)] ++ [.lst ds]) := by
    intro y j ds us oy hd
    refine Wf.push ?_ (hd _)
    exact Wf.push (wf_set hw oy) (undA_map (fun a => und_wheel a) us)
  have h0 := hs.at (i := 0) (d := .ref p) (by simp)
  obtain ⟨z, x1, e1, z0, z4, o1⟩ := draw_in (g := [.lst (ws.map wheelT), .lst []]) (k := k + 28) (n := 4) hp ho (by decide) (by decide)
  have hs1 : Has (σ.set 6 (some (.ref (M0.length + 1)))) 11 ((6, .ref (M0.length + 1)) :: anyL p cups many M0.length) := hs.put (by decide) (by simp)
  have f1 : sSet 6 (fNew fNil) σ (M0.set p x ++ [.lst (ws.map wheelT)]) = .ok (.nx (σ.set 6 (some (.ref (M0.length + 1))))) (M0.set p x ++ [.lst (ws.map wheelT), .lst []]) := by
    refine set_ev ?_
    have : few 0 = true := by decide
    simp [this]
  have h0' := hs1.at (i := 0) (d := .ref p) (by simp)
  generalize σ.set 6 (some (D.ref (M0.length + 1))) = σ1 at hs1 f1 h0'
  have hmid : mid (1 + z) = true := by
    simp only [mid, Bool.and_eq_true, decide_eq_true_eq]
    omega
  have fi : fIt gRange1 (fCons (fBin gAdd (fC (.int 1)) (fCall m_law_draw_321cf4 (fCons (fVar 0) (fCons (fC (.int 4)) fNil)))) fNil) σ1 (M0.set p x ++ [.lst (ws.map wheelT), .lst []]) = .ok ⟨nums 0 (1 + z).toNat, fun _ => true⟩ (M0.set p x1 ++ [.lst (ws.map wheelT), .lst []]) := by
    simp only [ev_it, ev_cons, ev_bin, ev_c, ev_call, ev_var, h0', ev_nil, bind_ok, e1, gAdd_int, gRange1_int, hmid, if_true]
  obtain ⟨σ2, M2, f2, ss, y, rfl, v1, v2, v3, v4⟩ := for_nums (b := stepFS) (n := (M0.set p x1 ++ [Cell.lst (ws.map wheelT), .lst []]).length) (m := (1 + z).toNat) (i := 7) (σ := σ1) (M := M0.set p x1 ++ [.lst (ws.map wheelT), .lst []])
    (fun j σ M => ∃ ss y, M = M0.set p y ++ [.lst (ws.map wheelT)] ++ [.lst (ss.map stepT)] ∧ ss.length = j ∧ (∀ s ∈ ss, EndsOk (many + cups) s) ∧ PenOk (k + 7 * ((1 + z).toNat - j)) y ∧ Has σ 11 ((6, .ref (M0.length + 1)) :: anyL p cups many M0.length))
    ⟨[], x1, by simp, rfl, fun s h => by simp at h, o1.less (by omega), hs1⟩ (fun j σ M hj hv => by
      obtain ⟨ss, y, rfl, u1, u2, u3, u4⟩ := hv
      have e3 : (1 + z).toNat - j = ((1 + z).toNat - (j + 1)) + 1 := by omega
      have oy : PenOk ((k + 7 * ((1 + z).toNat - (j + 1))) + 7) y := by
        rw [e3, Nat.mul_add, Nat.mul_one, ← Nat.add_assoc] at u3
        exact u3
      obtain ⟨es, x', σ', g1, g2, g3, g4⟩ := any_one (g := .lst (ws.map wheelT)) (ss := ss.map stepT) (σ := σ.set 7 (some (.int (j : Int)))) hp rfl (u4.set (by simp)) (wW y _ _ ws u3 (fun n => undA_map (fun a => und_step a) ss)) (by rw [List.length_map]; omega) hm hm6 hc hc4 oy
      refine ⟨σ', _, .inl g1, ?_⟩
      rw [gc_same (by simp)]
      refine ⟨ss ++ [es], x', by rw [List.map_append]; rfl, by rw [List.length_append, u1]; rfl, fun s hs => ?_, g3, g4⟩
      rcases List.mem_append.mp hs with q | q
      · exact u2 s q
      · rw [List.mem_singleton.mp q]; exact g2)
  rw [Nat.sub_self, Nat.mul_zero, Nat.add_zero] at v3
  have h4 := v4.at (i := 4) (d := .ref M0.length) (by simp)
  have h6 := v4.at (i := 6) (d := .ref (M0.length + 1)) (by simp)
  refine ⟨ss, y, σ2, .lst (ss.map stepT), ?_, ⟨by omega, by omega, v2⟩, v3, v4.sub (by simp)⟩
  refine (seq_nx f1).trans ((seq_nx (σ1 := σ2) (M1 := M0.set p y ++ [.lst (ws.map wheelT)] ++ [.lst (ss.map stepT)]) ?_).trans (expr_ev (d := .non) ?_))
  · rw [ev_for, fi]
    exact f2
  · have a4 : (M0.set p y ++ [.lst (ws.map wheelT)] ++ [.lst (ss.map stepT)])[M0.length]? = some (.lst (ws.map wheelT)) := by
      rw [List.append_assoc, List.getElem?_append_right (by simp)]
      simp
    have a6 : (M0.set p y ++ [.lst (ws.map wheelT)] ++ [.lst (ss.map stepT)])[M0.length + 1]? = some (.lst (ss.map stepT)) := last_at (by simp)
    have il : isL (M0.set p y ++ [.lst (ws.map wheelT)] ++ [.lst (ss.map stepT)]) (.ref M0.length) = true := by rw [isL_ref, a4]; rfl
    rw [ev_meth, ev_var, h4]
    simp only [bind_ok, il, if_true, ev_cons, ev_call, ev_nil, ev_var, h6]
    rw [gTuple_ref a6]
    simp only [bind_ok]
    rw [gAppend_ref a4 (by rw [List.length_map]; omega)]
    congr 1
    rw [List.append_assoc, List.set_append_right _ _ (by simp)]
    simp [wheelT]
def boardFS : FS := (sSeq (sAsg (fTup (fCons (fBin gAdd (fC (.int 1)) (fCall m_law_draw_321cf4 (fCons (fVar 0) (fCons (fVar 1) fNil)))) (fCons (fCall m_law_draw_321cf4 (fCons (fVar 0) (fCons (fBin gAdd (fVar 2) (fC (.int 1))) fNil))) fNil))) (.tup [3, 2]))
  (sSeq (sSet 4 (fNew fNil))
  (sSeq (sFor (fIt gRange1 (fCons (fVar 3) fNil)) (.name 5)
  wheelFS)
  (sRet (fTup (fCons (fCall gTuple (fCons (fVar 4) fNil)) (fCons (fVar 2) fNil)))))))
theorem any_board_body : b_law_any_board_7df546 = boardFS := rfl
theorem m_any_board_eq {M : Mem} {most cm : Int} (hx : M[p]? = some x) (hw : Wf M) (ho : PenOk (k + 200) x) (h1 : 1 ≤ most) (h6 : most ≤ 6) (hc0 : 0 ≤ cm) (hc4 : cm ≤ 4) :
    ∃ ws c x', m_law_any_board_7df546 [.ref p, .int most, .int cm] M = .ok (boardT ws c) (M.set p x') ∧ BoardOk ws c ∧ (ws.length : Int) ≤ most ∧ c ≤ cm ∧ PenOk k x' := by
  have hp : p < M.length := (List.getElem?_eq_some_iff.mp hx).1
  have hM : M = M.set p x ++ [] := by
    rw [List.append_nil]
    refine List.ext_getElem? fun i => ?_
    by_cases hi : p = i
    · subst hi; rw [List.getElem?_set_self hp, hx]
    · rw [List.getElem?_set_ne hi]
  obtain ⟨z1, x1, d1, a1, a2, o1⟩ := draw_in (M0 := M) (g := []) (k := k + 199) (n := most) hp ho h1 (by omega)
  obtain ⟨z2, x2, d2, b1, b2, o2⟩ := draw_in (M0 := M) (g := []) (k := k + 198) (n := cm + 1) hp o1 (by omega) (by omega)
  have hf2 : few 2 = true := by decide
  have hf0 : few 0 = true := by decide
  have s1 : sAsg (fTup (fCons (fBin gAdd (fC (.int 1)) (fCall m_law_draw_321cf4 (fCons (fVar 0) (fCons (fVar 1) fNil)))) (fCons (fCall m_law_draw_321cf4 (fCons (fVar 0) (fCons (fBin gAdd (fVar 2) (fC (.int 1))) fNil))) fNil))) (.tup [3, 2]) (startA 11 [.ref p, .int most, .int cm]) M = .ok (.nx [some (.ref p), some (.int most), some (.int z2), some (.int (1 + z1)), none, none, none, none, none, none, none]) (M.set p x2) := by
    refine asg_ev (d := .tup [.int (1 + z1), .int z2]) ?_ rfl
    rw [List.append_nil] at d1 d2
    have hM' : M = M.set p x := by rw [List.append_nil] at hM; exact hM
    rw [← hM', List.append_nil] at d1
    rw [List.append_nil] at d2
    simp [startA, d1, d2, hf2]
  have hs : Has [some (D.ref p), some (.int most), some (.int z2), some (.int (1 + z1)), some (.ref M.length), none, none, none, none, none, none] 11 (anyL p z2 (1 + z1) M.length) := by
    refine ⟨rfl, fun q hq => ?_⟩
    simp only [anyL, List.mem_cons, List.mem_nil_iff, or_false] at hq
    rcases hq with rfl | rfl | rfl | rfl <;> rfl
  have hmid : mid (1 + z1) = true := by
    simp only [mid, Bool.and_eq_true, decide_eq_true_eq]
    omega
  obtain ⟨σ2, M2, f2, ws, y, rfl, v1, v2, v3, v4⟩ := for_nums (b := wheelFS) (n := (M.set p x2 ++ [Cell.lst []]).length) (m := (1 + z1).toNat) (i := 5) (σ := [some (D.ref p), some (.int most), some (.int z2), some (.int (1 + z1)), some (.ref M.length), none, none, none, none, none, none]) (M := M.set p x2 ++ [.lst []])
    (fun j σ N => ∃ ws y, N = M.set p y ++ [.lst (ws.map wheelT)] ∧ ws.length = j ∧ (∀ w ∈ ws, WheelOk ((1 + z1) + z2) w) ∧ PenOk (k + 29 * ((1 + z1).toNat - j)) y ∧ Has σ 11 (anyL p z2 (1 + z1) M.length))
    ⟨[], x2, rfl, rfl, fun s h => by simp at h, o2.less (by omega), hs⟩ (fun j σ N hj hv => by
      obtain ⟨ws, y, rfl, u1, u2, u3, u4⟩ := hv
      have e3 : (1 + z1).toNat - j = ((1 + z1).toNat - (j + 1)) + 1 := by omega
      have oy : PenOk ((k + 29 * ((1 + z1).toNat - (j + 1))) + 29) y := by
        rw [e3, Nat.mul_add, Nat.mul_one, ← Nat.add_assoc] at u3
        exact u3
      obtain ⟨w, x', σ', e, g1, g2, g3, g4⟩ := any_wheel (ws := ws) (σ := σ.set 5 (some (.int (j : Int)))) hp (u4.set (by simp)) hw (by omega) (by omega) (by omega) (by omega) (by omega) oy
      refine ⟨σ', _, .inl g1, ?_⟩
      have hn : (M.set p x' ++ [Cell.lst ((ws ++ [w]).map wheelT)]).length = (M.set p x2 ++ [Cell.lst []]).length := by simp
      rw [gc_app hn (Wf.push (wf_set hw g3) (undA_map (fun a => und_wheel a) _)) (by simp)]
      refine ⟨ws ++ [w], x', rfl, by rw [List.length_append, u1]; rfl, fun s hs => ?_, g3, g4.keep (und_anyL (by simp; omega) (by simp))⟩
      rcases List.mem_append.mp hs with q | q
      · exact u2 s q
      · rw [List.mem_singleton.mp q]; exact g2)
  rw [Nat.sub_self, Nat.mul_zero, Nat.add_zero] at v3
  have h4 := v4.at (i := 4) (d := .ref M.length) (by simp)
  have h2 := v4.at (i := 2) (d := .int z2) (by simp)
  refine ⟨ws, z2, y, ?_, ⟨by omega, by omega, by omega, by omega, fun w hw' => ?_⟩, by omega, by omega, v3⟩
  · refine (run_rt (M1 := M.set p y ++ [.lst (ws.map wheelT)]) (d := boardT ws z2) rfl ?_).trans (trim_app (by simp) (wf_set hw v3) (und_board ws z2))
    rw [any_board_body]
    refine (seq_nx s1).trans ((seq_nx (σ1 := [some (.ref p), some (.int most), some (.int z2), some (.int (1 + z1)), some (.ref M.length), none, none, none, none, none, none]) (M1 := M.set p x2 ++ [.lst []]) ?_).trans ((seq_nx (σ1 := σ2) (M1 := M.set p y ++ [.lst (ws.map wheelT)]) ?_).trans (ret_ev ?_)))
    · simp [hf0]
    · rw [ev_for]
      have : fIt gRange1 (fCons (fVar 3) fNil) [some (.ref p), some (.int most), some (.int z2), some (.int (1 + z1)), some (.ref M.length), none, none, none, none, none, none] (M.set p x2 ++ [.lst []]) = .ok ⟨nums 0 (1 + z1).toNat, fun _ => true⟩ (M.set p x2 ++ [.lst []]) := by
        simp only [ev_it, ev_cons, ev_var, ev_nil, List.getElem?_cons_succ, List.getElem?_cons_zero, bind_ok, gRange1_int, hmid, if_true]
      rw [this]
      exact f2
    · have a4 : (M.set p y ++ [.lst (ws.map wheelT)])[M.length]? = some (.lst (ws.map wheelT)) := last_at (by simp)
      simp only [ev_tup, ev_cons, ev_call, ev_nil, ev_var, h4, h2, bind_ok]
      rw [gTuple_ref a4]
      simp only [bind_ok, List.length_cons, List.length_nil, Nat.zero_add, Nat.reduceAdd, hf2, if_true]
      rfl
  · have := v2 w hw'
    have e : ((ws.length : Nat) : Int) + z2 = 1 + z1 + z2 := by omega
    rw [e]
    exact this
end
end QX
set_option maxRecDepth 100000
set_option maxHeartbeats 1000000
namespace QX
open PySem PySem.Spec PyProof.Rows L2 HX
theorem tup_comp {fa : F D} {vs : List Nat} {i : Nat} {e : F D} {σ : Sa} {M : Mem} {ds : List D} (f : D → D) (ha : fa σ M = .ok (.tup ds) M) (hw : Wf M) (hl : ds.length ≤ 1000000) (hu : ∀ d ∈ ds, (f d).und M.length = true)
    (he : ∀ d ∈ ds, ∀ M', Wf M' → M.length < M'.length → e ((wipeA σ vs).set i (some d)) M' = .ok (f d) M') : fCall gTuple (fCons (fTrim (fCompC (fIter fa) vs (.name i) fYes e)) fNil) σ M = .ok (.tup (ds.map f)) M := by
  have h := comp_pure (fi := fIter fa) (vs := vs) (t := .name i) (e := e) (σ := σ) (M := M) (it := ⟨ds.map .d, fun _ => true⟩) (fun im => match im with | .d d => f d | .pr _ => .non) (by rw [ev_iter, ha]; rfl) (fun _ => rfl) hw (by simpa using hl) (fun im him => by
    obtain ⟨d, hd, rfl⟩ := List.mem_map.mp him
    exact ⟨hu d hd, _, rfl, fun M' w1 w2 => he d hd M' w1 w2⟩)
  rw [ev_call, ev_cons, h]
  simp only [bind_ok, ev_nil, List.map_map, gTuple_lst]
  rfl
def linkT : Option Int → D
  | none => .non
  | some i => .int i
def linksT (ls : List (Option Int)) : D := .tup (ls.map linkT)
def nones (ls : List (Option Int)) : Nat := (ls.filter (·.isNone)).length
def LinksOk (n : Int) (ls : List (Option Int)) : Prop := ∀ l ∈ ls, ∀ i, l = some i → 0 ≤ i ∧ i < n
def cupsNum (w : Int) : Int → List (Option Int) → List Int
  | _, [] => []
  | c, none :: ls => c :: cupsNum w (c + 1) ls
  | c, some l :: ls => (w + l) :: cupsNum w c ls
theorem cupsNum_len (w : Int) : ∀ (ls : List (Option Int)) (c : Int), (cupsNum w c ls).length = ls.length
  | [], _ => rfl
  | none :: ls, c => by simp only [cupsNum, List.length_cons, cupsNum_len w ls]
  | some l :: ls, c => by simp only [cupsNum, List.length_cons, cupsNum_len w ls]
def upTo (lo : Int) : Nat → List Int
  | 0 => []
  | n + 1 => lo :: upTo (lo + 1) n
theorem upTo_len : ∀ (n : Nat) (lo : Int), (upTo lo n).length = n
  | 0, _ => rfl
  | n + 1, lo => by simp only [upTo, List.length_cons, upTo_len n]
theorem numsD_up : ∀ (n : Nat) (lo : Int), numsD lo n = (upTo lo n).map .int
  | 0, _ => rfl
  | n + 1, lo => by simp only [numsD, upTo, List.map_cons, numsD_up n]
def firstNum (w1 w2 : Nat) (ls : List (Option Int)) : List Int := upTo 0 w1 ++ cupsNum w1 (w1 + w2) ls
def secNum (w1 w2 k c2 : Nat) : List Int := upTo w1 w2 ++ upTo (w1 + w2 + k) c2
def renumW (f : List Int) (ws : List (List (List Int))) : List (List (List Int)) := ws.map fun w => w.map fun s => s.map fun e => f.getD e.toNat 0
section
variable {M : Mem}
theorem m_renumbered_eq {ws : List (List (List Int))} {f : List Int} {n : Int} (hw : Wf M) (hl : ws.length ≤ 1000) (ho : ∀ w ∈ ws, WheelOk n w) (hn : n ≤ f.length) : m_renumbered [wheelsT ws, .lst (f.map .int)] M = .ok (wheelsT (renumW f ws)) M := by
  have hget : ∀ e : Int, 0 ≤ e → e < n → atI (f.map D.int) e = some (.int (f.getD e.toNat 0)) := by
    intro e h0 h1
    have hlt : e.toNat < f.length := by omega
    rw [atI_nn h0, List.getElem?_map, List.getD_eq_getElem?_getD, List.getElem?_eq_getElem hlt]
    rfl
  -- the function on data
  let g0 : D → D := fun d => match d with | .int e => .int (f.getD e.toNat 0) | d => d
  let g1 : D → D := fun d => match d with | .tup es => .tup (es.map g0) | d => d
  let g2 : D → D := fun d => match d with | .tup ss => .tup (ss.map g1) | d => d
  have e1 : ∀ s : List Int, g1 (stepT s) = stepT (s.map fun e => f.getD e.toNat 0) := by
    intro s
    show D.tup ((s.map D.int).map g0) = _
    rw [List.map_map]
    unfold stepT
    rw [List.map_map]
    rfl
  have e2 : ∀ w : List (List Int), g2 (wheelT w) = wheelT (w.map fun s => s.map fun e => f.getD e.toNat 0) := by
    intro w
    show D.tup ((w.map stepT).map g1) = _
    rw [List.map_map]
    unfold wheelT
    rw [List.map_map]
    congr 1
    exact List.map_congr_left fun s _ => e1 s
  have e3 : (ws.map wheelT).map g2 = (renumW f ws).map wheelT := by
    unfold renumW
    rw [List.map_map, List.map_map]
    exact List.map_congr_left fun w _ => e2 w
  refine run_pure rfl ?_
  have main := tup_comp (fa := fVar 0) (vs := [2]) (i := 2) (σ := startA 5 [wheelsT ws, .lst (f.map .int)]) (M := M) (ds := ws.map wheelT) g2 (e := fCall gTuple (fCons (fTrim (fCompC (fIter (fVar 2)) [3] (.name 3) fYes (fCall gTuple (fCons (fTrim (fCompC (fIter (fVar 3)) [4] (.name 4) fYes (fBin gIx (fVar 1) (fVar 4)))) fNil)))) fNil)) rfl hw (by rw [List.length_map]; omega) (fun d hd => by
      obtain ⟨w, _, rfl⟩ := List.mem_map.mp hd
      rw [e2]
      exact und_wheel _) (fun d hd M1 w1 _ => by
      obtain ⟨w, hwm, rfl⟩ := List.mem_map.mp hd
      obtain ⟨l1, l4, hs⟩ := ho w hwm
      refine tup_comp (ds := w.map stepT) g1 rfl w1 (by rw [List.length_map]; omega) (fun d hd => ?_) (fun d hd M2 w2 _ => ?_)
      · obtain ⟨s, _, rfl⟩ := List.mem_map.mp hd
        rw [e1]
        exact und_step _
      · obtain ⟨s, hsm, rfl⟩ := List.mem_map.mp hd
        obtain ⟨s3, sr⟩ := hs s hsm
        refine tup_comp (ds := s.map D.int) g0 rfl w2 (by rw [List.length_map]; omega) (fun d hd => ?_) (fun d hd M3 w3 _ => ?_)
        · obtain ⟨e, _, rfl⟩ := List.mem_map.mp hd
          rfl
        · obtain ⟨e, he, rfl⟩ := List.mem_map.mp hd
          obtain ⟨r0, r1⟩ := sr e he
          simp [startA, wipeA, hget e r0 r1, g0])
  rw [e3] at main
  exact main
theorem board_0 {ws : List (List (List Int))} {c : Int} : gIx (boardT ws c) (.int 0) M = .ok (wheelsT ws) M := by simp [boardT]
theorem board_1 {ws : List (List (List Int))} {c : Int} : gIx (boardT ws c) (.int 1) M = .ok (.int c) M := by simp [boardT]
theorem wheels_len {ws : List (List (List Int))} : gLen [wheelsT ws] M = .ok (.int ws.length) M := by simp [wheelsT]
theorem m_is_wheel_number_eq {ws : List (List (List Int))} {c : Int} {d : D} (h : d.ok = true) : m_is_wheel_number [boardT ws c, d] M = .ok (.bl (inB 0 ((ws.length : Int) - 1) d)) M := by
  refine run_pure rfl ?_
  simp [startA, board_0, wheels_len, m_is_within_eq h]
theorem flats_links : ∀ ls : List (Option Int), ∃ vs, flats (ls.map linkT) = some vs ∧ (vs.countP fun z => eqV z .non) = nones ls
  | [] => ⟨[], rfl, rfl⟩
  | none :: ls => by
    obtain ⟨vs, h1, h2⟩ := flats_links ls
    refine ⟨.non :: vs, ?_, ?_⟩
    · simp only [List.map_cons, linkT, flats, D.flat, h1]
    · rw [List.countP_cons, h2]
      simp [eqV, nones]
  | some i :: ls => by
    obtain ⟨vs, h1, h2⟩ := flats_links ls
    refine ⟨.int i :: vs, ?_, ?_⟩
    · simp only [List.map_cons, linkT, flats, D.flat, h1]
    · rw [List.countP_cons, h2]
      simp [eqV, nones]
theorem count_links {σ : Sa} {i : Nat} {ls : List (Option Int)} (h : σ[i]? = some (some (linksT ls))) : fCountT (fVar i) (fCons (fC .non) fNil) σ M = .ok (.int (nones ls : Nat)) M := by
  obtain ⟨vs, h1, h2⟩ := flats_links ls
  simp only [ev_countT, ev_var, h, bind_ok, linksT, ev_cons, ev_c, ev_nil]
  simp only [gCountT, D.flat, h1, h2]
theorem mid_small {n : Int} (h0 : -1000 ≤ n) (h1 : n ≤ 1000) : mid n = true := by
  simp only [mid, Bool.and_eq_true, decide_eq_true_eq]
  omega
theorem rgOk_small {a b : Int} (h0 : 0 ≤ a) (h1 : a ≤ 1000) (h2 : 0 ≤ b) (h3 : b ≤ 1000) : rgOk a b = true := by
  unfold rgOk
  rw [mid_small (by omega) (by omega), mid_small (by omega) (by omega)]
  simp
  omega
end
end QX
set_option maxRecDepth 100000
set_option maxHeartbeats 1000000
namespace QX
open PySem PySem.Spec PyProof.Rows L2 HX
section
variable {M : Mem}
def efFS : FS := (sIf (fTest (fBin (gIsN false) (fVar 6) (fC .non)))
  (sSeq (sExpr (fMeth gAppend (fVar 5) (fCons (fVar 4) fNil)))
  (sAug 4 (gAug false) (fC (.int 1))))
  (sExpr (fMeth gAppend (fVar 5) (fCons (fBin gAdd (fVar 3) (fVar 6)) fNil))))
theorem ends_of_first_body : b_ends_of_first = (sSeq (sSet 3 (fCall gLen (fCons (fBin gIx (fVar 0) (fC (.int 0))) fNil)))
  (sSeq (sSet 4 (fBin gAdd (fVar 3) (fCall gLen (fCons (fBin gIx (fVar 1) (fC (.int 0))) fNil))))
  (sSeq (sSet 5 (fListRg1 true (fVar 3)))
  (sSeq (sFor (fIter (fVar 2)) (.name 6) efFS)
  (sRet (fVar 5)))))) := rfl
theorem ef_none {σ1 : Sa} {n1 : Nat} {c : Int} {acc : List Int} (ha : acc.length ≤ 100) (hs : Has σ1 7 [(6, .non), (3, .int n1), (4, .int c), (5, .ref M.length)]) :
    efFS σ1 (M ++ [.lst (acc.map D.int)]) = .ok (.nx (σ1.set 4 (some (.int (c + 1))))) (M ++ [.lst ((acc ++ [c]).map D.int)]) := by
  have k6 := hs.at (i := 6) (d := .non) (by simp)
  have k4 := hs.at (i := 4) (d := .int c) (by simp)
  have k5 := hs.at (i := 5) (d := .ref M.length) (by simp)
  have il : isL (M ++ [.lst (acc.map D.int)]) (.ref M.length) = true := isL_last rfl
  have ap : gAppend (.ref M.length) [.int c] (M ++ [.lst (acc.map D.int)]) = .ok .non (M ++ [.lst (acc.map D.int ++ [.int c])]) := append_last rfl (by rw [List.length_map]; omega)
  refine (sif_ev (p := true) (M1 := M ++ [.lst (acc.map D.int)]) (test_ev (by simp [k6]))).trans ((if_pos rfl).trans ((seq_nx (σ1 := σ1) (M1 := M ++ [.lst ((acc ++ [c]).map D.int)]) (expr_ev (d := .non) ?_)).trans ?_))
  · simp only [ev_meth, ev_var, k5, bind_ok, il, if_true, ev_cons, k4, ev_nil, ap]
    simp
  · simp [k4, gAug]
theorem ef_some {σ1 : Sa} {n1 : Nat} {c i : Int} {acc : List Int} (ha : acc.length ≤ 100) (hs : Has σ1 7 [(6, .int i), (3, .int n1), (4, .int c), (5, .ref M.length)]) :
    efFS σ1 (M ++ [.lst (acc.map D.int)]) = .ok (.nx σ1) (M ++ [.lst ((acc ++ [(n1 : Int) + i]).map D.int)]) := by
  have k6 := hs.at (i := 6) (d := .int i) (by simp)
  have k3 := hs.at (i := 3) (d := .int n1) (by simp)
  have k5 := hs.at (i := 5) (d := .ref M.length) (by simp)
  have il : isL (M ++ [.lst (acc.map D.int)]) (.ref M.length) = true := isL_last rfl
  have ap : gAppend (.ref M.length) [.int (n1 + i)] (M ++ [.lst (acc.map D.int)]) = .ok .non (M ++ [.lst (acc.map D.int ++ [.int (n1 + i)])]) := append_last rfl (by rw [List.length_map]; omega)
  refine (sif_ev (p := false) (M1 := M ++ [.lst (acc.map D.int)]) (test_ev (by simp [k6]))).trans ((if_neg (by decide)).trans (expr_ev (d := .non) ?_))
  simp only [ev_meth, ev_var, k5, bind_ok, il, if_true, ev_cons, ev_bin, k3, k6, gAdd_int, ev_nil, ap]
  simp
theorem ends_loop {σ0 : Sa} {ls : List (Option Int)} {n1 n2 : Nat} (h1 : n1 ≤ 6) (hl : ls.length ≤ 4) (h0 : Has σ0 7 [(3, .int n1), (4, .int (n1 + n2)), (5, .ref M.length)]) :
    ∃ σ2, forL (.name 6) efFS (fun _ => true) (M ++ [Cell.lst (numsD 0 n1)]).length ((ls.map linkT).map .d) σ0 (M ++ [.lst (numsD 0 n1)]) = .ok (.nx σ2) (M ++ [.lst ((firstNum n1 n2 ls).map .int)]) ∧ σ2[5]? = some (some (.ref M.length)) := by
  obtain ⟨σ2, M2, f2, acc, rest, rfl, v1, v2, v3⟩ := for_items (b := efFS) (n := (M ++ [Cell.lst (numsD 0 n1)]).length) (i := 6) (σ := σ0) (M := M ++ [.lst (numsD 0 n1)]) (ds := ls.map linkT)
    (fun j σ N => ∃ (acc : List Int) (c : Int), N = M ++ [.lst (acc.map .int)] ∧ acc.length = n1 + j ∧ firstNum n1 n2 ls = acc ++ cupsNum n1 c (ls.drop j) ∧ Has σ 7 [(3, .int n1), (4, .int c), (5, .ref M.length)])
    ⟨upTo 0 n1, n1 + n2, by rw [numsD_up], by rw [upTo_len]; rfl, by rw [List.drop_zero]; rfl, h0⟩ (fun j σ N d hd hv => by
      obtain ⟨acc, c, rfl, u1, u2, u3⟩ := hv
      rw [List.getElem?_map] at hd
      cases q : ls[j]? with
      | none => rw [q] at hd; cases hd
      | some l =>
        rw [q] at hd
        cases hd
        have hj : j < ls.length := (List.getElem?_eq_some_iff.mp q).1
        have hdrop : ls.drop j = l :: ls.drop (j + 1) := by
          rw [List.drop_eq_getElem_cons hj]
          congr 1
          rw [List.getElem?_eq_getElem hj] at q
          exact Option.some.inj q
        have hs : Has (σ.set 6 (some (linkT l))) 7 ((6, linkT l) :: [(3, .int n1), (4, .int c), (5, .ref M.length)]) := u3.put (by decide) (by simp)
        generalize σ.set 6 (some (linkT l)) = σ1 at hs
        cases l with
        | none =>
          refine ⟨_, _, .inl (ef_none (by omega) hs), ?_⟩
          rw [gc_same (by simp)]
          refine ⟨acc ++ [c], c + 1, rfl, by rw [List.length_append, u1]; rfl, ?_, ?_⟩
          · rw [u2, hdrop, cupsNum, List.append_assoc]; rfl
          · have h7 : Has σ1 7 [(3, .int n1), (5, .ref M.length)] := hs.sub (by simp)
            exact (h7.put (i := 4) (d := .int (c + 1)) (by decide) (by simp)).sub (by simp)
        | some i =>
          refine ⟨_, _, .inl (ef_some (by omega) hs), ?_⟩
          rw [gc_same (by simp)]
          refine ⟨acc ++ [(n1 : Int) + i], c, rfl, by rw [List.length_append, u1]; rfl, ?_, hs.sub (by simp)⟩
          rw [u2, hdrop, cupsNum, List.append_assoc]; rfl)
  rw [List.length_map] at v1 v2
  rw [List.drop_length, cupsNum, List.append_nil] at v2
  rw [v2]
  exact ⟨σ2, f2, v3.at (i := 5) (d := .ref M.length) (by simp)⟩
theorem bin_ev {g : D → D → Mem → Res D} {fa fb : F D} {σ : Sa} {M1 M2 : Mem} {a b : D} (ha : fa σ M = .ok a M1) (hb : fb σ M1 = .ok b M2) : fBin g fa fb σ M = g a b M2 := by
  rw [ev_bin, ha, bind_ok, hb, bind_ok]
theorem listRg1_own {fb : F D} {σ : Sa} {b : Int} {n : Nat} (hr : rgOk 0 b = true) (h : fb σ M = .ok (.int b) M) (hn : (b - 0).toNat = n) : fListRg1 true fb σ M = .ok (.ref M.length) (M ++ [.lst (numsD 0 n)]) := by
  subst hn
  rw [ev_listRg1, h, bind_ok]
  exact (if_pos hr).trans (if_pos rfl)
theorem listRg_val {fa fb : F D} {σ : Sa} {a b : Int} {n : Nat} (hr : rgOk a b = true) (ha : fa σ M = .ok (.int a) M) (h : fb σ M = .ok (.int b) M) (hn : (b - a).toNat = n) : fListRg false fa fb σ M = .ok (.lst (numsD a n)) M := by
  subst hn
  rw [ev_listRg, ha, bind_ok, h, bind_ok]
  exact (if_pos hr).trans (if_neg (by decide))
theorem m_ends_of_first_eq {ws1 ws2 : List (List (List Int))} {c1 c2 : Int} {ls : List (Option Int)} (hw : Wf M) (h1 : ws1.length ≤ 6) (hl : ls.length ≤ 4) : m_ends_of_first [boardT ws1 c1, boardT ws2 c2, linksT ls] M = .ok (.lst ((firstNum ws1.length ws2.length ls).map .int)) M := by
  obtain ⟨σ2, f2, h5⟩ := ends_loop (M := M) (σ0 := [some (boardT ws1 c1), some (boardT ws2 c2), some (linksT ls), some (.int ws1.length), some (.int (ws1.length + ws2.length)), some (.ref M.length), none]) (ls := ls) (n1 := ws1.length) (n2 := ws2.length) h1 hl ⟨rfl, fun q hq => by
      simp only [List.mem_cons, List.mem_nil_iff, or_false] at hq
      rcases hq with rfl | rfl | rfl <;> rfl⟩
  have s1 : sSet 3 (fCall gLen (fCons (fBin gIx (fVar 0) (fC (.int 0))) fNil)) [some (boardT ws1 c1), some (boardT ws2 c2), some (linksT ls), none, none, none, none] M = .ok (.nx [some (boardT ws1 c1), some (boardT ws2 c2), some (linksT ls), some (.int ws1.length), none, none, none]) M := set_ev (by simp [board_0, wheels_len])
  have s2 : sSet 4 (fBin gAdd (fVar 3) (fCall gLen (fCons (fBin gIx (fVar 1) (fC (.int 0))) fNil))) [some (boardT ws1 c1), some (boardT ws2 c2), some (linksT ls), some (.int ws1.length), none, none, none] M = .ok (.nx [some (boardT ws1 c1), some (boardT ws2 c2), some (linksT ls), some (.int ws1.length), some (.int (ws1.length + ws2.length)), none, none]) M := set_ev (by simp [board_0, wheels_len])
  have s3 : sSet 5 (fListRg1 true (fVar 3)) [some (boardT ws1 c1), some (boardT ws2 c2), some (linksT ls), some (.int ws1.length), some (.int (ws1.length + ws2.length)), none, none] M = .ok (.nx [some (boardT ws1 c1), some (boardT ws2 c2), some (linksT ls), some (.int ws1.length), some (.int (ws1.length + ws2.length)), some (.ref M.length), none]) (M ++ [.lst (numsD 0 ws1.length)]) :=
    set_ev (listRg1_own (b := ws1.length) (rgOk_small (by omega) (by omega) (by omega) (by omega)) (by simp) (by omega))
  have fi : fIter (fVar 2) [some (boardT ws1 c1), some (boardT ws2 c2), some (linksT ls), some (.int ws1.length), some (.int (ws1.length + ws2.length)), some (.ref M.length), none] (M ++ [.lst (numsD 0 ws1.length)]) = .ok ⟨(ls.map linkT).map .d, fun _ => true⟩ (M ++ [.lst (numsD 0 ws1.length)]) := rfl
  generalize [some (boardT ws1 c1), some (boardT ws2 c2), some (linksT ls), some (.int ws1.length), some (.int (ws1.length + ws2.length)), some (.ref M.length), none] = σ1 at s3 f2 fi
  have sb : b_ends_of_first (startA 7 [boardT ws1 c1, boardT ws2 c2, linksT ls]) M = .ok (.rt (.ref M.length)) (M ++ [.lst ((firstNum ws1.length ws2.length ls).map .int)]) := by
    rw [ends_of_first_body]
    refine (seq_nx s1).trans ((seq_nx s2).trans ((seq_nx s3).trans ((seq_nx (σ1 := σ2) (M1 := M ++ [.lst ((firstNum ws1.length ws2.length ls).map .int)]) ?_).trans (ret_ev (by simp [h5])))))
    rw [ev_for, fi]
    exact f2
  have := run_rt (n := 7) (k := 3) rfl sb
  unfold m_ends_of_first
  rw [this]
  exact trim_ref (g := []) rfl hw (undA_map (fun _ => rfl) _)
theorem m_ends_of_second_eq {ws1 ws2 : List (List (List Int))} {c1 : Int} {c2 : Nat} {ls : List (Option Int)} (h1 : ws1.length ≤ 6) (h2 : ws2.length ≤ 6) (hl : ls.length ≤ 4) (hc : c2 ≤ 4) : m_ends_of_second [boardT ws1 c1, boardT ws2 c2, linksT ls] M = .ok (.lst ((secNum ws1.length ws2.length (nones ls) c2).map .int)) M := by
  have hn : nones ls ≤ ls.length := by unfold nones; exact List.length_filter_le _ _
  have s1 : sSet 3 (fCall gLen (fCons (fBin gIx (fVar 0) (fC (.int 0))) fNil)) [some (boardT ws1 c1), some (boardT ws2 c2), some (linksT ls), none, none] M = .ok (.nx [some (boardT ws1 c1), some (boardT ws2 c2), some (linksT ls), some (.int ws1.length), none]) M := set_ev (by simp [board_0, wheels_len])
  have s2 : sSet 4 (fBin gAdd (fBin gAdd (fVar 3) (fCall gLen (fCons (fBin gIx (fVar 1) (fC (.int 0))) fNil))) (fCountT (fVar 2) (fCons (fC .non) fNil))) [some (boardT ws1 c1), some (boardT ws2 c2), some (linksT ls), some (.int ws1.length), none] M = .ok (.nx [some (boardT ws1 c1), some (boardT ws2 c2), some (linksT ls), some (.int ws1.length), some (.int (ws1.length + ws2.length + nones ls))]) M := by
    refine set_ev (d := .int (ws1.length + ws2.length + nones ls)) ?_
    have hc := count_links (M := M) (σ := [some (boardT ws1 c1), some (boardT ws2 c2), some (linksT ls), some (.int ws1.length), none]) (i := 2) (ls := ls) rfl
    exact (bin_ev (a := .int (ws1.length + ws2.length)) (by simp [board_0, wheels_len]) hc).trans (by simp)
  have e1 : fListRg false (fVar 3) (fBin gAdd (fVar 3) (fCall gLen (fCons (fBin gIx (fVar 1) (fC (.int 0))) fNil))) [some (boardT ws1 c1), some (boardT ws2 c2), some (linksT ls), some (.int ws1.length), some (.int (ws1.length + ws2.length + nones ls))] M = .ok (.lst (numsD ws1.length ws2.length)) M :=
    listRg_val (a := ws1.length) (b := ws1.length + ws2.length) (rgOk_small (by omega) (by omega) (by omega) (by omega)) (by simp) (by simp [board_0, wheels_len]) (by omega)
  have e2 : fListRg false (fVar 4) (fBin gAdd (fVar 4) (fBin gIx (fVar 1) (fC (.int 1)))) [some (boardT ws1 c1), some (boardT ws2 c2), some (linksT ls), some (.int ws1.length), some (.int (ws1.length + ws2.length + nones ls))] M = .ok (.lst (numsD (ws1.length + ws2.length + nones ls) c2)) M :=
    listRg_val (a := ws1.length + ws2.length + nones ls) (b := ws1.length + ws2.length + nones ls + c2) (rgOk_small (by omega) (by omega) (by omega) (by omega)) (by simp) (by simp [board_1]) (by omega)
  have hf : few (ws2.length + c2) = true := ok_few (by rw [sizeLine_eq]; omega)
  have sb : b_ends_of_second (startA 5 [boardT ws1 c1, boardT ws2 c2, linksT ls]) M = .ok (.rt (.lst ((secNum ws1.length ws2.length (nones ls) c2).map .int))) M := by
    refine (seq_nx s1).trans ((seq_nx s2).trans (ret_ev ?_))
    rw [bin_ev e1 e2, numsD_up, numsD_up, secNum, List.map_append]
    rw [gAdd_lst, List.length_map, List.length_map, upTo_len, upTo_len]
    exact if_pos hf
  exact (run_rt (n := 5) (k := 3) rfl sb).trans (trim_id rfl)
end
end QX
set_option maxRecDepth 100000
set_option maxHeartbeats 1000000
namespace QX
open PySem PySem.Spec PyProof.Rows L2 HX
end QX
set_option maxRecDepth 100000
set_option maxHeartbeats 1000000
namespace QX
open PySem PySem.Spec PyProof.Rows L2 HX
section
variable {M : Mem} {ws1 ws2 : List (List (List Int))} {ls : List (Option Int)} {c2 : Nat}
theorem firstNum_len (n1 n2 : Nat) (ls : List (Option Int)) : (firstNum n1 n2 ls).length = n1 + ls.length := by
  unfold firstNum
  rw [List.length_append, upTo_len, cupsNum_len]
theorem secNum_len (n1 n2 k c : Nat) : (secNum n1 n2 k c).length = n2 + c := by
  unfold secNum
  rw [List.length_append, upTo_len, upTo_len]
def joinW (ws1 ws2 : List (List (List Int))) (ls : List (Option Int)) (c2 : Nat) : List (List (List Int)) := renumW (firstNum ws1.length ws2.length ls) ws1 ++ renumW (secNum ws1.length ws2.length (nones ls) c2) ws2
theorem nones_le (ls : List (Option Int)) : nones ls ≤ ls.length := by unfold nones; exact List.length_filter_le _ _
theorem gAdd_tup_ok {ds es : List D} (h : ds.length + es.length ≤ 1000) : gAdd (.tup ds) (.tup es) M = .ok (.tup (ds ++ es)) M := by
  rw [gAdd_tup, if_pos (ok_few (by rw [sizeLine_eq]; omega))]
theorem gAdd_wheels {a b : List (List (List Int))} (h : a.length + b.length ≤ 1000) : gAdd (wheelsT a) (wheelsT b) M = .ok (wheelsT (a ++ b)) M := by
  unfold wheelsT
  rw [List.map_append]
  exact gAdd_tup_ok (by rw [List.length_map, List.length_map]; exact h)
theorem tup2_ev {fa fb : F D} {σ : Sa} {M1 M2 : Mem} {a b : D} (ha : fa σ M = .ok a M1) (hb : fb σ M1 = .ok b M2) : fTup (fCons fa (fCons fb fNil)) σ M = .ok (.tup [a, b]) M2 := by
  have hf2 : few 2 = true := by decide
  simp [ha, hb, hf2]
theorem renumW_len {f : List Int} {ws : List (List (List Int))} : (renumW f ws).length = ws.length := by unfold renumW; exact List.length_map ..
end
end QX
set_option maxRecDepth 100000
set_option maxHeartbeats 1000000
namespace QX
open PySem PySem.Spec PyProof PyProof.Rows L2 HX
def RP (d : D) (w h : Nat) : Prop := ∃ p, D.py d = some p ∧ withinB p = true ∧ wt p ≤ w ∧ p.depth ≤ h ∧ p.hasDict = false ∧ ∀ k, 1114112 ≤ k → k ∉ p.shown.cps.toList
theorem RP.intW {i : Int} (h0 : -100000000000000000000000000000000000000000000000000000000000000000000000000000000000000000000000000000000000000000000000 ≤ i) (h1 : i ≤ 100000000000000000000000000000000000000000000000000000000000000000000000000000000000000000000000000000000000000000000000) : RP (.int i) 130 1 :=
  ⟨.int i, rfl, by simp only [withinB, Bool.and_eq_true, decide_eq_true_eq]; exact ⟨h0, h1⟩, by simp [wt], by simp [PyData.depth], by simp [PyData.hasDict], fun k hk => shown_int_free' ⟨by omega, by omega⟩ i⟩
theorem RP.int {i : Int} (h0 : -2000000000000 ≤ i) (h1 : i ≤ 2000000000000) : RP (.int i) 130 1 := RP.intW (by omega) (by omega)
theorem RP.non : RP .non 130 1 :=
  ⟨.none, rfl, by simp [withinB], by simp [wt], by simp [PyData.depth], by simp [PyData.hasDict], fun k hk => by
    rw [PyData.shown_none]
    have e : (("None" : String) : Str).cps.toList = [78, 111, 110, 101] := by decide
    rw [e]; intro hm; simp only [List.mem_cons, List.not_mem_nil, or_false] at hm
    rcases hm with h | h | h | h <;> omega⟩
theorem RP.mono {d : D} {w h w' h' : Nat} (r : RP d w h) (hw : w ≤ w') (hh : h ≤ h') : RP d w' h' := by
  obtain ⟨p, a, b, c, e, f, g⟩ := r
  exact ⟨p, a, b, by omega, by omega, f, g⟩
theorem rp_all {w h : Nat} : ∀ ds : List D, (∀ d ∈ ds, RP d w h) → ∃ ps, D.pyA ds = some ps ∧ withinBA ps = true ∧ wtAll ps ≤ ds.length * (w + 2) ∧ PyData.depthAll ps ≤ h ∧ PyData.hasDictAll ps = false ∧ ∀ k, 1114112 ≤ k → ∀ p ∈ ps, k ∉ p.shown.cps.toList
  | [], _ => ⟨[], by simp [D.pyA], by simp [withinBA], by simp [wtAll], by simp [PyData.depthAll], by simp [PyData.hasDictAll], fun k _ p hp => by simp at hp⟩
  | d :: ds, hd => by
    obtain ⟨p, a, b, c, e, f, g⟩ := hd d (by simp)
    obtain ⟨ps, a', b', c', e', f', g'⟩ := rp_all ds fun x hx => hd x (by simp [hx])
    refine ⟨p :: ps, by simp only [D.pyA, a, a'], by simp [withinBA, b, b'], ?_, ?_, by simp [PyData.hasDictAll, f, f'], fun k hk q hq => ?_⟩
    · simp only [wtAll, List.length_cons, Nat.add_mul, Nat.one_mul]; omega
    · simp only [PyData.depthAll]; omega
    · rcases List.mem_cons.mp hq with rfl | hq
      · exact g k hk
      · exact g' k hk q hq
theorem RP.tup {ds : List D} {w h n : Nat} (hd : ∀ d ∈ ds, RP d w h) (hn : ds.length ≤ n) : RP (.tup ds) (3 + n * (w + 2)) (h + 1) := by
  obtain ⟨ps, a', b', c', e', f', g'⟩ := rp_all ds hd
  refine ⟨.tuple ps, by simp only [D.py, a'], by simp [withinB, b'], ?_, ?_, by simp [PyData.hasDict, f'], fun k hk => ?_⟩
  · have : ds.length * (w + 2) ≤ n * (w + 2) := Nat.mul_le_mul_right _ hn
    simp only [wt]; omega
  · simp only [PyData.depth]; omega
  · simp only [PyData.shown, tupleText]
    rw [mem_cps_append, mem_cps_append, signs_lparen, mem_join, signs_tuple_end, signs_sep]
    rintro ((hm | (⟨t, ht, hc⟩ | ⟨_, hm⟩)) | hm)
    · simp at hm; omega
    · exact shownAll_free (g' k hk) t ht hc
    · simp at hm; omega
    · split at hm
      · simp at hm; omega
      · simp at hm; omega
theorem strOk_free {x : Str} (h : ∀ k, 1114112 ≤ k → k ∉ x.cps.toList) : SeqAt.shaped (.str x) = true := by
  have : PyData.strOk x = true := by
    unfold PyData.strOk
    rw [Array.all_eq_true_iff_forall_mem]
    intro k hk
    by_cases hlt : k < 1114112
    · simpa using hlt
    · exact absurd (by simpa using hk) (h k (by omega))
  simp [SeqAt.shaped, PyData.canLay0, PyData.depth, this]
theorem RP.repr {d : D} {w h : Nat} (r : RP d w h) (hw : w ≤ 16000000) (hh : h ≤ 100) : ∃ x, SeqAt.shaped (.str x) = true ∧ ∀ M, gRepr [d] M = .ok (.str x) M := by
  obtain ⟨p, a, b, c, e, f, g⟩ := r
  refine ⟨p.shown, strOk_free g, fun M => ?_⟩
  have ht : toPy M d = some p := by
    cases d with
    | ref n => simp [D.py] at a
    | _ => exact a
  have ho : okRepr p = true := by
    unfold okRepr
    simp only [Bool.and_eq_true, Nat.ble_eq, Bool.not_eq_true', b, f, and_true, true_and]
    exact ⟨by omega, by omega⟩
  simp only [gRepr, ht]
  exact if_pos ho
theorem gNe_str {x : Str} {M : Mem} (h : SeqAt.shaped (.str x) = true) : gEq true (.str x) (.str x) M = .ok (.bl false) M := by
  have e : PyData.eqv (.str x) (.str x) = true := by simp [PyData.eqv]
  have e2 : (SeqAt.shaped (.str x) && SeqAt.shaped (.str x)) = true := by rw [h]; rfl
  show (if (SeqAt.shaped (.str x) && SeqAt.shaped (.str x)) = true then Res.ok (D.bl (if true = true then !PyData.eqv (.str x) (.str x) else PyData.eqv (.str x) (.str x))) M else Res.bad) = _
  rw [if_pos e2, e]
  rfl
theorem RP.step {n : Int} {s : List Int} (h : EndsOk n s) (hn : n ≤ 1000) : RP (stepT s) 400 2 := by
  refine (RP.tup (w := 130) (h := 1) (n := 3) (fun d hd => ?_) (by rw [List.length_map]; exact h.1)).mono (by omega) (by omega)
  obtain ⟨e, he, rfl⟩ := List.mem_map.mp hd
  have := h.2 e he
  exact RP.int (by omega) (by omega)
theorem RP.wheel {n : Int} {w : List (List Int)} (h : WheelOk n w) (hn : n ≤ 1000) : RP (wheelT w) 2000 3 := by
  refine (RP.tup (w := 400) (h := 2) (n := 4) (fun d hd => ?_) (by rw [List.length_map]; exact h.2.1)).mono (by omega) (by omega)
  obtain ⟨e, he, rfl⟩ := List.mem_map.mp hd
  exact RP.step (h.2.2 e he) hn
theorem RP.board {n : Int} {ws : List (List (List Int))} {c : Int} (h : ∀ w ∈ ws, WheelOk n w) (hn : n ≤ 1000) (hl : ws.length ≤ 20) (h0 : 0 ≤ c) (h1 : c ≤ 1000) : RP (boardT ws c) 100000 5 := by
  refine (RP.tup (w := 41000) (h := 4) (n := 2) (fun d hd => ?_) (by simp)).mono (by omega) (by omega)
  simp only [List.mem_cons, List.mem_nil_iff, or_false] at hd
  rcases hd with rfl | rfl
  · refine (RP.tup (w := 2000) (h := 3) (n := 20) (fun d hd => ?_) (by rw [List.length_map]; exact hl)).mono (by omega) (by omega)
    obtain ⟨e, he, rfl⟩ := List.mem_map.mp hd
    exact RP.wheel (h e he) hn
  · exact (RP.int (by omega) (by omega)).mono (by omega) (by omega)
theorem RP.links {n : Int} {ls : List (Option Int)} (h : LinksOk n ls) (hn : n ≤ 1000) (hl : ls.length ≤ 20) : RP (linksT ls) 3000 2 := by
  refine (RP.tup (w := 130) (h := 1) (n := 20) (fun d hd => ?_) (by rw [List.length_map]; exact hl)).mono (by omega) (by omega)
  obtain ⟨l, hm, rfl⟩ := List.mem_map.mp hd
  cases l with
  | none => exact RP.non
  | some i =>
    have := h _ hm i rfl
    exact RP.int (by omega) (by omega)
end QX
set_option maxRecDepth 100000
set_option maxHeartbeats 1000000
namespace QX
open PySem PySem.Spec PyProof.Rows L2 HX
section
variable {M : Mem} {p k : Nat} {x : Cell} {σ : Sa}
theorem tup3_ev {fa fb fc : F D} {M1 M2 M3 : Mem} {a b c : D} (ha : fa σ M = .ok a M1) (hb : fb σ M1 = .ok b M2) (hc : fc σ M2 = .ok c M3) : fTup (fCons fa (fCons fb (fCons fc fNil))) σ M = .ok (.tup [a, b, c]) M3 := by
  have hf2 : few 3 = true := by decide
  simp [ha, hb, hc, hf2]
theorem par_ev {fa fb : F D} {i j : Nat} {M1 M2 : Mem} {a b : D} (ha : fa σ M = .ok a M1) (hb : fb σ M1 = .ok b M2) : sPar i j (fCons fa (fCons fb fNil)) σ M = .ok (.nx ((σ.set i (some a)).set j (some b))) M2 := by
  simp [ha, hb]
theorem call1_ev {m : List D → Mem → Res D} {fa : F D} {M1 : Mem} {a : D} (ha : fa σ M = .ok a M1) : fCall m (fCons fa fNil) σ M = m [a] M1 := call_ev (by simp [ha])
theorem call3_ev {m : List D → Mem → Res D} {fa fb fc : F D} {M1 M2 M3 : Mem} {a b c : D} (ha : fa σ M = .ok a M1) (hb : fb σ M1 = .ok b M2) (hc : fc σ M2 = .ok c M3) : fCall m (fCons fa (fCons fb (fCons fc fNil))) σ M = m [a, b, c] M3 := call_ev (by simp [ha, hb, hc])
theorem var_ev {i : Nat} {d : D} (h : σ[i]? = some (some d)) : fVar i σ M = .ok d M := by rw [ev_var, h]
theorem for_of {fi : F Ita} {i : Nat} {b : FS} {items : List Im} {M1 : Mem} {r : RS} (h : fi σ M = .ok ⟨items, fun _ => true⟩ M1) (hf : forL (.name i) b (fun _ => true) M1.length items σ M1 = r) : sFor fi (.name i) b σ M = r := by
  rw [ev_for, h]
  exact hf
theorem tup1_ev {fa : F D} {M1 : Mem} {a : D} (ha : fa σ M = .ok a M1) : fTup (fCons fa fNil) σ M = .ok (.tup [a]) M1 := by
  have hf2 : few 1 = true := by decide
  simp [ha, hf2]
theorem range1_ev {fa : F D} {j : Int} {M1 : Mem} {n : Nat} (h : fa σ M = .ok (.int j) M1) (h0 : -1000 ≤ j) (h1 : j ≤ 1000) (hn : j.toNat = n) : fIt gRange1 (fCons fa fNil) σ M = .ok ⟨nums 0 n, fun _ => true⟩ M1 := by
  subst hn
  have hm := mid_small h0 h1
  rw [ev_it, ev_cons, h, bind_ok, ev_nil, bind_ok, bind_ok, gRange1_int]
  exact if_pos hm
theorem call2_ev {m : List D → Mem → Res D} {fa fb : F D} {M1 M2 : Mem} {a b : D} (ha : fa σ M = .ok a M1) (hb : fb σ M1 = .ok b M2) : fCall m (fCons fa (fCons fb fNil)) σ M = m [a, b] M2 := call_ev (by simp [ha, hb])
end
def moT (m : Mo) : D := .tup [stepT m.st, stepT m.wt, stepT m.hd]
variable {M : Mem} {ws : List (List (List Int))} {c : Int} {m : Mo} {σ : Sa}
end QX
set_option maxRecDepth 100000
set_option maxHeartbeats 1000000
namespace QX
open PySem PySem.Spec PyProof.Rows L2 HX
variable {A g M : Mem} {st wt hd : List Int} {σ : Sa} {ws : List (List (List Int))} {c : Int} {m : Mo}
end QX
set_option maxRecDepth 100000
set_option maxHeartbeats 1000000
namespace QX
open PySem PySem.Spec PyProof.Rows L2 HX
variable {M : Mem} {σ : Sa} {ws : List (List (List Int))} {c : Int} {m : Mo}
end QX
set_option maxRecDepth 100000
set_option maxHeartbeats 1000000
namespace QX
open PySem PySem.Spec PyProof.Rows L2 HX
def UndG (G : Mem) : Prop := ∀ c ∈ G, ∀ n, Cell.und n c = true
theorem UndG.push {G : Mem} {ds : List D} (hG : UndG G) (hd : ∀ d ∈ ds, ∀ n, d.und n = true) : UndG (G ++ [.lst ds]) := by
  intro c hc n
  rcases List.mem_append.mp hc with h | h
  · exact hG c h n
  · rw [List.mem_singleton.mp h]
    show D.undA n ds = true
    rw [undA_iff]
    exact fun d hd' => hd d hd' n
theorem UndG.nil : UndG [] := fun c h => by simp at h
variable {M0 G : Mem} {p k : Nat} {x : Cell} {σ : Sa}
theorem meth_last {A : Mem} {es : List D} {a : Nat} {fe : F D} {d : D} (h : σ[a]? = some (some (.ref A.length))) (he : fe σ (A ++ [.lst es]) = .ok d (A ++ [.lst es])) (hl : es.length ≤ 1000) : sExpr (fMeth gAppend (fVar a) (fCons fe fNil)) σ (A ++ [.lst es]) = .ok (.nx σ) (A ++ [.lst (es ++ [d])]) := by
  refine expr_ev (d := .non) ?_
  have il : isL (A ++ [.lst es]) (.ref A.length) = true := isL_last rfl
  rw [ev_meth, ev_var, h]
  simp only [bind_ok, il, if_true, ev_cons, he, ev_nil]
  rw [append_last rfl (by omega)]
theorem Has.comp {σ : Sa} {n i : Nat} {l : List (Nat × D)} {d : D} (h : Has σ n l) (hn : i < n) (hi : ∀ q ∈ l, q.1 ≠ i) : Has ((wipeA σ [i]).set i (some d)) n ((i, d) :: l) := by
  have : Has (wipeA σ [i]) n l := h.set hi
  exact this.put hn hi
end QX
set_option maxRecDepth 100000
set_option maxHeartbeats 1000000
namespace QX
open PySem PySem.Spec PyProof.Rows L2 HX
variable {M0 G : Mem} {p k : Nat} {x : Cell} {σ : Sa}
def RI (n : Int) (d : D) : Prop := ∃ e, d = .int e ∧ 0 ≤ e ∧ e < n
def RS' (n : Int) (d : D) : Prop := ∃ s, d = stepT s ∧ EndsOk n s
def RW (n : Int) (d : D) : Prop := ∃ w, d = wheelT w ∧ WheelOk n w
theorem RI.und {n : Int} {d : D} (h : RI n d) (k : Nat) : d.und k = true := by obtain ⟨e, rfl, _⟩ := h; rfl
theorem RS'.und {n : Int} {d : D} (h : RS' n d) (k : Nat) : d.und k = true := by obtain ⟨e, rfl, _⟩ := h; exact und_step e
theorem RW.und {n : Int} {d : D} (h : RW n d) (k : Nat) : d.und k = true := by obtain ⟨e, rfl, _⟩ := h; exact und_wheel e
end QX
set_option maxRecDepth 100000
set_option maxHeartbeats 1000000
namespace QX
open PySem PySem.Spec PyProof.Rows L2 HX
variable {M : Mem} {p k : Nat} {x : Cell} {σ : Sa} {ws : List (List (List Int))} {c : Int} {m : Mo}
end QX
set_option maxRecDepth 100000
set_option maxHeartbeats 1000000
namespace QX
open PySem PySem.Spec PyProof.Rows L2 HX
variable {M : Mem} {p k : Nat} {x : Cell} {σ : Sa} {ws : List (List (List Int))} {c : Int} {m : Mo}
variable {A g : Mem} {st wt hd : List Int}
end QX
set_option maxRecDepth 100000
set_option maxHeartbeats 1000000
namespace QX
open PySem PySem.Spec PyProof.Rows L2 HX
variable {M C : Mem} {p k : Nat} {x : Cell} {σ : Sa} {ws : List (List (List Int))} {c : Int} {m : Mo}
end QX
set_option maxRecDepth 100000
set_option maxHeartbeats 1000000
namespace QX
open PySem PySem.Spec PyProof.Rows L2 HX
variable {M : Mem} {p k : Nat} {x : Cell} {σ : Sa} {ws : List (List (List Int))} {c : Int} {m : Mo}
end QX
set_option maxRecDepth 100000
set_option maxHeartbeats 1000000
namespace QX
open PySem PySem.Spec PyProof.Rows L2 HX
section
variable {M g : Mem} {d : D} {ds : List D} {p : Nat}
theorem gIx_list {i : Nat} {z : D} (h : listOf M d = some ds) (hi : ds[i]? = some z) : gIx d (.int (i : Int)) M = .ok z M := by
  have e : atI ds (i : Int) = some z := by rw [atI_nn (by omega), Int.toNat_natCast, hi]
  cases d with
  | lst es => cases h; rw [gIx_lst, e]
  | ref n =>
    rw [listOf_ref] at h
    split at h
    · rename_i es hm
      cases h
      rw [gIx_ref hm, e]
    · cases h
  | _ => cases h
theorem listOf_set {c : Cell} (h : listOf M d = some ds) (hp : d ≠ .ref p) : listOf (M.set p c) d = some ds := by
  cases d with
  | lst es => exact h
  | ref n =>
    rw [listOf_ref] at h ⊢
    rw [List.getElem?_set_ne (fun z => hp (by rw [z]))]
    exact h
  | _ => cases h
end
def bdd (j : Nat) : Nat := 2 ^ (2 ^ (j + 3) - 1)
theorem bdd_succ (j : Nat) : 2 * (bdd j * bdd j) = bdd (j + 1) := by
  unfold bdd
  obtain ⟨a, ha⟩ : ∃ a, 2 ^ (j + 3) = a + 1 := ⟨2 ^ (j + 3) - 1, by have : 1 ≤ 2 ^ (j + 3) := Nat.one_le_two_pow; omega⟩
  have h1 : 2 ^ (j + 1 + 3) = 2 * (a + 1) := by rw [← ha, show j + 1 + 3 = (j + 3) + 1 from rfl, Nat.pow_succ (m := j + 3), Nat.mul_comm]
  rw [h1, ha, show 2 * (a + 1) - 1 = (a + a) + 1 by omega, Nat.add_sub_cancel, Nat.pow_succ (m := a + a), Nat.pow_add, Nat.mul_comm]
theorem bdd_pos (j : Nat) : 1 ≤ bdd j := Nat.one_le_two_pow
theorem bdd_mono (j : Nat) : bdd j ≤ bdd (j + 1) := by
  rw [← bdd_succ]
  have := bdd_pos j
  have : bdd j * 1 ≤ bdd j * bdd j := Nat.mul_le_mul_left _ this
  omega
def RowOk (p : Nat) (M : Mem) (W b : Nat) (r : D) : Prop := r ≠ .ref p ∧ r.und M.length = true ∧ ∃ xs : List Int, listOf M r = some (xs.map D.int) ∧ xs.length = W ∧ ∀ x ∈ xs, x.natAbs ≤ b
theorem RowOk.set {p W b : Nat} {M : Mem} {r : D} {c : Cell} (h : RowOk p M W b r) : RowOk p (M.set p c) W b r := by
  obtain ⟨h1, h2, xs, h3, h4⟩ := h
  exact ⟨h1, by rw [List.length_set]; exact h2, xs, listOf_set h3 h1, h4⟩
theorem RowOk.mono {p W b b' : Nat} {M : Mem} {r : D} (h : RowOk p M W b r) (hb : b ≤ b') : RowOk p M W b' r := by
  obtain ⟨h1, h2, xs, h3, h4, h5⟩ := h
  exact ⟨h1, h2, xs, h3, h4, fun x hx => Nat.le_trans (h5 x hx) hb⟩
structure TabOk (p W : Nat) (β : Nat → Nat) (A M : Mem) : Prop where
  ex : ∃ rs, M[p]? = some (.lst rs) ∧ rs.length = W ∧ ∀ i r, rs[i]? = some r → RowOk p M W (β i) r
  wf : Wf M
  ap : ∃ g, M = A ++ g
  le : A.length ≤ p
theorem TabOk.put {p W : Nat} {β β' : Nat → Nat} {A M : Mem} {i : Nat} {zs : List Int} (h : TabOk p W β A M) (hi : i < W) (hz : zs.length = W) (hb : ∀ z ∈ zs, z.natAbs ≤ β' i) (hm : ∀ j, j ≠ i → β j ≤ β' j) :
    ∃ M', gSetIx (.ref p) (.int (i : Int)) (.lst (zs.map D.int)) M = some M' ∧ M'.length = M.length ∧ TabOk p W β' A M' := by
  obtain ⟨⟨rs, h1, h2, h3⟩, wf, ⟨g, rfl⟩, le⟩ := h
  have hx : ixN rs.length (i : Int) = some i := ixN_nat (by omega)
  have hl : p < (A ++ g).length := (List.getElem?_eq_some_iff.mp h1).1
  refine ⟨(A ++ g).set p (.lst (rs.set i (.lst (zs.map D.int)))), by simp only [gSetIx, h1, hx], by rw [List.length_set], ⟨_, List.getElem?_set_self hl, by rw [List.length_set]; exact h2, fun j r hj => ?_⟩, wf.set ?_, ⟨g.set (p - A.length) (.lst (rs.set i (.lst (zs.map D.int)))), List.set_append_right _ _ le⟩, le⟩
  · by_cases hij : i = j
    · subst hij
      rw [List.getElem?_set_self (by omega)] at hj
      cases hj
      exact ⟨(fun z => nomatch z), by simp only [D.und]; exact undA_map (fun _ => rfl) zs, zs, rfl, hz, hb⟩
    · rw [List.getElem?_set_ne hij] at hj
      exact ((h3 j r hj).mono (hm j (Ne.symm hij))).set
  · show D.undA _ _ = true
    rw [undA_iff]
    intro d hd
    rcases List.mem_or_eq_of_mem_set hd with z | z
    · obtain ⟨j, hj⟩ := List.mem_iff_getElem?.mp z
      exact (h3 j d hj).2.1
    · rw [z]
      simp only [D.und]
      exact undA_map (fun _ => rfl) zs
theorem TabOk.row {p W : Nat} {β : Nat → Nat} {A M : Mem} {i : Nat} (h : TabOk p W β A M) (hi : i < W) : ∃ (r : D) (xs : List Int), gIx (.ref p) (.int (i : Int)) M = .ok r M ∧ listOf M r = some (xs.map D.int) ∧ xs.length = W ∧ ∀ x ∈ xs, x.natAbs ≤ β i := by
  obtain ⟨⟨rs, h1, h2, h3⟩, wf, _, _⟩ := h
  have hr : rs[i]? = some rs[i] := List.getElem?_eq_getElem (by omega)
  obtain ⟨_, _, xs, a, b, c⟩ := h3 i _ hr
  exact ⟨rs[i], xs, gIx_list (by rw [listOf_ref, h1]) hr, a, b, c⟩
theorem zipWith_mem {F : Int → Int → Int} : ∀ (xs ys : List Int) (z : Int), z ∈ List.zipWith F xs ys → ∃ a b, a ∈ xs ∧ b ∈ ys ∧ z = F a b
  | [], ys, z, h => by simp at h
  | x :: xs, [], z, h => by simp at h
  | x :: xs, y :: ys, z, h => by
    rw [List.zipWith_cons_cons] at h
    rcases List.mem_cons.mp h with rfl | h
    · exact ⟨x, y, by simp, by simp, rfl⟩
    · obtain ⟨a, b, h1, h2, h3⟩ := zipWith_mem xs ys z h
      exact ⟨a, b, by simp [h1], by simp [h2], h3⟩
theorem elim_bd {B : Nat} {a b own by' last : Int} (ha : a.natAbs ≤ B) (hb : b.natAbs ≤ B) (ho : own.natAbs ≤ B) (hy : by'.natAbs ≤ B) : ((b * own - a * by') / last).natAbs ≤ 2 * (B * B) := by
  refine Nat.le_trans (Int.natAbs_ediv_le_natAbs _ _) ?_
  refine Nat.le_trans (Int.natAbs_sub_le _ _) ?_
  rw [Int.natAbs_mul, Int.natAbs_mul]
  have := Nat.mul_le_mul hb ho
  have := Nat.mul_le_mul ha hy
  omega
end QX
namespace QX
open PySem PySem.Spec PyProof.Rows L2 HX
theorem TabOk.len {p W : Nat} {β : Nat → Nat} {A M : Mem} (h : TabOk p W β A M) : gLen [.ref p] M = .ok (.int W) M := by
  obtain ⟨⟨rs, h1, h2, h3⟩, _⟩ := h
  rw [gLen_ref h1, h2]
theorem TabOk.mono {p W : Nat} {β β' : Nat → Nat} {A M : Mem} (h : TabOk p W β A M) (hb : ∀ i, β i ≤ β' i) : TabOk p W β' A M := by
  obtain ⟨⟨rs, h1, h2, h3⟩, a, b, c⟩ := h
  exact ⟨⟨rs, h1, h2, fun i r hi => (h3 i r hi).mono (hb i)⟩, a, b, c⟩
end QX
set_option maxRecDepth 100000
set_option maxHeartbeats 1000000
namespace QX
open PySem PySem.Spec PyProof.Rows L2 HX
end QX
namespace QX
open PySem PySem.Spec PyProof.Rows L2 HX
end QX
set_option maxRecDepth 100000
set_option maxHeartbeats 1000000
namespace QX
open PySem PySem.Spec PyProof.Rows L2 HX
theorem cut_drop (ds : List D) (k : Nat) : cutD ds (some (k : Int)) none = ds.drop k := by
  unfold cutD
  rw [HT.sIx_none, HT.sIx_nat]
  rw [List.take_of_length_le (by rw [List.length_drop]; omega)]
  by_cases h : k ≤ ds.length
  · rw [Nat.min_eq_left h]
  · rw [Nat.min_eq_right (by omega), List.drop_eq_nil_of_le (Nat.le_refl _), List.drop_eq_nil_of_le (by omega)]
theorem sl_drop {fa fb : F D} {σ : Sa} {M M1 M2 : Mem} {ds : List D} {k : Nat} (ha : fa σ M = .ok (.tup ds) M1) (hb : fb σ M1 = .ok (.int (k : Int)) M2) : fSl fa (fPart fb) fNoPart σ M = .ok (.tup (ds.drop k)) M2 := by
  rw [ev_sl, ha, bind_ok, ev_part, hb, bind_ok, bind_ok, ev_nopart, bind_ok]
  show Res.ok (D.tup (cutD ds (some (k : Int)) none)) M2 = _
  rw [cut_drop]
end QX
namespace QX
open PySem PySem.Spec PyProof.Rows L2 HX
theorem for_tups {b : FS} {n : Nat} {is : List Nat} {σ : Sa} {M : Mem} {ds : List D} (Iv : Nat → Sa → Mem → Prop) (h0 : Iv 0 σ M) (step : ∀ j σ M d, ds[j]? = some d → Iv j σ M → ∃ es, d = .tup es ∧ es.length = is.length ∧ ∃ σ2 M2, (b (setAll σ is es) M = .ok (.nx σ2) M2 ∨ b (setAll σ is es) M = .ok (.ct σ2) M2) ∧ Iv (j + 1) (gc n σ2 M2).1 (gc n σ2 M2).2) :
    ∃ σ' M', forL (.tup is) b (fun _ => true) n (ds.map .d) σ M = .ok (.nx σ') M' ∧ Iv ds.length σ' M' := by
  obtain ⟨σ', M', h1, h2⟩ := for_loop (t := .tup is) (b := b) (chk := fun _ => true) (n := n) Iv (ds.map .d) 0 σ M (fun j σ M im hj _ hv => by
    rw [Nat.sub_zero, List.getElem?_map] at hj
    cases q : ds[j]? with
    | none => rw [q] at hj; cases hj
    | some d =>
      rw [q] at hj
      cases hj
      obtain ⟨es, rfl, hl, σ2, M2, h1, h2⟩ := step j σ M d q hv
      exact ⟨rfl, setAll σ is es, by rw [put_tup, hl]; simp, σ2, M2, h1, h2⟩) (fun _ _ _ => rfl) h0
  rw [Nat.zero_add, List.length_map] at h2
  exact ⟨σ', M', h1, h2⟩
def SpotOk (ws : List (List (List Int))) (d : D) : Prop := ∃ i s : Nat, d = .tup [.int (i : Int), .int (s : Int)] ∧ i < ws.length ∧ s < (ws.getD i []).length
theorem SpotOk.und {ws : List (List (List Int))} {d : D} (h : SpotOk ws d) (n : Nat) : d.und n = true := by
  obtain ⟨i, s, rfl, _⟩ := h
  rfl
end QX
set_option maxRecDepth 100000
set_option maxHeartbeats 1000000
namespace QX
open PySem PySem.Spec PyProof.Rows L2 HX
section
variable {M : Mem} {p k : Nat} {x : Cell} {σ : Sa} {ws : List (List (List Int))} {c : Int} {m : Mo}
end
section
variable {A M : Mem} {σ : Sa} {ws : List (List (List Int))} {c : Int} {m : Mo}
end
end QX
set_option maxRecDepth 100000
set_option maxHeartbeats 1000000
namespace QX
open PySem PySem.Spec PyProof.Rows L2 HX
section
variable {M : Mem} {σ : Sa} {ws : List (List (List Int))} {c : Int} {m : Mo} {folk most : Nat}
end
end QX
namespace QX
open PySem PySem.Spec PyProof.Rows L2 HX
section
variable {A M g : Mem} {σ : Sa} {ws : List (List (List Int))} {c : Int} {m : Mo} {folk most : Nat}
end
end QX
set_option maxRecDepth 100000
set_option maxHeartbeats 1000000
namespace QX
open PySem PySem.Spec PyProof.Rows L2 HX
variable {M : Mem} {p k : Nat} {x : Cell} {σ : Sa} {ws : List (List (List Int))} {c : Int} {m : Mo}
def LK (d : D) (h : Nat) : Prop := ∃ q, D.py d = some q ∧ PyData.canLay0 q = true ∧ q.depth ≤ h ∧ PyData.eqv q q = true
theorem LK.int {i : Int} : LK (.int i) 0 := ⟨.int i, rfl, by simp [PyData.canLay0], by simp [PyData.depth], by simp [PyData.eqv]⟩
theorem LK.non : LK .non 0 := ⟨.none, rfl, by simp [PyData.canLay0], by simp [PyData.depth], by simp [PyData.eqv]⟩
theorem LK.str {z : Str} (h : PyData.strOk z = true) : LK (.str z) 0 := ⟨.str z, rfl, by simpa [PyData.canLay0] using h, by simp [PyData.depth], by simp [PyData.eqv]⟩
theorem LK.bl {b : Bool} : LK (.bl b) 0 := ⟨.bool b, rfl, by simp [PyData.canLay0], by simp [PyData.depth], by simp [PyData.eqv]⟩
theorem lk_all {h : Nat} : ∀ ds : List D, (∀ d ∈ ds, LK d h) → ∃ qs, D.pyA ds = some qs ∧ PyData.canLayAll0 qs = true ∧ PyData.depthAll qs ≤ h ∧ PyData.eqvAll qs qs = true
  | [], _ => ⟨[], by simp [D.pyA], by simp [PyData.canLayAll0], by simp [PyData.depthAll], by simp [PyData.eqvAll]⟩
  | d :: ds, hd => by
    obtain ⟨q, a, b, e, f⟩ := hd d (by simp)
    obtain ⟨qs, a', b', e', f'⟩ := lk_all ds fun z hz => hd z (by simp [hz])
    refine ⟨q :: qs, by simp only [D.pyA, a, a'], by simp [PyData.canLayAll0, b, b'], ?_, by simp [PyData.eqvAll, f, f']⟩
    simp only [PyData.depthAll]; omega
theorem LK.tup {ds : List D} {h : Nat} (hd : ∀ d ∈ ds, LK d h) : LK (.tup ds) (h + 1) := by
  obtain ⟨qs, a, b, e, f⟩ := lk_all ds hd
  exact ⟨.tuple qs, by simp only [D.py, a], by simp [PyData.canLay0, b], by simp only [PyData.depth]; omega, by simp [PyData.eqv, f]⟩
theorem LK.step (s : List Int) : LK (stepT s) 1 := LK.tup fun d hd => by
  obtain ⟨e, _, rfl⟩ := List.mem_map.mp hd
  exact LK.int
theorem LK.wheel (w : List (List Int)) : LK (wheelT w) 2 := LK.tup fun d hd => by
  obtain ⟨e, _, rfl⟩ := List.mem_map.mp hd
  exact LK.step e
theorem LK.less {d : D} {h h' : Nat} (e : LK d h) (hh : h ≤ h') : LK d h' := by
  obtain ⟨q, a, b, f, g⟩ := e
  exact ⟨q, a, b, Nat.le_trans f hh, g⟩
theorem LK.wheels (ws : List (List (List Int))) : LK (wheelsT ws) 3 := LK.tup fun d hd => by
  obtain ⟨e, _, rfl⟩ := List.mem_map.mp hd
  exact LK.wheel e
theorem LK.board (ws : List (List (List Int))) (c : Int) : LK (boardT ws c) 4 := LK.tup fun d hd => by
  simp only [List.mem_cons, List.mem_nil_iff, or_false] at hd
  rcases hd with rfl | rfl
  · exact LK.wheels ws
  · exact LK.int.less (by omega)
theorem LK.mo (m : Mo) : LK (moT m) 2 := LK.tup fun d hd => by
  simp only [List.mem_cons, List.mem_nil_iff, or_false] at hd
  rcases hd with rfl | rfl | rfl <;> exact LK.step _
theorem LK.py {d : D} {h : Nat} (e : LK d h) (hh : h ≤ 60) : ∃ q, toPy M d = some q ∧ D.py d = some q ∧ SeqAt.shaped q = true ∧ PyData.eqv q q = true := by
  obtain ⟨q, a, b, f, g⟩ := e
  refine ⟨q, ?_, a, ?_, g⟩
  · cases d with
    | ref n => simp [D.py] at a
    | _ => exact a
  · show (PyData.canLay0 q && decide (q.depth ≤ 64)) = true
    rw [b, Bool.true_and, decide_eq_true_eq]
    omega
theorem same_eq {d : D} {h : Nat} {neg : Bool} (e : LK d h) (hh : h ≤ 60) : gEq neg d d M = .ok (.bl (!neg)) M := by
  obtain ⟨q, a, _, b, g⟩ := e.py (M := M) hh
  unfold gEq
  rw [a]
  dsimp only
  rw [b, Bool.and_self, if_pos rfl, g]
  cases neg <;> rfl
end QX
set_option maxRecDepth 100000
set_option maxHeartbeats 1000000
namespace QX
open PySem PySem.Spec PyProof.Rows L2 HX
variable {M : Mem} {p k : Nat} {x : Cell} {σ : Sa} {ws : List (List (List Int))} {c : Int} {m : Mo}
def Low (x : Str) : Prop := ∀ k ∈ TL.tl x, 11 ≤ k ∧ k < 128
theorem strOk_of {x : Str} (h : ∀ k ∈ TL.tl x, k < 128) : PyData.strOk x = true := by
  unfold PyData.strOk
  rw [Array.all_eq_true']
  intro k hk
  have := h k (by simpa [TL.tl] using hk)
  simp
  omega
theorem Low.ok {x : Str} (h : Low x) : PyData.strOk x = true := strOk_of fun k hk => (h k hk).2
theorem joinL_mem {S : List Nat} {k : Nat} : ∀ ps : List (List Nat), k ∈ TL.joinL S ps → k ∈ S ∨ ∃ p ∈ ps, k ∈ p
  | [], h => by simp [TL.joinL] at h
  | [p], h => .inr ⟨p, by simp, h⟩
  | p :: q :: r, h => by
    simp only [TL.joinL, List.mem_append] at h
    rcases h with h | h | h
    · exact .inr ⟨p, by simp, h⟩
    · exact .inl h
    · rcases joinL_mem (q :: r) h with h | ⟨z, hz, h⟩
      · exact .inl h
      · exact .inr ⟨z, List.mem_cons_of_mem _ hz, h⟩
theorem Low.join {y : Str} {ps : List Str} (h : Low y) (g : ∀ p ∈ ps, Low p) : Low (Str.join y ps) := fun k hk => by
  rw [TL.tl_join] at hk
  rcases joinL_mem _ hk with h' | ⟨z, hz, h'⟩
  · exact h k h'
  · obtain ⟨p, hp, rfl⟩ := List.mem_map.mp hz
    exact g p hp k h'
end QX
set_option maxRecDepth 100000
set_option maxHeartbeats 1000000
namespace QX
open PySem PySem.Spec PyProof.Rows L2 HX
variable {M : Mem} {p k : Nat} {x : Cell} {σ : Sa} {ws : List (List (List Int))} {c : Int} {m : Mo} {n : Int}
end QX
set_option maxRecDepth 100000
set_option maxHeartbeats 1000000
namespace QX
open PySem PySem.Spec PyProof.Rows L2 HX
variable {M : Mem} {p k : Nat} {x : Cell} {σ : Sa} {ws : List (List (List Int))} {c : Int} {m : Mo} {n : Int}
end QX
set_option maxRecDepth 100000
set_option maxHeartbeats 1000000
namespace QX
open PySem PySem.Spec PyProof.Rows L2 HX
variable {M : Mem} {p k : Nat} {x : Cell} {σ : Sa} {ws : List (List (List Int))} {c : Int} {m : Mo} {n : Int}
end QX
set_option maxRecDepth 100000
set_option maxHeartbeats 1000000
namespace QX
open PySem PySem.Spec PyProof.Rows L2 HX
variable {M : Mem} {p k : Nat} {x : Cell} {σ : Sa} {ws : List (List (List Int))} {c : Int} {m : Mo} {n : Int}
def nl : Str := "\n"
end QX
set_option maxRecDepth 100000
set_option maxHeartbeats 1000000
namespace QX.Det
abbrev R := Nat → Int
def sh (r : R) : R := fun j => r (j + 1)
def ex3 (d : List R → Int) : List R → List R → List R → Int
  | _, [], _ => 0
  | pre, r :: m, post => r 0 * d (pre ++ m ++ post) - ex3 d (pre ++ [r]) m post
def dt : Nat → List R → Int
  | 0, _ => 1
  | n + 1, rs => ex3 (fun l => dt n (l.map sh)) [] rs []
theorem ex3_app (d : List R → Int) : ∀ (m1 pre m2 post : List R), ex3 d pre (m1 ++ m2) post = ex3 d pre m1 (m2 ++ post) + (-1) ^ m1.length * ex3 d (pre ++ m1) m2 post
  | [], pre, m2, post => by simp [ex3]
  | r :: m1, pre, m2, post => by
    rw [List.cons_append]
    show r 0 * d (pre ++ (m1 ++ m2) ++ post) - ex3 d (pre ++ [r]) (m1 ++ m2) post = r 0 * d (pre ++ m1 ++ (m2 ++ post)) - ex3 d (pre ++ [r]) m1 (m2 ++ post) + (-1) ^ (m1.length + 1) * ex3 d (pre ++ r :: m1) m2 post
    rw [ex3_app d m1 (pre ++ [r]) m2 post]
    have e1 : pre ++ (m1 ++ m2) ++ post = pre ++ m1 ++ (m2 ++ post) := by simp
    have e2 : pre ++ [r] ++ m1 = pre ++ r :: m1 := by simp
    rw [e1, e2, Int.pow_succ]
    grind
theorem ex3_lin (d : List R → Int) (α β : Int) {q1 q2 q3 : List R} : ∀ (mid p1 p2 p3 : List R), (∀ u v : List R, u.length + v.length + 1 = mid.length → d (p1 ++ u ++ v ++ q1) = α * d (p2 ++ u ++ v ++ q2) + β * d (p3 ++ u ++ v ++ q3)) →
    ex3 d p1 mid q1 = α * ex3 d p2 mid q2 + β * ex3 d p3 mid q3
  | [], p1, p2, p3, _ => by simp [ex3]
  | r :: m, p1, p2, p3, h => by
    have h0 := h [] m (by simp)
    simp only [List.append_nil] at h0
    have h1 := ex3_lin d α β m (p1 ++ [r]) (p2 ++ [r]) (p3 ++ [r]) fun u v hl => by
      have := h (r :: u) v (by simp only [List.length_cons]; omega)
      simpa using this
    show r 0 * d (p1 ++ m ++ q1) - ex3 d (p1 ++ [r]) m q1 = α * (r 0 * d (p2 ++ m ++ q2) - ex3 d (p2 ++ [r]) m q2) + β * (r 0 * d (p3 ++ m ++ q3) - ex3 d (p3 ++ [r]) m q3)
    rw [h0, h1]
    grind
theorem ex3_zero (d : List R → Int) : ∀ (mid pre post : List R), (∀ r ∈ mid, r 0 = 0) → ex3 d pre mid post = 0
  | [], _, _, _ => rfl
  | r :: m, pre, post, h => by
    show r 0 * d (pre ++ m ++ post) - ex3 d (pre ++ [r]) m post = 0
    rw [h r (by simp), ex3_zero d m _ _ fun z hz => h z (by simp [hz])]
    simp
theorem ex_two (d : List R → Int) (a b : List R) (x y : R) : ex3 d [] (a ++ x :: y :: b) [] = ex3 d [] a (x :: y :: b) + (-1) ^ a.length * (x 0 * d (a ++ y :: b) - (y 0 * d (a ++ x :: b) - ex3 d (a ++ [x, y]) b [])) := by
  rw [ex3_app]
  show ex3 d [] a (x :: y :: b ++ []) + (-1) ^ a.length * (x 0 * d ([] ++ a ++ (y :: b) ++ []) - (y 0 * d ([] ++ a ++ [x] ++ b ++ []) - ex3 d ([] ++ a ++ [x] ++ [y]) b [])) = _
  simp
theorem ex_one (d : List R → Int) (a b : List R) (x : R) : ex3 d [] (a ++ x :: b) [] = ex3 d [] a (x :: b) + (-1) ^ a.length * (x 0 * d (a ++ b) - ex3 d (a ++ [x]) b []) := by
  rw [ex3_app]
  show ex3 d [] a (x :: b ++ []) + (-1) ^ a.length * (x 0 * d ([] ++ a ++ b ++ []) - ex3 d ([] ++ a ++ [x]) b []) = _
  simp
theorem swap : ∀ (n : Nat) (a b : List R) (x y : R), a.length + b.length + 2 = n → dt n (a ++ x :: y :: b) = - dt n (a ++ y :: x :: b)
  | 0, a, b, x, y, h => by omega
  | n + 1, a, b, x, y, h => by
    have ih := swap n
    show ex3 (fun l => dt n (l.map sh)) [] (a ++ x :: y :: b) [] = - ex3 (fun l => dt n (l.map sh)) [] (a ++ y :: x :: b) []
    rw [ex_two, ex_two]
    have h1 := ex3_lin (fun l => dt n (l.map sh)) (-1) 0 (q1 := x :: y :: b) (q2 := y :: x :: b) (q3 := []) a [] [] [] fun u v hl => by
      show dt n (([] ++ u ++ v ++ x :: y :: b).map sh) = -1 * dt n (([] ++ u ++ v ++ y :: x :: b).map sh) + 0 * _
      have := ih ((u ++ v).map sh) (b.map sh) (sh x) (sh y) (by simp only [List.length_map, List.length_append]; omega)
      simp only [List.map_append, List.map_cons, List.nil_append] at this ⊢
      rw [this]
      simp
    have h2 := ex3_lin (fun l => dt n (l.map sh)) (-1) 0 (q1 := []) (q2 := []) (q3 := []) b (a ++ [x, y]) (a ++ [y, x]) [] fun u v hl => by
      show dt n ((a ++ [x, y] ++ u ++ v ++ []).map sh) = -1 * dt n ((a ++ [y, x] ++ u ++ v ++ []).map sh) + 0 * _
      have := ih (a.map sh) ((u ++ v).map sh) (sh x) (sh y) (by simp only [List.length_map, List.length_append]; omega)
      simp only [List.map_append, List.map_cons, List.map_nil, List.append_assoc, List.cons_append, List.nil_append, List.append_nil] at this ⊢
      rw [this]
      simp
    rw [h1, h2]
    grind
theorem lin : ∀ (n : Nat) (a b : List R) (x y z : R) (α β : Int), a.length + b.length + 1 = n → (∀ j, z j = α * x j + β * y j) → dt n (a ++ z :: b) = α * dt n (a ++ x :: b) + β * dt n (a ++ y :: b)
  | 0, a, b, x, y, z, α, β, h, _ => by omega
  | n + 1, a, b, x, y, z, α, β, h, hz => by
    have ih := lin n
    show ex3 (fun l => dt n (l.map sh)) [] (a ++ z :: b) [] = α * ex3 (fun l => dt n (l.map sh)) [] (a ++ x :: b) [] + β * ex3 (fun l => dt n (l.map sh)) [] (a ++ y :: b) []
    rw [ex_one, ex_one, ex_one]
    have h1 := ex3_lin (fun l => dt n (l.map sh)) α β (q1 := z :: b) (q2 := x :: b) (q3 := y :: b) a [] [] [] fun u v hl => by
      show dt n (([] ++ u ++ v ++ z :: b).map sh) = α * dt n (([] ++ u ++ v ++ x :: b).map sh) + β * dt n (([] ++ u ++ v ++ y :: b).map sh)
      have := ih ((u ++ v).map sh) (b.map sh) (sh x) (sh y) (sh z) α β (by simp only [List.length_map, List.length_append]; omega) (fun j => hz (j + 1))
      simpa only [List.map_append, List.map_cons, List.nil_append] using this
    have h2 := ex3_lin (fun l => dt n (l.map sh)) α β (q1 := []) (q2 := []) (q3 := []) b (a ++ [z]) (a ++ [x]) (a ++ [y]) fun u v hl => by
      show dt n ((a ++ [z] ++ u ++ v ++ []).map sh) = α * dt n ((a ++ [x] ++ u ++ v ++ []).map sh) + β * dt n ((a ++ [y] ++ u ++ v ++ []).map sh)
      have := ih (a.map sh) ((u ++ v).map sh) (sh x) (sh y) (sh z) α β (by simp only [List.length_map, List.length_append]; omega) (fun j => hz (j + 1))
      simpa only [List.map_append, List.map_cons, List.map_nil, List.append_assoc, List.cons_append, List.nil_append, List.append_nil] using this
    rw [h1, h2, hz 0]
    grind
theorem twice (n : Nat) (h : R) : ∀ (a u b : List R), u.length + a.length + b.length + 2 = n → dt n (u ++ h :: (a ++ h :: b)) = 0
  | [], u, b, hl => by
    have := swap n u b h h (by simpa using hl)
    rw [List.nil_append]
    omega
  | z :: a, u, b, hl => by
    rw [List.cons_append, swap n u (a ++ h :: b) h z (by simp only [List.length_append, List.length_cons] at hl ⊢; omega)]
    have := twice n h a (u ++ [z]) b (by simp only [List.length_append, List.length_cons, List.length_nil] at hl ⊢; omega)
    rw [List.append_assoc] at this
    rw [show u ++ z :: h :: (a ++ h :: b) = u ++ ([z] ++ h :: (a ++ h :: b)) from rfl, this]
    rfl
theorem front (n : Nat) (h : R) : ∀ (a u b : List R), u.length + a.length + b.length + 1 = n → dt n (u ++ (a ++ h :: b)) = (-1) ^ a.length * dt n (u ++ h :: (a ++ b))
  | [], u, b, hl => by simp
  | z :: a, u, b, hl => by
    have ih := front n h a (u ++ [z]) b (by simp only [List.length_append, List.length_cons, List.length_nil] at hl ⊢; omega)
    rw [List.append_assoc, List.append_assoc] at ih
    rw [List.cons_append, show u ++ z :: (a ++ h :: b) = u ++ ([z] ++ (a ++ h :: b)) from rfl, ih]
    have s := swap n u (a ++ b) z h (by simp only [List.length_append, List.length_cons] at hl ⊢; omega)
    rw [show u ++ ([z] ++ h :: (a ++ b)) = u ++ z :: h :: (a ++ b) from rfl, s, List.length_cons, Int.pow_succ, List.cons_append]
    grind
theorem scale {ι : Type} (n : Nat) (F G : ι → R) (q : Int) (hF : ∀ i j, F i j = q * G i j) : ∀ (L : List ι) (u : List R), u.length + L.length = n → dt n (u ++ L.map F) = q ^ L.length * dt n (u ++ L.map G)
  | [], u, _ => by simp
  | i :: L, u, hl => by
    have h1 := lin n u (L.map F) (G i) (G i) (F i) q 0 (by simp only [List.length_map, List.length_cons] at hl ⊢; omega) (fun j => by rw [hF]; simp)
    have ih := scale n F G q hF L (u ++ [G i]) (by simp only [List.length_append, List.length_cons, List.length_nil] at hl ⊢; omega)
    rw [List.append_assoc, List.append_assoc] at ih
    rw [List.map_cons, h1, show u ++ G i :: L.map F = u ++ ([G i] ++ L.map F) from rfl, ih, List.length_cons, Int.pow_succ, List.map_cons]
    show _ = q ^ L.length * q * dt n (u ++ ([G i] ++ L.map G))
    grind
theorem addrow {ι : Type} (n : Nat) (h : R) (F G : ι → R) (q : Int) (c : ι → Int) : ∀ (L : List ι) (u : List R), (∀ i ∈ L, ∀ j, F i j = q * G i j + c i * h j) → u.length + L.length + 1 = n → dt n (h :: (u ++ L.map F)) = q ^ L.length * dt n (h :: (u ++ L.map G))
  | [], u, _, _ => by simp
  | i :: L, u, hF, hl => by
    have h1 := lin n (h :: u) (L.map F) (G i) h (F i) q (c i) (by simp only [List.length_map, List.length_cons] at hl ⊢; omega) (hF i (by simp))
    have h2 := twice n h u [] (L.map F) (by simp only [List.length_map, List.length_cons, List.length_nil] at hl ⊢; omega)
    have ih := addrow n h F G q c L (u ++ [G i]) (fun i hi => hF i (by simp [hi])) (by simp only [List.length_append, List.length_cons, List.length_nil] at hl ⊢; omega)
    rw [List.append_assoc, List.append_assoc] at ih
    rw [List.nil_append] at h2
    rw [List.cons_append, List.cons_append, List.cons_append, h2] at h1
    rw [List.map_cons, h1, show u ++ G i :: L.map F = u ++ ([G i] ++ L.map F) from rfl, ih, List.length_cons, Int.pow_succ, List.map_cons]
    show _ = q ^ L.length * q * dt n (h :: (u ++ ([G i] ++ L.map G)))
    grind
theorem chio {ι : Type} (h : R) (G : ι → R) (L : List ι) : h 0 * dt L.length (L.map fun i => fun j => h 0 * G i (j + 1) - G i 0 * h (j + 1)) = h 0 ^ L.length * dt (L.length + 1) (h :: L.map G) := by
  have e := addrow (L.length + 1) h (fun i => fun j => h 0 * G i j + (- G i 0) * h j) G (h 0) (fun i => - G i 0) L [] (fun i _ j => rfl) (by simp)
  rw [List.nil_append, List.nil_append] at e
  rw [← e]
  show _ = h 0 * dt L.length (([] ++ (L.map fun i => fun j => h 0 * G i j + (- G i 0) * h j) ++ []).map sh) - ex3 _ ([] ++ [h]) (L.map fun i => fun j => h 0 * G i j + (- G i 0) * h j) []
  rw [ex3_zero _ _ _ _ (fun r hr => by
    obtain ⟨i, _, rfl⟩ := List.mem_map.mp hr
    show h 0 * G i 0 + (- G i 0) * h 0 = 0
    grind)]
  rw [List.nil_append, List.append_nil, List.map_map, Int.sub_zero]
  congr 2
  refine List.map_congr_left fun i _ => ?_
  funext j
  show h 0 * G i (j + 1) - G i 0 * h (j + 1) = h 0 * G i (j + 1) + (- G i 0) * h (j + 1)
  grind
def Inv (q : Int) (Row : Nat → R) : Prop := ∀ (is : List Nat) (φ : Nat → Nat), is ≠ [] → q ^ (is.length - 1) ∣ dt is.length (is.map fun i => fun j => Row i (φ j))
theorem inv_one (Row : Nat → R) : Inv 1 Row := fun is φ _ => by rw [Int.one_pow]; exact Int.one_dvd _
theorem dt_two (x y : R) : dt 2 [x, y] = x 0 * y 1 - y 0 * x 1 := by
  simp [dt, ex3, sh]
theorem exact2 {q : Int} {Row : Nat → R} (h : Inv q Row) (p i c j : Nat) : q ∣ Row p c * Row i j - Row i c * Row p j := by
  have := h [p, i] (fun k => if k = 0 then c else j) (by simp)
  simp only [List.length_cons, List.length_nil, List.map_cons, List.map_nil] at this
  rw [dt_two] at this
  have e : q ^ (0 + 1 + 1 - 1) = q := by simp [Int.pow_succ]
  rw [e] at this
  simpa using this
theorem step {q' q : Int} {Row Row' : Nat → R} {p c : Nat} (h : Inv q' Row) (h0 : q' ≠ 0) (hq : q = Row p c) (q0 : q ≠ 0) (hp : ∀ j, Row' p j = Row p j) (hr : ∀ i, i ≠ p → ∀ j, q' * Row' i j = q * Row i j - Row i c * Row p j) : Inv q Row' := by
  intro is φ hne
  by_cases hm : p ∈ is
  · obtain ⟨a, b, rfl⟩ := List.append_of_mem hm
    have hl : (a ++ p :: b).length = (a ++ b).length + 1 := by simp only [List.length_append, List.length_cons]; omega
    rw [hl, Nat.add_sub_cancel, List.map_append, List.map_cons]
    have fr := front ((a ++ b).length + 1) (fun j => Row' p (φ j)) (a.map fun i => fun j => Row' i (φ j)) [] (b.map fun i => fun j => Row' i (φ j)) (by simp only [List.length_map, List.length_append, List.length_nil]; omega)
    rw [List.nil_append, List.nil_append, ← List.map_append] at fr
    rw [fr]
    refine Int.dvd_mul_of_dvd_right ?_
    by_cases hm2 : p ∈ a ++ b
    · obtain ⟨u, v, e⟩ := List.append_of_mem hm2
      have tw := twice ((a ++ b).length + 1) (fun j => Row' p (φ j)) (u.map fun i => fun j => Row' i (φ j)) [] (v.map fun i => fun j => Row' i (φ j)) (by rw [e]; simp only [List.length_map, List.length_append, List.length_cons, List.length_nil]; omega)
      rw [List.nil_append] at tw
      have e2 : (a ++ b).map (fun i => fun j => Row' i (φ j)) = (u.map fun i => fun j => Row' i (φ j)) ++ (fun j => Row' p (φ j)) :: (v.map fun i => fun j => Row' i (φ j)) := by rw [e, List.map_append, List.map_cons]
      rw [e2, tw]
      exact Int.dvd_zero _
    · generalize hL : a ++ b = L at hm2
      have ne : ∀ i ∈ L, i ≠ p := fun i hi e => hm2 (e ▸ hi)
      have s1 := addrow (L.length + 1) (fun j => Row' p (φ j)) (fun i => fun j => q' * Row' i (φ j)) (fun i => fun j => Row' i (φ j)) q' (fun _ => 0) L [] (fun i _ j => by simp) (by simp)
      have s2 := addrow (L.length + 1) (fun j => Row' p (φ j)) (fun i => fun j => q' * Row' i (φ j)) (fun i => fun j => Row i (φ j)) q (fun i => - Row i c) L [] (fun i hi j => by
        show q' * Row' i (φ j) = q * Row i (φ j) + - Row i c * Row' p (φ j)
        rw [hr i (ne i hi), hp]
        grind) (by simp)
      rw [List.nil_append, List.nil_append] at s1 s2
      have dv := h (p :: L) φ (by simp)
      rw [List.length_cons, Nat.add_sub_cancel, List.map_cons] at dv
      have e3 : (fun j => Row' p (φ j)) = (fun j => Row p (φ j)) := by funext j; exact hp _
      rw [e3] at s1 s2 ⊢
      obtain ⟨E, hE⟩ := dv
      refine ⟨E, ?_⟩
      have key : q' ^ L.length * dt (L.length + 1) ((fun j => Row p (φ j)) :: L.map fun i => fun j => Row' i (φ j)) = q' ^ L.length * (q ^ L.length * E) := by
        rw [← s1, s2, hE]
        grind
      exact Int.eq_of_mul_eq_mul_left (Int.pow_ne_zero h0) key
  · have ne : ∀ i ∈ is, i ≠ p := fun i hi e => hm (e ▸ hi)
    let ψ : Nat → Nat := fun k => match k with | 0 => c | k + 1 => φ k
    have ch := chio (fun j => Row p (ψ j)) (fun i => fun j => Row i (ψ j)) is
    have s1 := scale is.length (fun i => fun j => q' * Row' i (φ j)) (fun i => fun j => Row' i (φ j)) q' (fun _ _ => rfl) is [] (by simp)
    rw [List.nil_append, List.nil_append] at s1
    have e1 : (is.map fun i => fun j => q' * Row' i (φ j)) = is.map fun i => fun j => Row p (ψ 0) * Row i (ψ (j + 1)) - Row i (ψ 0) * Row p (ψ (j + 1)) := by
      refine List.map_congr_left fun i hi => ?_
      funext j
      show q' * Row' i (φ j) = Row p c * Row i (φ j) - Row i c * Row p (φ j)
      rw [hr i (ne i hi), hq]
    have dv := h (p :: is) ψ (by simp)
    rw [List.length_cons, Nat.add_sub_cancel, List.map_cons] at dv
    obtain ⟨E, hE⟩ := dv
    rw [e1] at s1
    have ch' : q * dt is.length (is.map fun i => fun j => Row p (ψ 0) * Row i (ψ (j + 1)) - Row i (ψ 0) * Row p (ψ (j + 1))) = q ^ is.length * dt (is.length + 1) ((fun j => Row p (ψ j)) :: is.map fun i => fun j => Row i (ψ j)) := by
      rw [hq]
      exact ch
    rw [s1, hE] at ch'
    obtain ⟨m, hm'⟩ : ∃ m, is.length = m + 1 := by
      cases is with
      | nil => exact absurd rfl hne
      | cons x xs => exact ⟨xs.length, rfl⟩
    rw [hm'] at ch' ⊢
    rw [Nat.add_sub_cancel]
    refine ⟨E, ?_⟩
    have key : (q * q' ^ (m + 1)) * dt (m + 1) (is.map fun i => fun j => Row' i (φ j)) = (q * q' ^ (m + 1)) * (q ^ m * E) := by
      rw [Int.pow_succ q m] at ch'
      grind
    exact Int.eq_of_mul_eq_mul_left (Int.mul_ne_zero q0 (Int.pow_ne_zero h0)) key
def sm : Nat → (Nat → Int) → Int
  | 0, _ => 0
  | n + 1, f => sm n f + f n
theorem sm_congr {f g : Nat → Int} : ∀ {n : Nat}, (∀ m, m < n → f m = g m) → sm n f = sm n g
  | 0, _ => rfl
  | n + 1, h => by
    show sm n f + f n = sm n g + g n
    rw [sm_congr fun m hm => h m (by omega), h n (by omega)]
theorem sm_add (f g : Nat → Int) : ∀ n : Nat, sm n (fun m => f m + g m) = sm n f + sm n g
  | 0 => rfl
  | n + 1 => by
    show sm n (fun m => f m + g m) + (f n + g n) = sm n f + f n + (sm n g + g n)
    rw [sm_add f g n]
    omega
theorem sm_mul (c : Int) (f : Nat → Int) : ∀ n : Nat, sm n (fun m => c * f m) = c * sm n f
  | 0 => by simp [sm]
  | n + 1 => by
    show sm n (fun m => c * f m) + c * f n = c * (sm n f + f n)
    rw [sm_mul c f n]
    grind
theorem sm_lin (a b : Int) (f g : Nat → Int) (n : Nat) : sm n (fun m => a * f m - b * g m) = a * sm n f - b * sm n g := by
  have : (fun m => a * f m - b * g m) = fun m => a * f m + (-b) * g m := by
    funext m
    grind
  rw [this, sm_add (fun m => a * f m) (fun m => (-b) * g m), sm_mul, sm_mul]
  grind
theorem sm_zero : ∀ {n : Nat} {f : Nat → Int}, (∀ m, m < n → f m = 0) → sm n f = 0
  | 0, _, _ => rfl
  | n + 1, f, h => by
    show sm n f + f n = 0
    rw [sm_zero fun m hm => h m (by omega), h n (by omega)]
    rfl
theorem sm_pick {c : Int} {f : Nat → Int} : ∀ {n l : Nat}, l < n → sm n (fun m => (if l = m then c else 0) * f m) = c * f l
  | 0, l, h => by omega
  | n + 1, l, h => by
    show sm n (fun m => (if l = m then c else 0) * f m) + (if l = n then c else 0) * f n = c * f l
    by_cases e : l = n
    · rw [sm_zero fun m hm => by rw [if_neg (by omega)]; simp, if_pos e, e]
      simp
    · rw [sm_pick (n := n) (l := l) (by omega), if_neg e]
      simp
theorem sm_swap (f : Nat → Nat → Int) (k : Nat) : ∀ n : Nat, sm n (fun i => sm k (fun m => f i m)) = sm k (fun m => sm n (fun i => f i m))
  | 0 => (sm_zero fun m _ => rfl).symm
  | n + 1 => by
    show sm n (fun i => sm k (fun m => f i m)) + sm k (fun m => f n m) = sm k (fun m => sm n (fun i => f i m) + f n m)
    rw [sm_swap f k n, sm_add]
structure Ok (n : Nat) (A : Nat → R) (k : Nat) (q : Int) (Row : Nat → R) : Prop where
  inv : Inv q Row
  pos : 0 < q
  left : ∀ i j, i < n → j < k → Row i j = if i = j then q else 0
  rel : ∀ i j, i < n → j < n → Row i j = sm n fun m => Row i (n + m) * A m j
  inj : ∀ v : Nat → Int, (∀ i, i < n → sm n (fun m => Row i (n + m) * v m) = 0) → ∀ m, m < n → v m = 0
def begun (n : Nat) (A : Nat → R) : Nat → R := fun i j => if j < n then A i j else if i = j - n then 1 else 0
theorem ok_begun (n : Nat) (A : Nat → R) {Row : Nat → R} (hr : ∀ i j, i < n → j < n + n → Row i j = begun n A i j) : Ok n A 0 1 Row := by
  have e : ∀ i m, i < n → m < n → Row i (n + m) = if i = m then 1 else 0 := fun i m hi hm => by
    rw [hr i (n + m) hi (by omega)]
    unfold begun
    rw [if_neg (by omega), Nat.add_sub_cancel_left]
  refine ⟨inv_one _, by decide, fun i j _ h => by omega, fun i j hi hj => ?_, fun v h m hm => ?_⟩
  · rw [sm_congr (g := fun m => (if i = m then 1 else 0) * A m j) fun m hm => by rw [e i m hi hm], sm_pick hi, hr i j hi (by omega)]
    unfold begun
    rw [if_pos hj]
    simp
  · have := h m hm
    rw [sm_congr (g := fun k => (if m = k then 1 else 0) * v k) fun k hk => by rw [e m k hm hk], sm_pick hm] at this
    simpa using this
def stepR (k : Nat) (q : Int) (Row : Nat → R) : Nat → R := fun i j => if i = k then Row k j else (Row k k * Row i j - Row i k * Row k j) / q
theorem stepR_own {k : Nat} {q : Int} {Row : Nat → R} (j : Nat) : stepR k q Row k j = Row k j := if_pos rfl
theorem stepR_exact {k i : Nat} {q : Int} {Row : Nat → R} (h : Inv q Row) (hi : i ≠ k) (j : Nat) : q * stepR k q Row i j = Row k k * Row i j - Row i k * Row k j := by
  unfold stepR
  rw [if_neg hi]
  exact Int.mul_ediv_cancel' (exact2 h k i k j)
theorem ok_step {n k : Nat} {A : Nat → R} {q : Int} {Row : Nat → R} (h : Ok n A k q Row) (hk : k < n) (hp : 0 < Row k k) : Ok n A (k + 1) (Row k k) (stepR k q Row) := by
  have q0 : q ≠ 0 := by have := h.pos; omega
  have p0 : Row k k ≠ 0 := by omega
  have ex : ∀ i, i ≠ k → ∀ j, q * stepR k q Row i j = Row k k * Row i j - Row i k * Row k j := fun i hi j => stepR_exact h.inv hi j
  refine ⟨step h.inv q0 rfl p0 (fun j => stepR_own j) ex, hp, fun i j hi hj => ?_, fun i j hi hj => ?_, fun v hv m hm => ?_⟩
  · by_cases hik : i = k
    · subst hik
      rw [stepR_own]
      by_cases hji : j = i
      · rw [if_pos hji.symm, hji]
      · rw [if_neg (Ne.symm hji), h.left i j hi (by omega), if_neg (Ne.symm hji)]
    · refine Int.eq_of_mul_eq_mul_left q0 ?_
      rw [ex i hik]
      by_cases hjk : j = k
      · rw [hjk, if_neg hik]
        grind
      · rw [h.left k j hk (by omega), if_neg (Ne.symm hjk), h.left i j hi (by omega)]
        split <;> grind
  · by_cases hik : i = k
    · subst hik
      rw [stepR_own, h.rel i j hi hj]
      exact sm_congr fun m _ => by rw [stepR_own]
    · refine Int.eq_of_mul_eq_mul_left q0 ?_
      rw [ex i hik, h.rel i j hi hj, h.rel k j hk hj, ← sm_lin, ← sm_mul]
      refine sm_congr fun m _ => ?_
      have := ex i hik (n + m)
      grind
  · refine h.inj v (fun i hi => ?_) m hm
    have sk : sm n (fun m => Row k (n + m) * v m) = 0 := by
      rw [← hv k hk]
      exact sm_congr fun m _ => by rw [stepR_own]
    by_cases hik : i = k
    · rw [hik]
      exact sk
    · have e1 : q * sm n (fun m => stepR k q Row i (n + m) * v m) = Row k k * sm n (fun m => Row i (n + m) * v m) - Row i k * sm n (fun m => Row k (n + m) * v m) := by
        rw [← sm_lin, ← sm_mul]
        refine sm_congr fun m _ => ?_
        have := ex i hik (n + m)
        grind
      rw [hv i hi, sk] at e1
      have e2 : Row k k * sm n (fun m => Row i (n + m) * v m) = 0 := by omega
      rcases Int.mul_eq_zero.mp e2 with e3 | e3
      · exact absurd e3 p0
      · exact e3
theorem Ok.inverse {n : Nat} {A : Nat → R} {q : Int} {Row : Nat → R} (h : Ok n A n q Row) : (∀ i j, i < n → j < n → sm n (fun m => Row i (n + m) * A m j) = if i = j then q else 0) ∧ ∀ i j, i < n → j < n → sm n (fun m => A i m * Row m (n + j)) = if i = j then q else 0 := by
  have hl : ∀ i j, i < n → j < n → sm n (fun m => Row i (n + m) * A m j) = if i = j then q else 0 := fun i j hi hj => by rw [← h.rel i j hi hj, h.left i j hi hj]
  refine ⟨hl, fun i j hi hj => ?_⟩
  have := h.inj (fun i => sm n (fun m => A i m * Row m (n + j)) - if i = j then q else 0) (fun l hl' => ?_) i hi
  · omega
  · have e1 : (fun i => Row l (n + i) * (sm n (fun m => A i m * Row m (n + j)) - if i = j then q else 0)) = fun i => 1 * sm n (fun m => Row l (n + i) * A i m * Row m (n + j)) - 1 * ((if j = i then q else 0) * Row l (n + i)) := by
      funext i
      have : sm n (fun m => Row l (n + i) * A i m * Row m (n + j)) = Row l (n + i) * sm n (fun m => A i m * Row m (n + j)) := by
        rw [← sm_mul]
        exact sm_congr fun m _ => by grind
      rw [this]
      by_cases e : i = j
      · rw [if_pos e, if_pos e.symm]
        grind
      · rw [if_neg e, if_neg (Ne.symm e)]
        grind
    rw [e1, sm_lin, sm_pick (f := fun i => Row l (n + i)) hj, sm_swap]
    have e2 : sm n (fun m => sm n fun i => Row l (n + i) * A i m * Row m (n + j)) = sm n (fun m => (if l = m then q else 0) * Row m (n + j)) := by
      refine sm_congr fun m hm => ?_
      have : sm n (fun i => Row l (n + i) * A i m * Row m (n + j)) = Row m (n + j) * sm n (fun i => Row l (n + i) * A i m) := by
        rw [← sm_mul]
        exact sm_congr fun i _ => by grind
      rw [this, hl l m hl' hm]
      grind
    rw [e2, sm_pick (f := fun m => Row m (n + j)) hl']
    grind
end QX.Det
set_option maxRecDepth 100000
set_option maxHeartbeats 1000000
namespace QX.Det
def rw (ls : List (List Int)) : Nat → R := fun i j => (ls.getD i []).getD j 0
def nought (line own : List Int) (k : Nat) (q : Int) : List Int := List.zipWith (fun one less => (own.getD k 0 * one - line.getD k 0 * less) / q) line own
def stepL (k : Nat) (q : Int) (ls : List (List Int)) : List (List Int) := ls.mapIdx fun i line => if i = k then ls.getD k [] else nought line (ls.getD k []) k q
structure Rect (n w : Nat) (ls : List (List Int)) : Prop where
  len : ls.length = n
  wid : ∀ l ∈ ls, l.length = w
theorem Rect.get {n w i : Nat} {ls : List (List Int)} (h : Rect n w ls) (hi : i < n) : (ls.getD i []).length = w := by
  have : i < ls.length := by rw [h.len]; exact hi
  rw [List.getD_eq_getElem?_getD, List.getElem?_eq_getElem this]
  exact h.wid _ (List.getElem_mem this)
theorem Rect.step {n w k : Nat} {q : Int} {ls : List (List Int)} (h : Rect n w ls) (hk : k < n) : Rect n w (stepL k q ls) := by
  refine ⟨by rw [stepL, List.length_mapIdx, h.len], fun l hl => ?_⟩
  obtain ⟨i, hi, rfl⟩ := List.mem_mapIdx.mp hl
  split
  · exact h.get hk
  · rw [nought, List.length_zipWith, h.get hk, h.wid _ (List.getElem_mem hi), Nat.min_self]
theorem getD0 {xs : List Int} {j : Nat} (h : xs.length ≤ j) : xs.getD j 0 = 0 := by
  rw [List.getD_eq_getElem?_getD, List.getElem?_eq_none h]
  rfl
theorem rw_out {ls : List (List Int)} {i j : Nat} (h : ls.length ≤ i) : rw ls i j = 0 := by
  have e : ls.getD i [] = [] := by
    rw [List.getD_eq_getElem?_getD, List.getElem?_eq_none h]
    rfl
  unfold rw
  rw [e]
  rfl
theorem rw_step {n w k : Nat} {q : Int} {ls : List (List Int)} (h : Rect n w ls) (hk : k < n) : rw (stepL k q ls) = stepR k q (rw ls) := by
  funext i j
  by_cases hi : i < n
  · have hi' : i < ls.length := by rw [h.len]; exact hi
    have e : (stepL k q ls).getD i [] = if i = k then ls.getD k [] else nought (ls.getD i []) (ls.getD k []) k q := by
      rw [stepL, List.getD_eq_getElem?_getD, List.getElem?_mapIdx, List.getElem?_eq_getElem hi']
      show (if i = k then ls.getD k [] else nought ls[i] (ls.getD k []) k q) = _
      rw [List.getD_eq_getElem?_getD (i := i), List.getElem?_eq_getElem hi']
      rfl
    unfold stepR
    show ((stepL k q ls).getD i []).getD j 0 = _
    rw [e]
    split
    · rfl
    · unfold nought
      have l1 := h.get hi
      have l2 := h.get hk
      by_cases hj : j < w
      · rw [List.getD_eq_getElem?_getD, List.getElem?_zipWith, List.getElem?_eq_getElem (by omega), List.getElem?_eq_getElem (by omega)]
        show (_ * (ls.getD i [])[j] - _ * (ls.getD k [])[j]) / q = (_ * (ls.getD i []).getD j 0 - _ * (ls.getD k []).getD j 0) / q
        rw [List.getD_eq_getElem?_getD (i := j), List.getElem?_eq_getElem (by omega), List.getD_eq_getElem?_getD (i := j), List.getElem?_eq_getElem (by omega)]
        rfl
      · rw [getD0 (by rw [List.length_zipWith]; omega)]
        show 0 = (_ * (ls.getD i []).getD j 0 - _ * (ls.getD k []).getD j 0) / q
        rw [getD0 (by omega), getD0 (by omega)]
        simp
  · have h1 : rw ls i j = 0 := rw_out (by rw [h.len]; omega)
    have h2 : rw ls i k = 0 := rw_out (by rw [h.len]; omega)
    rw [rw_out (by rw [stepL, List.length_mapIdx, h.len]; omega)]
    unfold stepR
    rw [if_neg (by omega), h1, h2]
    simp
def solveL : Nat → Nat → Int → List (List Int) → Option (Int × List (List Int))
  | 0, _, q, ls => some (q, ls)
  | r + 1, k, q, ls => if rw ls k k ≤ 0 then none else solveL r (k + 1) (rw ls k k) (stepL k q ls)
theorem solve_ok {n w : Nat} {A : Nat → R} : ∀ (r k : Nat) (q : Int) (ls : List (List Int)) (p : Int) (ls' : List (List Int)), Rect n w ls → Ok n A k q (rw ls) → k + r = n → solveL r k q ls = some (p, ls') → Ok n A n p (rw ls') ∧ Rect n w ls'
  | 0, k, q, ls, p, ls', hr, ho, hk, h => by
    simp only [solveL, Option.some.injEq, Prod.mk.injEq] at h
    obtain ⟨rfl, rfl⟩ := h
    have : k = n := by omega
    subst this
    exact ⟨ho, hr⟩
  | r + 1, k, q, ls, p, ls', hr, ho, hk, h => by
    unfold solveL at h
    split at h
    · cases h
    · rename_i hp
      have hk' : k < n := by omega
      have ho' := ok_step ho hk' (by omega)
      rw [← rw_step hr hk'] at ho'
      exact solve_ok r (k + 1) _ _ p ls' (hr.step hk') ho' (by omega) h
def begunL (n : Nat) (t : List (List Int)) : List (List Int) := t.mapIdx fun i l => l ++ (List.range n).map fun a => if a = i then 1 else 0
theorem begun_rect {n : Nat} {t : List (List Int)} (h : Rect n n t) : Rect n (n + n) (begunL n t) := by
  refine ⟨by rw [begunL, List.length_mapIdx, h.len], fun l hl => ?_⟩
  obtain ⟨i, hi, rfl⟩ := List.mem_mapIdx.mp hl
  rw [List.length_append, List.length_map, List.length_range, h.wid _ (List.getElem_mem hi)]
theorem rw_begun {n : Nat} {t : List (List Int)} (h : Rect n n t) (i j : Nat) (hi : i < n) (hj : j < n + n) : rw (begunL n t) i j = begun n (rw t) i j := by
  have hi' : i < t.length := by rw [h.len]; exact hi
  have l1 : t[i].length = n := h.wid _ (List.getElem_mem hi')
  have e : (begunL n t).getD i [] = t[i] ++ (List.range n).map fun a => if a = i then 1 else 0 := by
    rw [begunL, List.getD_eq_getElem?_getD, List.getElem?_mapIdx, List.getElem?_eq_getElem hi']
    rfl
  have e2 : t.getD i [] = t[i] := by
    rw [List.getD_eq_getElem?_getD, List.getElem?_eq_getElem hi']
    rfl
  show ((begunL n t).getD i []).getD j 0 = if j < n then (t.getD i []).getD j 0 else if i = j - n then 1 else 0
  rw [e, e2]
  by_cases hn : j < n
  · rw [if_pos hn, List.getD_eq_getElem?_getD, List.getElem?_append_left (by omega), ← List.getD_eq_getElem?_getD]
  · rw [if_neg hn, List.getD_eq_getElem?_getD, List.getElem?_append_right (by omega), l1, List.getElem?_map, List.getElem?_range (by omega)]
    show (if j - n = i then (1 : Int) else 0) = if i = j - n then 1 else 0
    by_cases e : i = j - n
    · rw [if_pos e, if_pos e.symm]
    · rw [if_neg e, if_neg (Ne.symm e)]
theorem ok_begunL {n : Nat} {t : List (List Int)} (h : Rect n n t) : Ok n (rw t) 0 1 (rw (begunL n t)) := ok_begun n (rw t) fun i j hi hj => rw_begun h i j hi hj
theorem ediv_abs (x q : Int) (h : 0 < q) : (x / q).natAbs ≤ x.natAbs := by
  have h1 := Int.ediv_mul_add_emod x q
  have h2 := Int.emod_nonneg x (show q ≠ 0 by omega)
  have h3 := Int.emod_lt_of_pos x h
  rcases Int.lt_or_le x 0 with hx | hx
  · have a1 : x / q < 0 := Int.ediv_neg_of_neg_of_pos hx h
    have a2 : x ≤ x / q := by
      have : x / q * q ≤ x / q * 1 := Int.mul_le_mul_of_nonpos_left (by omega) (by omega)
      rw [Int.le_ediv_iff_mul_le h]
      have : x * q ≤ x * 1 := Int.mul_le_mul_of_nonpos_left (by omega) (by omega)
      omega
    omega
  · have a1 : 0 ≤ x / q := Int.ediv_nonneg hx (by omega)
    have a2 : x / q ≤ x := Int.ediv_le_self q hx
    omega
def Big (b : Nat) (Row : Nat → R) : Prop := ∀ i j, (Row i j).natAbs < 2 ^ b
theorem abs_mul2 {x y u v : Int} {b : Nat} (hx : x.natAbs < 2 ^ b) (hy : y.natAbs < 2 ^ b) (hu : u.natAbs < 2 ^ b) (hv : v.natAbs < 2 ^ b) : (x * y - u * v).natAbs < 2 ^ (2 * b + 1) := by
  have e : (2 : Nat) ^ (2 * b + 1) = 2 ^ b * 2 ^ b + 2 ^ b * 2 ^ b := by rw [Nat.pow_succ, Nat.two_mul b, Nat.pow_add]; omega
  have h1 : (x * y).natAbs < 2 ^ b * 2 ^ b := by
    rw [Int.natAbs_mul]
    exact Nat.mul_lt_mul'' hx hy
  have h2 : (u * v).natAbs < 2 ^ b * 2 ^ b := by
    rw [Int.natAbs_mul]
    exact Nat.mul_lt_mul'' hu hv
  rw [e]
  omega
theorem Big.step {b k : Nat} {q : Int} {Row : Nat → R} (h : Big b Row) (hq : 0 < q) : Big (2 * b + 1) (stepR k q Row) := fun i j => by
  unfold stepR
  split
  · exact Nat.lt_of_lt_of_le (h k j) (Nat.pow_le_pow_right (by decide) (by omega))
  · exact Nat.lt_of_le_of_lt (ediv_abs _ _ hq) (abs_mul2 (h _ _) (h _ _) (h _ _) (h _ _))
end QX.Det
set_option maxRecDepth 100000
set_option maxHeartbeats 1000000
namespace QX
open PySem PySem.Spec PyProof.Rows L2 HX QX.Det
variable {M : Mem} {p k : Nat} {x : Cell} {σ : Sa} {ws : List (List (List Int))} {c : Int} {m : Mo} {n : Int}
theorem getD_mem {xs : List Int} {k : Nat} (h : k < xs.length) : xs.getD k 0 ∈ xs := by
  rw [List.getD_eq_getElem?_getD, List.getElem?_eq_getElem h]
  exact List.getElem_mem h
end QX
set_option maxRecDepth 100000
set_option maxHeartbeats 1000000
namespace QX
open PySem PySem.Spec PyProof.Rows L2 HX QX.Det
variable {M : Mem} {p k : Nat} {x : Cell} {σ : Sa} {ws : List (List (List Int))} {c : Int} {m : Mo} {n : Int}
def BigL (B : Nat) (ls : List (List Int)) : Prop := ∀ l ∈ ls, ∀ z ∈ l, z.natAbs ≤ B
theorem getT_mem {ls : List (List Int)} {k : Nat} (h : k < ls.length) : ls.getD k [] ∈ ls := by
  rw [List.getD_eq_getElem?_getD, List.getElem?_eq_getElem h]
  exact List.getElem_mem h
theorem BigL.step {B k : Nat} {q : Int} {ls : List (List Int)} {n w : Nat} (h : BigL B ls) (hr : Rect n w ls) (hk : k < n) (hw : k < w) (hB : 1 ≤ B) : BigL (2 * (B * B)) (stepL k q ls) := fun l hl z hz => by
  obtain ⟨i, hi, rfl⟩ := List.mem_mapIdx.mp hl
  have hkl : k < ls.length := by rw [hr.len]; exact hk
  have hown := h _ (getT_mem hkl)
  have hB2 : B ≤ 2 * (B * B) := by
    have : B * 1 ≤ B * B := Nat.mul_le_mul_left _ hB
    omega
  split at hz
  · exact Nat.le_trans (hown z hz) hB2
  · obtain ⟨a, b, ha, hb, rfl⟩ := zipWith_mem _ _ _ hz
    have l1 := hr.get hk
    have h1 := h _ (List.getElem_mem hi) a ha
    have h2 := hown b hb
    have h3 := hown _ (getD_mem (by rw [l1]; exact hw))
    have h4 := h _ (List.getElem_mem hi) _ (getD_mem (xs := ls[i]) (k := k) (by rw [hr.wid _ (List.getElem_mem hi)]; exact hw))
    have := elim_bd (last := q) h2 h1 h3 h4
    rw [Int.mul_comm a, Int.mul_comm b] at this
    exact this
theorem pass9 {ga : F Bool} {s1 : FS} (h : ga σ M = .ok false M) : sIf ga s1 sNext σ M = .ok (.nx σ) M := (sif_ev h).trans rfl
end QX
set_option maxRecDepth 100000
set_option maxHeartbeats 1000000
namespace QX
open PySem PySem.Spec PyProof.Rows L2 HX QX.Det
variable {M : Mem} {p k : Nat} {x : Cell} {σ : Sa} {ws : List (List (List Int))} {c : Int} {m : Mo}
theorem solve_big {n w : Nat} : ∀ (r k : Nat) (q : Int) (ls : List (List Int)) (p : Int) (ls' : List (List Int)), Rect n w ls → k + r = n → n ≤ w → BigL (bdd k) ls → 0 < q → q.natAbs ≤ bdd k → solveL r k q ls = some (p, ls') → BigL (bdd n) ls' ∧ 0 < p ∧ p.natAbs ≤ bdd n
  | 0, k, q, ls, p, ls', hr, hk, hw, hb, hq, hqb, h => by
    simp only [solveL, Option.some.injEq, Prod.mk.injEq] at h
    obtain ⟨rfl, rfl⟩ := h
    have : k = n := by omega
    subst this
    exact ⟨hb, hq, hqb⟩
  | r + 1, k, q, ls, p, ls', hr, hk, hw, hb, hq, hqb, h => by
    unfold solveL at h
    split at h
    · cases h
    · rename_i hp
      have hk' : k < n := by omega
      have hkl : k < ls.length := by rw [hr.len]; exact hk'
      have b1 := hb.step (q := q) hr hk' (by omega) (bdd_pos k)
      rw [bdd_succ] at b1
      have hp' : 0 < rw ls k k := by omega
      exact solve_big r (k + 1) (rw ls k k) _ p ls' (hr.step hk') (by omega) hw b1 hp' (Nat.le_trans (hb _ (getT_mem hkl) _ (getD_mem (by rw [hr.get hk']; omega))) (bdd_mono k)) h
theorem begun_big {n : Nat} {t : List (List Int)} (h : BigL (bdd 0) t) : BigL (bdd 0) (begunL n t) := fun l hl z hz => by
  obtain ⟨i, hi, rfl⟩ := List.mem_mapIdx.mp hl
  rcases List.mem_append.mp hz with hz | hz
  · exact h _ (List.getElem_mem hi) z hz
  · obtain ⟨a, _, rfl⟩ := List.mem_map.mp hz
    split <;> decide
end QX
set_option maxRecDepth 100000
set_option maxHeartbeats 1000000
namespace QX
open PySem PySem.Spec PyProof.Rows L2 HX QX.Det
variable {M : Mem} {p k : Nat} {x : Cell} {σ : Sa} {ws : List (List (List Int))} {c : Int} {m : Mo}
def addEnds (l : List Int) (es : List Int) : List Int := es.foldl (fun l e => bump l e.toNat 1) l
theorem addEnds_len : ∀ (es l : List Int), (addEnds l es).length = l.length
  | [], l => rfl
  | e :: es, l => by
    show (addEnds (bump l e.toNat 1) es).length = _
    rw [addEnds_len es, bump_len]
def endsRow (W : Nat) (w : List (List Int)) : List Int := w.foldl addEnds (List.replicate W 0)
def endsT (ws : List (List (List Int))) (c : Int) : List (List Int) := ws.map (endsRow ((ws.length : Int) + c).toNat)
end QX
set_option maxRecDepth 100000
set_option maxHeartbeats 1000000
namespace QX
open PySem PySem.Spec PyProof.Rows L2 HX QX.Det
variable {M : Mem} {p k : Nat} {x : Cell} {σ : Sa} {ws : List (List (List Int))} {c : Int} {m : Mo}
def Wid (ws : List (List (List Int))) (c : Int) : Nat := ((ws.length : Int) + c).toNat
def En (ws : List (List (List Int))) (c : Int) : Nat → R := rw (endsT ws c)
theorem bump_bd {l : List Int} {i B : Nat} (h : ∀ z ∈ l, 0 ≤ z ∧ z ≤ (B : Int)) : ∀ z ∈ bump l i 1, 0 ≤ z ∧ z ≤ ((B + 1 : Nat) : Int) := fun z hz => by
  unfold HX.bump at hz
  rcases List.mem_or_eq_of_mem_set hz with hz | rfl
  · have := h z hz
    omega
  · by_cases hi : i < l.length
    · have := h _ (getD_mem hi)
      omega
    · rw [getD0 (by omega)]
      omega
theorem addEnds_bd : ∀ (es l : List Int) (B : Nat), (∀ z ∈ l, 0 ≤ z ∧ z ≤ (B : Int)) → ∀ z ∈ addEnds l es, 0 ≤ z ∧ z ≤ ((B + es.length : Nat) : Int)
  | [], l, B, h => h
  | e :: es, l, B, h => by
    have := addEnds_bd es (bump l e.toNat 1) (B + 1) (bump_bd h)
    rw [List.length_cons, show B + (es.length + 1) = B + 1 + es.length by omega]
    exact this
theorem turns_bd : ∀ (w : List (List Int)) (l : List Int) (B : Nat), (∀ s ∈ w, s.length ≤ 3) → (∀ z ∈ l, 0 ≤ z ∧ z ≤ (B : Int)) → ∀ z ∈ w.foldl addEnds l, 0 ≤ z ∧ z ≤ ((B + 3 * w.length : Nat) : Int)
  | [], l, B, _, h => h
  | s :: w, l, B, hs, h => by
    have h3 := hs s (by simp)
    have h1 : ∀ z ∈ addEnds l s, 0 ≤ z ∧ z ≤ ((B + 3 : Nat) : Int) := fun z hz => by
      have := addEnds_bd s l B h z hz
      omega
    have := turns_bd w (addEnds l s) (B + 3) (fun s' hs' => hs s' (by simp [hs'])) h1
    rw [List.length_cons, show B + 3 * (w.length + 1) = B + 3 + 3 * w.length by omega]
    exact this
theorem ends_bd (hb : BoardOk ws c) : ∀ l ∈ endsT ws c, ∀ z ∈ l, 0 ≤ z ∧ z ≤ 12 := fun l hl z hz => by
  obtain ⟨w, hw, rfl⟩ := List.mem_map.mp hl
  have h := hb.wheels w hw
  have := turns_bd w (List.replicate ((ws.length : Int) + c).toNat 0) 0 (fun s hs => (h.2.2 s hs).1) (fun z hz => by
    have := List.eq_of_mem_replicate hz
    omega) z hz
  have := h.2.1
  omega
theorem En_bd (hb : BoardOk ws c) (i j : Nat) : 0 ≤ En ws c i j ∧ En ws c i j ≤ 12 := by
  unfold En
  by_cases hi : i < (endsT ws c).length
  · by_cases hj : j < ((endsT ws c).getD i []).length
    · exact ends_bd hb _ (getT_mem hi) _ (getD_mem hj)
    · show 0 ≤ ((endsT ws c).getD i []).getD j 0 ∧ ((endsT ws c).getD i []).getD j 0 ≤ 12
      rw [getD0 (by omega)]
      decide
  · rw [rw_out (by omega)]
    decide
def Tb (ws : List (List (List Int))) (c : Int) : Nat → R := fun i j => (if i = j then ((ws.getD i []).length : Int) else 0) - En ws c i j
def tableL (ws : List (List (List Int))) (c : Int) : List (List Int) := (List.range ws.length).map fun i => (List.range ws.length).map fun j => Tb ws c i j
theorem table_rect : Rect ws.length ws.length (tableL ws c) := ⟨by rw [tableL, List.length_map, List.length_range], fun l hl => by
  obtain ⟨i, _, rfl⟩ := List.mem_map.mp hl
  rw [List.length_map, List.length_range]⟩
theorem range_getD {n i : Nat} {β : Type} {z : β} (f : Nat → β) (h : i < n) : ((List.range n).map f).getD i z = f i := by
  rw [List.getD_eq_getElem?_getD, List.getElem?_map, List.getElem?_range h]
  rfl
theorem rw_table {i j : Nat} (hi : i < ws.length) (hj : j < ws.length) : rw (tableL ws c) i j = Tb ws c i j := by
  unfold rw tableL
  rw [range_getD _ hi, range_getD _ hj]
theorem table_big (hb : BoardOk ws c) : BigL (bdd 0) (tableL ws c) := fun l hl z hz => by
  obtain ⟨i, hi, rfl⟩ := List.mem_map.mp hl
  obtain ⟨j, hj, rfl⟩ := List.mem_map.mp hz
  have hi' := List.mem_range.mp hi
  have e := En_bd hb i j
  have hw := hb.wheels (ws.getD i []) (by
    rw [List.getD_eq_getElem?_getD, List.getElem?_eq_getElem hi']
    exact List.getElem_mem hi')
  have := hw.2.1
  have h0 : bdd 0 = 128 := by decide
  unfold Tb
  rw [h0]
  split <;> omega
def solB (ws : List (List (List Int))) (c : Int) : Option (Int × List (List Int)) := solveL ws.length 0 1 (begunL ws.length (tableL ws c))
end QX
set_option maxRecDepth 100000
set_option maxHeartbeats 1000000
namespace QX
open PySem PySem.Spec PyProof.Rows L2 HX QX.Det
variable {M : Mem} {p k : Nat} {x : Cell} {σ : Sa} {ws : List (List (List Int))} {c : Int} {m : Mo}
theorem sol_facts (hb : BoardOk ws c) {q : Int} {ls : List (List Int)} (hs : solB ws c = some (q, ls)) : Rect ws.length (ws.length + ws.length) ls ∧ BigL (bdd 6) ls ∧ 0 < q ∧ q.natAbs ≤ bdd 6 := by
  have w6 := hb.w6
  obtain ⟨h1, h2⟩ := solve_ok _ _ _ _ _ _ (begun_rect table_rect) (ok_begunL table_rect) (by omega) hs
  obtain ⟨h3, h4, h5⟩ := solve_big ws.length 0 1 _ _ _ (begun_rect table_rect) (by omega) (by omega) (begun_big (table_big hb)) (by decide) (show (1 : Int).natAbs ≤ bdd 0 from bdd_pos 0) hs
  have hm : ∀ n, n ≤ 6 → bdd n ≤ bdd 6 := fun n hn => by
    unfold bdd
    exact Nat.pow_le_pow_right (by decide) (Nat.sub_le_sub_right (Nat.pow_le_pow_right (by decide) (by omega)) 1)
  exact ⟨h2, fun l hl z hz => Nat.le_trans (h3 l hl z hz) (hm _ w6), h4, Nat.le_trans h5 (hm _ w6)⟩
end QX
set_option maxRecDepth 100000
set_option maxHeartbeats 1000000
set_option exponentiation.threshold 5000
namespace QX
open PySem PySem.Spec PyProof.Rows L2 HX QX.Det
variable {M : Mem} {p k : Nat} {x : Cell} {σ : Sa} {ws : List (List (List Int))} {c : Int} {m : Mo}
end QX
set_option maxRecDepth 100000
set_option maxHeartbeats 1000000
set_option exponentiation.threshold 5000
namespace QX
open PySem PySem.Spec PyProof.Rows L2 HX QX.Det
variable {M : Mem} {p k : Nat} {x : Cell} {σ : Sa} {ws : List (List (List Int))} {c : Int} {m : Mo}
theorem bdd6_eq : bdd 6 = 2 ^ 511 := by decide +kernel
end QX
set_option maxRecDepth 100000
set_option maxHeartbeats 1000000
set_option exponentiation.threshold 5000
namespace QX
open PySem PySem.Spec PyProof.Rows L2 HX QX.Det
variable {M : Mem} {p k : Nat} {x : Cell} {σ : Sa} {ws : List (List (List Int))} {c : Int} {m : Mo}
def stepOwe (tv : Nat → Int) (i : Nat) (s : List Int) : Int := tv i - (s.map fun e => tv e.toNat).sum
def wheelOwe (tv : Nat → Int) (i : Nat) (w : List (List Int)) (k : Nat) : Int := ((w.take k).map (stepOwe tv i)).sum
def owTop (tv : Nat → Int) (ws : List (List (List Int))) (st : List Int) : Int := sm ws.length fun i => wheelOwe tv i (ws.getD i []) (st.getD i 0).toNat
theorem sum_snoc {α : Type} (f : α → Int) (xs : List α) (j : Nat) (x : α) (h : xs[j]? = some x) : ((xs.take (j + 1)).map f).sum = ((xs.take j).map f).sum + f x := by
  rw [List.take_add_one, h, List.map_append, List.sum_append]
  simp
end QX
set_option maxRecDepth 100000
set_option maxHeartbeats 1000000
set_option exponentiation.threshold 5000
namespace QX
open PySem PySem.Spec PyProof.Rows L2 HX QX.Det
def RowX (p : Nat) (M : Mem) (xs : List Int) (r : D) : Prop := r ≠ .ref p ∧ r.und M.length = true ∧ listOf M r = some (xs.map D.int)
theorem RowX.set {p : Nat} {M : Mem} {xs : List Int} {r : D} {c : Cell} (h : RowX p M xs r) : RowX p (M.set p c) xs r := by
  obtain ⟨h1, h2, h3⟩ := h
  exact ⟨h1, by rw [List.length_set]; exact h2, listOf_set h3 h1⟩
structure TabX (p : Nat) (rows : List (List Int)) (A M : Mem) : Prop where
  ex : ∃ rs, M[p]? = some (.lst rs) ∧ rs.length = rows.length ∧ ∀ i r, rs[i]? = some r → RowX p M (rows.getD i []) r
  wf : Wf M
  ap : ∃ g, M = A ++ g
  le : A.length ≤ p
theorem TabX.put {p i : Nat} {rows : List (List Int)} {A M : Mem} {zs : List Int} (h : TabX p rows A M) (hi : i < rows.length) : ∃ M', gSetIx (.ref p) (.int (i : Int)) (.lst (zs.map D.int)) M = some M' ∧ M'.length = M.length ∧ TabX p (rows.set i zs) A M' := by
  obtain ⟨⟨rs, h1, h2, h3⟩, wf, ⟨g, rfl⟩, le⟩ := h
  have hx : ixN rs.length (i : Int) = some i := ixN_nat (by omega)
  have hl : p < (A ++ g).length := (List.getElem?_eq_some_iff.mp h1).1
  refine ⟨(A ++ g).set p (.lst (rs.set i (.lst (zs.map D.int)))), by simp only [gSetIx, h1, hx], by rw [List.length_set], ⟨_, List.getElem?_set_self hl, by rw [List.length_set, List.length_set]; exact h2, fun j r hj => ?_⟩, wf.set ?_, ⟨g.set (p - A.length) (.lst (rs.set i (.lst (zs.map D.int)))), List.set_append_right _ _ le⟩, le⟩
  · by_cases hij : i = j
    · subst hij
      rw [List.getElem?_set_self (by omega)] at hj
      cases hj
      have e : (rows.set i zs).getD i [] = zs := by rw [List.getD_eq_getElem?_getD, List.getElem?_set_self hi]; rfl
      rw [e]
      exact ⟨(fun z => nomatch z), by simp only [D.und]; exact undA_map (fun _ => rfl) zs, rfl⟩
    · rw [List.getElem?_set_ne hij] at hj
      have e : (rows.set i zs).getD j [] = rows.getD j [] := by rw [List.getD_eq_getElem?_getD, List.getElem?_set_ne hij, ← List.getD_eq_getElem?_getD]
      rw [e]
      exact (h3 j r hj).set
  · show D.undA _ _ = true
    rw [undA_iff]
    intro d hd
    rcases List.mem_or_eq_of_mem_set hd with z | z
    · obtain ⟨j, hj⟩ := List.mem_iff_getElem?.mp z
      exact (h3 j d hj).2.1
    · rw [z]
      simp only [D.und]
      exact undA_map (fun _ => rfl) zs
theorem TabX.row {p i : Nat} {rows : List (List Int)} {A M : Mem} (h : TabX p rows A M) (hi : i < rows.length) : ∃ r : D, gIx (.ref p) (.int (i : Int)) M = .ok r M ∧ listOf M r = some ((rows.getD i []).map D.int) := by
  obtain ⟨⟨rs, h1, h2, h3⟩, wf, _, _⟩ := h
  have hr : rs[i]? = some rs[i] := List.getElem?_eq_getElem (by omega)
  obtain ⟨_, _, a⟩ := h3 i _ hr
  exact ⟨rs[i], gIx_list (by rw [listOf_ref, h1]) hr, a⟩
theorem TabX.len {p : Nat} {rows : List (List Int)} {A M : Mem} (h : TabX p rows A M) : gLen [.ref p] M = .ok (.int rows.length) M := by
  obtain ⟨⟨rs, h1, h2, h3⟩, _⟩ := h
  rw [gLen_ref h1, h2]
end QX
set_option maxRecDepth 100000
set_option maxHeartbeats 1000000
set_option exponentiation.threshold 5000
namespace QX
open PySem PySem.Spec PyProof.Rows L2 HX QX.Det
def cnt (k : Nat) : List Int → Int
  | [] => 0
  | e :: es => (if e.toNat = k then 1 else 0) + cnt k es
theorem bump_at {l : List Int} {i k : Nat} {d : Int} (hk : k < l.length) : (bump l i d).getD k 0 = l.getD k 0 + if i = k then d else 0 := by
  unfold HX.bump
  by_cases h : i = k
  · subst h
    rw [if_pos rfl, List.getD_eq_getElem?_getD, List.getElem?_set_self hk]
    rfl
  · rw [if_neg h, List.getD_eq_getElem?_getD, List.getElem?_set_ne h, ← List.getD_eq_getElem?_getD, Int.add_zero]
theorem addEnds_at {k : Nat} : ∀ (es l : List Int), k < l.length → (addEnds l es).getD k 0 = l.getD k 0 + cnt k es
  | [], l, _ => by simp [addEnds, cnt]
  | e :: es, l, hk => by
    show (addEnds (bump l e.toNat 1) es).getD k 0 = _
    rw [addEnds_at es _ (by rw [bump_len]; exact hk), bump_at hk]
    show _ = l.getD k 0 + ((if e.toNat = k then 1 else 0) + cnt k es)
    omega
theorem cnt_app {k : Nat} : ∀ a b : List Int, cnt k (a ++ b) = cnt k a + cnt k b
  | [], b => by simp [cnt]
  | e :: a, b => by
    show (if e.toNat = k then 1 else 0) + cnt k (a ++ b) = (if e.toNat = k then 1 else 0) + cnt k a + cnt k b
    rw [cnt_app a b]
    omega
theorem turns_at {k : Nat} : ∀ (w : List (List Int)) (l : List Int), k < l.length → (w.foldl addEnds l).getD k 0 = l.getD k 0 + cnt k w.flatten
  | [], l, _ => by simp [cnt]
  | s :: w, l, hk => by
    show (w.foldl addEnds (addEnds l s)).getD k 0 = _
    rw [turns_at w _ (by rw [addEnds_len]; exact hk), addEnds_at s l hk, List.flatten_cons, cnt_app]
    omega
theorem zeros_at {W k : Nat} : (List.replicate W (0 : Int)).getD k 0 = 0 := by
  rw [List.getD_eq_getElem?_getD]
  cases h : (List.replicate W (0 : Int))[k]? with
  | none => rfl
  | some z =>
    have := List.eq_of_mem_replicate (List.mem_of_getElem? h)
    rw [this]
    rfl
variable {ws : List (List (List Int))} {c : Int}
theorem En_cnt {i k : Nat} (hi : i < ws.length) (hk : k < Wid ws c) : En ws c i k = cnt k (ws.getD i []).flatten := by
  unfold En rw endsT
  rw [List.getD_eq_getElem?_getD (i := i), List.getElem?_map, List.getElem?_eq_getElem hi]
  show (endsRow _ ws[i]).getD k 0 = _
  rw [endsRow, turns_at _ _ (by rw [List.length_replicate]; exact hk), zeros_at, Int.zero_add, List.getD_eq_getElem?_getD, List.getElem?_eq_getElem hi]
  rfl
end QX
set_option maxRecDepth 100000
set_option maxHeartbeats 1000000
set_option exponentiation.threshold 5000
namespace QX
open PySem PySem.Spec PyProof.Rows L2 HX QX.Det
end QX
namespace QX
open PySem PySem.Spec PyProof.Rows L2 HX QX.Det
variable {ws : List (List (List Int))} {c : Int}
end QX
set_option maxRecDepth 100000
set_option maxHeartbeats 1000000
set_option exponentiation.threshold 5000
namespace QX
open PySem PySem.Spec PyProof.Rows L2 HX QX.Det
variable {ws : List (List (List Int))} {c : Int}
end QX
set_option maxRecDepth 100000
set_option maxHeartbeats 1000000
set_option exponentiation.threshold 5000
namespace QX
open PySem PySem.Spec PyProof.Rows L2 HX QX.Det
variable {ws : List (List (List Int))} {c : Int} {m : Mo}
theorem sm_split (f : Nat → Int) (n : Nat) : ∀ k : Nat, sm (n + k) f = sm n f + sm k fun j => f (n + j)
  | 0 => by simp [sm]
  | k + 1 => by
    show sm (n + k) f + f (n + k) = sm n f + (sm k (fun j => f (n + j)) + f (n + k))
    rw [sm_split f n k]
    omega
theorem sm_upd {f g : Nat → Int} {w : Nat} : ∀ {n : Nat}, w < n → (∀ i, i ≠ w → g i = f i) → sm n g = sm n f + (g w - f w)
  | 0, h, _ => by omega
  | n + 1, h, he => by
    show sm n g + g n = sm n f + f n + (g w - f w)
    by_cases e : w = n
    · subst e
      rw [sm_congr (n := w) (f := g) (g := f) fun i hi => he i (by omega)]
      omega
    · rw [sm_upd (n := n) (by omega) he, he n (Ne.symm e)]
      omega
theorem cnt_sum {W : Nat} (tv : Nat → Int) : ∀ es : List Int, (∀ e ∈ es, e.toNat < W) → (es.map fun e => tv e.toNat).sum = sm W fun k => cnt k es * tv k
  | [], _ => by
    rw [sm_zero fun m _ => by simp [cnt]]
    rfl
  | e :: es, h => by
    have ih := cnt_sum tv es fun x hx => h x (by simp [hx])
    have e1 : (fun k => cnt k (e :: es) * tv k) = fun k => (if e.toNat = k then 1 else 0) * tv k + cnt k es * tv k := by
      funext k
      show ((if e.toNat = k then 1 else 0) + cnt k es) * tv k = _
      grind
    rw [e1, sm_add (fun k => (if e.toNat = k then 1 else 0) * tv k) (fun k => cnt k es * tv k), sm_pick (h e (by simp)), ← ih]
    simp
theorem owe_all (tv : Nat → Int) (i : Nat) : ∀ w : List (List Int), (w.map (stepOwe tv i)).sum = (w.length : Int) * tv i - ((w.flatten).map fun e => tv e.toNat).sum
  | [] => by simp
  | s :: w => by
    have ih := owe_all tv i w
    rw [List.map_cons, List.sum_cons, ih, List.flatten_cons, List.map_append, List.sum_append, List.length_cons, stepOwe]
    have : (((w.length + 1 : Nat) : Int)) * tv i = (w.length : Int) * tv i + tv i := by
      rw [Int.natCast_add]
      grind
    omega
def worth (tv : Nat → Int) (n C : Nat) (wt hd : List Int) : Int := sm n (fun i => wt.getD i 0 * tv i) + sm C fun k => hd.getD k 0 * tv (n + k)
theorem bump_sm {n w : Nat} {l : List Int} {d : Int} (tv : Nat → Int) (hl : l.length = n) (hw : w < n) : sm n (fun i => (bump l w d).getD i 0 * tv i) = sm n (fun i => l.getD i 0 * tv i) + d * tv w := by
  rw [sm_congr (g := fun i => (if w = i then d else 0) * tv i + l.getD i 0 * tv i) fun i hi => by
    rw [bump_at (by omega)]
    grind]
  rw [sm_add (fun i => (if w = i then d else 0) * tv i) (fun i => l.getD i 0 * tv i), sm_pick hw]
  omega
theorem send_worth {n C : Nat} (tv : Nat → Int) : ∀ (es : List Int) (p : List Int × List Int), p.1.length = n → p.2.length = C → (∀ e ∈ es, 0 ≤ e ∧ e < (n : Int) + (C : Int)) → worth tv n C (es.foldl (sendM n) p).1 (es.foldl (sendM n) p).2 = worth tv n C p.1 p.2 + (es.map fun e => tv e.toNat).sum
  | [], p, _, _, _ => by simp
  | e :: es, p, h1, h2, he => by
    have e0 := he e (by simp)
    rw [List.foldl_cons, List.map_cons, List.sum_cons]
    have l1 : (sendM n p e).1.length = n := by unfold sendM; split <;> simp [bump_len, h1]
    have l2 : (sendM n p e).2.length = C := by unfold sendM; split <;> simp [bump_len, h2]
    rw [send_worth tv es _ l1 l2 fun x hx => he x (by simp [hx])]
    have : worth tv n C (sendM n p e).1 (sendM n p e).2 = worth tv n C p.1 p.2 + tv e.toNat := by
      unfold sendM worth
      by_cases h : e < (n : Int)
      · rw [if_pos h]
        show sm n (fun i => (bump p.1 e.toNat 1).getD i 0 * tv i) + sm C (fun k => p.2.getD k 0 * tv (n + k)) = _
        rw [bump_sm tv h1 (by omega)]
        omega
      · rw [if_neg h]
        show sm n (fun i => p.1.getD i 0 * tv i) + sm C (fun k => (bump p.2 (e - (n : Int)).toNat 1).getD k 0 * tv (n + k)) = _
        rw [bump_sm (fun k => tv (n + k)) h2 (by omega)]
        have : n + (e - (n : Int)).toNat = e.toNat := by omega
        simp only [this]
        omega
    rw [this]
    omega
def Ssum (tv : Nat → Int) (ws : List (List (List Int))) (C : Nat) (m : Mo) : Int := owTop tv ws m.st + worth tv ws.length C m.wt m.hd
end QX
set_option maxRecDepth 100000
set_option maxHeartbeats 1000000
set_option exponentiation.threshold 5000
namespace QX
open PySem PySem.Spec PyProof.Rows L2 HX QX.Det
variable {M : Mem} {p k : Nat} {x : Cell} {σ : Sa} {ws : List (List (List Int))} {c : Int} {m : Mo}
theorem sm_bd {f : Nat → Int} {B : Nat} : ∀ {n : Nat}, (∀ j, j < n → (f j).natAbs ≤ B) → (sm n f).natAbs ≤ n * B
  | 0, _ => by simp [sm]
  | n + 1, h => by
    have h1 := sm_bd (n := n) (f := f) (B := B) fun j hj => h j (by omega)
    have h2 := h n (by omega)
    show (sm n f + f n).natAbs ≤ (n + 1) * B
    rw [Nat.add_mul, Nat.one_mul]
    omega
structure Dr (ws : List (List (List Int))) (c q : Int) (ls : List (List Int)) : Prop where
  bo : BoardOk ws c
  so : solB ws c = some (q, ls)
theorem Dr.q0 {q : Int} {ls : List (List Int)} (h : Dr ws c q ls) : 0 < q := (sol_facts h.bo h.so).2.2.1
structure Few (B : Nat) (m : Mo) : Prop where
  w : ∀ x ∈ m.wt, x.natAbs ≤ B
  h : ∀ x ∈ m.hd, x.natAbs ≤ B
end QX
set_option maxRecDepth 100000
set_option maxHeartbeats 1000000
set_option exponentiation.threshold 5000
namespace QX
open PySem PySem.Spec PyProof.Rows L2 HX QX.Det
variable {M : Mem} {p k : Nat} {x : Cell} {σ : Sa} {ws : List (List (List Int))} {c : Int} {m : Mo}
end QX
set_option maxRecDepth 100000
set_option maxHeartbeats 1000000
set_option exponentiation.threshold 5000
namespace QX
open PySem PySem.Spec PyProof.Rows L2 HX QX.Det
variable {M : Mem} {p k : Nat} {x : Cell} {σ : Sa} {ws : List (List (List Int))} {c : Int} {m : Mo}
theorem LK.lst {ds : List D} {h : Nat} (hd : ∀ d ∈ ds, LK d h) : LK (.lst ds) (h + 1) := by
  obtain ⟨qs, a, b, e, f⟩ := lk_all ds hd
  exact ⟨.list qs, by simp only [D.py, a], by simp [PyData.canLay0, b], by simp only [PyData.depth]; omega, by simp [PyData.eqv, f]⟩
theorem bump_up {l : List Int} {i : Nat} {B d : Int} (hB : 0 ≤ B) (hd : d ≤ 1) (h : ∀ z ∈ l, z ≤ B) : ∀ z ∈ bump l i d, z ≤ B + 1 := fun z hz => by
  unfold HX.bump at hz
  rcases List.mem_or_eq_of_mem_set hz with hz | rfl
  · have := h z hz
    omega
  · by_cases hi : i < l.length
    · have := h _ (getD_mem hi)
      omega
    · rw [getD0 (by omega)]
      omega
theorem send_up {n : Nat} : ∀ (es : List Int) (p : List Int × List Int) (B : Int), 0 ≤ B → (∀ z ∈ p.1, z ≤ B) → (∀ z ∈ p.2, z ≤ B) → (∀ z ∈ (es.foldl (sendM n) p).1, z ≤ B + es.length) ∧ ∀ z ∈ (es.foldl (sendM n) p).2, z ≤ B + es.length
  | [], p, B, _, h1, h2 => ⟨fun z hz => by have := h1 z hz; simp; omega, fun z hz => by have := h2 z hz; simp; omega⟩
  | e :: es, p, B, hB, h1, h2 => by
    have a1 : ∀ z ∈ (sendM n p e).1, z ≤ B + 1 := fun z hz => by
      unfold sendM at hz
      split at hz
      · exact bump_up hB (by decide) h1 z hz
      · have := h1 z hz
        omega
    have a2 : ∀ z ∈ (sendM n p e).2, z ≤ B + 1 := fun z hz => by
      unfold sendM at hz
      split at hz
      · have := h2 z hz
        omega
      · exact bump_up hB (by decide) h2 z hz
    obtain ⟨b1, b2⟩ := send_up es (sendM n p e) (B + 1) (by omega) a1 a2
    rw [List.foldl_cons, List.length_cons]
    exact ⟨fun z hz => by have := b1 z hz; omega, fun z hz => by have := b2 z hz; omega⟩
structure Up (B : Int) (m : Mo) : Prop where
  w : ∀ z ∈ m.wt, z ≤ B
  h : ∀ z ∈ m.hd, z ≤ B
theorem Up.few {B : Int} (h : Up B m) (hm : MoOk ws c m) (hB : B ≤ 1000) : Few 1000 m := ⟨fun z hz => by have := h.w z hz; have := hm.wn z hz; omega, fun z hz => by have := h.h z hz; have := hm.hn z hz; omega⟩
theorem Up.handle {B : Int} {w : Nat} (h : Up B m) (hb : BoardOk ws c) (hB : 0 ≤ B) (hw : w < ws.length) : Up (B + 4) (handleM ws m w) := by
  have hl : (endsAt ws m.st w).length ≤ 3 := by
    unfold endsAt
    have hwk := hb.wheels _ (show ws.getD w [] ∈ ws by rw [List.getD_eq_getElem?_getD, List.getElem?_eq_getElem hw]; exact List.getElem_mem hw)
    by_cases hi : (m.st.getD w 0).toNat < (ws.getD w []).length
    · exact (hwk.2.2 _ (getT_mem hi)).1
    · have : (ws.getD w []).getD (m.st.getD w 0).toNat [] = [] := by rw [List.getD_eq_getElem?_getD, List.getElem?_eq_none (by omega)]; rfl
      rw [this]
      decide
  obtain ⟨b1, b2⟩ := send_up (n := ws.length) (endsAt ws m.st w) (bump m.wt w (-1), m.hd) (B + 1) (by omega) (bump_up hB (by decide) h.w) (fun z hz => by have := h.h z hz; omega)
  exact ⟨fun z hz => by have := b1 z hz; omega, fun z hz => by have := b2 z hz; omega⟩
end QX
set_option maxRecDepth 100000
set_option maxHeartbeats 1000000
namespace QX
open PySem PySem.Spec PyProof PyProof.Rows L2 HX QX.Det
variable {M : Mem} {p k : Nat} {x : Cell} {σ : Sa} {ws : List (List (List Int))} {c : Int} {d e : D} {q : Int} {ls : List (List Int)}
theorem expr_exc {fa : F D} {n : Nat} {fs : List (Str × D)} {M1 : Mem} (h : fa σ M = .exc n fs M1) : sExpr fa σ M = .exc n fs σ M1 := by rw [ev_expr, h]; rfl
theorem raise_if {ga : F Bool} {n : Nat} (h : ga σ M = .ok true M) : sIf ga (sRaise n) sNext σ M = .exc n [] σ M := (sif_ev h).trans rfl
theorem m_need_board_bad (h : d.dok = true) (hb : boardB d = false) (hw : Wf M) : m_need_board [d] M = .exc 0 [] M := by
  have s1 : b_need_board (startA 1 [d]) M = .exc 0 [] (startA 1 [d]) M := raise_if (not_ev (p := false) (test_ev ((call1_ev (var_ev rfl)).trans ((m_is_board_eq h hw).trans (by rw [hb])))))
  exact (run_exc (n := 1) (k := 1) rfl s1).trans (trim_exc rfl)
end QX
set_option maxRecDepth 100000
set_option maxHeartbeats 1000000
namespace QX
open PySem PySem.Spec PyProof PyProof.Rows L2 HX QX.Det
variable {M : Mem} {p k : Nat} {x : Cell} {σ : Sa} {ws : List (List (List Int))} {c : Int} {d e : D} {q : Int} {ls : List (List Int)}
theorem cons_ev' {fa : F D} {fs : F (List D)} {a : D} {as : List D} (ha : fa σ M = .ok a M) (hs : fs σ M = .ok as M) : fCons fa fs σ M = .ok (a :: as) M := by rw [ev_cons, ha, bind_ok, hs, bind_ok]
theorem lst_ev' {fs : F (List D)} {ds : List D} (h : fs σ M = .ok ds M) (hf : few ds.length = true) : fLst fs σ M = .ok (.lst ds) M := by rw [ev_lst, h, bind_ok, if_pos hf]
theorem addT {a b : List D} (h : a.length + b.length ≤ 1000) : gAdd (.tup a) (.tup b) M = .ok (.tup (a ++ b)) M := by
  rw [gAdd_tup, if_pos (Nat.ble_eq_true_of_le (by omega))]
theorem addL' {a b : List D} (h : a.length + b.length ≤ 1000) : gAdd (.lst a) (.lst b) M = .ok (.lst (a ++ b)) M := by
  rw [gAdd_lst, if_pos (Nat.ble_eq_true_of_le (by omega))]
theorem cutD_last (ds : List D) (h : 1 ≤ ds.length) : cutD ds none (some (-1)) = ds.dropLast := by
  unfold cutD
  have e1 : HT.sIx ds.length 0 none = 0 := rfl
  have e2 : HT.sIx ds.length ds.length (some (-1)) = ds.length - 1 := by
    unfold HT.sIx
    dsimp only
    rw [if_pos (by decide)]
    omega
  rw [e1, e2, List.drop_zero, Nat.sub_zero, List.dropLast_eq_take]
theorem slast_ev {i : Nat} {ds : List D} (hv : σ[i]? = some (some (.tup ds))) (h : 1 ≤ ds.length) : fSl (fVar i) fNoPart (fPart (fUn gNeg (fC (.int 1)))) σ M = .ok (.tup ds.dropLast) M := by
  rw [ev_sl, ev_var, hv]
  show Res.ok (D.tup (cutD ds none (some (-1)))) M = _
  rw [cutD_last ds h]
theorem boardB_tup2 {w : D} {z : D} : boardB (.tup [w, z]) = (partsB 1 6 w && (inB 0 4 z && wheelsB w z)) := rfl
theorem boardB_last {wl : List D} {u : D} {c : Int} (h : wheelB (((wl ++ [u]).length : Int) + c) u = false) : boardB (.tup [.tup (wl ++ [u]), .int c]) = false := by
  rw [boardB_tup2]
  have : wheelsB (.tup (wl ++ [u])) (.int c) = false := by
    show (wl ++ [u]).all (wheelB (((wl ++ [u]).length : Int) + c)) = false
    rw [List.all_append]
    simp only [List.all_cons, List.all_nil, h, Bool.false_and, Bool.and_false]
  rw [this, Bool.and_false, Bool.and_false]
def nb1 (ws : List (List (List Int))) (c : Int) : List D := [.non, .tup [], .lst [wheelsT ws, .int c], .tup [wheelsT ws], .tup [wheelsT ws, .int c, .int 0], .tup [.tup [], .int c], .tup [.lst (ws.map wheelT), .int c], .tup [wheelsT ws, .int 5]]
def nb2 (ws : List (List (List Int))) (c : Int) : List D := [.tup [wheelsT ws, .int (-1)], .tup [wheelsT ws, .bl true], .tup [.tup (List.replicate 7 (ws.map wheelT)).flatten, .int c], .tup [.tup ((ws.map wheelT).dropLast ++ [.tup []]), .int c], .str "board", .dct [] [], .int 7]
def nb3 (ws : List (List (List Int))) (c : Int) : List D := [.tup [.tup ((ws.map wheelT).dropLast ++ [.tup [.tup [.int ((ws.length : Int) + c)]]]), .int c], .tup [.tup ((ws.map wheelT).dropLast ++ [.tup [.tup [.int 0, .int 0, .int 0, .int 0]]]), .int c]]
def nb4 (ws : List (List (List Int))) (c : Int) : List D := [.tup [.tup ((ws.map wheelT).dropLast ++ [.tup [.tup [], .tup [], .tup [], .tup [], .tup []]]), .int c], .tup [.tup ((ws.map wheelT).dropLast ++ [.tup [.tup [.bl true]]]), .int c]]
def noBoards (ws : List (List (List Int))) (c : Int) : List D := ((nb1 ws c ++ nb2 ws c) ++ nb3 ws c) ++ nb4 ws c
theorem flat7 (l : List D) : (List.replicate 7 l).flatten.length = 7 * l.length := by simp; omega
theorem und_flat {l : List D} {m : Nat} (h : D.dokA l = true) (n : Nat) : D.dokA (List.replicate n l).flatten = true := by
  rw [dokA_iff] at h ⊢
  intro d hd
  rw [List.mem_flatten] at hd
  obtain ⟨l', h1, h2⟩ := hd
  rw [List.eq_of_mem_replicate h1] at h2
  exact h d h2
theorem dokA_app {a b : List D} (ha : D.dokA a = true) (hb : D.dokA b = true) : D.dokA (a ++ b) = true := by
  rw [dokA_iff] at ha hb ⊢
  intro d hd
  rcases List.mem_append.mp hd with h | h
  · exact ha d h
  · exact hb d h
theorem dokA_drop {a : List D} (ha : D.dokA a = true) : D.dokA a.dropLast = true := by
  rw [dokA_iff] at ha ⊢
  exact fun d hd => ha d (List.mem_of_mem_take (List.dropLast_eq_take ▸ hd))
theorem dokA_wheels (ws : List (List (List Int))) : D.dokA (ws.map wheelT) = true := by
  rw [dokA_iff]
  intro d hd
  obtain ⟨w, _, rfl⟩ := List.mem_map.mp hd
  exact dok_wheel w
theorem noBoards_bad (hb : BoardOk ws c) : ∀ d ∈ noBoards ws c, d.dok = true ∧ boardB d = false := by
  have w1 := hb.w1
  have hW := dok_wheels ws
  have hA := dokA_wheels ws
  have hD := dokA_drop hA
  have lenD : ((ws.map wheelT).dropLast.length : Int) + 1 = ws.length := by
    rw [List.length_dropLast, List.length_map]
    omega
  have lst : ∀ u : D, u.dok = true → (D.tup [.tup ((ws.map wheelT).dropLast ++ [u]), .int c]).dok = true := fun u hu => by
    have : (D.tup ((ws.map wheelT).dropLast ++ [u])).dok = true := by
      show D.dokA _ = true
      exact dokA_app hD (by simp [D.dokA, hu])
    simp only [D.dok, D.dokA, this, Bool.and_true]
    simpa [D.dok] using this
  intro d hd
  simp only [noBoards, nb1, nb2, nb3, nb4, List.mem_append, List.mem_cons, List.not_mem_nil, or_false] at hd
  rcases hd with (((((rfl | rfl | rfl | rfl | rfl | rfl | rfl | rfl) | (rfl | rfl | rfl | rfl | rfl | rfl | rfl)) | (rfl | rfl))) | (rfl | rfl))
  · exact ⟨rfl, rfl⟩
  · exact ⟨rfl, rfl⟩
  · exact ⟨by simp [D.dok, D.dokA, hW], rfl⟩
  · exact ⟨by simp [D.dok, D.dokA, hW], rfl⟩
  · exact ⟨by simp [D.dok, D.dokA, hW], rfl⟩
  · exact ⟨by simp [D.dok, D.dokA], by simp [boardB_tup2, partsB]⟩
  · exact ⟨by simp [D.dok, D.dokA, hA], rfl⟩
  · exact ⟨by simp [D.dok, D.dokA, hW], by simp [boardB_tup2, inB]⟩
  · exact ⟨by simp [D.dok, D.dokA, hW], by simp [boardB_tup2, inB]⟩
  · exact ⟨by simp [D.dok, D.dokA, hW], by simp [boardB_tup2, inB]⟩
  · refine ⟨?_, ?_⟩
    · have := und_flat (m := 0) hA 7
      simp only [D.dok, D.dokA, this, Bool.and_true]
    · have : partsB 1 6 (.tup (List.replicate 7 (ws.map wheelT)).flatten) = false := by
        simp only [partsB, flat7, List.length_map, Bool.and_eq_false_iff, decide_eq_false_iff_not]
        omega
      rw [boardB_tup2, this, Bool.false_and]
  · exact ⟨lst _ rfl, boardB_last (by simp [wheelB, partsB])⟩
  · exact ⟨rfl, rfl⟩
  · exact ⟨rfl, rfl⟩
  · exact ⟨rfl, rfl⟩
  · refine ⟨lst _ rfl, boardB_last ?_⟩
    rw [List.length_append, List.length_singleton]
    have : (((ws.map wheelT).dropLast.length + 1 : Nat) : Int) = ws.length := by omega
    rw [this]
    simp [wheelB, stepB, inB]
    omega
  · exact ⟨lst _ rfl, boardB_last (by simp [wheelB, stepB, partsB])⟩
  · exact ⟨lst _ rfl, boardB_last (by simp [wheelB, partsB])⟩
  · exact ⟨lst _ rfl, boardB_last (by simp [wheelB, stepB, inB])⟩
def nL : F D := fSl (fVar 1) fNoPart (fPart (fUn gNeg (fC (.int 1))))
def n1 : FS := (sSet 3 (fLst (fCons (fC .non) (fCons (fTup fNil) (fCons (fCall gList (fCons (fVar 0) fNil)) (fCons (fSl (fVar 0) fNoPart (fPart (fC (.int 1)))) (fCons (fBin gAdd (fVar 0) (fTup (fCons (fC (.int 0)) fNil))) (fCons (fTup (fCons (fTup fNil) (fCons (fVar 2) fNil))) (fCons (fTup (fCons (fCall gList (fCons (fVar 1) fNil)) (fCons (fVar 2) fNil))) (fCons (fTup (fCons (fVar 1) (fCons (fC (.int 5)) fNil))) fNil))))))))))
def n2 : FS := (sSet 3 (fBin gAdd (fVar 3) (fLst (fCons (fTup (fCons (fVar 1) (fCons (fUn gNeg (fC (.int 1))) fNil))) (fCons (fTup (fCons (fVar 1) (fCons (fC (.bl true)) fNil))) (fCons (fTup (fCons (fBin gMul (fVar 1) (fC (.int 7))) (fCons (fVar 2) fNil))) (fCons (fTup (fCons (fBin gAdd nL (fTup (fCons (fTup fNil) fNil))) (fCons (fVar 2) fNil))) (fCons (fC (.str "board")) (fCons (fC (.dct [] [])) (fCons (fC (.int 7)) fNil))))))))))
def n3 : FS := (sSet 3 (fBin gAdd (fVar 3) (fLst (fCons (fTup (fCons (fBin gAdd nL (fTup (fCons (fTup (fCons (fTup (fCons (fVar 4) fNil)) fNil)) fNil))) (fCons (fVar 2) fNil))) (fCons (fTup (fCons (fBin gAdd nL (fTup (fCons (fTup (fCons (fBin gMul (fTup (fCons (fC (.int 0)) fNil)) (fC (.int 4))) fNil)) fNil))) (fCons (fVar 2) fNil))) fNil)))))
def n4 : F D := (fBin gAdd (fVar 3) (fLst (fCons (fTup (fCons (fBin gAdd nL (fTup (fCons (fBin gMul (fTup (fCons (fTup fNil) fNil)) (fC (.int 5))) fNil))) (fCons (fVar 2) fNil))) (fCons (fTup (fCons (fBin gAdd nL (fTup (fCons (fTup (fCons (fTup (fCons (fC (.bl true)) fNil)) fNil)) fNil))) (fCons (fVar 2) fNil))) fNil))))
theorem no_boards_body : b_law_no_boards_761223 = (sSeq (sAsg (fVar 0) (.tup [1, 2])) (sSeq n1 (sSeq n2 (sSeq (sSet 4 (fBin gAdd (fCall gLen (fCons (fVar 1) fNil)) (fVar 2))) (sSeq n3 (sRet n4)))))) := rfl
theorem m_no_boards_eq (hb : BoardOk ws c) : m_law_no_boards_761223 [boardT ws c] M = .ok (.lst (noBoards ws c)) M := by
  have w1 := hb.w1
  have w6 := hb.w6
  have lenW : (ws.map wheelT).length = ws.length := List.length_map _
  have lenD : (ws.map wheelT).dropLast.length ≤ 6 := by rw [List.length_dropLast, lenW]; omega
  have s0 : sAsg (fVar 0) (.tup [1, 2]) (startA 5 [boardT ws c]) M = .ok (.nx [some (boardT ws c), some (wheelsT ws), some (.int c), none, none]) M := asg_ev (d := boardT ws c) (var_ev rfl) rfl
  have s1 : n1 [some (boardT ws c), some (wheelsT ws), some (.int c), none, none] M = .ok (.nx [some (boardT ws c), some (wheelsT ws), some (.int c), some (.lst (nb1 ws c)), none]) M := set_ev rfl
  have lst : ∀ {fu : F D} {σ : Sa} {u : D}, σ[1]? = some (some (.tup (ws.map wheelT))) → σ[2]? = some (some (.int c)) → fu σ M = .ok u M → fTup (fCons (fBin gAdd nL (fTup (fCons fu fNil))) (fCons (fVar 2) fNil)) σ M = .ok (.tup [.tup ((ws.map wheelT).dropLast ++ [u]), .int c]) M := fun {fu σ u} h1 h2 h => by
    refine tup2_ev ((bin_ev (slast_ev h1 (by omega)) (tup1_ev h)).trans (addT (by simp only [List.length_singleton]; omega))) (var_ev h2)
  have s2 : n2 [some (boardT ws c), some (wheelsT ws), some (.int c), some (.lst (nb1 ws c)), none] M = .ok (.nx [some (boardT ws c), some (wheelsT ws), some (.int c), some (.lst (nb1 ws c ++ nb2 ws c)), none]) M := by
    refine set_ev ((bin_ev (a := .lst (nb1 ws c)) (b := .lst (nb2 ws c)) (var_ev rfl) (lst_ev' ?_ rfl)).trans (addL' (by simp [nb1, nb2])))
    refine cons_ev' rfl (cons_ev' rfl (cons_ev' (tup2_ev ((bin_ev (a := .tup (ws.map wheelT)) (b := .int 7) (var_ev rfl) rfl).trans ?_) (var_ev rfl)) (cons_ev' (lst rfl rfl rfl) rfl)))
    rw [gMul_tup, if_pos (by rw [Bool.and_eq_true]; exact ⟨rfl, Nat.ble_eq_true_of_le (by omega)⟩)]
    rfl
  have s3 : sSet 4 (fBin gAdd (fCall gLen (fCons (fVar 1) fNil)) (fVar 2)) [some (boardT ws c), some (wheelsT ws), some (.int c), some (.lst (nb1 ws c ++ nb2 ws c)), none] M = .ok (.nx [some (boardT ws c), some (wheelsT ws), some (.int c), some (.lst (nb1 ws c ++ nb2 ws c)), some (.int ((ws.length : Int) + c))]) M :=
    set_ev ((bin_ev (a := .int (ws.length : Int)) (b := .int c) ((call1_ev (a := wheelsT ws) (var_ev rfl)).trans wheels_len) (var_ev rfl)).trans gAdd_int)
  have s4 : n3 [some (boardT ws c), some (wheelsT ws), some (.int c), some (.lst (nb1 ws c ++ nb2 ws c)), some (.int ((ws.length : Int) + c))] M = .ok (.nx [some (boardT ws c), some (wheelsT ws), some (.int c), some (.lst ((nb1 ws c ++ nb2 ws c) ++ nb3 ws c)), some (.int ((ws.length : Int) + c))]) M := by
    refine set_ev ((bin_ev (a := .lst (nb1 ws c ++ nb2 ws c)) (b := .lst (nb3 ws c)) (var_ev rfl) (lst_ev' ?_ rfl)).trans (addL' (by simp [nb1, nb2, nb3])))
    exact cons_ev' (lst rfl rfl rfl) (cons_ev' (lst rfl rfl rfl) rfl)
  have s5 : n4 [some (boardT ws c), some (wheelsT ws), some (.int c), some (.lst ((nb1 ws c ++ nb2 ws c) ++ nb3 ws c)), some (.int ((ws.length : Int) + c))] M = .ok (.lst (noBoards ws c)) M := by
    refine (bin_ev (a := .lst ((nb1 ws c ++ nb2 ws c) ++ nb3 ws c)) (b := .lst (nb4 ws c)) (var_ev rfl) (lst_ev' ?_ rfl)).trans (addL' (by simp [nb1, nb2, nb3, nb4]))
    exact cons_ev' (lst rfl rfl rfl) (cons_ev' (lst rfl rfl rfl) rfl)
  have sb : b_law_no_boards_761223 (startA 5 [boardT ws c]) M = .ok (.rt (.lst (noBoards ws c))) M := by
    rw [no_boards_body]
    exact (seq_nx s0).trans ((seq_nx s1).trans ((seq_nx s2).trans ((seq_nx s3).trans ((seq_nx s4).trans (ret_ev s5)))))
  exact (run_rt (n := 5) (k := 1) rfl sb).trans (trim_id rfl)
theorem undA_app {n : Nat} : ∀ {a b : List D}, D.undA n a = true → D.undA n b = true → D.undA n (a ++ b) = true
  | [], _, _, h => h
  | d :: ds, b, h1, h2 => by
    rw [D.undA, Bool.and_eq_true] at h1
    rw [List.cons_append, D.undA, h1.1, Bool.true_and]
    exact undA_app h1.2 h2
theorem noBoards_und : ∀ d ∈ noBoards ws c, ∀ n, d.und n = true := by
  have hW := fun n => und_wheels (n := n) ws
  have hA : ∀ n, D.undA n (ws.map wheelT) = true := fun n => undA_map (fun w => und_wheel w) ws
  have hD : ∀ n, D.undA n (ws.map wheelT).dropLast = true := fun n => by
    rw [← List.map_dropLast]
    exact undA_map (fun w => und_wheel w) _
  have lst : ∀ (u : D) (n : Nat), u.und n = true → (D.tup [.tup ((ws.map wheelT).dropLast ++ [u]), .int c]).und n = true := fun u n hu => by
    have : D.und n (D.tup ((ws.map wheelT).dropLast ++ [u])) = true := undA_app (hD n) (by simp [D.undA, hu])
    simp only [D.und, D.undA] at this ⊢
    simp [this]
  intro d hd n
  simp only [noBoards, nb1, nb2, nb3, nb4, List.mem_append, List.mem_cons, List.not_mem_nil, or_false] at hd
  rcases hd with (((((rfl | rfl | rfl | rfl | rfl | rfl | rfl | rfl) | (rfl | rfl | rfl | rfl | rfl | rfl | rfl)) | (rfl | rfl))) | (rfl | rfl))
  · rfl
  · rfl
  · simp [D.und, D.undA, hW]
  · simp [D.und, D.undA, hW]
  · simp [D.und, D.undA, hW]
  · simp [D.und, D.undA]
  · simp [D.und, D.undA, hA]
  · simp [D.und, D.undA, hW]
  · simp [D.und, D.undA, hW]
  · simp [D.und, D.undA, hW]
  · have : ∀ m : Nat, D.undA n (List.replicate m (ws.map wheelT)).flatten = true := fun m => by
      induction m with
      | zero => rfl
      | succ m ih => rw [List.replicate_succ, List.flatten_cons]; exact undA_app (hA n) ih
    simp only [D.und, D.undA, this, Bool.and_true]
  · exact lst _ n rfl
  · rfl
  · rfl
  · rfl
  · exact lst _ n rfl
  · exact lst _ n rfl
  · exact lst _ n rfl
  · exact lst _ n rfl
end QX
set_option maxRecDepth 100000
set_option maxHeartbeats 1000000
namespace QX
open PySem PySem.Spec PyProof PyProof.Rows L2 HX QX.Det
variable {M : Mem} {p k : Nat} {x : Cell} {σ : Sa} {ws ws1 ws2 : List (List (List Int))} {c c1 c2 : Int} {d e : D} {ls : List (Option Int)}
def saidRM (L : List Nat) : Res D → Res D
  | .ok d M1 => .ok (.tup [.str "told", d]) M1
  | .exc c fs M1 => if L.contains c && fs.isEmpty then .ok (.tup [.str (wordAt c)]) M1 else match c, fs with
    | 20, [(a, .int j), (b, .int i)] => if a == ("most" : Str) && b == ("many" : Str) then .ok (.tup [.str "many", .int i, .int j]) M1 else .bad
    | _, _ => .bad
  | .bad => .bad
theorem saidM_ev {L : List Nat} {f : F D} : fSaidM L f σ M = saidRM L (f σ M) := by
  unfold fSaidM saidRM
  cases f σ M <;> rfl
def linkB (n : Int) : D → Bool
  | .non => true
  | d => inB 0 (n - 1) d
def linksB (c n : Int) : D → Bool
  | .tup ds => partsB c c (.tup ds) && ds.all (linkB n)
  | _ => false
theorem m_are_links_all (hw : Wf M) (hc : c1 ≤ 4) (h : d.dok = true) : m_are_links [boardT ws1 c1, boardT ws2 c2, d] M = .ok (.bl (linksB c1 ws2.length d)) M := by
  have ho := dok_ok h
  refine (run_rt (M1 := M) (d := .bl (linksB c1 ws2.length d)) rfl ?_).trans (trim_id rfl)
  refine (seq_nx (set_ev (M1 := M) (d := .int c1) ((bin_ev (a := boardT ws1 c1) (b := .int 1) (var_ev rfl) rfl).trans board_1))).trans (ret_ev ?_)
  have e1 : fCall m_has_parts (fCons (fVar 2) (fCons (fVar 3) (fCons (fVar 3) fNil))) ((startA 5 [boardT ws1 c1, boardT ws2 c2, d]).set 3 (some (.int c1))) M = .ok (.bl (partsB c1 c1 d)) M :=
    (call3_ev (a := d) (b := .int c1) (c := .int c1) (var_ev rfl) (var_ev rfl) (var_ev rfl)).trans (m_has_parts_eq ho)
  cases d with
  | tup ds =>
    refine and_ev (p := partsB c1 c1 (.tup ds)) (q := ds.all (linkB ws2.length)) e1 fun hp => ?_
    have hdok : ∀ z ∈ ds, z.dok = true := dokA_mem h
    have hl : ds.length ≤ 4 := by
      simp only [partsB, Bool.and_eq_true, decide_eq_true_eq] at hp
      omega
    exact all_comp (fa := fVar 2) (vs := [4]) (i := 4) (ds := ds) (σ := (startA 5 [boardT ws1 c1, boardT ws2 c2, .tup ds]).set 3 (some (.int c1))) (M := M) (linkB ws2.length) (e := fOr (fBin (gIsN false) (fVar 4) (fC .non)) (fCall m_is_wheel_number (fCons (fVar 1) (fCons (fVar 4) fNil)))) (var_ev rfl) hw (by omega) (fun z hz M' w' _ => by
      have hz' := dok_ok (hdok z hz)
      have e2 : fCall m_is_wheel_number (fCons (fVar 1) (fCons (fVar 4) fNil)) ((wipeA ((startA 5 [boardT ws1 c1, boardT ws2 c2, .tup ds]).set 3 (some (.int c1))) [4]).set 4 (some z)) M' = .ok (.bl (inB 0 ((ws2.length : Int) - 1) z)) M' :=
        (call2_ev (a := boardT ws2 c2) (b := z) (var_ev rfl) (var_ev rfl)).trans (m_is_wheel_number_eq hz')
      cases z with
      | non => rfl
      | _ => exact e2)
  | _ => exact and_ev (p := false) (q := false) e1 fun z => by cases z
theorem m_need_few_le {a b : Int} (h : a ≤ b) : m_need_few_1d32a9 [.int a, .int b] M = .ok .non M := by
  refine (run_nx (M1 := M) (σ := startA 2 [.int a, .int b]) rfl ?_).trans (trim_id rfl)
  refine (sif_ev (p := false) (M1 := M) (test_ev ?_)).trans rfl
  simp [startA, cGt, show ¬ b < a by omega]
theorem m_need_few_gt {a b : Int} (h : b < a) (ha : a.natAbs < 2 ^ 100) (hb : b.natAbs < 2 ^ 100) : m_need_few_1d32a9 [.int a, .int b] M = .exc 20 (fsMany a b) M := by
  refine (run_exc (n := 2) (k := 2) (b := b_need_few_1d32a9) (ds := [.int a, .int b]) (M1 := M) (σ := startA 2 [.int a, .int b]) rfl ?_).trans (trim_exc rfl)
  refine (sif_ev (p := true) (M1 := M) (test_ev ?_)).trans ?_
  · simp [startA, cGt, h]
  · show sRaiseM (fCons (fVar 0) (fCons (fVar 1) fNil)) (startA 2 [.int a, .int b]) M = _
    have : (fCons (fVar 0) (fCons (fVar 1) fNil)) (startA 2 [.int a, .int b]) M = .ok [.int a, .int b] M := rfl
    unfold sRaiseM
    rw [this, bindS_ok]
    exact if_pos (by rw [decide_eq_true ha, decide_eq_true hb]; rfl)
def jo0 : FS := sExpr (fCall m_need_board (fCons (fVar 0) fNil))
def jo1 : FS := sExpr (fCall m_need_board (fCons (fVar 1) fNil))
def jo2 : FS := (sIf (fNotT (fTest (fCall m_are_links (fCons (fVar 0) (fCons (fVar 1) (fCons (fVar 2) fNil)))))) (sRaise 10) sNext)
def jo3 : FS := (sSet 3 (fBin gAdd (fCountT (fVar 2) (fCons (fC .non) fNil)) (fBin gIx (fVar 1) (fC (.int 1)))))
def jo4 : FS := (sExpr (fCall m_need_few_1d32a9 (fCons (fBin gAdd (fCall gLen (fCons (fBin gIx (fVar 0) (fC (.int 0))) fNil)) (fCall gLen (fCons (fBin gIx (fVar 1) (fC (.int 0))) fNil))) (fCons (fC (.int 6)) fNil))))
def jo5 : FS := (sExpr (fCall m_need_few_1d32a9 (fCons (fVar 3) (fCons (fC (.int 4)) fNil))))
def jo6 : FS := (sSet 4 (fCall m_renumbered (fCons (fBin gIx (fVar 0) (fC (.int 0))) (fCons (fCall m_ends_of_first (fCons (fVar 0) (fCons (fVar 1) (fCons (fVar 2) fNil)))) fNil))))
def jo7 : FS := (sSet 5 (fCall m_renumbered (fCons (fBin gIx (fVar 1) (fC (.int 0))) (fCons (fCall m_ends_of_second (fCons (fVar 0) (fCons (fVar 1) (fCons (fVar 2) fNil)))) fNil))))
def jo8 : FS := (sRet (fTup (fCons (fBin gAdd (fVar 4) (fVar 5)) (fCons (fVar 3) fNil))))
theorem joined_body50 : b_joined_f7b97f = sSeq jo0 (sSeq jo1 (sSeq jo2 (sSeq jo3 (sSeq jo4 (sSeq jo5 (sSeq jo6 (sSeq jo7 jo8))))))) := rfl
theorem joined_exc {a b l : D} {n : Nat} {fs : List (Str × D)} {σ : Sa} (h : b_joined_f7b97f (startA 6 [a, b, l]) M = .exc n fs σ M) : m_joined_f7b97f [a, b, l] M = .exc n fs M :=
  (run_exc (n := 6) (k := 3) rfl h).trans (trim_exc rfl)
theorem joined_bad1 {a b l : D} (hw : Wf M) (h : a.dok = true) (hb : boardB a = false) : m_joined_f7b97f [a, b, l] M = .exc 0 [] M := by
  have s1 : jo0 [some a, some b, some l, none, none, none] M = .exc 0 [] [some a, some b, some l, none, none, none] M := expr_exc ((call1_ev (var_ev rfl)).trans (m_need_board_bad h hb hw))
  exact joined_exc (σ := [some a, some b, some l, none, none, none]) (by rw [joined_body50]; exact seq_exc s1)
section
variable {b l : D}
theorem jo0_ok (hw : Wf M) (b1 : BoardOk ws1 c1) : jo0 [some (boardT ws1 c1), some b, some l, none, none, none] M = .ok (.nx [some (boardT ws1 c1), some b, some l, none, none, none]) M := expr_ev (d := .non) ((call1_ev (var_ev rfl)).trans (m_need_board_eq b1 hw))
theorem joined_bad2 (hw : Wf M) (b1 : BoardOk ws1 c1) (h : b.dok = true) (hb : boardB b = false) : m_joined_f7b97f [boardT ws1 c1, b, l] M = .exc 0 [] M := by
  have s1 : jo1 [some (boardT ws1 c1), some b, some l, none, none, none] M = .exc 0 [] [some (boardT ws1 c1), some b, some l, none, none, none] M := expr_exc ((call1_ev (var_ev rfl)).trans (m_need_board_bad h hb hw))
  exact joined_exc (σ := [some (boardT ws1 c1), some b, some l, none, none, none]) (by rw [joined_body50]; exact (seq_nx (jo0_ok hw b1)).trans (seq_exc s1))
theorem jo1_ok (hw : Wf M) (b2 : BoardOk ws2 c2) : jo1 [some (boardT ws1 c1), some (boardT ws2 c2), some l, none, none, none] M = .ok (.nx [some (boardT ws1 c1), some (boardT ws2 c2), some l, none, none, none]) M := expr_ev (d := .non) ((call1_ev (var_ev rfl)).trans (m_need_board_eq b2 hw))
theorem jo2_test (hw : Wf M) (b1 : BoardOk ws1 c1) (hl : l.dok = true) : fNotT (fTest (fCall m_are_links (fCons (fVar 0) (fCons (fVar 1) (fCons (fVar 2) fNil))))) [some (boardT ws1 c1), some (boardT ws2 c2), some l, none, none, none] M = .ok (!linksB c1 ws2.length l) M :=
  not_ev (test_ev ((call3_ev (a := boardT ws1 c1) (b := boardT ws2 c2) (c := l) (var_ev rfl) (var_ev rfl) (var_ev rfl)).trans (m_are_links_all hw b1.c4 hl)))
theorem joined_links (hw : Wf M) (b1 : BoardOk ws1 c1) (b2 : BoardOk ws2 c2) (hl : l.dok = true) (hb : linksB c1 ws2.length l = false) : m_joined_f7b97f [boardT ws1 c1, boardT ws2 c2, l] M = .exc 10 [] M := by
  have s1 : jo2 [some (boardT ws1 c1), some (boardT ws2 c2), some l, none, none, none] M = .exc 10 [] [some (boardT ws1 c1), some (boardT ws2 c2), some l, none, none, none] M := raise_if ((jo2_test hw b1 hl).trans (by rw [hb]; rfl))
  exact joined_exc (σ := [some (boardT ws1 c1), some (boardT ws2 c2), some l, none, none, none]) (by rw [joined_body50]; exact (seq_nx (jo0_ok hw b1)).trans ((seq_nx (jo1_ok hw b2)).trans (seq_exc s1)))
end
theorem linksB_ok {n : Int} (h : LinksOk n ls) : linksB (ls.length : Nat) n (linksT ls) = true := by
  unfold linksT linksB
  rw [Bool.and_eq_true]
  refine ⟨by simp [partsB], ?_⟩
  rw [List.all_eq_true]
  intro z hz
  obtain ⟨l, hl, rfl⟩ := List.mem_map.mp hz
  cases l with
  | none => rfl
  | some i =>
    obtain ⟨h0, h1⟩ := h _ hl i rfl
    show inB 0 (n - 1) (.int i) = true
    simp only [inB, Bool.and_eq_true, decide_eq_true_eq]
    omega
theorem dok_links : (linksT ls).dok = true := by
  show D.dokA (ls.map linkT) = true
  rw [dokA_iff]
  intro z hz
  obtain ⟨l, _, rfl⟩ := List.mem_map.mp hz
  cases l <;> rfl
section
variable {c2 : Nat}
theorem jo2_ok (hw : Wf M) (b1 : BoardOk ws1 (ls.length : Nat)) (hlk : LinksOk ws2.length ls) : jo2 [some (boardT ws1 (ls.length : Nat)), some (boardT ws2 (c2 : Nat)), some (linksT ls), none, none, none] M = .ok (.nx [some (boardT ws1 (ls.length : Nat)), some (boardT ws2 (c2 : Nat)), some (linksT ls), none, none, none]) M :=
  (sif_ev (p := false) ((jo2_test hw b1 dok_links).trans (by rw [linksB_ok hlk]; rfl))).trans rfl
theorem jo3_ok : jo3 [some (boardT ws1 (ls.length : Nat)), some (boardT ws2 (c2 : Nat)), some (linksT ls), none, none, none] M = .ok (.nx [some (boardT ws1 (ls.length : Nat)), some (boardT ws2 (c2 : Nat)), some (linksT ls), some (.int (nones ls + c2)), none, none]) M :=
  set_ev ((bin_ev (M1 := M) (M2 := M) (a := .int (nones ls : Nat)) (b := .int (c2 : Nat)) (count_links (ls := ls) rfl) ((bin_ev (a := boardT ws2 (c2 : Nat)) (b := .int 1) (var_ev rfl) rfl).trans board_1)).trans gAdd_int)
theorem jo4_arg {o3 o4 o5 : Option D} : fBin gAdd (fCall gLen (fCons (fBin gIx (fVar 0) (fC (.int 0))) fNil)) (fCall gLen (fCons (fBin gIx (fVar 1) (fC (.int 0))) fNil)) [some (boardT ws1 (ls.length : Nat)), some (boardT ws2 (c2 : Nat)), some (linksT ls), o3, o4, o5] M = .ok (.int (ws1.length + ws2.length)) M :=
  (bin_ev (a := .int (ws1.length : Int)) (b := .int (ws2.length : Int)) ((call1_ev (a := wheelsT ws1) ((bin_ev (a := boardT ws1 (ls.length : Nat)) (b := .int 0) (var_ev rfl) rfl).trans board_0)).trans wheels_len) ((call1_ev (a := wheelsT ws2) ((bin_ev (a := boardT ws2 (c2 : Nat)) (b := .int 0) (var_ev rfl) rfl).trans board_0)).trans wheels_len)).trans gAdd_int
theorem pre3 (hw : Wf M) (b1 : BoardOk ws1 (ls.length : Nat)) (b2 : BoardOk ws2 (c2 : Nat)) (hlk : LinksOk ws2.length ls) {s : FS} {r : RS} (h : s [some (boardT ws1 (ls.length : Nat)), some (boardT ws2 (c2 : Nat)), some (linksT ls), some (.int (nones ls + c2)), none, none] M = r) : sSeq jo0 (sSeq jo1 (sSeq jo2 (sSeq jo3 s))) (startA 6 [boardT ws1 (ls.length : Nat), boardT ws2 (c2 : Nat), linksT ls]) M = r :=
  (seq_nx (jo0_ok hw b1)).trans ((seq_nx (jo1_ok hw b2)).trans ((seq_nx (jo2_ok hw b1 hlk)).trans ((seq_nx jo3_ok).trans h)))
theorem joined_many6 (hw : Wf M) (b1 : BoardOk ws1 (ls.length : Nat)) (b2 : BoardOk ws2 (c2 : Nat)) (hlk : LinksOk ws2.length ls) (h6 : 6 < ws1.length + ws2.length) : m_joined_f7b97f [boardT ws1 (ls.length : Nat), boardT ws2 (c2 : Nat), linksT ls] M = .exc 20 (fsMany (ws1.length + ws2.length) 6) M := by
  have w1 := b1.w6
  have w2 := b2.w6
  refine joined_exc (σ := [some (boardT ws1 (ls.length : Nat)), some (boardT ws2 (c2 : Nat)), some (linksT ls), some (.int (nones ls + c2)), none, none]) ?_
  rw [joined_body50]
  refine pre3 hw b1 b2 hlk (seq_exc (expr_exc ((call2_ev (b := .int 6) jo4_arg rfl).trans (m_need_few_gt (by omega) ?_ (by decide)))))
  have : ((ws1.length : Int) + ws2.length).natAbs ≤ 12 := by omega
  exact Nat.lt_of_le_of_lt this (by decide)
theorem jo4_ok (h6 : ws1.length + ws2.length ≤ 6) : jo4 [some (boardT ws1 (ls.length : Nat)), some (boardT ws2 (c2 : Nat)), some (linksT ls), some (.int (nones ls + c2)), none, none] M = .ok (.nx [some (boardT ws1 (ls.length : Nat)), some (boardT ws2 (c2 : Nat)), some (linksT ls), some (.int (nones ls + c2)), none, none]) M :=
  expr_ev (d := .non) ((call2_ev (b := .int 6) jo4_arg rfl).trans (m_need_few_le (by omega)))
theorem joined_many4 (hw : Wf M) (b1 : BoardOk ws1 (ls.length : Nat)) (b2 : BoardOk ws2 (c2 : Nat)) (hlk : LinksOk ws2.length ls) (h6 : ws1.length + ws2.length ≤ 6) (h4 : 4 < nones ls + c2) : m_joined_f7b97f [boardT ws1 (ls.length : Nat), boardT ws2 (c2 : Nat), linksT ls] M = .exc 20 (fsMany (nones ls + c2) 4) M := by
  have hl4 := b1.c4
  have hc4 := b2.c4
  refine joined_exc (σ := [some (boardT ws1 (ls.length : Nat)), some (boardT ws2 (c2 : Nat)), some (linksT ls), some (.int (nones ls + c2)), none, none]) ?_
  rw [joined_body50]
  refine pre3 hw b1 b2 hlk ((seq_nx (jo4_ok h6)).trans (seq_exc (expr_exc ((call2_ev (a := .int (nones ls + c2)) (b := .int 4) (var_ev rfl) rfl).trans (m_need_few_gt (by omega) ?_ (by decide))))))
  have := nones_le ls
  have : ((nones ls : Int) + c2).natAbs ≤ 12 := by omega
  exact Nat.lt_of_le_of_lt this (by decide)
theorem joined_told (hw : Wf M) (b1 : BoardOk ws1 (ls.length : Nat)) (b2 : BoardOk ws2 (c2 : Nat)) (hlk : LinksOk ws2.length ls) (h6 : ws1.length + ws2.length ≤ 6) (h4 : nones ls + c2 ≤ 4) :
    m_joined_f7b97f [boardT ws1 (ls.length : Nat), boardT ws2 (c2 : Nat), linksT ls] M = .ok (boardT (joinW ws1 ws2 ls c2) (nones ls + c2 : Nat)) M := by
  have hl4 : ls.length ≤ 4 := by have := b1.c4; omega
  have hc4 : c2 ≤ 4 := by have := b2.c4; omega
  have w1 := b1.w6
  have w2 := b2.w6
  have e4 := m_ends_of_first_eq (ws1 := ws1) (ws2 := ws2) (c1 := (ls.length : Nat)) (c2 := (c2 : Nat)) (ls := ls) hw w1 hl4
  have e5 := m_ends_of_second_eq (M := M) (ws1 := ws1) (ws2 := ws2) (c1 := (ls.length : Nat)) (c2 := c2) (ls := ls) w1 w2 hl4 hc4
  have e6 := m_renumbered_eq (M := M) (ws := ws1) (f := firstNum ws1.length ws2.length ls) (n := (ws1.length : Int) + (ls.length : Nat)) hw (by omega) b1.wheels (by rw [firstNum_len]; omega)
  have e7 := m_renumbered_eq (M := M) (ws := ws2) (f := secNum ws1.length ws2.length (nones ls) c2) (n := (ws2.length : Int) + (c2 : Nat)) hw (by omega) b2.wheels (by rw [secNum_len]; omega)
  have e9 := m_need_few_le (M := M) (a := (nones ls : Int) + c2) (b := 4) (by omega)
  have s6 : jo5 [some (boardT ws1 (ls.length : Nat)), some (boardT ws2 (c2 : Nat)), some (linksT ls), some (.int (nones ls + c2)), none, none] M = .ok (.nx [some (boardT ws1 (ls.length : Nat)), some (boardT ws2 (c2 : Nat)), some (linksT ls), some (.int (nones ls + c2)), none, none]) M := expr_ev (d := .non) ((call2_ev (a := .int (nones ls + c2)) (b := .int 4) (var_ev rfl) rfl).trans e9)
  have s7 : jo6 [some (boardT ws1 (ls.length : Nat)), some (boardT ws2 (c2 : Nat)), some (linksT ls), some (.int (nones ls + c2)), none, none] M = .ok (.nx [some (boardT ws1 (ls.length : Nat)), some (boardT ws2 (c2 : Nat)), some (linksT ls), some (.int (nones ls + c2)), some (wheelsT (renumW (firstNum ws1.length ws2.length ls) ws1)), none]) M :=
    set_ev ((call2_ev (a := wheelsT ws1) ((bin_ev (a := boardT ws1 (ls.length : Nat)) (b := .int 0) (var_ev rfl) rfl).trans board_0) ((call3_ev (a := boardT ws1 (ls.length : Nat)) (b := boardT ws2 (c2 : Nat)) (c := linksT ls) (var_ev rfl) (var_ev rfl) (var_ev rfl)).trans e4)).trans e6)
  have s8 : jo7 [some (boardT ws1 (ls.length : Nat)), some (boardT ws2 (c2 : Nat)), some (linksT ls), some (.int (nones ls + c2)), some (wheelsT (renumW (firstNum ws1.length ws2.length ls) ws1)), none] M = .ok (.nx [some (boardT ws1 (ls.length : Nat)), some (boardT ws2 (c2 : Nat)), some (linksT ls), some (.int (nones ls + c2)), some (wheelsT (renumW (firstNum ws1.length ws2.length ls) ws1)), some (wheelsT (renumW (secNum ws1.length ws2.length (nones ls) c2) ws2))]) M :=
    set_ev ((call2_ev (a := wheelsT ws2) ((bin_ev (a := boardT ws2 (c2 : Nat)) (b := .int 0) (var_ev rfl) rfl).trans board_0) ((call3_ev (a := boardT ws1 (ls.length : Nat)) (b := boardT ws2 (c2 : Nat)) (c := linksT ls) (var_ev rfl) (var_ev rfl) (var_ev rfl)).trans e5)).trans e7)
  have s9 : jo8 [some (boardT ws1 (ls.length : Nat)), some (boardT ws2 (c2 : Nat)), some (linksT ls), some (.int (nones ls + c2)), some (wheelsT (renumW (firstNum ws1.length ws2.length ls) ws1)), some (wheelsT (renumW (secNum ws1.length ws2.length (nones ls) c2) ws2))] M = .ok (.rt (boardT (joinW ws1 ws2 ls c2) (nones ls + c2 : Nat))) M := by
    have e : (((nones ls + c2 : Nat)) : Int) = (nones ls : Int) + c2 := by omega
    rw [boardT, e]
    refine ret_ev (tup2_ev (M1 := M) ((bin_ev (M1 := M) (M2 := M) (a := wheelsT (renumW (firstNum ws1.length ws2.length ls) ws1)) (b := wheelsT (renumW (secNum ws1.length ws2.length (nones ls) c2) ws2)) (var_ev rfl) (var_ev rfl)).trans (gAdd_wheels ?_)) (var_ev rfl))
    rw [renumW_len, renumW_len]
    omega
  have sb : b_joined_f7b97f (startA 6 [boardT ws1 (ls.length : Nat), boardT ws2 (c2 : Nat), linksT ls]) M = .ok (.rt (boardT (joinW ws1 ws2 ls c2) (nones ls + c2 : Nat))) M := by
    rw [joined_body50]
    exact pre3 hw b1 b2 hlk ((seq_nx (jo4_ok h6)).trans ((seq_nx s6).trans ((seq_nx s7).trans ((seq_nx s8).trans s9))))
  exact (run_rt (n := 6) (k := 3) rfl sb).trans (trim_id rfl)
end
end QX
set_option maxRecDepth 100000
set_option maxHeartbeats 1000000
namespace QX.Det
end QX.Det
set_option maxRecDepth 100000
set_option maxHeartbeats 1000000
namespace QX.Det
theorem sm_nonneg {f : Nat → Int} : ∀ {n : Nat}, (∀ j, j < n → 0 ≤ f j) → 0 ≤ sm n f
  | 0, _ => Int.le_refl 0
  | n + 1, h => by
    have h1 := sm_nonneg (f := f) (n := n) fun j hj => h j (by omega)
    have h2 := h n (by omega)
    show 0 ≤ sm n f + f n
    omega
theorem sm_nonpos {f : Nat → Int} : ∀ {n : Nat}, (∀ j, j < n → f j ≤ 0) → sm n f ≤ 0
  | 0, _ => Int.le_refl 0
  | n + 1, h => by
    have h1 := sm_nonpos (f := f) (n := n) fun j hj => h j (by omega)
    have h2 := h n (by omega)
    show sm n f + f n ≤ 0
    omega
theorem sm_le {f g : Nat → Int} : ∀ {n : Nat}, (∀ j, j < n → f j ≤ g j) → sm n f ≤ sm n g
  | 0, _ => Int.le_refl 0
  | n + 1, h => by
    have h1 := sm_le (f := f) (g := g) (n := n) fun j hj => h j (by omega)
    have h2 := h n (by omega)
    show sm n f + f n ≤ sm n g + g n
    omega
theorem sm_one {f : Nat → Int} : ∀ {n i : Nat}, i < n → (∀ j, j < n → j ≠ i → f j ≤ 0) → sm n f ≤ f i
  | 0, i, h, _ => by omega
  | n + 1, i, hi, h => by
    show sm n f + f n ≤ f i
    by_cases hin : i = n
    · subst hin
      have := sm_nonpos (f := f) (n := i) fun j hj => h j (by omega) (by omega)
      omega
    · have h1 := sm_one (f := f) (n := n) (i := i) (by omega) fun j hj hji => h j (by omega) hji
      have h2 := h n (by omega) (by omega)
      omega
structure NN (n k : Nat) (Row : Nat → R) : Prop where
  z : ∀ i j, i < n → j < n → k ≤ j → i ≠ j → Row i j ≤ 0
  p : ∀ i j, i < n → n ≤ j → 0 ≤ Row i j
theorem ediv_nonpos {x q : Int} (hx : x ≤ 0) (hq : 0 < q) : x / q ≤ 0 := by
  have h := Int.ediv_le_ediv hq hx
  simpa using h
theorem NN.step {n k : Nat} {q : Int} {Row : Nat → R} (h : NN n k Row) (hk : k < n) (hp : 0 < Row k k) (hq : 0 < q) : NN n (k + 1) (stepR k q Row) := by
  refine ⟨fun i j hi hj hkj hij => ?_, fun i j hi hj => ?_⟩
  · unfold stepR
    split
    · rename_i e
      subst e
      exact h.z i j hi hj (by omega) hij
    · rename_i e
      have a1 : Row k k * Row i j ≤ 0 := Int.mul_nonpos_of_nonneg_of_nonpos (Int.le_of_lt hp) (h.z i j hi hj (by omega) hij)
      have a2 : 0 ≤ Row i k * Row k j := Int.mul_nonneg_of_nonpos_of_nonpos (h.z i k hi hk (by omega) e) (h.z k j hk hj (by omega) (by omega))
      exact ediv_nonpos (by omega) hq
  · unfold stepR
    split
    · exact h.p k j hk hj
    · rename_i e
      have a1 : 0 ≤ Row k k * Row i j := Int.mul_nonneg (Int.le_of_lt hp) (h.p i j hi hj)
      have a2 : Row i k * Row k j ≤ 0 := Int.mul_nonpos_of_nonpos_of_nonneg (h.z i k hi hk (by omega) e) (h.p k j hk hj)
      exact Int.ediv_nonneg (by omega) (Int.le_of_lt hq)
theorem solve_nn {n w : Nat} : ∀ (r k : Nat) (q : Int) (ls : List (List Int)) (p : Int) (ls' : List (List Int)), Rect n w ls → 0 < q → NN n k (rw ls) → k + r = n → solveL r k q ls = some (p, ls') → NN n n (rw ls')
  | 0, k, q, ls, p, ls', hr, hq, hn, hk, h => by
    simp only [solveL, Option.some.injEq, Prod.mk.injEq] at h
    obtain ⟨rfl, rfl⟩ := h
    have : k = n := by omega
    subst this
    exact hn
  | r + 1, k, q, ls, p, ls', hr, hq, hn, hk, h => by
    unfold solveL at h
    split at h
    · cases h
    · rename_i hp
      refine solve_nn r (k + 1) _ _ p ls' (hr.step (by omega)) (by omega) ?_ (by omega) h
      rw [rw_step hr (by omega)]
      exact hn.step (by omega) (by omega) hq
def Wt (n : Nat) (w : Nat → Int) (Row : Nat → R) : Prop := ∀ i, i < n → 0 < sm n fun j => Row i j * w j
theorem Wt.step {n k : Nat} {q : Int} {w : Nat → Int} {Row : Nat → R} {A : Nat → R} (ho : Ok n A k q Row) (hn : NN n k Row) (h : Wt n w Row) (hk : k < n) (hp : 0 < Row k k) : Wt n w (stepR k q Row) := fun i hi => by
  by_cases hik : i = k
  · subst hik
    have e : (fun j => stepR i q Row i j * w j) = fun j => Row i j * w j := by
      funext j
      rw [stepR_own]
    rw [e]
    exact h i hi
  · have hq := ho.pos
    have e : sm n (fun j => q * (stepR k q Row i j * w j)) = Row k k * sm n (fun j => Row i j * w j) - Row i k * sm n (fun j => Row k j * w j) := by
      rw [← sm_lin]
      refine sm_congr fun j hj => ?_
      rw [← Int.mul_assoc, stepR_exact ho.inv hik]
      grind
    rw [sm_mul] at e
    have p1 : 0 < Row k k * sm n (fun j => Row i j * w j) := Int.mul_pos hp (h i hi)
    have p2 : Row i k * sm n (fun j => Row k j * w j) ≤ 0 := Int.mul_nonpos_of_nonpos_of_nonneg (hn.z i k hi hk (Nat.le_refl _) hik) (Int.le_of_lt (h k hk))
    have p3 : 0 < q * sm n (fun j => stepR k q Row i j * w j) := by omega
    exact Int.pos_of_mul_pos_right p3 hq |> fun h => h
end QX.Det
set_option maxRecDepth 100000
set_option maxHeartbeats 1000000
set_option exponentiation.threshold 5000
namespace QX
open PySem PySem.Spec PyProof.Rows L2 HX QX.Det
variable {ws : List (List (List Int))} {c : Int}
theorem table_z (hb : BoardOk ws c) {i j : Nat} (hi : i < ws.length) (hj : j < ws.length) (hij : i ≠ j) : rw (tableL ws c) i j ≤ 0 := by
  rw [rw_table hi hj]
  unfold Tb
  rw [if_neg hij]
  have := (En_bd hb i j).1
  omega
theorem begun_nn (hb : BoardOk ws c) : NN ws.length 0 (rw (begunL ws.length (tableL ws c))) := by
  refine ⟨fun i j hi hj _ hij => ?_, fun i j hi hj => ?_⟩
  · rw [rw_begun table_rect i j hi (by omega)]
    unfold begun
    rw [if_pos hj]
    exact table_z hb hi hj hij
  · by_cases hj2 : j < ws.length + ws.length
    · rw [rw_begun table_rect i j hi hj2]
      unfold begun
      rw [if_neg (by omega)]
      split <;> decide
    · have : rw (begunL ws.length (tableL ws c)) i j = 0 := by
        unfold rw
        exact getD0 (by rw [(begun_rect table_rect).get hi]; omega)
      rw [this]
      exact Int.le_refl 0
theorem sol_ok (hb : BoardOk ws c) {q : Int} {ls : List (List Int)} (hs : solB ws c = some (q, ls)) : Ok ws.length (rw (tableL ws c)) ws.length q (rw ls) := (solve_ok _ _ _ _ _ _ (begun_rect table_rect) (ok_begunL (table_rect (ws := ws) (c := c))) (by omega) hs).1
theorem inv_nn (hb : BoardOk ws c) {q : Int} {ls : List (List Int)} (hs : solB ws c = some (q, ls)) {i m : Nat} (hi : i < ws.length) : 0 ≤ rw ls i (ws.length + m) :=
  (solve_nn _ _ _ _ _ _ (begun_rect table_rect) (by decide) (begun_nn hb) (by omega) hs).p i _ hi (by omega)
def wtOf (ws : List (List (List Int))) (ls : List (List Int)) (i : Nat) : Int := sm ws.length fun m => rw ls i (ws.length + m)
theorem wt_sum (hb : BoardOk ws c) {q : Int} {ls : List (List Int)} (hs : solB ws c = some (q, ls)) {i : Nat} (hi : i < ws.length) : (sm ws.length fun j => rw (tableL ws c) i j * wtOf ws ls j) = q := by
  have hinv := (sol_ok hb hs).inverse.2
  have e : (fun j => rw (tableL ws c) i j * wtOf ws ls j) = fun j => sm ws.length fun m => rw (tableL ws c) i j * rw ls j (ws.length + m) := by
    funext j
    rw [sm_mul]
    rfl
  rw [e, sm_swap]
  have e2 : sm ws.length (fun m => sm ws.length fun j => rw (tableL ws c) i j * rw ls j (ws.length + m)) = sm ws.length fun m => (if i = m then q else 0) * (fun _ => 1) m := sm_congr fun m hm => by
    rw [hinv i m hi hm]
    simp
  rw [e2, sm_pick (f := fun _ => 1) hi]
  simp
theorem one_pos {n : Nat} {a v : Nat → Int} {i : Nat} (hi : i < n) (hv : ∀ j, j < n → 0 ≤ v j) (ha : ∀ j, j < n → j ≠ i → a j ≤ 0) (h : 0 < sm n fun j => a j * v j) : 0 < v i := by
  have h1 := sm_one (f := fun j => a j * v j) hi fun j hj hji => Int.mul_nonpos_of_nonpos_of_nonneg (ha j hj hji) (hv j hj)
  have h2 := hv i hi
  rcases Int.lt_or_eq_of_le h2 with h3 | h3
  · exact h3
  · have h4 : sm n (fun j => a j * v j) ≤ a i * v i := h1
    rw [← h3, Int.mul_zero] at h4
    omega
theorem wt_pos (hb : BoardOk ws c) {q : Int} {ls : List (List Int)} (hs : solB ws c = some (q, ls)) {i : Nat} (hi : i < ws.length) : 0 < wtOf ws ls i :=
  one_pos (a := fun j => rw (tableL ws c) i j) hi (fun j hj => sm_nonneg fun m hm => inv_nn hb hs hj) (fun j hj hji => table_z hb hi hj (Ne.symm hji)) (by
    rw [wt_sum hb hs hi]
    exact (sol_ok hb hs).pos)
end QX
set_option maxRecDepth 100000
set_option maxHeartbeats 1000000
namespace QX
open PySem PySem.Spec PyProof.Rows L2 HX
variable {ws : List (List (List Int))} {c : Int} {m : Mo}
def runM (ws : List (List (List Int))) (m : Mo) (row : List Nat) : Mo := row.foldl (handleM ws) m
theorem runM_nil : runM ws m [] = m := rfl
theorem runM_cons {n : Nat} {r : List Nat} : runM ws m (n :: r) = runM ws (handleM ws m n) r := rfl
theorem runM_app {a b : List Nat} : runM ws m (a ++ b) = runM ws (runM ws m a) b := List.foldl_append
theorem runM_snoc {a : List Nat} {n : Nat} : runM ws m (a ++ [n]) = handleM ws (runM ws m a) n := by rw [runM_app]; rfl
theorem gset_ne {l : List Int} {i j : Nat} {x : Int} (h : i ≠ j) : (l.set i x).getD j 0 = l.getD j 0 := by
  rw [List.getD_eq_getElem?_getD, List.getElem?_set_ne h, List.getD_eq_getElem?_getD]
theorem gset_self {l : List Int} {i : Nat} {x : Int} (h : i < l.length) : (l.set i x).getD i 0 = x := by
  rw [List.getD_eq_getElem?_getD, List.getElem?_set_self h]
  rfl
theorem came_zero (st : List Int) (e : Nat) : came ws st (fun _ => 0) e = 0 := by
  unfold came
  have : ∀ n, sumTo n (fun u => sent ws u (st.getD u 0) 0 e) = 0 := fun n => by
    induction n with
    | zero => rfl
    | succ n ih =>
      show sumTo n _ + 0 = 0
      rw [ih]
      rfl
  exact this _
theorem run_counts (bok : BoardOk ws c) : ∀ (row : List Nat) (m : Mo), MoF ws c m → (∀ n ∈ row, n < ws.length) →
    MoF ws c (runM ws m row) ∧ (∀ u, u < ws.length → (runM ws m row).st.getD u 0 = (m.st.getD u 0 + ((row.count u : Nat) : Int)) % ((ws.getD u []).length : Int)) ∧ (∀ u, u < ws.length → (runM ws m row).wt.getD u 0 = m.wt.getD u 0 + came ws m.st (fun u => row.count u) u - ((row.count u : Nat) : Int)) ∧
    ∀ j, (runM ws m row).hd.getD j 0 = m.hd.getD j 0 + came ws m.st (fun u => row.count u) (ws.length + j)
  | [], m, mf, _ => by
    have hc : ∀ e, came ws m.st (fun u => ([] : List Nat).count u) e = 0 := fun e => came_zero _ e
    refine ⟨mf, fun u hu => ?_, fun u hu => ?_, fun j => ?_⟩
    · have e2 : m.st[u]? = some (m.st.getD u 0) := by rw [List.getD_eq_getElem?_getD, List.getElem?_eq_getElem (by rw [mf.sl]; exact hu)]; rfl
      have e3 : ws[u]? = some (ws.getD u []) := by rw [List.getD_eq_getElem?_getD, List.getElem?_eq_getElem hu]; rfl
      obtain ⟨s0, s1⟩ := mf.sr u _ _ e2 e3
      have : m.st.getD u 0 + (([].count u : Nat) : Int) = m.st.getD u 0 := by simp
      rw [this]
      exact (Int.emod_eq_of_lt s0 s1).symm
    · rw [hc, runM_nil]
      simp
    · rw [hc, runM_nil]
      simp
  | n :: r, m, mf, hrow => by
    have hn := hrow n (List.mem_cons_self ..)
    rw [runM_cons]
    have w1 : ∀ x ∈ ws, 1 ≤ x.length := fun x hx => (bok.wheels x hx).1
    obtain ⟨mf', h1, h2, h3⟩ := run_counts bok r (handleM ws m n) (mf.handle w1) (fun x hx => hrow x (List.mem_cons_of_mem _ hx))
    generalize runM ws (handleM ws m n) r = m' at mf' h1 h2 h3 ⊢
    have hns : n < m.st.length := by rw [mf.sl]; exact hn
    have ewn : ws[n]? = some (ws.getD n []) := by rw [List.getD_eq_getElem?_getD, List.getElem?_eq_getElem hn]; rfl
    have esn : m.st[n]? = some (m.st.getD n 0) := by rw [List.getD_eq_getElem?_getD, List.getElem?_eq_getElem hns]; rfl
    obtain ⟨s0, s1⟩ := mf.sr n _ _ esn ewn
    obtain ⟨x1, x4, wok⟩ := bok.wheels _ (List.mem_of_getElem? ewn)
    have stn : (handleM ws m n).st.getD n 0 = (m.st.getD n 0 + 1) % ((ws.getD n []).length : Int) := gset_self hns
    have stu : ∀ u, u ≠ n → (handleM ws m n).st.getD u 0 = m.st.getD u 0 := fun u hu => gset_ne (fun z => hu z.symm)
    have cn : (n :: r).count n = r.count n + 1 := by rw [List.count_cons]; simp
    have cu : ∀ u, u ≠ n → (n :: r).count u = r.count u := fun u hu => by
      rw [List.count_cons]
      have : ¬ n = u := fun z => hu z.symm
      simp [this]
    have hends : endsAt ws m.st n = endsOf ws n (m.st.getD n 0) := by
      unfold endsAt endsOf
      rw [Int.emod_eq_of_lt s0 s1]
    have eok : ∀ x ∈ endsAt ws m.st n, 0 ≤ x ∧ x < (ws.length : Int) + (m.hd.length : Int) := by
      intro x hx
      have hm : endsAt ws m.st n ∈ ws.getD n [] := by
        unfold endsAt
        have hlt : (m.st.getD n 0).toNat < (ws.getD n []).length := by omega
        rw [List.getD_eq_getElem?_getD (l := ws.getD n []), List.getElem?_eq_getElem hlt]
        exact List.getElem_mem hlt
      have := (wok _ hm).2 x hx
      rw [mf.hl]
      exact this
    obtain ⟨g1, g2⟩ := send_get (W := ws.length) (endsAt ws m.st n) (bump m.wt n (-1), m.hd) eok (bump_len.trans mf.wl)
    have cm : ∀ e, came ws m.st (fun u => (n :: r).count u) e = came ws (handleM ws m n).st (fun u => r.count u) e + HX.cnt (endsAt ws m.st n) e := by
      intro e
      unfold came
      rw [sumTo_one ws.length (a := n) hn (f := fun u => sent ws u (m.st.getD u 0) ((n :: r).count u) e) (g := fun u => sent ws u ((handleM ws m n).st.getD u 0) (r.count u) e) (fun u _ hu => by
        show sent ws u (m.st.getD u 0) ((n :: r).count u) e = sent ws u ((handleM ws m n).st.getD u 0) (r.count u) e
        rw [cu u hu, stu u hu])]
      show _ + (sent ws n (m.st.getD n 0) ((n :: r).count n) e - sent ws n ((handleM ws m n).st.getD n 0) (r.count n) e) = _
      rw [cn, sent_front, stn, hends]
      dsimp only
      omega
    refine ⟨mf', fun u hu => ?_, fun u hu => ?_, fun j => ?_⟩
    · rw [h1 u hu]
      by_cases z : u = n
      · subst z
        rw [stn, cn, Int.emod_add_emod]
        congr 1
        omega
      · rw [stu u z, cu u z]
    · rw [h2 u hu, cm u]
      have e1 : (handleM ws m n).wt.getD u 0 = (bump m.wt n (-1)).getD u 0 + HX.cnt (endsAt ws m.st n) u := g1 u hu
      rw [e1, bump_get (by rw [mf.wl]; exact hn)]
      by_cases z : u = n
      · subst z
        rw [if_pos rfl, cn]
        omega
      · rw [if_neg (fun q => z q.symm), cu u z]
        omega
    · rw [h3 j, cm (ws.length + j)]
      have e1 : (handleM ws m n).hd.getD j 0 = m.hd.getD j 0 + HX.cnt (endsAt ws m.st n) (ws.length + j) := g2 j
      rw [e1]
      omega
def LetR (ws : List (List (List Int))) : Mo → List Nat → Prop
  | _, [] => True
  | m, n :: r => n < ws.length ∧ 0 < m.wt.getD n 0 ∧ LetR ws (handleM ws m n) r
theorem LetR.lt : ∀ {a : List Nat} {m : Mo}, LetR ws m a → ∀ n ∈ a, n < ws.length
  | [], m, _, n, h => by simp at h
  | x :: a, m, ⟨h1, h2, h3⟩, n, h => by
    rcases List.mem_cons.mp h with rfl | h
    · exact h1
    · exact LetR.lt h3 n h
theorem LetR.ok (w1 : ∀ x ∈ ws, 1 ≤ x.length) : ∀ {a : List Nat} {m : Mo}, MoOk ws c m → LetR ws m a → MoOk ws c (runM ws m a)
  | [], m, h, _ => h
  | x :: a, m, h, ⟨_, h2, h3⟩ => LetR.ok w1 (a := a) (h.handle w1 h2) h3
theorem sumTo_le : ∀ (n : Nat) {f g : Nat → Int}, (∀ u, u < n → f u ≤ g u) → sumTo n f ≤ sumTo n g
  | 0, _, _, _ => Int.le_refl _
  | n + 1, f, g, h => by
    have h1 := sumTo_le n (f := f) (g := g) (fun u hu => h u (by omega))
    have h2 := h n (by omega)
    show sumTo n f + f n ≤ sumTo n g + g n
    omega
theorem sumTo_more {f : Nat → Int} (h : ∀ t, 0 ≤ f t) : ∀ (j d : Nat), sumTo j f ≤ sumTo (j + d) f
  | j, 0 => Int.le_refl _
  | j, d + 1 => by
    have h1 := sumTo_more h j d
    have h2 := h (j + d)
    show sumTo j f ≤ sumTo (j + d) f + f (j + d)
    omega
theorem sent_le {u : Nat} {s : Int} {j k e : Nat} (h : j ≤ k) : sent ws u s j e ≤ sent ws u s k e := by
  unfold sent
  have := sumTo_more (f := fun t => HX.cnt (endsOf ws u (s + (t : Int))) e) (fun t => Int.natCast_nonneg _) j (k - j)
  rw [show j + (k - j) = k by omega] at this
  exact this
theorem came_le {st : List Int} {f g : Nat → Nat} {e : Nat} (h : ∀ u, f u ≤ g u) : came ws st f e ≤ came ws st g e := by
  unfold came
  exact sumTo_le _ fun u _ => sent_le (h u)
theorem count_snoc {a : List Nat} {n u : Nat} : (a ++ [n]).count u = a.count u + if n = u then 1 else 0 := by
  rw [List.count_append, List.count_singleton]
  by_cases h : n = u <;> simp [h]
theorem least (bok : BoardOk ws c) (mf : MoF ws c m) {row : List Nat} (hr : ∀ n ∈ row, n < ws.length) (h0 : ∀ u, u < ws.length → (runM ws m row).wt.getD u 0 ≤ 0) :
    ∀ (rest pre : List Nat), (∀ n ∈ pre, n < ws.length) → LetR ws (runM ws m pre) rest → (∀ u, pre.count u ≤ row.count u) → ∀ u, (pre ++ rest).count u ≤ row.count u
  | [], pre, _, _, h, u => by rw [List.append_nil]; exact h u
  | n :: rest, pre, hp, ⟨l1, l2, l3⟩, h, u => by
    have e : pre ++ n :: rest = (pre ++ [n]) ++ rest := by simp
    rw [e]
    refine least bok mf hr h0 rest (pre ++ [n]) (fun x hx => ?_) (by rw [runM_snoc]; exact l3) (fun v => ?_) u
    · rcases List.mem_append.mp hx with z | z
      · exact hp x z
      · rw [List.mem_singleton.mp z]; exact l1
    · rw [count_snoc]
      by_cases hv : n = v
      · subst hv
        rw [if_pos rfl]
        refine Nat.succ_le_of_lt (Nat.lt_of_le_of_ne (h n) fun z => ?_)
        have a1 := (run_counts bok pre m mf hp).2.2.1 n l1
        have a2 := (run_counts bok row m mf hr).2.2.1 n l1
        have a3 := h0 n l1
        have a4 := came_le (ws := ws) (st := m.st) (f := fun u => pre.count u) (g := fun u => row.count u) (e := n) h
        rw [z] at a1
        omega
      · rw [if_neg hv]
        exact h v
theorem least_let (bok : BoardOk ws c) (mf : MoF ws c m) {row found : List Nat} (hr : ∀ n ∈ row, n < ws.length) (h0 : ∀ u, u < ws.length → (runM ws m row).wt.getD u 0 ≤ 0) (hl : LetR ws m found) (u : Nat) : found.count u ≤ row.count u := by
  have := least bok mf hr h0 found [] (fun n h => by simp at h) hl (fun v => by simp) u
  simpa using this
theorem mo_ext {m m' : Mo} (h : MoF ws c m) (h' : MoF ws c m') (h1 : ∀ u, u < ws.length → m.st.getD u 0 = m'.st.getD u 0) (h2 : ∀ u, u < ws.length → m.wt.getD u 0 = m'.wt.getD u 0) (h3 : ∀ u, m.hd.getD u 0 = m'.hd.getD u 0) : m = m' := by
  have ext : ∀ {a b : List Int}, a.length = b.length → (∀ u, u < a.length → a.getD u 0 = b.getD u 0) → a = b := fun {a b} hl hg => by
    refine List.ext_getElem hl fun i hi hj => ?_
    have := hg i hi
    rw [List.getD_eq_getElem?_getD, List.getD_eq_getElem?_getD, List.getElem?_eq_getElem hi, List.getElem?_eq_getElem hj] at this
    exact this
  have hl := h.hl
  have hl' := h'.hl
  obtain ⟨st, wt, hd⟩ := m
  obtain ⟨st', wt', hd'⟩ := m'
  have e1 : st = st' := ext (h.sl.trans h'.sl.symm) fun u hu => h1 u (by have := h.sl; simp only at this hu; omega)
  have e2 : wt = wt' := ext (h.wl.trans h'.wl.symm) fun u hu => h2 u (by have := h.wl; simp only at this hu; omega)
  have e3 : hd = hd' := ext (by simp only at hl hl'; omega) fun u hu => h3 u
  rw [e1, e2, e3]
theorem run_same (bok : BoardOk ws c) (mf : MoF ws c m) {a b : List Nat} (ha : ∀ n ∈ a, n < ws.length) (hb : ∀ n ∈ b, n < ws.length) (hc : ∀ u, a.count u = b.count u) : runM ws m a = runM ws m b := by
  obtain ⟨a1, a2, a3, a4⟩ := run_counts bok a m mf ha
  obtain ⟨b1, b2, b3, b4⟩ := run_counts bok b m mf hb
  have hf : (fun u => a.count u) = fun u => b.count u := funext hc
  refine mo_ext a1 b1 (fun u hu => ?_) (fun u hu => ?_) (fun u => ?_)
  · rw [a2 u hu, b2 u hu, hc u]
  · rw [a3 u hu, b3 u hu, hc u, hf]
  · rw [a4 u, b4 u, hf]
def Rest (ws : List (List (List Int))) (m : Mo) (row : List Nat) : Prop := LetR ws m row ∧ ∀ u, u < ws.length → (runM ws m row).wt.getD u 0 = 0
theorem Rest.counts (bok : BoardOk ws c) (mf : MoF ws c m) {a b : List Nat} (ha : Rest ws m a) (hb : Rest ws m b) (u : Nat) : a.count u = b.count u :=
  Nat.le_antisymm (least_let bok mf hb.1.lt (fun u hu => by rw [hb.2 u hu]; exact Int.le_refl _) ha.1 u) (least_let bok mf ha.1.lt (fun u hu => by rw [ha.2 u hu]; exact Int.le_refl _) hb.1 u)
theorem Rest.same (bok : BoardOk ws c) (mf : MoF ws c m) {a b : List Nat} (ha : Rest ws m a) (hb : Rest ws m b) : runM ws m a = runM ws m b := run_same bok mf ha.1.lt hb.1.lt (Rest.counts bok mf ha hb)
end QX
set_option maxRecDepth 100000
set_option maxHeartbeats 1000000
set_option exponentiation.threshold 5000
namespace QX
open PySem PySem.Spec PyProof.Rows L2 HX QX.Det
variable {ws : List (List (List Int))} {c : Int} {m : Mo} {q : Int} {ls : List (List Int)}
def defc (tv : Nat → Int) (ws : List (List (List Int))) (w : Nat) : Int := ((ws.getD w []).length : Int) * tv w - (((ws.getD w []).flatten).map fun e => tv e.toNat).sum
theorem handle_drops (hb : BoardOk ws c) (hm : MoF ws c m) {w : Nat} (hw : w < ws.length) (tv : Nat → Int) : Ssum tv ws c.toNat (handleM ws m w) = Ssum tv ws c.toNat m - if m.st.getD w 0 + 1 < ((ws.getD w []).length : Int) then 0 else defc tv ws w := by
  have c0 := hb.c0
  have hst : w < m.st.length := by rw [hm.sl]; exact hw
  have hwm : ws.getD w [] ∈ ws := by rw [List.getD_eq_getElem?_getD, List.getElem?_eq_getElem hw]; exact List.getElem_mem hw
  have hwk := hb.wheels _ hwm
  obtain ⟨s0, s1⟩ := hm.sr w (m.st.getD w 0) (ws.getD w []) (by rw [List.getD_eq_getElem?_getD, List.getElem?_eq_getElem hst]; rfl) (by rw [List.getD_eq_getElem?_getD, List.getElem?_eq_getElem hw]; rfl)
  obtain ⟨k, hk⟩ := Int.eq_ofNat_of_zero_le s0
  have hkl : k < (ws.getD w []).length := by omega
  have hends : endsAt ws m.st w = (ws.getD w []).getD k [] := by rw [endsAt, hk, Int.toNat_natCast]
  have hkm : (ws.getD w [])[k]? = some ((ws.getD w []).getD k []) := by rw [List.getD_eq_getElem?_getD (i := k), List.getElem?_eq_getElem hkl]; rfl
  have h1 : worth tv ws.length c.toNat (handleM ws m w).wt (handleM ws m w).hd = worth tv ws.length c.toNat m.wt m.hd - stepOwe tv w ((ws.getD w []).getD k []) := by
    show worth tv ws.length c.toNat ((endsAt ws m.st w).foldl (sendM ws.length) (bump m.wt w (-1), m.hd)).1 ((endsAt ws m.st w).foldl (sendM ws.length) (bump m.wt w (-1), m.hd)).2 = _
    rw [send_worth tv _ _ (by rw [bump_len]; exact hm.wl) (by show m.hd.length = _; have := hm.hl; omega) (fun e he => by
      rw [hends] at he
      have := (hwk.2.2 _ (List.mem_of_getElem? hkm)).2 e he
      omega), hends]
    have : worth tv ws.length c.toNat (bump m.wt w (-1)) m.hd = worth tv ws.length c.toNat m.wt m.hd - tv w := by
      unfold worth
      rw [bump_sm tv hm.wl hw]
      omega
    show worth tv ws.length c.toNat (bump m.wt w (-1)) m.hd + _ = _
    rw [this, stepOwe]
    omega
  have h2 : owTop tv ws (handleM ws m w).st = owTop tv ws m.st + stepOwe tv w ((ws.getD w []).getD k []) - if m.st.getD w 0 + 1 < ((ws.getD w []).length : Int) then 0 else defc tv ws w := by
    unfold owTop
    show sm ws.length (fun i => wheelOwe tv i (ws.getD i []) ((m.st.set w ((m.st.getD w 0 + 1) % ((ws.getD w []).length : Int))).getD i 0).toNat) = _
    rw [sm_upd (f := fun i => wheelOwe tv i (ws.getD i []) (m.st.getD i 0).toNat) hw (fun i hi => by rw [List.getD_eq_getElem?_getD (l := m.st.set w _), List.getElem?_set_ne (Ne.symm hi), ← List.getD_eq_getElem?_getD])]
    have e1 : (m.st.set w ((m.st.getD w 0 + 1) % ((ws.getD w []).length : Int))).getD w 0 = (m.st.getD w 0 + 1) % ((ws.getD w []).length : Int) := by
      rw [List.getD_eq_getElem?_getD, List.getElem?_set_self hst]
      rfl
    rw [e1, hk, Int.toNat_natCast]
    have e2 : wheelOwe tv w (ws.getD w []) (k + 1) = wheelOwe tv w (ws.getD w []) k + stepOwe tv w ((ws.getD w []).getD k []) := sum_snoc _ _ _ _ hkm
    by_cases hlast : (k : Int) + 1 < ((ws.getD w []).length : Int)
    · rw [if_pos hlast, Int.emod_eq_of_lt (by omega) (by omega), show ((k : Int) + 1).toNat = k + 1 by omega, e2]
      omega
    · have hkl' : (k : Int) + 1 = ((ws.getD w []).length : Int) := by omega
      rw [if_neg hlast, hkl', Int.emod_self]
      have e3 : wheelOwe tv w (ws.getD w []) (k + 1) = defc tv ws w := by
        unfold wheelOwe defc
        rw [List.take_of_length_le (by omega), owe_all]
      have e4 : wheelOwe tv w (ws.getD w []) (0 : Int).toNat = 0 := rfl
      rw [e4]
      omega
  unfold Ssum
  rw [h1, h2]
  omega
def tvW (ws : List (List (List Int))) (ls : List (List Int)) : Nat → Int := fun i => if i < ws.length then wtOf ws ls i else 0
theorem defc_w (hb : BoardOk ws c) (hs : solB ws c = some (q, ls)) {w : Nat} (hw : w < ws.length) : defc (tvW ws ls) ws w = q := by
  have hwm : ws.getD w [] ∈ ws := by rw [List.getD_eq_getElem?_getD, List.getElem?_eq_getElem hw]; exact List.getElem_mem hw
  have hwk := hb.wheels _ hwm
  have c0 := hb.c0
  have hW : Wid ws c = ws.length + c.toNat := by unfold Wid; omega
  have e1 := cnt_sum (W := Wid ws c) (tvW ws ls) (ws.getD w []).flatten (fun e he => by
    obtain ⟨s, h1, h2⟩ := List.mem_flatten.mp he
    have := (hwk.2.2 s h1).2 e h2
    omega)
  have e2 : sm (Wid ws c) (fun k => cnt k (ws.getD w []).flatten * tvW ws ls k) = sm ws.length fun j => En ws c w j * wtOf ws ls j := by
    rw [hW, sm_split]
    have z : sm c.toNat (fun j => cnt (ws.length + j) (ws.getD w []).flatten * tvW ws ls (ws.length + j)) = 0 := sm_zero fun j hj => by
      rw [tvW, if_neg (by omega)]
      omega
    rw [z, Int.add_zero]
    refine sm_congr fun j hj => ?_
    rw [tvW, if_pos hj, En_cnt hw (by omega)]
  have e3 := wt_sum hb hs hw
  have e4 : (sm ws.length fun j => rw (tableL ws c) w j * wtOf ws ls j) = ((ws.getD w []).length : Int) * wtOf ws ls w - sm ws.length fun j => En ws c w j * wtOf ws ls j := by
    rw [sm_congr (g := fun j => 1 * ((if w = j then ((ws.getD w []).length : Int) else 0) * wtOf ws ls j) - 1 * (En ws c w j * wtOf ws ls j)) fun j hj => by
      rw [rw_table hw hj]
      unfold Tb
      grind]
    rw [sm_lin, sm_pick (f := fun j => wtOf ws ls j) hw]
    omega
  unfold defc
  rw [e1, e2, tvW, if_pos hw]
  omega
theorem tvW_pos (hb : BoardOk ws c) (hs : solB ws c = some (q, ls)) {w : Nat} (hw : w < ws.length) : 1 ≤ tvW ws ls w := by
  rw [tvW, if_pos hw]
  exact wt_pos hb hs hw
theorem tvW_nn (hb : BoardOk ws c) (hs : solB ws c = some (q, ls)) (w : Nat) : 0 ≤ tvW ws ls w := by
  by_cases hw : w < ws.length
  · have := tvW_pos hb hs hw; omega
  · rw [tvW, if_neg hw]; exact Int.le_refl _
def wB : Int := 6 * 2 ^ 511
theorem tvW_le (hb : BoardOk ws c) (hs : solB ws c = some (q, ls)) (w : Nat) : tvW ws ls w ≤ wB := by
  have h0 : (0 : Int) ≤ wB := by unfold wB; decide +kernel
  by_cases hw : w < ws.length
  · rw [tvW, if_pos hw]
    have hr := (sol_facts hb hs).1
    have hB := (sol_facts hb hs).2.1
    have h1 := sm_bd (f := fun m => rw ls w (ws.length + m)) (B := bdd 6) (n := ws.length) (fun j hj => by
      have hlen : w < ls.length := by rw [hr.len]; exact hw
      have hmem := getT_mem hlen
      have hl := hr.wid _ hmem
      have : ws.length + j < (ls.getD w []).length := by omega
      exact hB _ hmem _ (getD_mem this))
    have h6 := hb.w6
    have h2 : wtOf ws ls w = sm ws.length fun m => rw ls w (ws.length + m) := rfl
    have h3 : ws.length * bdd 6 ≤ 6 * bdd 6 := Nat.mul_le_mul_right _ h6
    rw [bdd6_eq] at h1 h3
    rw [h2]
    have h4 : (sm ws.length fun m => rw ls w (ws.length + m)) ≤ ((6 * 2 ^ 511 : Nat) : Int) := by omega
    have h5 : ((6 * 2 ^ 511 : Nat) : Int) = wB := by unfold wB; decide +kernel
    omega
  · rw [tvW, if_neg hw]; exact h0
end QX
set_option maxRecDepth 100000
set_option maxHeartbeats 1000000
set_option exponentiation.threshold 5000
namespace QX
open PySem PySem.Spec PyProof.Rows L2 HX QX.Det
variable {ws : List (List (List Int))} {c : Int} {m : Mo} {q : Int} {ls : List (List Int)}
def psi (ws : List (List (List Int))) (ls : List (List Int)) (C : Nat) (m : Mo) : Int := 4 * Ssum (tvW ws ls) ws C m - sm ws.length fun i => m.st.getD i 0
theorem psi_handle (hb : BoardOk ws c) (hs : solB ws c = some (q, ls)) (hm : MoF ws c m) {w : Nat} (hw : w < ws.length) : psi ws ls c.toNat (handleM ws m w) + 1 ≤ psi ws ls c.toNat m := by
  have h1 := handle_drops hb hm hw (tvW ws ls)
  rw [defc_w hb hs hw] at h1
  have hq := (sol_facts hb hs).2.2.1
  have hst : w < m.st.length := by rw [hm.sl]; exact hw
  have hwm : ws.getD w [] ∈ ws := by rw [List.getD_eq_getElem?_getD, List.getElem?_eq_getElem hw]; exact List.getElem_mem hw
  have hwk := hb.wheels _ hwm
  obtain ⟨s0, s1⟩ := hm.sr w (m.st.getD w 0) (ws.getD w []) (by rw [List.getD_eq_getElem?_getD, List.getElem?_eq_getElem hst]; rfl) (by rw [List.getD_eq_getElem?_getD, List.getElem?_eq_getElem hw]; rfl)
  have h2 : (sm ws.length fun i => (handleM ws m w).st.getD i 0) = (sm ws.length fun i => m.st.getD i 0) + ((m.st.getD w 0 + 1) % ((ws.getD w []).length : Int) - m.st.getD w 0) := by
    have := sm_upd (f := fun i => m.st.getD i 0) (g := fun i => (handleM ws m w).st.getD i 0) (n := ws.length) hw (fun i hi => gset_ne (Ne.symm hi))
    rw [this]
    have e : (handleM ws m w).st.getD w 0 = (m.st.getD w 0 + 1) % ((ws.getD w []).length : Int) := gset_self hst
    rw [e]
  unfold psi
  rw [h1, h2]
  have l4 := hwk.2.1
  by_cases hlast : m.st.getD w 0 + 1 < ((ws.getD w []).length : Int)
  · rw [if_pos hlast, Int.emod_eq_of_lt (by omega) hlast]
    omega
  · rw [if_neg hlast, show m.st.getD w 0 + 1 = ((ws.getD w []).length : Int) by omega, Int.emod_self]
    omega
theorem sum_ge {B : Int} (f : List Int → Int) : ∀ xs : List (List Int), (∀ x ∈ xs, -B ≤ f x) → -(xs.length * B) ≤ (xs.map f).sum
  | [], _ => by simp
  | x :: xs, h => by
    have h1 := sum_ge f xs fun y hy => h y (by simp [hy])
    have h2 := h x (by simp)
    rw [List.map_cons, List.sum_cons, List.length_cons]
    have : ((xs.length + 1 : Nat) : Int) * B = xs.length * B + B := by rw [Int.natCast_add]; grind
    omega
theorem sum_le' {B : Int} {α : Type} (f : α → Int) : ∀ xs : List α, (∀ x ∈ xs, f x ≤ B) → (xs.map f).sum ≤ xs.length * B
  | [], _ => by simp
  | x :: xs, h => by
    have h1 := sum_le' f xs fun y hy => h y (by simp [hy])
    have h2 := h x (by simp)
    rw [List.map_cons, List.sum_cons, List.length_cons]
    have : ((xs.length + 1 : Nat) : Int) * B = xs.length * B + B := by rw [Int.natCast_add]; grind
    omega
theorem sum_nn {α : Type} (f : α → Int) : ∀ xs : List α, (∀ x ∈ xs, 0 ≤ f x) → 0 ≤ (xs.map f).sum
  | [], _ => by simp
  | x :: xs, h => by
    have h1 := sum_nn f xs fun y hy => h y (by simp [hy])
    have h2 := h x (by simp)
    rw [List.map_cons, List.sum_cons]
    omega
theorem wB_pos : 0 < wB := by unfold wB; decide +kernel
theorem stepOwe_bd (hb : BoardOk ws c) (hs : solB ws c = some (q, ls)) {w : Nat} {s : List Int} (h3 : s.length ≤ 3) : -(3 * wB) ≤ stepOwe (tvW ws ls) w s ∧ stepOwe (tvW ws ls) w s ≤ wB := by
  have h1 := sum_le' (B := wB) (fun e : Int => tvW ws ls e.toNat) s fun x _ => tvW_le hb hs _
  have h2 := sum_nn (fun e : Int => tvW ws ls e.toNat) s fun x _ => tvW_nn hb hs _
  have h4 := tvW_nn hb hs w
  have h5 := tvW_le hb hs w
  have h6 := wB_pos
  have h7 : (s.length : Int) * wB ≤ 3 * wB := Int.mul_le_mul_of_nonneg_right (by omega) (by omega)
  unfold stepOwe
  omega
theorem wheelOwe_bd (hb : BoardOk ws c) (hs : solB ws c = some (q, ls)) {i k : Nat} {w : List (List Int)} (hw : WheelOk ((ws.length : Int) + c) w) : -(12 * wB) ≤ wheelOwe (tvW ws ls) i w k ∧ wheelOwe (tvW ws ls) i w k ≤ 4 * wB := by
  have h6 := wB_pos
  have hl : ((w.take k).length : Int) ≤ 4 := by
    have := hw.2.1
    rw [List.length_take]
    omega
  have hmem : ∀ s ∈ w.take k, s.length ≤ 3 := fun s hs => (hw.2.2 s (List.mem_of_mem_take hs)).1
  have h1 := sum_ge (B := 3 * wB) (stepOwe (tvW ws ls) i) (w.take k) fun s h => (stepOwe_bd hb hs (hmem s h)).1
  have h2 := sum_le' (B := wB) (stepOwe (tvW ws ls) i) (w.take k) fun s h => (stepOwe_bd hb hs (hmem s h)).2
  have h3 : ((w.take k).length : Int) * (3 * wB) ≤ 4 * (3 * wB) := Int.mul_le_mul_of_nonneg_right hl (by omega)
  have h4 : ((w.take k).length : Int) * wB ≤ 4 * wB := Int.mul_le_mul_of_nonneg_right hl (by omega)
  unfold wheelOwe
  omega
theorem sm_ge {f : Nat → Int} {B : Int} : ∀ {n : Nat}, (∀ j, j < n → -B ≤ f j) → -(n * B) ≤ sm n f
  | 0, _ => by simp [sm]
  | n + 1, h => by
    have h1 := sm_ge (f := f) (n := n) fun j hj => h j (by omega)
    have h2 := h n (by omega)
    have : ((n + 1 : Nat) : Int) * B = n * B + B := by rw [Int.natCast_add]; grind
    show -(((n + 1 : Nat) : Int) * B) ≤ sm n f + f n
    omega
theorem sm_leB {f : Nat → Int} {B : Int} : ∀ {n : Nat}, (∀ j, j < n → f j ≤ B) → sm n f ≤ n * B
  | 0, _ => by simp [sm]
  | n + 1, h => by
    have h1 := sm_leB (f := f) (n := n) fun j hj => h j (by omega)
    have h2 := h n (by omega)
    have : ((n + 1 : Nat) : Int) * B = n * B + B := by rw [Int.natCast_add]; grind
    show sm n f + f n ≤ ((n + 1 : Nat) : Int) * B
    omega
theorem owTop_w (hb : BoardOk ws c) (hs : solB ws c = some (q, ls)) (st : List Int) : -(72 * wB) ≤ owTop (tvW ws ls) ws st ∧ owTop (tvW ws ls) ws st ≤ 24 * wB := by
  have h6 := wB_pos
  have w6 := hb.w6
  have hw : ∀ i, i < ws.length → WheelOk ((ws.length : Int) + c) (ws.getD i []) := fun i hi => hb.wheels _ (by rw [List.getD_eq_getElem?_getD, List.getElem?_eq_getElem hi]; exact List.getElem_mem hi)
  have h1 := sm_ge (n := ws.length) (B := 12 * wB) (f := fun i => wheelOwe (tvW ws ls) i (ws.getD i []) (st.getD i 0).toNat) fun i hi => (wheelOwe_bd hb hs (hw i hi)).1
  have h2 := sm_leB (n := ws.length) (B := 4 * wB) (f := fun i => wheelOwe (tvW ws ls) i (ws.getD i []) (st.getD i 0).toNat) fun i hi => (wheelOwe_bd hb hs (hw i hi)).2
  have h3 : (ws.length : Int) * (12 * wB) ≤ 6 * (12 * wB) := Int.mul_le_mul_of_nonneg_right (by omega) (by omega)
  have h4 : (ws.length : Int) * (4 * wB) ≤ 6 * (4 * wB) := Int.mul_le_mul_of_nonneg_right (by omega) (by omega)
  unfold owTop
  omega
theorem worth_w (hb : BoardOk ws c) (hs : solB ws c = some (q, ls)) (C : Nat) (hm : MoOk ws c m) : 0 ≤ worth (tvW ws ls) ws.length C m.wt m.hd ∧ ∀ u, u < ws.length → m.wt.getD u 0 ≤ worth (tvW ws ls) ws.length C m.wt m.hd := by
  have z : sm C (fun k => m.hd.getD k 0 * tvW ws ls (ws.length + k)) = 0 := sm_zero fun k hk => by rw [tvW, if_neg (by omega), Int.mul_zero]
  have nn : ∀ j, j < ws.length → 0 ≤ m.wt.getD j 0 * tvW ws ls j := fun j hj => Int.mul_nonneg (getD_nn hm.wn) (tvW_nn hb hs j)
  have h1 := sm_nonneg (f := fun j => m.wt.getD j 0 * tvW ws ls j) (n := ws.length) nn
  unfold worth
  rw [z, Int.add_zero]
  refine ⟨h1, fun u hu => ?_⟩
  have h2 : m.wt.getD u 0 * tvW ws ls u ≤ sm ws.length fun j => m.wt.getD j 0 * tvW ws ls j := by
    have h3 := sm_le (f := fun j => if u = j then m.wt.getD u 0 * tvW ws ls u else 0) (g := fun j => m.wt.getD j 0 * tvW ws ls j) (n := ws.length) fun j hj => by
      by_cases z : u = j
      · subst z; rw [if_pos rfl]; exact Int.le_refl _
      · rw [if_neg z]; exact nn j hj
    have h4 := sm_pick (c := m.wt.getD u 0 * tvW ws ls u) (f := fun _ => 1) hu
    rw [sm_congr (g := fun j => if u = j then m.wt.getD u 0 * tvW ws ls u else 0) fun j _ => by rw [Int.mul_one], Int.mul_one] at h4
    omega
  have h5 : m.wt.getD u 0 * 1 ≤ m.wt.getD u 0 * tvW ws ls u := Int.mul_le_mul_of_nonneg_left (tvW_pos hb hs hu) (getD_nn hm.wn)
  omega
theorem st_bd (hb : BoardOk ws c) (hm : MoF ws c m) : 0 ≤ (sm ws.length fun i => m.st.getD i 0) ∧ (sm ws.length fun i => m.st.getD i 0) ≤ 18 := by
  have w6 := hb.w6
  have h : ∀ i, i < ws.length → 0 ≤ m.st.getD i 0 ∧ m.st.getD i 0 ≤ 3 := fun i hi => by
    have hst : i < m.st.length := by rw [hm.sl]; exact hi
    have hwm : ws.getD i [] ∈ ws := by rw [List.getD_eq_getElem?_getD, List.getElem?_eq_getElem hi]; exact List.getElem_mem hi
    obtain ⟨s0, s1⟩ := hm.sr i (m.st.getD i 0) (ws.getD i []) (by rw [List.getD_eq_getElem?_getD, List.getElem?_eq_getElem hst]; rfl) (by rw [List.getD_eq_getElem?_getD, List.getElem?_eq_getElem hi]; rfl)
    have := (hb.wheels _ hwm).2.1
    omega
  have h1 := sm_nonneg (f := fun i => m.st.getD i 0) (n := ws.length) fun i hi => (h i hi).1
  have h2 := sm_leB (f := fun i => m.st.getD i 0) (B := 3) (n := ws.length) fun i hi => (h i hi).2
  omega
theorem psi_ge (hb : BoardOk ws c) (hs : solB ws c = some (q, ls)) (hm : MoOk ws c m) : -(288 * wB + 18) ≤ psi ws ls c.toNat m := by
  have h1 := owTop_w hb hs m.st
  have h2 := (worth_w hb hs c.toNat hm).1
  have h3 := st_bd hb hm.toMoF
  unfold psi Ssum
  omega
theorem rests_ex (hb : BoardOk ws c) (hs : solB ws c = some (q, ls)) : ∀ (k : Nat) (m : Mo), MoOk ws c m → psi ws ls c.toNat m + (288 * wB + 18) ≤ k → ∃ row, Rest ws m row
  | 0, m, hm, h => by
    refine ⟨[], trivial, fun u hu => ?_⟩
    rw [runM_nil]
    have h0 : 0 ≤ m.wt.getD u 0 := getD_nn hm.wn
    by_cases hp : 0 < m.wt.getD u 0
    · have h1 := psi_handle hb hs hm.toMoF hu
      have h2 := psi_ge hb hs (hm.handle (fun x hx => (hb.wheels x hx).1) hp)
      omega
    · omega
  | k + 1, m, hm, h => by
    by_cases hz : ∀ u, u < ws.length → m.wt.getD u 0 = 0
    · exact ⟨[], trivial, hz⟩
    · obtain ⟨u, hu⟩ := Classical.not_forall.mp hz
      obtain ⟨hu, hn⟩ := Classical.not_imp.mp hu
      have h0 : 0 ≤ m.wt.getD u 0 := getD_nn hm.wn
      have hp : 0 < m.wt.getD u 0 := by omega
      have hm' := hm.handle (fun x hx => (hb.wheels x hx).1) hp
      have h1 := psi_handle hb hs hm.toMoF hu
      obtain ⟨row, r1, r2⟩ := rests_ex hb hs k _ hm' (by omega)
      exact ⟨u :: row, ⟨hu, hp, r1⟩, r2⟩
theorem rests (hb : BoardOk ws c) (hs : solB ws c = some (q, ls)) (hm : MoOk ws c m) : ∃ row, Rest ws m row := rests_ex hb hs (psi ws ls c.toNat m + (288 * wB + 18)).toNat m hm (by have := psi_ge hb hs hm; omega)
end QX
set_option maxRecDepth 100000
set_option maxHeartbeats 1000000
namespace QX
open PySem PySem.Spec PyProof.Rows L2 HX QX.Det
variable {ws : List (List (List Int))} {c : Int} {m : Mo}
end QX
set_option maxRecDepth 100000
set_option maxHeartbeats 1000000
namespace QX
open PySem
/- first_reached -/
/- turn_on -/
/- gone_down -/
/- are_drops -/
/- dropped -/
end QX
set_option maxRecDepth 100000
set_option maxHeartbeats 1000000
set_option exponentiation.threshold 5000
namespace QX
open PySem PySem.Spec PyProof PyProof.Rows L2 HX QX.Det
variable {A g M : Mem} {σ : Sa} {ws : List (List (List Int))} {c : Int} {m : Mo}
end QX
set_option maxRecDepth 100000
set_option maxHeartbeats 1000000
set_option exponentiation.threshold 5000
namespace QX
open PySem PySem.Spec PyProof PyProof.Rows L2 HX QX.Det
variable {A g M : Mem} {σ : Sa} {ws : List (List (List Int))} {c : Int} {m : Mo} {q : Int} {ls : List (List Int)}
structure GdOk (ws : List (List (List Int))) (c : Int) (q : Int) (ls : List (List Int)) (T : Int) (m : Mo) : Prop where
  hb : BoardOk ws c
  so : solB ws c = some (q, ls)
  t0 : 0 ≤ T
  t1 : T ≤ 2 ^ 600
  ok : MoOk ws c m
  few : ∀ x ∈ m.wt, x ≤ T
end QX
set_option maxRecDepth 100000
set_option maxHeartbeats 1000000
set_option exponentiation.threshold 5000
namespace QX
open PySem PySem.Spec PyProof PyProof.Rows L2 HX QX.Det
variable {A g M : Mem} {σ : Sa} {ws : List (List (List Int))} {c : Int} {m : Mo} {q : Int} {ls : List (List Int)}
end QX
set_option maxRecDepth 100000
set_option maxHeartbeats 1000000
namespace QX
open PySem PySem.Spec PyProof PyProof.Rows L2 HX QX.Det
variable {M : Mem} {p k : Nat} {x : Cell} {σ : Sa} {ws : List (List (List Int))} {c : Int}
theorem LK.lst' {ds : List D} {h : Nat} (hd : ∀ d ∈ ds, LK d h) : LK (.lst ds) (h + 1) := by
  obtain ⟨qs, h1, h2, h3, h4⟩ := lk_all ds hd
  exact ⟨.list qs, by simp [D.py, h1], by simpa [PyData.canLay0] using h2, by simp [PyData.depth]; omega, by simpa [PyData.eqv] using h4⟩
end QX
set_option maxRecDepth 100000
set_option maxHeartbeats 1000000
namespace QX
open PySem PySem.Spec PyProof PyProof.Rows L2 HX QX.Det
variable {M : Mem} {p k : Nat} {x : Cell} {σ : Sa} {ws ws1 ws2 : List (List (List Int))} {c : Int} {d e : D}
def u0_it : F Ita := (fIt gRange1 (fCons (fCall gMax2 (fCons (fC (.int 1)) (fCons (fCall gMin2 (fCons (fCall gLen (fCons (fVar 0) fNil)) (fCons (fC (.int 3)) fNil))) fNil))) fNil))
def u0_0 : FS := (sSet 2 (fCall m_law_pen_579b16 (fCons (fCall m_law_cell_at_e50a56 (fCons (fVar 0) (fCons (fVar 1) fNil))) fNil)))
def u0_1 : FS := (sAsg (fTup (fCons (fCall m_law_any_board_7df546 (fCons (fVar 2) (fCons (fC (.int 3)) (fCons (fC (.int 4)) fNil)))) (fCons (fCall m_law_any_board_7df546 (fCons (fVar 2) (fCons (fC (.int 3)) (fCons (fC (.int 3)) fNil)))) fNil))) (.tup [3, 4]))
def u0_2 : FS := (sPar 5 6 (fCons (fCall gRepr (fCons (fTup (fCons (fVar 3) (fCons (fVar 4) fNil))) fNil)) (fCons (fBin gMul (fTup (fCons (fC .non) fNil)) (fBin gIx (fVar 3) (fC (.int 1)))) fNil)))
def u0_3_it : F Ita := (fIter (fCall m_law_no_boards_761223 (fCons (fVar 3) fNil)))
def u0_3_0 : FS := (sSet 8 (fNew (fCons (fSaidM [0, 10] (fCall m_joined_f7b97f (fCons (fVar 7) (fCons (fC .non) (fCons (fC .non) fNil))))) fNil)))
def u0_3_1 : FS := (sExpr (fMeth gAppend (fVar 8) (fCons (fSaidM [0, 10] (fCall m_joined_f7b97f (fCons (fVar 3) (fCons (fVar 7) (fCons (fC .non) fNil))))) fNil)))
def u0_3_2 : FS := (sIf (fTest (fBin (gEq true) (fVar 8) (fBin gMul (fLst (fCons (fTup (fCons (fC (.str "board")) fNil)) fNil)) (fC (.int 2))))) (sRet (fC (.bl false))) sNext)
def u0_3_b : FS := (sSeq u0_3_0 (sSeq u0_3_1 u0_3_2))
def u0_3 : FS := sFor (u0_3_it) (.name 7) (u0_3_b)
def u0_4 : FS := (sSet 9 (fLst (fCons (fC .non) (fCons (fCall gList (fCons (fVar 6) fNil)) (fCons (fBin gAdd (fVar 6) (fTup (fCons (fC .non) fNil))) (fCons (fC (.int 7)) (fCons (fC (.dct [] [])) (fCons (fC (.str "links")) (fCons (fBin gAdd (fTup (fCons (fCall gLen (fCons (fBin gIx (fVar 4) (fC (.int 0))) fNil)) fNil)) (fSl (fVar 6) (fPart (fC (.int 1))) fNoPart)) (fCons (fBin gAdd (fTup (fCons (fUn gNeg (fC (.int 1))) fNil)) (fSl (fVar 6) (fPart (fC (.int 1))) fNoPart)) fNil))))))))))
def u0_5 : FS := (sSet 9 (fBin gAdd (fVar 9) (fLst (fCons (fBin gAdd (fTup (fCons (fC (.bl true)) fNil)) (fSl (fVar 6) (fPart (fC (.int 1))) fNoPart)) (fCons (fBin gAdd (fTup (fCons (fC (.str "0")) fNil)) (fSl (fVar 6) (fPart (fC (.int 1))) fNoPart)) (fCons (fBin gAdd (fTup (fCons (fTup (fCons (fC (.int 0)) fNil)) fNil)) (fSl (fVar 6) (fPart (fC (.int 1))) fNoPart)) (fCons (fBin gAdd (fVar 6) (fTup (fCons (fC (.int 0)) fNil))) fNil)))))))
def u0_6_it : F Ita := (fIter (fBin gAdd (fVar 9) (fBin gMul (fLst (fCons (fSl (fVar 6) (fPart (fC (.int 1))) fNoPart) fNil)) (fCall gInt (fCons (fBin (gCmp cGt) (fBin gIx (fVar 3) (fC (.int 1))) (fC (.int 0))) fNil)))))
def u0_6_0 : FS := (sIf (fTest (fBin (gEq true) (fSaidM [0, 10] (fCall m_joined_f7b97f (fCons (fVar 3) (fCons (fVar 4) (fCons (fVar 7) fNil))))) (fTup (fCons (fC (.str "links")) fNil)))) (sRet (fC (.bl false))) sNext)
def u0_6_b : FS := u0_6_0
def u0_6 : FS := sFor (u0_6_it) (.name 7) (u0_6_b)
def u0_7 : FS := (sSet 10 (fTup (fCons (fTup (fCons (fTup fNil) fNil)) fNil)))
def u0_8_it : F Ita := (fIter (fLst (fCons (fTup (fCons (fC (.int 6)) (fCons (fC (.int 1)) fNil))) (fCons (fTup (fCons (fC (.int 3)) (fCons (fC (.int 4)) fNil))) (fCons (fTup (fCons (fC (.int 1)) (fCons (fC (.int 6)) fNil))) (fCons (fTup (fCons (fC (.int 6)) (fCons (fC (.int 6)) fNil))) (fCons (fTup (fCons (fC (.int 3)) (fCons (fC (.int 3)) fNil))) (fCons (fTup (fCons (fC (.int 5)) (fCons (fC (.int 1)) fNil))) fNil))))))))
def u0_8_0 : FS := (sSet 13 (fIf (fTest (fBin (gCmp cGt) (fBin gAdd (fVar 11) (fVar 12)) (fC (.int 6)))) (fTup (fCons (fC (.str "many")) (fCons (fBin gAdd (fVar 11) (fVar 12)) (fCons (fC (.int 6)) fNil)))) (fTup (fCons (fC (.str "told")) (fCons (fTup (fCons (fBin gMul (fVar 10) (fBin gAdd (fVar 11) (fVar 12))) (fCons (fC (.int 4)) fNil))) fNil)))))
def u0_8_1 : FS := (sIf (fTest (fBin (gEq true) (fSaidM [0, 10] (fCall m_joined_f7b97f (fCons (fTup (fCons (fBin gMul (fVar 10) (fVar 11)) (fCons (fC (.int 2)) fNil))) (fCons (fTup (fCons (fBin gMul (fVar 10) (fVar 12)) (fCons (fC (.int 2)) fNil))) (fCons (fTup (fCons (fC .non) (fCons (fC .non) fNil))) fNil))))) (fVar 13))) (sRet (fC (.bl false))) sNext)
def u0_8_b : FS := (sSeq u0_8_0 u0_8_1)
def u0_8 : FS := sFor (u0_8_it) (.tup [11, 12]) (u0_8_b)
def u0_9_it : F Ita := (fIter (fLst (fCons (fBin gMul (fTup (fCons (fC .non) fNil)) (fC (.int 4))) (fCons (fTup (fCons (fC .non) (fCons (fC .non) (fCons (fC .non) (fCons (fC (.int 0)) fNil))))) (fCons (fTup (fCons (fC (.int 0)) (fCons (fC .non) (fCons (fC .non) (fCons (fC .non) fNil))))) (fCons (fTup (fCons (fC .non) (fCons (fC (.int 0)) (fCons (fC .non) (fCons (fC (.int 0)) fNil))))) (fCons (fBin gMul (fTup (fCons (fC (.int 0)) fNil)) (fC (.int 4))) fNil)))))))
def u0_9_0 : FS := (sSet 15 (fBin gAdd (fCountT (fVar 14) (fCons (fC .non) fNil)) (fC (.int 2))))
def u0_9_1 : FS := (sSet 13 (fIf (fTest (fBin (gCmp cGt) (fVar 15) (fC (.int 4)))) (fTup (fCons (fC (.str "many")) (fCons (fVar 15) (fCons (fC (.int 4)) fNil)))) (fTup (fCons (fC (.str "told")) (fCons (fTup (fCons (fBin gMul (fVar 10) (fC (.int 2))) (fCons (fVar 15) fNil))) fNil)))))
def u0_9_2 : FS := (sIf (fTest (fBin (gEq true) (fSaidM [0, 10] (fCall m_joined_f7b97f (fCons (fTup (fCons (fVar 10) (fCons (fC (.int 4)) fNil))) (fCons (fTup (fCons (fVar 10) (fCons (fC (.int 2)) fNil))) (fCons (fVar 14) fNil))))) (fVar 13))) (sRet (fC (.bl false))) sNext)
def u0_9_b : FS := (sSeq u0_9_0 (sSeq u0_9_1 u0_9_2))
def u0_9 : FS := sFor (u0_9_it) (.name 14) (u0_9_b)
def u0_10 : FS := (sIf (fTest (fBin (gEq true) (fSaidM [0, 10] (fCall m_joined_f7b97f (fCons (fTup (fCons (fBin gMul (fVar 10) (fC (.int 6))) (fCons (fC (.int 4)) fNil))) (fCons (fTup (fCons (fVar 10) (fCons (fC (.int 4)) fNil))) (fCons (fBin gMul (fTup (fCons (fC .non) fNil)) (fC (.int 4))) fNil))))) (fTup (fCons (fC (.str "many")) (fCons (fC (.int 7)) (fCons (fC (.int 6)) fNil)))))) (sRet (fC (.bl false))) sNext)
def u0_11 : FS := (sIf (fTest (fBin (gEq true) (fCall gRepr (fCons (fTup (fCons (fVar 3) (fCons (fVar 4) fNil))) fNil)) (fVar 5))) (sRet (fC (.bl false))) sNext)
def u0_b : FS := (sSeq u0_0 (sSeq u0_1 (sSeq u0_2 (sSeq u0_3 (sSeq u0_4 (sSeq u0_5 (sSeq u0_6 (sSeq u0_7 (sSeq u0_8 (sSeq u0_9 (sSeq u0_10 u0_11)))))))))))
def u0 : FS := sFor (u0_it) (.name 1) (u0_b)
def u1 : FS := (sRet (fC (.bl true)))
theorem u_body : b_law_b8079b = (sSeq u0 u1) := rfl
def Wn (n : Nat) : List (List (List Int)) := List.replicate n [[]]
theorem Wn_len (n : Nat) : (Wn n).length = n := List.length_replicate
theorem Wn_ok {n : Nat} {c : Int} (h1 : 1 ≤ n) (h6 : n ≤ 6) (c0 : 0 ≤ c) (c4 : c ≤ 4) : BoardOk (Wn n) c :=
  ⟨by rw [Wn_len]; exact h1, by rw [Wn_len]; exact h6, c0, c4, fun w hw => by rw [List.eq_of_mem_replicate hw]; simp [WheelOk, EndsOk]⟩
theorem Wn_join (a b : Nat) (ls : List (Option Int)) (c : Nat) : joinW (Wn a) (Wn b) ls c = Wn (a + b) := by
  unfold joinW renumW Wn
  rw [List.map_replicate, List.map_replicate]
  exact List.replicate_append_replicate
theorem Wn_mul {n : Nat} (h : n ≤ 1000) : gMul (wheelsT [[[]]]) (.int (n : Int)) M = .ok (wheelsT (Wn n)) M := by
  have h1 : decide (-1000 ≤ (n : Int)) = true := by rw [decide_eq_true_eq]; omega
  have h2 : decide ((n : Int) ≤ 1000) = true := by rw [decide_eq_true_eq]; omega
  unfold wheelsT Wn
  rw [gMul_tup, if_pos (by simp only [thou, h1, h2]; rfl), Int.toNat_natCast, List.map_replicate]
  congr 2
  exact List.flatten_replicate_singleton
theorem LK.tup1 {a : D} {h : Nat} (ha : LK a h) : LK (.tup [a]) (h + 1) := LK.tup fun d hd => by rw [List.mem_singleton.mp hd]; exact ha
theorem LK.manyT (i j : Int) : LK (.tup [.str "many", .int i, .int j]) 1 := LK.tup fun d hd => by
  simp only [List.mem_cons, List.not_mem_nil, or_false] at hd
  rcases hd with rfl | rfl | rfl
  · exact LK.str (by decide +kernel)
  · exact LK.int
  · exact LK.int
theorem LK.toldB (ws : List (List (List Int))) (c : Int) : LK (.tup [.str "told", boardT ws c]) 5 := LK.tup fun d hd => by
  simp only [List.mem_cons, List.not_mem_nil, or_false] at hd
  rcases hd with rfl | rfl
  · exact (LK.str (by decide +kernel)).less (by omega)
  · exact LK.board ws c
theorem said_many (i j : Int) : saidRM [0, 10] (.exc 20 (fsMany i j) M) = .ok (.tup [.str "many", .int i, .int j]) M := rfl
theorem same_pass {fa fb : F D} {d : D} {h : Nat} {s1 : FS} (e : LK d h) (hh : h ≤ 60) (ha : fa σ M = .ok d M) (hb : fb σ M = .ok d M) : sIf (fTest (fBin (gEq true) fa fb)) s1 sNext σ M = .ok (.nx σ) M :=
  pass9 (test_ev ((bin_ev ha hb).trans (same_eq e hh)))
def bb : List D := [.tup [.str "board"], .tup [.str "board"]]
theorem bb_same : gEq true (.ref M.length) (.lst bb) (M ++ [.lst bb]) = .ok (.bl false) (M ++ [.lst bb]) := by
  have e1 : toPy (M ++ [Cell.lst bb]) (.ref M.length) = D.py (.lst bb) := by
    show (match (M ++ [Cell.lst bb])[M.length]? with | some (.lst ds) => (match D.pyA ds with | some ps => some (PyData.list ps) | none => none) | _ => none) = _
    rw [last_at rfl]
    rfl
  obtain ⟨q, a, b, g, h⟩ := (LK.lst' (ds := bb) (h := 1) (fun d hd => by
    simp only [bb, List.mem_cons, List.not_mem_nil, or_false] at hd
    rcases hd with rfl | rfl <;> exact LK.tup1 (LK.str (by decide +kernel)))).py (M := M ++ [Cell.lst bb]) (by decide)
  unfold gEq
  rw [e1, b, a]
  dsimp only
  rw [g, Bool.and_self, if_pos rfl, h]
  rfl
abbrev l50 (ns : List Int) (t : Str) (ws1 : List (List (List Int))) (c1 : Nat) (ws2 : List (List (List Int))) (c2 : Nat) : List (Nat × D) := [(0, .scr ns), (2, .ref 0), (3, boardT ws1 (c1 : Nat)), (4, boardT ws2 (c2 : Nat)), (5, .str t), (6, .tup (List.replicate c1 .non))]
section
variable {ns : List Int} {t : Str} {c1 c2 : Nat} {l : List (Nat × D)}
theorem u3_eq {y : Cell} (hw : Wf [y]) (b1 : BoardOk ws1 c1) (hs : Has σ 16 (l50 ns t ws1 c1 ws2 c2)) : ∃ σ', u0_3 σ [y] = .ok (.nx σ') [y] ∧ Has σ' 16 (l50 ns t ws1 c1 ws2 c2) := by
  have hit : u0_3_it σ [y] = .ok ⟨(noBoards ws1 c1).map Im.d, fun _ => true⟩ [y] := by
    unfold u0_3_it
    rw [ev_iter, (call1_ev (a := boardT ws1 c1) (var_ev (hs.at (by simp)))).trans (m_no_boards_eq b1), bind_ok, gIter_lst]
  obtain ⟨σ', M', f, rfl, hs'⟩ := for_items (b := u0_3_b) (n := 1) (i := 7) (σ := σ) (M := [y]) (ds := noBoards ws1 c1) (fun _ σ N => N = [y] ∧ Has σ 16 (l50 ns t ws1 c1 ws2 c2)) ⟨rfl, hs⟩ (fun i σ N d hd hv => by
    obtain ⟨rfl, hs⟩ := hv
    obtain ⟨g1, g2⟩ := noBoards_bad b1 d (List.mem_of_getElem? hd)
    have g3 := noBoards_und (ws := ws1) (c := (c1 : Nat)) d (List.mem_of_getElem? hd)
    have hs7 : Has (σ.set 7 (some d)) 16 ((7, d) :: l50 ns t ws1 c1 ws2 c2) := hs.put (by decide) (by simp)
    generalize σ.set 7 (some d) = σ1 at hs7
    have w1 : Wf ([y] ++ [Cell.lst [.tup [.str "board"]]]) := hw.push (by rfl)
    have e1 : u0_3_0 σ1 [y] = .ok (.nx (σ1.set 8 (some (.ref [y].length)))) ([y] ++ [.lst [.tup [.str "board"]]]) := by
      unfold u0_3_0
      have : fSaidM [0, 10] (fCall m_joined_f7b97f (fCons (fVar 7) (fCons (fC .non) (fCons (fC .non) fNil)))) σ1 [y] = .ok (.tup [.str "board"]) [y] := by
        rw [saidM_ev, call3_ev (a := d) (b := .non) (c := .non) (var_ev (hs7.at (by simp))) rfl rfl, joined_bad1 hw g1 g2]
        rfl
      rw [ev_set, ev_new, ev_cons, this, bind_ok, ev_nil, bind_ok, bind_ok, if_pos (by rfl), bindS_ok]
    have hs8 : Has (σ1.set 8 (some (.ref [y].length))) 16 ((8, .ref [y].length) :: (7, d) :: l50 ns t ws1 c1 ws2 c2) := hs7.put (by decide) (by simp)
    generalize σ1.set 8 (some (D.ref [y].length)) = σ2 at e1 hs8
    have e2 : u0_3_1 σ2 ([y] ++ [.lst [.tup [.str "board"]]]) = .ok (.nx σ2) ([y] ++ [.lst bb]) := by
      refine meth_last (es := [.tup [.str "board"]]) (d := .tup [.str "board"]) (hs8.at (by simp)) ?_ (by decide)
      rw [saidM_ev, call3_ev (a := boardT ws1 c1) (b := d) (c := .non) (var_ev (hs8.at (by simp))) (var_ev (hs8.at (by simp))) rfl, joined_bad2 w1 b1 g1 g2]
      rfl
    have e3 : u0_3_2 σ2 ([y] ++ [.lst bb]) = .ok (.nx σ2) ([y] ++ [.lst bb]) := pass9 (test_ev ((bin_ev (a := .ref [y].length) (b := .lst bb) (var_ev (hs8.at (by simp))) rfl).trans bb_same))
    refine ⟨_, _, .inl ((seq_nx e1).trans ((seq_nx e2).trans e3)), ?_⟩
    rw [gc_app (n := 1) rfl hw (by simp)]
    refine ⟨rfl, (hs8.sub (l' := l50 ns t ws1 c1 ws2 c2) (by simp)).keep ?_⟩
    intro q hq
    simp only [List.mem_cons, List.not_mem_nil, or_false] at hq
    rcases hq with rfl | rfl | rfl | rfl | rfl | rfl
    · rfl
    · rfl
    · exact und_board _ _
    · exact und_board _ _
    · rfl
    · show D.undA _ _ = true
      rw [← List.map_replicate (f := fun _ : Unit => D.non) (a := ()) (n := c1)]
      exact undA_map (fun _ => rfl) _)
  exact ⟨σ', for_of hit f, hs'⟩
def nt (c1 : Nat) : List D := List.replicate c1 .non
def badsA (c1 w2 : Nat) : List D := [.non, .lst (nt c1), .tup (nt c1 ++ [.non]), .int 7, .dct [] [], .str "links", .tup (.int (w2 : Int) :: (nt c1).drop 1), .tup (.int (-1) :: (nt c1).drop 1)]
def badsB (c1 : Nat) : List D := [.tup (.bl true :: (nt c1).drop 1), .tup (.str "0" :: (nt c1).drop 1), .tup (.tup [.int 0] :: (nt c1).drop 1), .tup (nt c1 ++ [.int 0])]
def badsC (c1 : Nat) : List D := if 0 < c1 then [.tup ((nt c1).drop 1)] else []
theorem nt_dok (n : Nat) : D.dokA (nt n) = true := by
  rw [dokA_iff]
  intro d hd
  rw [List.eq_of_mem_replicate hd]
  rfl
theorem nt_drop (n : Nat) : (nt n).drop 1 = nt (n - 1) := by unfold nt; rw [List.drop_replicate]
theorem linksB_len {c n : Int} {ds : List D} (h : (ds.length : Int) ≠ c) : linksB c n (.tup ds) = false := by
  have : partsB c c (.tup ds) = false := by
    simp only [partsB, Bool.and_eq_false_iff, decide_eq_false_iff_not]
    omega
  show (partsB c c (.tup ds) && ds.all (linkB n)) = false
  rw [this, Bool.false_and]
theorem linksB_head {c n : Int} {u : D} {ds : List D} (h : linkB n u = false) : linksB c n (.tup (u :: ds)) = false := by
  show (partsB c c (.tup (u :: ds)) && (u :: ds).all (linkB n)) = false
  rw [List.all_cons, h, Bool.false_and, Bool.and_false]
theorem bads_bad {c1 w2 : Nat} : ∀ d ∈ badsA c1 w2 ++ badsB c1 ++ badsC c1, d.dok = true ∧ linksB (c1 : Nat) w2 d = false := by
  have hA := nt_dok c1
  have hD := nt_dok (c1 - 1)
  have hl : (nt c1).length = c1 := List.length_replicate
  have hld : (nt (c1 - 1)).length = c1 - 1 := List.length_replicate
  intro d hd
  simp only [badsA, badsB, nt_drop, List.mem_append, List.mem_cons, List.not_mem_nil, or_false] at hd
  rcases hd with ((rfl | rfl | rfl | rfl | rfl | rfl | rfl | rfl) | (rfl | rfl | rfl | rfl)) | hd
  · exact ⟨rfl, rfl⟩
  · exact ⟨hA, rfl⟩
  · exact ⟨dokA_app hA rfl, linksB_len (by rw [List.length_append, hl, List.length_singleton]; omega)⟩
  · exact ⟨rfl, rfl⟩
  · exact ⟨rfl, rfl⟩
  · exact ⟨rfl, rfl⟩
  · exact ⟨by simpa [D.dok, D.dokA] using hD, linksB_head (by simp [linkB, inB]; omega)⟩
  · exact ⟨by simpa [D.dok, D.dokA] using hD, linksB_head (by simp [linkB, inB])⟩
  · exact ⟨by simpa [D.dok, D.dokA] using hD, linksB_head rfl⟩
  · exact ⟨by simpa [D.dok, D.dokA] using hD, linksB_head rfl⟩
  · exact ⟨by simpa [D.dok, D.dokA] using hD, linksB_head rfl⟩
  · exact ⟨dokA_app hA rfl, linksB_len (by rw [List.length_append, hl, List.length_singleton]; omega)⟩
  · unfold badsC at hd
    split at hd
    · rename_i hc
      rw [List.mem_singleton.mp hd, nt_drop]
      exact ⟨hD, linksB_len (by rw [hld]; omega)⟩
    · cases hd
theorem u4_eq {w4 : D} (h4 : w4 = boardT ws2 c2) (hs : Has σ 16 (l50 ns t ws1 c1 ws2 c2)) (hc : c1 ≤ 4) : ∃ σ', u0_4 σ M = .ok (.nx σ') M ∧ Has σ' 16 ((9, .lst (badsA c1 ws2.length)) :: l50 ns t ws1 c1 ws2 c2) := by
  have hl : (nt c1).length = c1 := List.length_replicate
  have hld : (nt (c1 - 1)).length = c1 - 1 := List.length_replicate
  have v6 : σ[6]? = some (some (.tup (nt c1))) := hs.at (by simp [nt])
  have hd : fSl (fVar 6) (fPart (fC (.int 1))) fNoPart σ M = .ok (.tup ((nt c1).drop 1)) M := sl_drop (k := 1) (var_ev v6) rfl
  refine ⟨_, set_ev (lst_ev' (ds := badsA c1 ws2.length) ?_ rfl), hs.put (by decide) (by simp)⟩
  refine cons_ev' rfl (cons_ev' ?_ (cons_ev' ?_ (cons_ev' rfl (cons_ev' rfl (cons_ev' rfl (cons_ev' ?_ (cons_ev' ?_ rfl)))))))
  · exact (call1_ev (a := .tup (nt c1)) (var_ev v6)).trans rfl
  · exact (bin_ev (a := .tup (nt c1)) (b := .tup [.non]) (var_ev v6) rfl).trans (addT (by rw [hl]; simp; omega))
  · refine (bin_ev (a := .tup [.int (ws2.length : Int)]) (tup1_ev ((call1_ev (a := wheelsT ws2) ((bin_ev (a := boardT ws2 c2) (b := .int 0) (var_ev (hs.at (by simp))) rfl).trans board_0)).trans wheels_len)) hd).trans (addT (by rw [nt_drop, hld]; simp; omega))
  · exact (bin_ev (a := .tup [.int (-1)]) rfl hd).trans (addT (by rw [nt_drop, hld]; simp; omega))
theorem u5_eq {w2 : Nat} (hs : Has σ 16 ((9, .lst (badsA c1 w2)) :: l50 ns t ws1 c1 ws2 c2)) (hc : c1 ≤ 4) : ∃ σ', u0_5 σ M = .ok (.nx σ') M ∧ Has σ' 16 ((9, .lst (badsA c1 w2 ++ badsB c1)) :: l50 ns t ws1 c1 ws2 c2) := by
  have hl : (nt c1).length = c1 := List.length_replicate
  have hld : (nt (c1 - 1)).length = c1 - 1 := List.length_replicate
  have v6 : σ[6]? = some (some (.tup (nt c1))) := hs.at (by simp [nt])
  have hd : fSl (fVar 6) (fPart (fC (.int 1))) fNoPart σ M = .ok (.tup ((nt c1).drop 1)) M := sl_drop (k := 1) (var_ev v6) rfl
  refine ⟨_, set_ev ((bin_ev (a := .lst (badsA c1 w2)) (b := .lst (badsB c1)) (var_ev (hs.at (by simp))) (lst_ev' (ds := badsB c1) ?_ rfl)).trans (addL' (by simp [badsA, badsB]))), (hs.sub (l' := l50 ns t ws1 c1 ws2 c2) (by simp)).put (by decide) (by simp)⟩
  refine cons_ev' ?_ (cons_ev' ?_ (cons_ev' ?_ (cons_ev' ?_ rfl)))
  · exact (bin_ev (a := .tup [.bl true]) rfl hd).trans (addT (by rw [nt_drop, hld]; simp; omega))
  · exact (bin_ev (a := .tup [.str "0"]) rfl hd).trans (addT (by rw [nt_drop, hld]; simp; omega))
  · exact (bin_ev (a := .tup [.tup [.int 0]]) rfl hd).trans (addT (by rw [nt_drop, hld]; simp; omega))
  · exact (bin_ev (a := .tup (nt c1)) (b := .tup [.int 0]) (var_ev v6) rfl).trans (addT (by rw [hl]; simp; omega))
theorem u6_eq (hw : Wf M) (b1 : BoardOk ws1 c1) (b2 : BoardOk ws2 c2) (hs : Has σ 16 ((9, .lst (badsA c1 ws2.length ++ badsB c1)) :: l50 ns t ws1 c1 ws2 c2)) : ∃ σ', u0_6 σ M = .ok (.nx σ') M ∧ Has σ' 16 (l50 ns t ws1 c1 ws2 c2) := by
  have hc : (c1 : Int) ≤ 4 := b1.c4
  have v6 : σ[6]? = some (some (.tup (nt c1))) := hs.at (by simp [nt])
  have hdr : fSl (fVar 6) (fPart (fC (.int 1))) fNoPart σ M = .ok (.tup ((nt c1).drop 1)) M := sl_drop (k := 1) (var_ev v6) rfl
  have hm : fBin gMul (fLst (fCons (fSl (fVar 6) (fPart (fC (.int 1))) fNoPart) fNil)) (fCall gInt (fCons (fBin (gCmp cGt) (fBin gIx (fVar 3) (fC (.int 1))) (fC (.int 0))) fNil)) σ M = .ok (.lst (badsC c1)) M := by
    have e1 : fCall gInt (fCons (fBin (gCmp cGt) (fBin gIx (fVar 3) (fC (.int 1))) (fC (.int 0))) fNil) σ M = .ok (.int (if 0 < c1 then 1 else 0)) M := by
      refine (call1_ev (M1 := M) (a := .bl (decide (0 < c1))) ?_).trans ?_
      · refine (bin_ev (a := .int (c1 : Nat)) (b := .int 0) ((bin_ev (a := boardT ws1 c1) (b := .int 1) (var_ev (hs.at (by simp))) rfl).trans board_1) rfl).trans ?_
        simp [cGt]
      · by_cases h : 0 < c1 <;> simp only [h, decide_true, decide_false, if_true, if_false] <;> rfl
    refine (bin_ev (a := .lst [.tup ((nt c1).drop 1)]) (lst_ev' (cons_ev' hdr rfl) rfl) e1).trans ?_
    unfold badsC
    by_cases h : 0 < c1 <;> simp only [h, if_true, if_false] <;> rfl
  have hit : u0_6_it σ M = .ok ⟨(badsA c1 ws2.length ++ badsB c1 ++ badsC c1).map Im.d, fun _ => true⟩ M := by
    unfold u0_6_it
    rw [ev_iter, (bin_ev (a := .lst (badsA c1 ws2.length ++ badsB c1)) (var_ev (hs.at (by simp))) hm).trans (addL' (by unfold badsC; split <;> simp [badsA, badsB])), bind_ok, gIter_lst]
  obtain ⟨σ', M', f, rfl, hs'⟩ := for_items (b := u0_6_b) (n := M.length) (i := 7) (σ := σ) (M := M) (ds := badsA c1 ws2.length ++ badsB c1 ++ badsC c1) (fun _ σ N => N = M ∧ Has σ 16 (l50 ns t ws1 c1 ws2 c2)) ⟨rfl, hs.sub (by simp)⟩ (fun i σ N d hd hv => by
    obtain ⟨rfl, hs⟩ := hv
    obtain ⟨g1, g2⟩ := bads_bad d (List.mem_of_getElem? hd)
    have hs7 : Has (σ.set 7 (some d)) 16 ((7, d) :: l50 ns t ws1 c1 ws2 c2) := hs.put (by decide) (by simp)
    generalize σ.set 7 (some d) = σ1 at hs7
    refine ⟨σ1, _, .inl (same_pass (d := .tup [.str "links"]) (h := 1) (LK.tup1 (LK.str (by decide +kernel))) (by decide) ?_ rfl), ?_⟩
    · rw [saidM_ev, call3_ev (a := boardT ws1 c1) (b := boardT ws2 c2) (c := d) (var_ev (hs7.at (by simp))) (var_ev (hs7.at (by simp))) (var_ev (hs7.at (by simp))), joined_links hw b1 b2 g1 g2]
      rfl
    · rw [gc_same rfl]
      exact ⟨rfl, hs7.sub (by simp)⟩)
  exact ⟨σ', for_of hit f, hs'⟩
def pairs50 : List (Nat × Nat) := [(6, 1), (3, 4), (1, 6), (6, 6), (3, 3), (5, 1)]
theorem pairs_ok : ∀ q ∈ pairs50, 1 ≤ q.1 ∧ q.1 ≤ 6 ∧ 1 ≤ q.2 ∧ q.2 ≤ 6 := by decide
theorem u8b_eq {a b : Nat} (hw : Wf M) (ha : 1 ≤ a ∧ a ≤ 6) (hb : 1 ≤ b ∧ b ≤ 6) (hs : Has σ 16 ((12, .int (b : Int)) :: (11, .int (a : Int)) :: (10, wheelsT [[[]]]) :: l50 ns t ws1 c1 ws2 c2)) : ∃ σ', u0_8_b σ M = .ok (.nx σ') M ∧ Has σ' 16 ((10, wheelsT [[[]]]) :: l50 ns t ws1 c1 ws2 c2) := by
  have v10 : fVar 10 σ M = .ok (wheelsT [[[]]]) M := var_ev (hs.at (by simp))
  have eab : fBin gAdd (fVar 11) (fVar 12) σ M = .ok (.int ((a : Int) + b)) M := (bin_ev (a := .int a) (b := .int b) (var_ev (hs.at (by simp))) (var_ev (hs.at (by simp)))).trans gAdd_int
  have ec : fTest (fBin (gCmp cGt) (fBin gAdd (fVar 11) (fVar 12)) (fC (.int 6))) σ M = .ok (decide (6 < (a : Int) + b)) M := by
    refine test_ev ((bin_ev (b := .int 6) eab rfl).trans ?_)
    simp [cGt]
  have W1 := Wn_ok (n := a) (c := 2) ha.1 ha.2 (by decide) (by decide)
  have W2 := Wn_ok (n := b) (c := 2) hb.1 hb.2 (by decide) (by decide)
  have hj : ∀ {σ : Sa}, Has σ 16 ((12, .int (b : Int)) :: (11, .int (a : Int)) :: (10, wheelsT [[[]]]) :: l50 ns t ws1 c1 ws2 c2) → fSaidM [0, 10] (fCall m_joined_f7b97f (fCons (fTup (fCons (fBin gMul (fVar 10) (fVar 11)) (fCons (fC (.int 2)) fNil))) (fCons (fTup (fCons (fBin gMul (fVar 10) (fVar 12)) (fCons (fC (.int 2)) fNil))) (fCons (fTup (fCons (fC .non) (fCons (fC .non) fNil))) fNil)))) σ M = saidRM [0, 10] (m_joined_f7b97f [boardT (Wn a) (([none, none] : List (Option Int)).length : Nat), boardT (Wn b) ((2 : Nat) : Nat), linksT [none, none]] M) := fun {σ} hs => by
    rw [saidM_ev, call3_ev (a := boardT (Wn a) 2) (b := boardT (Wn b) 2) (c := linksT [none, none]) (tup2_ev ((bin_ev (a := wheelsT [[[]]]) (b := .int (a : Int)) (var_ev (hs.at (by simp))) (var_ev (hs.at (by simp)))).trans (Wn_mul (by omega))) rfl) (tup2_ev ((bin_ev (a := wheelsT [[[]]]) (b := .int (b : Int)) (var_ev (hs.at (by simp))) (var_ev (hs.at (by simp)))).trans (Wn_mul (by omega))) rfl) rfl]
    rfl
  by_cases h6 : 6 < a + b
  · have hd : decide (6 < (a : Int) + b) = true := by rw [decide_eq_true_eq]; omega
    have e1 : u0_8_0 σ M = .ok (.nx (σ.set 13 (some (.tup [.str "many", .int ((a : Int) + b), .int 6])))) M := by
      refine set_ev ?_
      rw [ev_if, ec, bind_ok, hd, if_pos rfl]
      exact tup3_ev rfl eab rfl
    have hs1 : Has (σ.set 13 (some (.tup [.str "many", .int ((a : Int) + b), .int 6]))) 16 ((13, .tup [.str "many", .int ((a : Int) + b), .int 6]) :: (12, .int (b : Int)) :: (11, .int (a : Int)) :: (10, wheelsT [[[]]]) :: l50 ns t ws1 c1 ws2 c2) := hs.put (by decide) (by simp)
    generalize σ.set 13 (some (D.tup [.str "many", .int ((a : Int) + b), .int 6])) = σ1 at e1 hs1
    refine ⟨σ1, (seq_nx e1).trans (same_pass (LK.manyT ((a : Int) + b) 6) (by decide) ?_ (var_ev (hs1.at (by simp)))), hs1.sub (by simp)⟩
    rw [hj (hs1.sub (by simp)), joined_many6 hw W1 W2 (fun l hl i hi => by simp only [List.mem_cons, List.not_mem_nil, or_false, or_self] at hl; subst hl; cases hi) (by rw [Wn_len, Wn_len]; exact h6), Wn_len, Wn_len]
    exact said_many _ _
  · have hd : decide (6 < (a : Int) + b) = false := by rw [decide_eq_false_iff_not]; omega
    have e1 : u0_8_0 σ M = .ok (.nx (σ.set 13 (some (.tup [.str "told", boardT (Wn (a + b)) 4])))) M := by
      refine set_ev ?_
      rw [ev_if, ec, bind_ok, hd, if_neg (by decide)]
      exact tup2_ev rfl (tup2_ev ((bin_ev (a := wheelsT [[[]]]) (b := .int ((a + b : Nat) : Int)) v10 (eab.trans (by rw [Int.natCast_add]))).trans (Wn_mul (by omega))) rfl)
    have hs1 : Has (σ.set 13 (some (.tup [.str "told", boardT (Wn (a + b)) 4]))) 16 ((13, .tup [.str "told", boardT (Wn (a + b)) 4]) :: (12, .int (b : Int)) :: (11, .int (a : Int)) :: (10, wheelsT [[[]]]) :: l50 ns t ws1 c1 ws2 c2) := hs.put (by decide) (by simp)
    generalize σ.set 13 (some (D.tup [.str "told", boardT (Wn (a + b)) 4])) = σ1 at e1 hs1
    refine ⟨σ1, (seq_nx e1).trans (same_pass (LK.toldB (Wn (a + b)) 4) (by decide) ?_ (var_ev (hs1.at (by simp)))), hs1.sub (by simp)⟩
    rw [hj (hs1.sub (by simp)), joined_told hw W1 W2 (fun l hl i hi => by simp only [List.mem_cons, List.not_mem_nil, or_false, or_self] at hl; subst hl; cases hi) (by rw [Wn_len, Wn_len]; omega) (by decide), Wn_join]
    rfl
theorem u8_eq (hw : Wf M) (hs : Has σ 16 ((10, wheelsT [[[]]]) :: l50 ns t ws1 c1 ws2 c2)) : ∃ σ', u0_8 σ M = .ok (.nx σ') M ∧ Has σ' 16 ((10, wheelsT [[[]]]) :: l50 ns t ws1 c1 ws2 c2) := by
  have hit : u0_8_it σ M = .ok ⟨(pairs50.map fun q => D.tup [.int (q.1 : Int), .int (q.2 : Int)]).map Im.d, fun _ => true⟩ M := rfl
  obtain ⟨σ', M', f, rfl, hs'⟩ := for_tups (b := u0_8_b) (n := M.length) (is := [11, 12]) (σ := σ) (M := M) (ds := pairs50.map fun q => D.tup [.int (q.1 : Int), .int (q.2 : Int)]) (fun _ σ N => N = M ∧ Has σ 16 ((10, wheelsT [[[]]]) :: l50 ns t ws1 c1 ws2 c2)) ⟨rfl, hs⟩ (fun i σ N d hd hv => by
    obtain ⟨rfl, hs⟩ := hv
    obtain ⟨q, hq, rfl⟩ := List.mem_map.mp (List.mem_of_getElem? hd)
    obtain ⟨a1, a6, b1, b6⟩ := pairs_ok q hq
    have hs2 : Has (setAll σ [11, 12] [.int (q.1 : Int), .int (q.2 : Int)]) 16 ((12, .int (q.2 : Int)) :: (11, .int (q.1 : Int)) :: (10, wheelsT [[[]]]) :: l50 ns t ws1 c1 ws2 c2) := (hs.put (i := 11) (by decide) (by simp)).put (i := 12) (by decide) (by simp)
    obtain ⟨σ1, e1, hs1⟩ := u8b_eq hw ⟨a1, a6⟩ ⟨b1, b6⟩ hs2
    refine ⟨_, rfl, rfl, σ1, _, .inl e1, ?_⟩
    rw [gc_same rfl]
    exact ⟨rfl, hs1⟩)
  refine ⟨σ', ?_, hs'⟩
  unfold u0_8
  rw [ev_for, hit]
  exact f
def lks50 : List (List (Option Int)) := [[none, none, none, none], [none, none, none, some 0], [some 0, none, none, none], [none, some 0, none, some 0], [some 0, some 0, some 0, some 0]]
theorem lks_ok : ∀ ls ∈ lks50, ls.length = 4 ∧ LinksOk 1 ls := by
  intro ls h
  simp only [lks50, List.mem_cons, List.not_mem_nil, or_false] at h
  rcases h with rfl | rfl | rfl | rfl | rfl <;> exact ⟨rfl, by simp [LinksOk]⟩
theorem u9b_eq {ls : List (Option Int)} (hw : Wf M) (h4 : ls.length = 4) (hlk : LinksOk 1 ls) (hs : Has σ 16 ((14, linksT ls) :: (10, wheelsT [[[]]]) :: l50 ns t ws1 c1 ws2 c2)) : ∃ σ', u0_9_b σ M = .ok (.nx σ') M ∧ Has σ' 16 ((10, wheelsT [[[]]]) :: l50 ns t ws1 c1 ws2 c2) := by
  have hn := nones_le ls
  have W1 := Wn_ok (n := 1) (c := 4) (by decide) (by decide) (by decide) (by decide)
  have W2 := Wn_ok (n := 1) (c := 2) (by decide) (by decide) (by decide) (by decide)
  have e0 : u0_9_0 σ M = .ok (.nx (σ.set 15 (some (.int ((nones ls : Int) + 2))))) M := set_ev ((bin_ev (a := .int (nones ls : Nat)) (b := .int 2) (count_links (hs.at (by simp))) rfl).trans gAdd_int)
  have hs0 : Has (σ.set 15 (some (.int ((nones ls : Int) + 2)))) 16 ((15, .int ((nones ls : Int) + 2)) :: (14, linksT ls) :: (10, wheelsT [[[]]]) :: l50 ns t ws1 c1 ws2 c2) := hs.put (by decide) (by simp)
  generalize σ.set 15 (some (D.int ((nones ls : Int) + 2))) = σ0 at e0 hs0
  have v15 : fVar 15 σ0 M = .ok (.int ((nones ls : Int) + 2)) M := var_ev (hs0.at (by simp))
  have ec : fTest (fBin (gCmp cGt) (fVar 15) (fC (.int 4))) σ0 M = .ok (decide (4 < (nones ls : Int) + 2)) M := by
    refine test_ev ((bin_ev (b := .int 4) v15 rfl).trans ?_)
    simp [cGt]
  have hj : ∀ {σ : Sa}, Has σ 16 ((14, linksT ls) :: (10, wheelsT [[[]]]) :: l50 ns t ws1 c1 ws2 c2) → fSaidM [0, 10] (fCall m_joined_f7b97f (fCons (fTup (fCons (fVar 10) (fCons (fC (.int 4)) fNil))) (fCons (fTup (fCons (fVar 10) (fCons (fC (.int 2)) fNil))) (fCons (fVar 14) fNil)))) σ M = saidRM [0, 10] (m_joined_f7b97f [boardT (Wn 1) (ls.length : Nat), boardT (Wn 1) ((2 : Nat) : Nat), linksT ls] M) := fun {σ} hs => by
    rw [saidM_ev, call3_ev (a := boardT (Wn 1) 4) (b := boardT (Wn 1) 2) (c := linksT ls) (tup2_ev (var_ev (hs.at (by simp [Wn]))) rfl) (tup2_ev (var_ev (hs.at (by simp [Wn]))) rfl) (var_ev (hs.at (by simp))), h4]
    rfl
  rw [show (4 : Int) = (ls.length : Nat) by rw [h4]; rfl] at W1
  by_cases h : 4 < nones ls + 2
  · have hd : decide (4 < (nones ls : Int) + 2) = true := by rw [decide_eq_true_eq]; omega
    have e1 : u0_9_1 σ0 M = .ok (.nx (σ0.set 13 (some (.tup [.str "many", .int ((nones ls : Int) + 2), .int 4])))) M := by
      refine set_ev ?_
      rw [ev_if, ec, bind_ok, hd, if_pos rfl]
      exact tup3_ev rfl v15 rfl
    have hs1 : Has (σ0.set 13 (some (.tup [.str "many", .int ((nones ls : Int) + 2), .int 4]))) 16 ((13, .tup [.str "many", .int ((nones ls : Int) + 2), .int 4]) :: (15, .int ((nones ls : Int) + 2)) :: (14, linksT ls) :: (10, wheelsT [[[]]]) :: l50 ns t ws1 c1 ws2 c2) := hs0.put (by decide) (by simp)
    generalize σ0.set 13 (some (D.tup [.str "many", .int ((nones ls : Int) + 2), .int 4])) = σ1 at e1 hs1
    refine ⟨σ1, (seq_nx e0).trans ((seq_nx e1).trans (same_pass (LK.manyT ((nones ls : Int) + 2) 4) (by decide) ?_ (var_ev (hs1.at (by simp))))), hs1.sub (by simp)⟩
    rw [hj (hs1.sub (by simp)), joined_many4 hw W1 W2 hlk (by rw [Wn_len]; decide) h]
    exact said_many _ _
  · have hd : decide (4 < (nones ls : Int) + 2) = false := by rw [decide_eq_false_iff_not]; omega
    have e1 : u0_9_1 σ0 M = .ok (.nx (σ0.set 13 (some (.tup [.str "told", boardT (Wn 2) ((nones ls : Int) + 2)])))) M := by
      refine set_ev ?_
      rw [ev_if, ec, bind_ok, hd, if_neg (by decide)]
      exact tup2_ev rfl (tup2_ev ((bin_ev (a := wheelsT [[[]]]) (b := .int ((2 : Nat) : Int)) (var_ev (hs0.at (by simp))) rfl).trans (Wn_mul (by omega))) v15)
    have hs1 : Has (σ0.set 13 (some (.tup [.str "told", boardT (Wn 2) ((nones ls : Int) + 2)]))) 16 ((13, .tup [.str "told", boardT (Wn 2) ((nones ls : Int) + 2)]) :: (15, .int ((nones ls : Int) + 2)) :: (14, linksT ls) :: (10, wheelsT [[[]]]) :: l50 ns t ws1 c1 ws2 c2) := hs0.put (by decide) (by simp)
    generalize σ0.set 13 (some (D.tup [.str "told", boardT (Wn 2) ((nones ls : Int) + 2)])) = σ1 at e1 hs1
    refine ⟨σ1, (seq_nx e0).trans ((seq_nx e1).trans (same_pass (LK.toldB (Wn 2) ((nones ls : Int) + 2)) (by decide) ?_ (var_ev (hs1.at (by simp))))), hs1.sub (by simp)⟩
    rw [hj (hs1.sub (by simp)), joined_told (c2 := 2) hw W1 W2 hlk (by rw [Wn_len]; decide) (Nat.le_of_not_lt h), Wn_join, Int.natCast_add]
    rfl
theorem u9_eq (hw : Wf M) (hs : Has σ 16 ((10, wheelsT [[[]]]) :: l50 ns t ws1 c1 ws2 c2)) : ∃ σ', u0_9 σ M = .ok (.nx σ') M ∧ Has σ' 16 ((10, wheelsT [[[]]]) :: l50 ns t ws1 c1 ws2 c2) := by
  have hit : u0_9_it σ M = .ok ⟨(lks50.map linksT).map Im.d, fun _ => true⟩ M := rfl
  obtain ⟨σ', M', f, rfl, hs'⟩ := for_items (b := u0_9_b) (n := M.length) (i := 14) (σ := σ) (M := M) (ds := lks50.map linksT) (fun _ σ N => N = M ∧ Has σ 16 ((10, wheelsT [[[]]]) :: l50 ns t ws1 c1 ws2 c2)) ⟨rfl, hs⟩ (fun i σ N d hd hv => by
    obtain ⟨rfl, hs⟩ := hv
    obtain ⟨ls, hl, rfl⟩ := List.mem_map.mp (List.mem_of_getElem? hd)
    obtain ⟨h4, hlk⟩ := lks_ok ls hl
    obtain ⟨σ1, e1, hs1⟩ := u9b_eq hw h4 hlk (hs.put (i := 14) (d := linksT ls) (by decide) (by simp))
    refine ⟨σ1, _, .inl e1, ?_⟩
    rw [gc_same rfl]
    exact ⟨rfl, hs1⟩)
  exact ⟨σ', for_of hit f, hs'⟩
theorem u10_eq (hw : Wf M) (hs : Has σ 16 ((10, wheelsT [[[]]]) :: l50 ns t ws1 c1 ws2 c2)) : u0_10 σ M = .ok (.nx σ) M := by
  have W1 := Wn_ok (n := 6) (c := 4) (by decide) (by decide) (by decide) (by decide)
  have W2 := Wn_ok (n := 1) (c := 4) (by decide) (by decide) (by decide) (by decide)
  refine same_pass (LK.manyT 7 6) (by decide) ?_ rfl
  have := joined_many6 (M := M) (ls := [none, none, none, none]) (c2 := 4) hw W1 W2 (fun l hl i hi => by simp only [List.mem_cons, List.not_mem_nil, or_false, or_self] at hl; subst hl; cases hi) (by rw [Wn_len, Wn_len]; decide)
  rw [saidM_ev, call3_ev (a := boardT (Wn 6) 4) (b := boardT (Wn 1) 4) (c := linksT [none, none, none, none]) (tup2_ev ((bin_ev (a := wheelsT [[[]]]) (b := .int ((6 : Nat) : Int)) (var_ev (hs.at (by simp))) rfl).trans (Wn_mul (by omega))) rfl) (tup2_ev (var_ev (hs.at (by simp [Wn]))) rfl) rfl]
  exact (congrArg (saidRM [0, 10]) this).trans (said_many _ _)
theorem rep_mul {n : Nat} (h : n ≤ 1000) : gMul (.tup [.non]) (.int (n : Int)) M = .ok (.tup (List.replicate n .non)) M := by
  have h1 : decide (-1000 ≤ (n : Int)) = true := by rw [decide_eq_true_eq]; omega
  have h2 : decide ((n : Int) ≤ 1000) = true := by rw [decide_eq_true_eq]; omega
  rw [gMul_tup, if_pos (by simp only [thou, h1, h2]; rfl), Int.toNat_natCast]
  congr 2
  exact List.flatten_replicate_singleton
theorem u0b_eq {j : Nat} (hs : Has σ 16 [(1, .int (j : Int)), (0, .scr ns)]) : ∃ σ' y, u0_b σ [] = .ok (.nx σ') [y] ∧ Has σ' 16 [(0, .scr ns)] := by
  have hWx : ∀ {k : Nat} {x : Cell}, PenOk k x → Wf [x] := fun {k x} o c hc => by
    rw [List.mem_singleton.mp hc]
    exact o.und
  obtain ⟨x, e1, o1⟩ := m_pen_eq (c := ns.getD j 0) (M := [])
  have s0 : u0_0 σ [] = .ok (.nx (σ.set 2 (some (.ref 0)))) [x] := set_ev ((call1_ev (M1 := []) (a := .int (ns.getD j 0)) ((call2_ev (a := .scr ns) (b := .int (j : Int)) (var_ev (hs.at (by simp))) (var_ev (hs.at (by simp)))).trans m_cell_at_eq)).trans e1)
  have hs0 : Has (σ.set 2 (some (.ref 0))) 16 [(2, .ref 0), (1, .int (j : Int)), (0, .scr ns)] := hs.put (by decide) (by simp)
  generalize σ.set 2 (some (D.ref 0)) = σ0 at s0 hs0
  obtain ⟨ws1, c1, x1, g1, b1, m1, m2, o2⟩ := m_any_board_eq (k := 500) (most := 3) (cm := 4) (p := 0) (M := [x]) (x := x) rfl (hWx o1) (o1.less (by omega)) (by decide) (by decide) (by decide) (by decide)
  obtain ⟨ws2, c2, x2, g2, b2, m3, m4, o3⟩ := m_any_board_eq (k := 200) (most := 3) (cm := 3) (p := 0) (M := [x1]) (x := x1) rfl (hWx o2) (o2.less (by omega)) (by decide) (by decide) (by decide) (by decide)
  obtain ⟨c1, rfl⟩ := Int.eq_ofNat_of_zero_le b1.c0
  obtain ⟨c2, rfl⟩ := Int.eq_ofNat_of_zero_le b2.c0
  have g1' : m_law_any_board_7df546 [.ref 0, .int 3, .int 4] [x] = .ok (boardT ws1 c1) [x1] := g1
  have g2' : m_law_any_board_7df546 [.ref 0, .int 3, .int 3] [x1] = .ok (boardT ws2 c2) [x2] := g2
  have hw := hWx o3
  have k1 := b1.w6
  have k2 := b2.w6
  have s1 : u0_1 σ0 [x] = .ok (.nx ((σ0.set 3 (some (boardT ws1 c1))).set 4 (some (boardT ws2 c2)))) [x2] :=
    asg_ev (d := .tup [boardT ws1 c1, boardT ws2 c2]) (tup2_ev ((call3_ev (a := .ref 0) (b := .int 3) (c := .int 4) (var_ev (hs0.at (by simp))) rfl rfl).trans g1') ((call3_ev (a := .ref 0) (b := .int 3) (c := .int 3) (var_ev (hs0.at (by simp))) rfl rfl).trans g2')) rfl
  have hs1 : Has ((σ0.set 3 (some (boardT ws1 c1))).set 4 (some (boardT ws2 c2))) 16 [(4, boardT ws2 c2), (3, boardT ws1 c1), (2, .ref 0), (1, .int (j : Int)), (0, .scr ns)] := (hs0.put (i := 3) (by decide) (by simp)).put (by decide) (by simp)
  generalize (σ0.set 3 (some (boardT ws1 c1))).set 4 (some (boardT ws2 c2)) = σ1 at s1 hs1
  obtain ⟨t, sh, ht⟩ := (RP.tup (ds := [boardT ws1 c1, boardT ws2 c2]) (n := 2) (w := 100000) (h := 5) (fun d hd => by
    simp only [List.mem_cons, List.not_mem_nil, or_false] at hd
    rcases hd with rfl | rfl
    · exact RP.board (n := (ws1.length : Int) + (c1 : Nat)) b1.wheels (by omega) (by omega) (by omega) (by omega)
    · exact RP.board (n := (ws2.length : Int) + (c2 : Nat)) b2.wheels (by omega) (by omega) (by omega) (by omega)) (by show 2 ≤ 2; omega)).repr (by decide) (by decide)
  have hrep : ∀ {σ : Sa} {M : Mem}, σ[3]? = some (some (boardT ws1 c1)) → σ[4]? = some (some (boardT ws2 c2)) → fCall gRepr (fCons (fTup (fCons (fVar 3) (fCons (fVar 4) fNil))) fNil) σ M = .ok (.str t) M := fun h3 h4 => (call1_ev (tup2_ev (a := boardT ws1 c1) (b := boardT ws2 c2) (var_ev h3) (var_ev h4))).trans (ht _)
  have s2 : u0_2 σ1 [x2] = .ok (.nx ((σ1.set 5 (some (.str t))).set 6 (some (.tup (List.replicate c1 .non))))) [x2] :=
    par_ev (hrep (hs1.at (by simp)) (hs1.at (by simp))) ((bin_ev (a := .tup [.non]) (b := .int (c1 : Nat)) rfl ((bin_ev (a := boardT ws1 c1) (b := .int 1) (var_ev (hs1.at (by simp))) rfl).trans board_1)).trans (rep_mul (by omega)))
  have hs2 : Has ((σ1.set 5 (some (.str t))).set 6 (some (.tup (List.replicate c1 .non)))) 16 (l50 ns t ws1 c1 ws2 c2) := ((hs1.put (i := 5) (d := .str t) (by decide) (by simp)).put (i := 6) (d := .tup (List.replicate c1 .non)) (by decide) (by simp)).sub (by simp)
  generalize (σ1.set 5 (some (D.str t))).set 6 (some (D.tup (List.replicate c1 .non))) = σ2 at s2 hs2
  obtain ⟨σ3, s3, hs3⟩ := u3_eq hw b1 hs2
  obtain ⟨σ4, s4, hs4⟩ := u4_eq (M := [x2]) rfl hs3 (by omega)
  obtain ⟨σ5, s5, hs5⟩ := u5_eq (M := [x2]) hs4 (by omega)
  obtain ⟨σ6, s6, hs6⟩ := u6_eq (M := [x2]) hw b1 b2 hs5
  have s7 : u0_7 σ6 [x2] = .ok (.nx (σ6.set 10 (some (wheelsT [[[]]])))) [x2] := set_ev rfl
  have hs7 : Has (σ6.set 10 (some (wheelsT [[[]]]))) 16 ((10, wheelsT [[[]]]) :: l50 ns t ws1 c1 ws2 c2) := hs6.put (by decide) (by simp)
  generalize σ6.set 10 (some (wheelsT [[[]]])) = σ7 at s7 hs7
  obtain ⟨σ8, s8, hs8⟩ := u8_eq (M := [x2]) hw hs7
  obtain ⟨σ9, s9, hs9⟩ := u9_eq (M := [x2]) hw hs8
  have s10 := u10_eq (M := [x2]) hw hs9
  have s11 : u0_11 σ9 [x2] = .ok (.nx σ9) [x2] := pass9 (test_ev ((bin_ev (a := .str t) (b := .str t) (hrep (hs9.at (by simp)) (hs9.at (by simp))) (var_ev (hs9.at (by simp)))).trans (gNe_str sh)))
  exact ⟨σ9, x2, (seq_nx s0).trans ((seq_nx s1).trans ((seq_nx s2).trans ((seq_nx s3).trans ((seq_nx s4).trans ((seq_nx s5).trans ((seq_nx s6).trans ((seq_nx s7).trans ((seq_nx s8).trans ((seq_nx s9).trans ((seq_nx s10).trans s11)))))))))), hs9.sub (by simp)⟩
end
theorem law_true50 (ns : List Int) (hn : ns.length ≤ 63) : ∃ M, m_law_b8079b [.scr ns] [] = .ok (.bl true) M := by
  have hr : ∃ m : Nat, u0_it (startA 16 [.scr ns]) [] = .ok ⟨nums 0 m, fun _ => true⟩ [] := by
    refine ⟨_, range1_ev (j := if (if (3 : Int) < ns.length then 3 else (ns.length : Int)) > 1 then (if (3 : Int) < ns.length then 3 else (ns.length : Int)) else 1) ?_ ?_ ?_ rfl⟩
    · simp [startA]
    · split <;> (try split) <;> omega
    · split <;> (try split) <;> omega
  obtain ⟨m, hr⟩ := hr
  obtain ⟨σ2, M2, f2, rfl, hs2⟩ := for_nums (b := u0_b) (n := 0) (m := m) (i := 1) (σ := startA 16 [.scr ns]) (M := []) (fun j σ N => N = [] ∧ Has σ 16 [(0, .scr ns)]) ⟨rfl, rfl, fun q hq => by
      simp only [List.mem_cons, List.mem_nil_iff, or_false] at hq
      rcases hq with rfl
      rfl⟩ (fun j σ N hj hv => by
    obtain ⟨rfl, hs⟩ := hv
    obtain ⟨σ', y, g1, g2⟩ := u0b_eq (ns := ns) (j := j) (σ := σ.set 1 (some (.int (j : Int)))) (hs.put (by decide) (by simp))
    refine ⟨σ', _, .inl g1, ?_⟩
    have := gc_app (n := 0) (σ := σ') (M := []) (g := [y]) rfl Wf.nil (by simp)
    rw [List.nil_append] at this
    rw [this]
    exact ⟨rfl, g2.keep (by simp [D.und])⟩)
  refine ⟨[], ?_⟩
  have sb : b_law_b8079b (startA 16 [.scr ns]) [] = .ok (.rt (.bl true)) [] := by
    rw [u_body]
    exact (seq_nx (for_of hr f2)).trans (ret_ev rfl)
  unfold m_law_b8079b runD
  rw [sb]
  simp
end QX
namespace Q50
theorem law_true (ns : List Int) (hn : ns.length ≤ 63) : ∃ M, QX.m_law_b8079b [.scr ns] [] = .ok (.bl true) M := QX.law_true50 ns hn
end Q50
set_option maxRecDepth 100000
set_option maxHeartbeats 1000000
open PySem PySem.W PyProof.Rows
set_option maxHeartbeats 0 in
theorem PySem.Challenge.cw_marblefall_k50_joins_refused_holds : PySem.Challenge.rw_marblefall_k50_joins_refused.Holds := by
  w_on; o_law; k_head; (case hw => w_witness2)
  k_fill
  refine HX.walk_ofTG (l := PySem.Challenge.rw_marblefall_k50_joins_refused) (n := 63) (k := 10) (x := "_law_script") rfl (by decide) rfl ⟨rfl, by decide, by decide⟩ ?I (fun w h Y => PySem.W.km_in_of Y) ?F
  case I => first | rfl | decide +kernel
  case F =>
    intro w mg fa h KX G hmg tabs
    obtain ⟨t_MOST_WHEELS, g_MOST_WHEELS⟩ : ∃ t, mg "MOST_WHEELS" = some (.int 6 t) := by
      refine' HX.gint_mk KX G ?a
      (case a => k_is)
    obtain ⟨t_MOST_CUPS, g_MOST_CUPS⟩ : ∃ t, mg "MOST_CUPS" = some (.int 4 t) := by
      refine' HX.gint_mk KX G ?a
      (case a => k_is)
    obtain ⟨t_MOST_STEPS, g_MOST_STEPS⟩ : ∃ t, mg "MOST_STEPS" = some (.int 4 t) := by
      refine' HX.gint_mk KX G ?a
      (case a => k_is)
    obtain ⟨t_MOST_ENDS, g_MOST_ENDS⟩ : ∃ t, mg "MOST_ENDS" = some (.int 3 t) := by
      refine' HX.gint_mk KX G ?a
      (case a => k_is)
    refine' HX.def_cut (x := "_law_pen") (st := Q50.s__law_pen) (ps := ["_law_cell"]) KX G ?a ?l ?c ?k ?b (fun d__law_pen => ?z__law_pen)
    (case a => k_is); (case l => k_is); (case c => k_is); (case k => k_is); (case b => exact fun _ _ _ _ _ _ us hl => match us, hl with | [_], _ => rfl)
    refine' HX.def_cut (x := "_law_no_boards") (st := Q50.s__law_no_boards) (ps := ["_law_board"]) KX G ?a ?l ?c ?k ?b (fun d__law_no_boards => ?z__law_no_boards)
    (case a => k_is); (case l => k_is); (case c => k_is); (case k => k_is); (case b => exact fun _ _ _ _ _ _ us hl => match us, hl with | [_], _ => rfl)
    refine' HX.def_cut (x := "_law_cell_at") (st := Q50.s__law_cell_at) (ps := ["_law_script", "_law_k"]) KX G ?a ?l ?c ?k ?b (fun d__law_cell_at => ?z__law_cell_at)
    (case a => k_is); (case l => k_is); (case c => k_is); (case k => k_is); (case b => exact fun _ _ _ _ _ _ us hl => match us, hl with | [_, _], _ => rfl)
    refine' HX.def_cut (x := "_law_draw") (st := Q50.s__law_draw) (ps := ["_law_pen_here", "_law_many"]) KX G ?a ?l ?c ?k ?b (fun d__law_draw => ?z__law_draw)
    (case a => k_is); (case l => k_is); (case c => k_is); (case k => k_is); (case b => exact fun _ _ _ _ _ _ us hl => match us, hl with | [_, _], _ => rfl)
    refine' HX.def_cut (x := "_law_any_board") (st := Q50.s__law_any_board) (ps := ["_law_pen_here", "_law_most", "_law_cups"]) KX G ?a ?l ?c ?k ?b (fun d__law_any_board => ?z__law_any_board)
    (case a => k_is); (case l => k_is); (case c => k_is); (case k => k_is); (case b => exact fun _ _ _ _ _ _ us hl => match us, hl with | [_, _, _], _ => rfl)
    refine' HX.def_cut (x := "has_parts") (st := Q50.s_has_parts) (ps := ["thing", "least", "most"]) KX G ?a ?l ?c ?k ?b (fun d_has_parts => ?z_has_parts)
    (case a => k_is); (case l => k_is); (case c => k_is); (case k => k_is); (case b => exact fun _ _ _ _ _ _ us hl => match us, hl with | [_, _, _], _ => rfl)
    refine' HX.def_cut (x := "is_whole") (st := Q50.s_is_whole) (ps := ["thing"]) KX G ?a ?l ?c ?k ?b (fun d_is_whole => ?z_is_whole)
    (case a => k_is); (case l => k_is); (case c => k_is); (case k => k_is); (case b => exact fun _ _ _ _ _ _ us hl => match us, hl with | [_], _ => rfl)
    refine' HX.def_cut (x := "is_within") (st := Q50.s_is_within) (ps := ["thing", "least", "most"]) KX G ?a ?l ?c ?k ?b (fun d_is_within => ?z_is_within)
    (case a => k_is); (case l => k_is); (case c => k_is); (case k => k_is); (case b => exact fun _ _ _ _ _ _ us hl => match us, hl with | [_, _, _], _ => rfl)
    refine' HX.def_cut (x := "is_step") (st := Q50.s_is_step) (ps := ["thing", "ends"]) KX G ?a ?l ?c ?k ?b (fun d_is_step => ?z_is_step)
    (case a => k_is); (case l => k_is); (case c => k_is); (case k => k_is); (case b => exact fun _ _ _ _ _ _ us hl => match us, hl with | [_, _], _ => rfl)
    refine' HX.def_cut (x := "is_wheel") (st := Q50.s_is_wheel) (ps := ["thing", "ends"]) KX G ?a ?l ?c ?k ?b (fun d_is_wheel => ?z_is_wheel)
    (case a => k_is); (case l => k_is); (case c => k_is); (case k => k_is); (case b => exact fun _ _ _ _ _ _ us hl => match us, hl with | [_, _], _ => rfl)
    refine' HX.def_cut (x := "is_board") (st := Q50.s_is_board) (ps := ["thing"]) KX G ?a ?l ?c ?k ?b (fun d_is_board => ?z_is_board)
    (case a => k_is); (case l => k_is); (case c => k_is); (case k => k_is); (case b => exact fun _ _ _ _ _ _ us hl => match us, hl with | [_], _ => rfl)
    refine' HX.def_cut (x := "need_board") (st := Q50.s_need_board) (ps := ["thing"]) KX G ?a ?l ?c ?k ?b (fun d_need_board => ?z_need_board)
    (case a => k_is); (case l => k_is); (case c => k_is); (case k => k_is); (case b => exact fun _ _ _ _ _ _ us hl => match us, hl with | [_], _ => rfl)
    refine' HX.def_cut (x := "need_few") (st := Q50.s_need_few) (ps := ["many", "most"]) KX G ?a ?l ?c ?k ?b (fun d_need_few => ?z_need_few)
    (case a => k_is); (case l => k_is); (case c => k_is); (case k => k_is); (case b => exact fun _ _ _ _ _ _ us hl => match us, hl with | [_, _], _ => rfl)
    refine' HX.def_cut (x := "renumbered") (st := Q50.s_renumbered) (ps := ["wheels", "numbers"]) KX G ?a ?l ?c ?k ?b (fun d_renumbered => ?z_renumbered)
    (case a => k_is); (case l => k_is); (case c => k_is); (case k => k_is); (case b => exact fun _ _ _ _ _ _ us hl => match us, hl with | [_, _], _ => rfl)
    refine' HX.def_cut (x := "is_wheel_number") (st := Q50.s_is_wheel_number) (ps := ["board", "thing"]) KX G ?a ?l ?c ?k ?b (fun d_is_wheel_number => ?z_is_wheel_number)
    (case a => k_is); (case l => k_is); (case c => k_is); (case k => k_is); (case b => exact fun _ _ _ _ _ _ us hl => match us, hl with | [_, _], _ => rfl)
    refine' HX.def_cut (x := "are_links") (st := Q50.s_are_links) (ps := ["one", "other", "thing"]) KX G ?a ?l ?c ?k ?b (fun d_are_links => ?z_are_links)
    (case a => k_is); (case l => k_is); (case c => k_is); (case k => k_is); (case b => exact fun _ _ _ _ _ _ us hl => match us, hl with | [_, _, _], _ => rfl)
    refine' HX.def_cut (x := "ends_of_first") (st := Q50.s_ends_of_first) (ps := ["one", "other", "links"]) KX G ?a ?l ?c ?k ?b (fun d_ends_of_first => ?z_ends_of_first)
    (case a => k_is); (case l => k_is); (case c => k_is); (case k => k_is); (case b => exact fun _ _ _ _ _ _ us hl => match us, hl with | [_, _, _], _ => rfl)
    refine' HX.def_cut (x := "ends_of_second") (st := Q50.s_ends_of_second) (ps := ["one", "other", "links"]) KX G ?a ?l ?c ?k ?b (fun d_ends_of_second => ?z_ends_of_second)
    (case a => k_is); (case l => k_is); (case c => k_is); (case k => k_is); (case b => exact fun _ _ _ _ _ _ us hl => match us, hl with | [_, _, _], _ => rfl)
    refine' HX.def_cut (x := "joined") (st := Q50.s_joined) (ps := ["one", "other", "links"]) KX G ?a ?l ?c ?k ?b (fun d_joined => ?z_joined)
    (case a => k_is); (case l => k_is); (case c => k_is); (case k => k_is); (case b => exact fun _ _ _ _ _ _ us hl => match us, hl with | [_, _, _], _ => rfl)
    have z_len : mg "len" = none := by
      refine' PySem.W.mg_none_of KX G ?a
      (case a => k_is)
    have z_isinstance : mg "isinstance" = none := by
      refine' PySem.W.mg_none_of KX G ?a
      (case a => k_is)
    have z_int : mg "int" = none := by
      refine' PySem.W.mg_none_of KX G ?a
      (case a => k_is)
    have z_bool : mg "bool" = none := by
      refine' PySem.W.mg_none_of KX G ?a
      (case a => k_is)
    have z_tuple : mg "tuple" = none := by
      refine' PySem.W.mg_none_of KX G ?a
      (case a => k_is)
    have z_list : mg "list" = none := by
      refine' PySem.W.mg_none_of KX G ?a
      (case a => k_is)
    have z_all : mg "all" = none := by
      refine' PySem.W.mg_none_of KX G ?a
      (case a => k_is)
    have z_range : mg "range" = none := by
      refine' PySem.W.mg_none_of KX G ?a
      (case a => k_is)
    have z_max : mg "max" = none := by
      refine' PySem.W.mg_none_of KX G ?a
      (case a => k_is)
    have z_min : mg "min" = none := by
      refine' PySem.W.mg_none_of KX G ?a
      (case a => k_is)
    have z_repr : mg "repr" = none := by
      refine' PySem.W.mg_none_of KX G ?a
      (case a => k_is)
    have B : HX.Bi mg := ⟨z_len, z_isinstance, z_int, z_bool, z_tuple, z_list, z_all, z_range, z_max, z_min, z_repr⟩
    have z_ValueError : mg "ValueError" = none := by
      refine' PySem.W.mg_none_of KX G ?a
      (case a => k_is)
    have B4 : HX.Bi4 mg := ⟨z_ValueError⟩
    refine' HX.def_cut (x := "_law_refusal") (st := Q50.s__law_refusal) (ps := ["_law_e"]) KX G ?a ?l ?c ?k ?b (fun d__law_refusal => ?z__law_refusal)
    (case a => k_is); (case l => k_is); (case c => k_is); (case k => k_is); (case b => exact fun _ _ _ _ _ _ us hl => match us, hl with | [_], _ => rfl)
    refine' HX.def_cut (x := "_law_came") (st := Q50.s__law_came) (ps := ["_law_call"]) KX G ?a ?l ?c ?k ?b (fun d__law_came => ?z__law_came)
    (case a => k_is); (case l => k_is); (case c => k_is); (case k => k_is); (case b => exact fun _ _ _ _ _ _ us hl => match us, hl with | [_], _ => rfl)
    refine' HX.cls_cut KX G ?a0 ?a1 ?a2 ?a3 ?a4 ?a5 ?a6 ?a7 ?a8 ?a9 ?a10 ?a11 ?a12 ?a13 ?a14 ?a15 ?a16 ?a17 ?a18 ?a19 ?a20 ?aM (fun G21 g0 g1 g2 g3 g4 g5 g6 g7 g8 g9 g10 g11 g12 g13 g14 g15 g16 g17 g18 g19 g20 hM => ?zC)
    (case a0 => k_is); (case a1 => k_is); (case a2 => k_is); (case a3 => k_is); (case a4 => k_is); (case a5 => k_is); (case a6 => k_is); (case a7 => k_is); (case a8 => k_is); (case a9 => k_is); (case a10 => k_is); (case a11 => k_is); (case a12 => k_is); (case a13 => k_is); (case a14 => k_is); (case a15 => k_is); (case a16 => k_is); (case a17 => k_is); (case a18 => k_is); (case a19 => k_is); (case a20 => k_is); (case aM => k_is)
    refine' HX.err_cut (x := "NoBoard") KX 0 g0 g1 g2 g3 g4 g5 g6 g7 g8 g9 g10 g11 g12 g13 g14 g15 g16 g17 g18 g19 g20 hM g0 ?kC ?ex ?sb ?ty ?e1 ?e2 ?e3 ?e4 ?e5 ?e6 ?e7 ?ve ?xm ?k0 ?k1 ?k2 ?k3 ?k4 ?k5 ?k6 ?k7 ?k8 ?k9 ?k10 ?k11 ?k12 ?k13 ?k14 ?k15 ?k16 ?k17 ?k18 ?k19 ?k20 (fun R_NoBoard ef_NoBoard hex_NoBoard => ?zE_NoBoard)
    (case kC => k_is); (case ex => k_exc); (case sb => k_is); (case ty => k_is); (case e1 => k_is); (case e2 => k_is); (case e3 => k_is); (case e4 => k_is); (case e5 => k_is); (case e6 => k_is); (case e7 => k_is); (case ve => kit_is); (case xm => kts_exm)
    (case k0 => kit_is); (case k1 => kit_is); (case k2 => kit_is); (case k3 => kit_is); (case k4 => kit_is); (case k5 => kit_is); (case k6 => kit_is); (case k7 => kit_is); (case k8 => kit_is); (case k9 => kit_is); (case k10 => kit_is); (case k11 => kit_is); (case k12 => kit_is); (case k13 => kit_is); (case k14 => kit_is); (case k15 => kit_is); (case k16 => kit_is); (case k17 => kit_is); (case k18 => kit_is); (case k19 => kit_is); (case k20 => kit_is)
    refine' HX.err_cut (x := "NoLinks") KX 10 g0 g1 g2 g3 g4 g5 g6 g7 g8 g9 g10 g11 g12 g13 g14 g15 g16 g17 g18 g19 g20 hM g10 ?kC ?ex ?sb ?ty ?e1 ?e2 ?e3 ?e4 ?e5 ?e6 ?e7 ?ve ?xm ?k0 ?k1 ?k2 ?k3 ?k4 ?k5 ?k6 ?k7 ?k8 ?k9 ?k10 ?k11 ?k12 ?k13 ?k14 ?k15 ?k16 ?k17 ?k18 ?k19 ?k20 (fun R_NoLinks ef_NoLinks hex_NoLinks => ?zE_NoLinks)
    (case kC => k_is); (case ex => k_exc); (case sb => k_is); (case ty => k_is); (case e1 => k_is); (case e2 => k_is); (case e3 => k_is); (case e4 => k_is); (case e5 => k_is); (case e6 => k_is); (case e7 => k_is); (case ve => kit_is); (case xm => kts_exm)
    (case k0 => kit_is); (case k1 => kit_is); (case k2 => kit_is); (case k3 => kit_is); (case k4 => kit_is); (case k5 => kit_is); (case k6 => kit_is); (case k7 => kit_is); (case k8 => kit_is); (case k9 => kit_is); (case k10 => kit_is); (case k11 => kit_is); (case k12 => kit_is); (case k13 => kit_is); (case k14 => kit_is); (case k15 => kit_is); (case k16 => kit_is); (case k17 => kit_is); (case k18 => kit_is); (case k19 => kit_is); (case k20 => kit_is)
    refine' HX.too_cut (P := PySem.Challenge.rw_marblefall_k50_joins_refused.prog) KX G g0 g1 g2 g3 g4 g5 g6 g7 g8 g9 g10 g11 g12 g13 g14 g15 g16 g17 g18 g19 g20 hM ?ox ?sa ?kC ?sb ?ty ?e1 ?e2 ?e3 ?e4 ?e5 ?e6 ?e7 ?ve ?xm ?k0 ?k1 ?k2 ?k3 ?k4 ?k5 ?k6 ?k7 ?k8 ?k9 ?k10 ?k11 ?k12 ?k13 ?k14 ?k15 ?k16 ?k17 ?k18 ?k19 ?k20 ?fm ?fn ?sp ?op ?iv ?mr ?tp ?gs ?fi ?ft ?i1 ?i2 ?i3 ?i4 ?i5 ?i6 ?i7 ?i8 ?i9 ?ib (fun TM xy => ?zTM)
    (case ox => kernel_rfl)
    (case sa => k_is)
    (case kC => k_is)
    (case sb => k_is)
    (case ty => k_is)
    (case e1 => k_is)
    (case e2 => k_is)
    (case e3 => k_is)
    (case e4 => k_is)
    (case e5 => k_is)
    (case e6 => k_is)
    (case e7 => k_is)
    (case ve => kit_is)
    (case xm => kts_exm)
    (case k0 => kit_is)
    (case k1 => kit_is)
    (case k2 => kit_is)
    (case k3 => kit_is)
    (case k4 => kit_is)
    (case k5 => kit_is)
    (case k6 => kit_is)
    (case k7 => kit_is)
    (case k8 => kit_is)
    (case k9 => kit_is)
    (case k10 => kit_is)
    (case k11 => kit_is)
    (case k12 => kit_is)
    (case k13 => kit_is)
    (case k14 => kit_is)
    (case k15 => kit_is)
    (case k16 => kit_is)
    (case k17 => kit_is)
    (case k18 => kit_is)
    (case k19 => kit_is)
    (case k20 => kit_is)
    (case fm => k_is)
    (case fn => k_is)
    (case sp => kernel_rfl)
    (case op => k_is)
    (case iv => k_is)
    (case mr => k_is)
    (case tp => first | rfl | decide +kernel)
    (case gs => k_is)
    (case fi => k_is)
    (case ft => k_is)
    (case i1 => k_is)
    (case i2 => k_is)
    (case i3 => k_is)
    (case i4 => rfl)
    (case i5 => decide +kernel)
    (case i6 => k_is)
    (case i7 => exact ⟨_, _, _, _, _, _, _, _, _, _, _, _, _, _, _, _, _, _, _, _, _, _, rfl, rfl⟩)
    (case i8 => rfl)
    (case i9 => rfl)
    (case ib => exact fun _ _ _ => rfl)
    refine' HX.law_cut (x := "law") (st := Q50.s_law) (ps := ["_law_script"]) KX G tabs ?a ?l ?cc ?k ?b ?lc ?hv ?nT ?r (fun f fd F hm hb hc nT hC hT => ?zL)
    (case a => k_is); (case l => k_is); (case cc => k_is); (case k => k_is); (case b => exact fun _ _ _ _ _ _ us hl => match us, hl with | [_], _ => rfl); (case lc => k_is); (case hv => rfl); (case nT => rfl); (case r => rfl)
    have e := hmg.symm.trans hm
    cases e
    refine QX.law_tgT (S := ⟨_, [(_, HX.lamQ "law")], _⟩) (fd := fd) (m := QX.m_law_b8079b) rfl hT nT hC (fun s u hK => hb s [u] hK rfl) (fun base TB => Q50.law_all (S := ⟨_, [(_, HX.lamQ "law")], _⟩) F hc G21 (by intro c hc; simp only [List.mem_cons, List.not_mem_nil, or_false] at hc; rcases hc with rfl | rfl; exact ⟨by decide, ef_NoBoard, hex_NoBoard⟩; exact ⟨by decide, ef_NoLinks, hex_NoLinks⟩) hM TB rfl xy d__law_refusal d__law_came B B4 TM g_MOST_WHEELS g_MOST_CUPS g_MOST_STEPS g_MOST_ENDS R_NoBoard R_NoLinks d__law_pen d__law_no_boards d__law_cell_at d__law_draw d__law_any_board d_has_parts d_is_whole d_is_within d_is_step d_is_wheel d_is_board d_need_board d_need_few d_renumbered d_is_wheel_number d_are_links d_ends_of_first d_ends_of_second d_joined) Q50.law_true


