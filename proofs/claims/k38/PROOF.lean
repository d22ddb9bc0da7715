import PyProof.Rows.All
import Wide.All
import OpenK.AllK
import Wide.FinOn
import HandS.ForMost
import HandS.Wide
import HandS.IsInst
import HandS.TupAny
import HandS.TupMul
import HandS.EndBits
import HandS.Flow
import HandS.Zip
import HandS.Style
import PyProof.ReprRoads
import HandS.Walk
import KE.GoesNew
import KE.GoesEnum
import HandS.SetFor
import KE.KTupSum
import KE.GoesMore
import HandS.NoneIn
import HandS.Strs
import HandS.Lambda
import HandS.ExcOwn
import HandS.ExcIs
import HandS.HotCalls
import HandS.WordsExc
import HandS.EndTab
import KE.KNest
import HandS.Deep
import KE.KeyNested
import HandS.Dict
import HandS.Conv
import HandS.TryOnly
import HandS.TupLe
import HandS.WideBits
import HandS.Defaults
import HandS.MakeKwOnly
import HandS.CallSlots
import HandS.Text
import HandS.FStr
import KE.KUnpackStar
import KE.SortData
import KE.KDictSum
import KE.KDictWalk
import KE.KDictCopyH
import KE.KDictDisplayH
import HandS.DictComp
import KE.DataCmp
import HandS.ExcInit
import KE.KExcSuper
import KE.KSuper
import HandS.ExcField
import KE.KExcIs
import PyProof.Rows.ReprOcc
import KE.KxAffix
import KE.IntBitsLaws
import PySem.Challenge.RW_marblefall_k38_boards_by_hand
set_option Elab.async false
set_option linter.all false
set_option maxRecDepth 100000
set_option maxHeartbeats 4000000
namespace HX
open PySem PySem.Spec PyProof.Rows L2
def Def (K : PySem.W.Frag) (mg : Str → Option Value) (x : Str) (st : Stmt) (ps : List Str) : Prop :=
  ∃ (f : Addr) (fd : FuncData), Fun K x x st f fd ∧ mg x = some (.ref f) ∧ Binds K fd ps []
def Cal (P : Program) (w : World) (K : PySem.W.Frag) (mg : Str → Option Value) (base : Heap) (k : Nat) (x : Str) (ps : List Str) (sp : Sp) : Prop :=
  ∃ (f : Addr) (fd : FuncData), FnOk P w K mg base CX0 k f fd ps sp ∧ mg x = some (.ref f) ∧ PySem.W.keepIn K (.ref f) = true ∧ Binds K fd ps []
section
variable {P : Program} {w : World} {K : PySem.W.Frag} {mg : Str → Option Value} {base : Heap} {j k : Nat} {x : Str} {ps : List Str} {sp sp' : Sp}
theorem Cal.mono (c : Cal P w K mg base j x ps sp) (h : j ≤ k) : Cal P w K mg base k x ps sp := by
  obtain ⟨f, fd, F, a, b, d⟩ := c
  exact ⟨f, fd, F.mono h, a, b, d⟩
theorem Cal.imp (c : Cal P w K mg base k x ps sp) (h : ∀ vs H Q E, sp' vs H Q E → sp vs H Q E) : Cal P w K mg base k x ps sp' := by
  obtain ⟨f, fd, F, a, b, d⟩ := c
  exact ⟨f, fd, F.imp h, a, b, d⟩
theorem Def.ok {st : Stmt} {N : List Str} (D : Def K mg x st ps) (S : FnScope N ps (defScope st)) (len : ∀ vs H Q E, sp vs H Q E → vs.length = ps.length)
    (hbody : ∀ (f : Addr) (cdv : Value) (A : Around) (outer : List Env) (s : Shared) (H : Hp) (vs : List V) (Q : VK) (E : XK), Room k (A.deeper (envOfC x (defScope st) s.heap.objs.size f cdv)) → sp vs H Q E →
      ∃ t, PSs (cxOf CX0 P w K mg base N x (defScope st) f cdv A outer s H E).nox (defBody st) t ∧ t { nx := fun _ H' => Q .non H', rt := Q } (start N vs) H) : Cal P w K mg base (k + 1) x ps sp := by
  obtain ⟨f, fd, F, hm, hb⟩ := D
  exact ⟨f, fd, F.ok S len (hbody f), hm, F.kp, hb⟩
end
section
variable {X : Cx} {k : Nat} {x : Str} {ps : List Str} {sp : Sp} {p pos : Pos} {e : Expr} {es : List Expr} {t : TA}
end
theorem pe_gint {X : Cx} {x : Str} {i : Int} {tk : Tok} {pos : Pos} (hg : Gl X x) (hm : X.mg x = some (.int i tk)) (hd : (x == ("__debug__" : Str)) = false := by decide) : PE X (.Name x pos) (tC (.int i)) := pe_glob hg hm ⟨tk, rfl⟩ hd
mutual
inductive Da (N : Addr → Prop) (H : Hp) : V → PyData → Prop
  | non : Da N H .non .none
  | bl (b : Bool) : Da N H (.bl b) (.bool b)
  | int (i : Int) : Da N H (.int i) (.int i)
  | str (x : Str) : Da N H (.str x) (.str x)
  | lst {a : Addr} {xs : List V} {ds : List PyData} : H a = some (.lst xs) → ¬ N a → DaAll N H xs ds → Da N H (.ref a) (.list ds)
  | tup {a : Addr} {xs : List V} {ds : List PyData} : H a = some (.tup xs) → ¬ N a → DaAll N H xs ds → Da N H (.ref a) (.tuple ds)
  | dct {a : Addr} {kvs : List (Key × V)} {ds : List (PyData × PyData)} : H a = some (.dK kvs) → ¬ N a → DaAll N H (kvs.map fun p => kV p.1) (ds.map (·.1)) → DaAll N H (kvs.map (·.2)) (ds.map (·.2)) → Da N H (.ref a) (.dict ds)
inductive DaAll (N : Addr → Prop) (H : Hp) : List V → List PyData → Prop
  | nil : DaAll N H [] []
  | cons {v : V} {vs : List V} {d : PyData} {ds : List PyData} : Da N H v d → DaAll N H vs ds → DaAll N H (v :: vs) (d :: ds)
end
def Kp (N : Addr → Prop) (H H' : Hp) : Prop := ∀ b o, H b = some o → ¬ N b → H' b = some o
theorem Kp.refl {N : Addr → Prop} (H : Hp) : Kp N H H := fun _ _ h _ => h
theorem Kp.trans {N : Addr → Prop} {H H1 H2 : Hp} (a : Kp N H H1) (b : Kp N H1 H2) : Kp N H H2 := fun c o h n => b c o (a c o h n) n
theorem Kp.of {N : Addr → Prop} {H H1 : Hp} (a : Same H H1) : Kp N H H1 := fun c o h _ => a c o h
theorem Same.new {H : Hp} {p : Addr} {o : HO} (h : H p = none) : Same H (upd H p o) := fun b x e => by
  rw [upd_ne (ne_of_none e h)]
  exact e
theorem Kp.new {N : Addr → Prop} {H : Hp} {p : Addr} {o : HO} (h : H p = none) : Kp N H (upd H p o) := Kp.of (Same.new h)
theorem Kp.put {N : Addr → Prop} {H : Hp} {p : Addr} {o : HO} (h : N p) : Kp N H (upd H p o) := fun b x e nb => by
  rw [upd_ne (fun z => nb (by rw [z]; exact h))]
  exact e
mutual
theorem Da.mono {N : Addr → Prop} {H H' : Hp} (k : Kp N H H') : ∀ (d : PyData) (v : V), Da N H v d → Da N H' v d
  | .none, _, h => by cases h; exact .non
  | .bool b, _, h => by cases h; exact .bl b
  | .int i, _, h => by cases h; exact .int i
  | .str x, _, h => by cases h; exact .str x
  | .list ds, _, h => by
    cases h with
    | lst e n ha => exact .lst (k _ _ e n) n (DaAll.mono k ds _ ha)
  | .tuple ds, _, h => by
    cases h with
    | tup e n ha => exact .tup (k _ _ e n) n (DaAll.mono k ds _ ha)
  | .dict ds, _, h => by
    cases h with
    | dct e n h1 h2 => exact .dct (k _ _ e n) n (DaAll.monoK k ds _ h1) (DaAll.monoV k ds _ h2)
theorem DaAll.mono {N : Addr → Prop} {H H' : Hp} (k : Kp N H H') : ∀ (ds : List PyData) (vs : List V), DaAll N H vs ds → DaAll N H' vs ds
  | [], _, h => by cases h; exact .nil
  | d :: ds, _, h => by
    cases h with
    | cons h1 h2 => exact .cons (Da.mono k d _ h1) (DaAll.mono k ds _ h2)
theorem DaAll.monoK {N : Addr → Prop} {H H' : Hp} (k : Kp N H H') : ∀ (ds : List (PyData × PyData)) (vs : List V), DaAll N H vs (ds.map (·.1)) → DaAll N H' vs (ds.map (·.1))
  | [], _, h => by cases h; exact .nil
  | (a, b) :: ds, _, h => by
    cases h with
    | cons h1 h2 => exact .cons (Da.mono k a _ h1) (DaAll.monoK k ds _ h2)
theorem DaAll.monoV {N : Addr → Prop} {H H' : Hp} (k : Kp N H H') : ∀ (ds : List (PyData × PyData)) (vs : List V), DaAll N H vs (ds.map (·.2)) → DaAll N H' vs (ds.map (·.2))
  | [], _, h => by cases h; exact .nil
  | (a, b) :: ds, _, h => by
    cases h with
    | cons h1 h2 => exact .cons (Da.mono k b _ h1) (DaAll.monoV k ds _ h2)
end
theorem DaAll.len {N : Addr → Prop} {H : Hp} : ∀ {vs : List V} {ds : List PyData}, DaAll N H vs ds → vs.length = ds.length
  | _, _, .nil => rfl
  | _, _, .cons _ t => by rw [List.length_cons, List.length_cons, DaAll.len t]
theorem DaAll.get {N : Addr → Prop} {H : Hp} : ∀ {vs : List V} {ds : List PyData} {i : Nat} {v : V}, DaAll N H vs ds → vs[i]? = some v → ∃ d, ds[i]? = some d ∧ Da N H v d
  | _, _, _, _, .nil, e => by simp at e
  | _, _, 0, _, .cons h _, e => by
    have e' := Option.some.inj e
    exact ⟨_, rfl, e' ▸ h⟩
  | _, _, i + 1, _, .cons _ t, e => by
    obtain ⟨d, h1, h2⟩ := DaAll.get (i := i) t (by simpa using e)
    exact ⟨d, by simpa using h1, h2⟩
theorem DaAll.append {N : Addr → Prop} {H : Hp} : ∀ {vs us : List V} {ds es : List PyData}, DaAll N H vs ds → DaAll N H us es → DaAll N H (vs ++ us) (ds ++ es)
  | _, _, _, _, .nil, s => s
  | _, _, _, _, .cons r t, s => .cons r (DaAll.append t s)
theorem DaAll.take {N : Addr → Prop} {H : Hp} : ∀ {vs : List V} {ds : List PyData} (n : Nat), DaAll N H vs ds → DaAll N H (vs.take n) (ds.take n)
  | _, _, 0, _ => .nil
  | _, _, _ + 1, .nil => .nil
  | _, _, n + 1, .cons r t => .cons r (DaAll.take n t)
theorem DaAll.drop {N : Addr → Prop} {H : Hp} : ∀ {vs : List V} {ds : List PyData} (n : Nat), DaAll N H vs ds → DaAll N H (vs.drop n) (ds.drop n)
  | _, _, 0, r => r
  | _, _, _ + 1, .nil => .nil
  | _, _, n + 1, .cons _ t => DaAll.drop n t
def tyN : PyData → String
  | .none => "NoneType"
  | .bool _ => "bool"
  | .int _ => "int"
  | .str _ => "str"
  | .list _ => "list"
  | .tuple _ => "tuple"
  | .dict _ => "dict"
theorem Da.ty {K : PySem.W.Frag} {N : Addr → Prop} {H : Hp} {v : V} {d : PyData} (h : Da N H v d) : TyX K H v (.type (tyN d)) := by
  cases h with
  | non => exact .base .non
  | bl b => exact .base (.bl b)
  | int i => exact .base (.int i)
  | str x => exact .base (.str x)
  | lst e _ _ => exact .base (.lst e)
  | tup e _ _ => exact .base (.tup e)
  | dct e _ _ _ => exact .base (.dK e)
structure Bi (mg : Str → Option Value) : Prop where
  len_ : mg "len" = none
  isinstance_ : mg "isinstance" = none
  int_ : mg "int" = none
  bool_ : mg "bool" = none
  tuple_ : mg "tuple" = none
  list_ : mg "list" = none
  all_ : mg "all" = none
  range_ : mg "range" = none
  max_ : mg "max" = none
  min_ : mg "min" = none
  repr_ : mg "repr" = none
end HX
set_option maxRecDepth 100000
set_option maxHeartbeats 4000000
namespace HX
open PySem PySem.Spec PyProof.Rows L2
section
variable {prog : Program} {w : World} {A : Around} {E : Value → Shared → Prop} {s : Shared}
end
section
variable {X : Cx}
end
end HX
set_option maxRecDepth 100000
set_option maxHeartbeats 4000000
namespace HX
open PySem PySem.Spec PyProof.Rows L2
structure Ent (A : Around) (s : Shared) (H : Hp) : Prop where
  gu : A.guards = some []
  sm : ∃ o, s.heap.get? sysModules = some o
  hm : H sysModules = none
structure FnG (P : Program) (w : World) (K : PySem.W.Frag) (mg : Str → Option Value) (base : Heap) (k : Nat) (f : Addr) (fd : FuncData) (ps : List Str) (sp : Sp) : Prop where
  len : ∀ vs H Q E, sp vs H Q E → vs.length = ps.length
  run : ∀ (A : Around) (outer : List Env) (s : Shared) (H : Hp) (args : Args) (us : List Value) (vs : List V) (Q : VK) (E : XK), Ent A s H → Room k A → Env0 P w K mg base A outer s H → BindsTo s fd args (ps.zip us) → Vals vs us → sp vs H Q E →
    codeAny (model P w) A (.call (.ref f) args) (CR CX0 outer P w H s Q E) s
section
variable {P : Program} {w : World} {K : PySem.W.Frag} {mg : Str → Option Value} {base : Heap}
theorem Fun.okG {x qual : Str} {st : Stmt} {f : Addr} {fd : FuncData} {N ps : List Str} {k : Nat} {sp : Sp} (F : Fun K x qual st f fd) (S : FnScope N ps (defScope st)) (len : ∀ vs H Q E, sp vs H Q E → vs.length = ps.length)
    (hbody : ∀ (cdv : Value) (A : Around) (outer : List Env) (s : Shared) (H : Hp) (vs : List V) (Q : VK) (E : XK), Ent A s H → Room k (A.deeper (envOfC qual (defScope st) s.heap.objs.size f cdv)) → sp vs H Q E →
      ∃ t, PSs (cxOf CX0 P w K mg base N qual (defScope st) f cdv A outer s H E).nox (defBody st) t ∧ t { nx := fun _ H' => Q .non H', rt := Q } (start N vs) H) : FnG P w K mg base (k + 1) f fd ps sp := by
  obtain ⟨oc, od, kV, doc, pm, an, cdv, ct, osl, rfl, lk, hcd⟩ := F.ex
  refine ⟨len, fun A outer s H args us vs Q E en hr e0 hb r hsp => ?_⟩
  have hl := len _ _ _ _ hsp
  have KX : K.In s.heap := e0.mod.kin.keeps fun b o e => (e0.bs b o e).1
  have lim : s.heap.NoLimit := e0.mod.nolimit.keeps fun b o e => (e0.bs b o e).1
  have hkind : ∀ y ∈ ps.zip us, (defScope st).names.lookup y.1 = some .local ∨ ((defScope st).names.lookup y.1 = some .cell ∧ ((cellsFrom (s.heap.objs.size + 1) (defScope st).names []).lookup y.1).isSome = true) := by
    rintro ⟨n, v⟩ hy
    rcases S.par n (List.of_mem_zip hy).1 with q | q
    · exact .inl q
    · exact .inr ⟨q, PySem.W.cellsFrom_some _ _ _ (.inl q)⟩
  refine codeAny_call_function hr.depth (KX _ _ lk) rfl S.co S.gen rfl (PySem.W.codeRec_of KX hcd) (hb _ _ _ _ ?_)
  refine wpAny_newFunctionEnv_cells S.kind hkind fun env he s1 xx => ?_
  subst he
  refine ⟨lim.keeps xx.toInCall.keep, codeAny_func ?_⟩
  obtain ⟨t, ht, hq⟩ := hbody cdv A outer s H vs Q E en (hr.deeper _) hsp
  have I := inv_start (CX := CX0) (E := E) S hr.hd e0 hl r xx
  refine wpAny_mono (ht.nox.run [] s1 (start N vs) H _ I hq) (fun fl s' hs => ?_) fun e s' hs => hs
  cases fl with
  | ret u =>
    obtain ⟨v, σ', H', J, rv, q⟩ := hs
    exact ⟨v, H', J.os, J.bare, J.base, J.hok, rv, q⟩
  | next =>
    obtain ⟨σ', H', J, q⟩ := hs
    exact ⟨V.non, H', J.os, J.bare, J.base, J.hok, rfl, q⟩
  | brk =>
    obtain ⟨_, _, _, q⟩ := hs
    exact False.elim q
  | cont =>
    obtain ⟨_, _, _, q⟩ := hs
    exact False.elim q
def CalG (P : Program) (w : World) (K : PySem.W.Frag) (mg : Str → Option Value) (base : Heap) (k : Nat) (x : Str) (ps : List Str) (sp : Sp) : Prop :=
  ∃ (f : Addr) (fd : FuncData), FnG P w K mg base k f fd ps sp ∧ mg x = some (.ref f) ∧ PySem.W.keepIn K (.ref f) = true ∧ Binds K fd ps []
theorem CalG.mono {j k : Nat} {x : Str} {ps : List Str} {sp : Sp} (c : CalG P w K mg base j x ps sp) (h : j ≤ k) : CalG P w K mg base k x ps sp := by
  obtain ⟨f, fd, F, a, b, d⟩ := c
  exact ⟨f, fd, ⟨F.len, fun A outer s H args us vs Q E en hr => F.run A outer s H args us vs Q E en (hr.mono h)⟩, a, b, d⟩
theorem Def.okG {k : Nat} {x : Str} {ps : List Str} {sp : Sp} {st : Stmt} {N : List Str} (D : Def K mg x st ps) (S : FnScope N ps (defScope st)) (len : ∀ vs H Q E, sp vs H Q E → vs.length = ps.length)
    (hbody : ∀ (f : Addr) (cdv : Value) (A : Around) (outer : List Env) (s : Shared) (H : Hp) (vs : List V) (Q : VK) (E : XK), Ent A s H → Room k (A.deeper (envOfC x (defScope st) s.heap.objs.size f cdv)) → sp vs H Q E →
      ∃ t, PSs (cxOf CX0 P w K mg base N x (defScope st) f cdv A outer s H E).nox (defBody st) t ∧ t { nx := fun _ H' => Q .non H', rt := Q } (start N vs) H) : CalG P w K mg base (k + 1) x ps sp := by
  obtain ⟨f, fd, F, hm, hb⟩ := D
  exact ⟨f, fd, Fun.okG F S len (hbody f), hm, F.kp, hb⟩
end
structure EntX (X : Cx) : Prop where
  gu : X.A.guards = some []
  sm : ∃ o, X.s_0.heap.get? sysModules = some o
  hm : X.H_0 sysModules = none
  ex : sysModules ∉ X.ex
section
variable {X : Cx} {pins : List (Addr × Obj)} {σ : L2.St} {H : Hp} {s : Shared}
end
theorem kV_rel {k : Key} {u : Value} (h : keyIs k u = true) : RelV (kV k) u := by
  rcases keyIs_shape h with ⟨i, t, rfl, rfl⟩ | ⟨x, t, rfl, rfl⟩
  · exact ⟨t, rfl⟩
  · exact ⟨t, rfl⟩
theorem pairs_vals {prog : Program} {w : World} {l : List DictEntry} {vs : List (Key × Value)} (hp : Pairs (mixKind prog w) l vs) : ∀ {kvs : List (Key × V)}, KV kvs vs → Vals (kvs.map fun p => kV p.1) (l.map (·.key)) ∧ Vals (kvs.map (·.2)) (l.map (·.val)) := by
  induction hp with
  | nil =>
    intro kvs rv
    cases rv
    exact ⟨.nil, .nil⟩
  | cons hk hv _ ih =>
    intro kvs rv
    cases rv with
    | cons q qs =>
      obtain ⟨i1, i2⟩ := ih qs
      obtain ⟨q1, q2⟩ := q
      refine ⟨.cons ?_ i1, .cons ?_ i2⟩
      · dsimp only
        rw [q1]
        exact kV_rel hk
      · dsimp only
        rw [hv]
        exact q2
section
variable {X : Cx} {pins : List (Addr × Obj)} {σ : L2.St} {H : Hp} {s : Shared} {N : Addr → Prop}
mutual
theorem Da.reads (I : Inv X pins σ H s) : ∀ (d : PyData) (v : V) (u : Value), Da N H v d → RelV v u → ∃ as, Reads s.heap u d as ∧ ∀ a ∈ as, H a ≠ none
  | .none, _, _, h, r => by
    cases h
    cases r
    exact ⟨_, Reads.none, fun _ z => nomatch z⟩
  | .bool b, _, _, h, r => by
    cases h
    cases r
    exact ⟨_, Reads.bool b, fun _ z => nomatch z⟩
  | .int i, _, _, h, r => by
    cases h
    obtain ⟨t, rfl⟩ := r
    exact ⟨_, Reads.int i t, fun _ z => nomatch z⟩
  | .str x, _, _, h, r => by
    cases h
    obtain ⟨t, rfl⟩ := r
    exact ⟨_, Reads.str x t, fun _ z => nomatch z⟩
  | .list ds, _, _, h, r => by
    cases h with
    | @lst a xs _ e _ ha =>
      cases r
      obtain ⟨_, its, n, rv, ho⟩ := I.hok a _ e
      obtain ⟨as, hr, hn⟩ := Da.readsAll I ds _ its ha rv
      refine ⟨_, Reads.list ho rfl rfl (by simpa using hr), fun b hb => ?_⟩
      rcases List.mem_cons.mp hb with rfl | hb
      · rw [e]
        exact fun z => nomatch z
      · exact hn b hb
  | .tuple ds, _, _, h, r => by
    cases h with
    | @tup a xs _ e _ ha =>
      cases r
      obtain ⟨_, its, rv, o, ho, hc, n, hd⟩ := I.hok a _ e
      obtain ⟨as, hr, hn⟩ := Da.readsAll I ds _ its ha rv
      exact ⟨_, Reads.tuple ho hc hd (by simpa using hr), hn⟩
  | .dict ds, _, _, h, r => by
    cases h with
    | @dct a kvs _ e _ h1 h2 =>
      cases r
      obtain ⟨_, _, vs, rv, o, es, ep, ho, hx, hd, _, hp, _⟩ := I.hok a _ e
      have hk := pairs_vals hp rv
      obtain ⟨as, r1, n1⟩ := Da.readsK I ds _ _ h1 hk.1
      obtain ⟨bs, r2, n2⟩ := Da.readsV I ds _ _ h2 hk.2
      refine ⟨_, Reads.dict ho hx.1 hd r1 r2, fun b hb => ?_⟩
      rcases List.mem_append.mp hb with hb | hb
      · rcases List.mem_cons.mp hb with rfl | hb
        · rw [e]
          exact fun z => nomatch z
        · exact n1 b hb
      · exact n2 b hb
theorem Da.readsAll (I : Inv X pins σ H s) : ∀ (ds : List PyData) (vs : List V) (us : List Value), DaAll N H vs ds → Vals vs us → ∃ as, ReadsAll s.heap us ds as ∧ ∀ a ∈ as, H a ≠ none
  | [], _, _, h, r => by
    cases h
    cases r
    exact ⟨_, ReadsAll.nil, fun _ z => nomatch z⟩
  | d :: ds, _, _, h, r => by
    cases h with
    | cons h1 h2 =>
      cases r with
      | cons r1 r2 =>
        obtain ⟨as, q1, n1⟩ := Da.reads I d _ _ h1 r1
        obtain ⟨bs, q2, n2⟩ := Da.readsAll I ds _ _ h2 r2
        exact ⟨_, ReadsAll.cons q1 q2, fun b hb => (List.mem_append.mp hb).elim (n1 b) (n2 b)⟩
theorem Da.readsK (I : Inv X pins σ H s) : ∀ (ds : List (PyData × PyData)) (vs : List V) (us : List Value), DaAll N H vs (ds.map (·.1)) → Vals vs us → ∃ as, ReadsAll s.heap us (ds.map (·.1)) as ∧ ∀ a ∈ as, H a ≠ none
  | [], _, _, h, r => by
    cases h
    cases r
    exact ⟨_, ReadsAll.nil, fun _ z => nomatch z⟩
  | (d, e) :: ds, _, _, h, r => by
    cases h with
    | cons h1 h2 =>
      cases r with
      | cons r1 r2 =>
        obtain ⟨as, q1, n1⟩ := Da.reads I d _ _ h1 r1
        obtain ⟨bs, q2, n2⟩ := Da.readsK I ds _ _ h2 r2
        exact ⟨_, ReadsAll.cons q1 q2, fun b hb => (List.mem_append.mp hb).elim (n1 b) (n2 b)⟩
theorem Da.readsV (I : Inv X pins σ H s) : ∀ (ds : List (PyData × PyData)) (vs : List V) (us : List Value), DaAll N H vs (ds.map (·.2)) → Vals vs us → ∃ as, ReadsAll s.heap us (ds.map (·.2)) as ∧ ∀ a ∈ as, H a ≠ none
  | [], _, _, h, r => by
    cases h
    cases r
    exact ⟨_, ReadsAll.nil, fun _ z => nomatch z⟩
  | (e, d) :: ds, _, _, h, r => by
    cases h with
    | cons h1 h2 =>
      cases r with
      | cons r1 r2 =>
        obtain ⟨as, q1, n1⟩ := Da.reads I d _ _ h1 r1
        obtain ⟨bs, q2, n2⟩ := Da.readsV I ds _ _ h2 r2
        exact ⟨_, ReadsAll.cons q1 q2, fun b hb => (List.mem_append.mp hb).elim (n1 b) (n2 b)⟩
end
end
mutual
def wt : PyData → Nat
  | .none => 4
  | .bool _ => 5
  | .int _ => 130
  | .str x => (reprText x).length
  | .list ds => 2 + wtAll ds
  | .tuple ds => 3 + wtAll ds
  | .dict ds => 2 + wtKv ds
def wtAll : List PyData → Nat
  | [] => 0
  | d :: ds => wt d + 2 + wtAll ds
def wtKv : List (PyData × PyData) → Nat
  | [] => 0
  | (a, b) :: ds => wt a + wt b + 4 + wtKv ds
end
mutual
def within (b : Int) : PyData → Prop
  | .none => True
  | .bool _ => True
  | .int i => -b ≤ i ∧ i ≤ b
  | .str _ => True
  | .list ds => withinAll b ds
  | .tuple ds => withinAll b ds
  | .dict ds => withinKv b ds
def withinAll (b : Int) : List PyData → Prop
  | [] => True
  | d :: ds => within b d ∧ withinAll b ds
def withinKv (b : Int) : List (PyData × PyData) → Prop
  | [] => True
  | (x, y) :: ds => within b x ∧ within b y ∧ withinKv b ds
end
structure Gd (n e : Nat) (d : PyData) : Prop where
  iw : within 100000000000000000000000000000000000000000000000000000000000000000000000000000000000000000000000000000000000000000000000 d
  wn : wt d ≤ n
  dp : d.depth ≤ e
end HX
set_option maxRecDepth 100000
set_option maxHeartbeats 4000000
namespace HX
open PySem PySem.Spec PyProof.Rows L2
def KT (H H' : Hp) : Prop := ∀ b xs, H b = some (.tup xs) → H' b = some (.tup xs)
theorem KT.refl (H : Hp) : KT H H := fun _ _ h => h
theorem KT.trans {H H1 H2 : Hp} (a : KT H H1) (b : KT H1 H2) : KT H H2 := fun c xs h => b c xs (a c xs h)
theorem KT.new {H : Hp} {p : Addr} {o : HO} (h : H p = none) : KT H (upd H p o) := fun b xs e => by
  rw [upd_ne (ne_of_none e h)]
  exact e
theorem KT.put {H : Hp} {p : Addr} {o : HO} {xs : List V} (h : H p = some (.lst xs)) : KT H (upd H p o) := fun b ys e => by
  rw [upd_ne (ne_of e h (fun z => by cases z))]
  exact e
theorem KT.same {H H' : Hp} (h : Same H H') : KT H H' := fun b xs e => h b _ e
theorem KT.kp {H H' : Hp} {p : Addr} {xs : List V} (h : H p = some (.lst xs)) (k : Kp (· = p) H H') : KT H H' := fun b ys e => k b _ e (ne_of e h (fun z => by cases z))
mutual
inductive Td (H : Hp) : V → PyData → Prop
  | non : Td H .non .none
  | bl (b : Bool) : Td H (.bl b) (.bool b)
  | int (i : Int) : Td H (.int i) (.int i)
  | str (x : Str) : Td H (.str x) (.str x)
  | tup {a : Addr} {xs : List V} {ds : List PyData} : H a = some (.tup xs) → TdAll H xs ds → Td H (.ref a) (.tuple ds)
inductive TdAll (H : Hp) : List V → List PyData → Prop
  | nil : TdAll H [] []
  | cons {v : V} {vs : List V} {d : PyData} {ds : List PyData} : Td H v d → TdAll H vs ds → TdAll H (v :: vs) (d :: ds)
end
mutual
theorem Td.mono {H H' : Hp} (k : KT H H') : ∀ (d : PyData) (v : V), Td H v d → Td H' v d
  | .none, _, h => by cases h; exact .non
  | .bool b, _, h => by cases h; exact .bl b
  | .int i, _, h => by cases h; exact .int i
  | .str x, _, h => by cases h; exact .str x
  | .tuple ds, _, h => by
    cases h with
    | tup e ha => exact .tup (k _ _ e) (TdAll.mono k ds _ ha)
  | .list _, _, h => by cases h
  | .dict _, _, h => by cases h
theorem TdAll.mono {H H' : Hp} (k : KT H H') : ∀ (ds : List PyData) (vs : List V), TdAll H vs ds → TdAll H' vs ds
  | [], _, h => by cases h; exact .nil
  | d :: ds, _, h => by
    cases h with
    | cons h1 h2 => exact .cons (Td.mono k d _ h1) (TdAll.mono k ds _ h2)
end
mutual
theorem Td.da {N : Addr → Prop} {H : Hp} (hn : ∀ a xs, H a = some (.tup xs) → ¬ N a) : ∀ (d : PyData) (v : V), Td H v d → Da N H v d
  | .none, _, h => by cases h; exact .non
  | .bool b, _, h => by cases h; exact .bl b
  | .int i, _, h => by cases h; exact .int i
  | .str x, _, h => by cases h; exact .str x
  | .tuple ds, _, h => by
    cases h with
    | tup e ha => exact .tup e (hn _ _ e) (TdAll.da hn ds _ ha)
  | .list _, _, h => by cases h
  | .dict _, _, h => by cases h
theorem TdAll.da {N : Addr → Prop} {H : Hp} (hn : ∀ a xs, H a = some (.tup xs) → ¬ N a) : ∀ (ds : List PyData) (vs : List V), TdAll H vs ds → DaAll N H vs ds
  | [], _, h => by cases h; exact .nil
  | d :: ds, _, h => by
    cases h with
    | cons h1 h2 => exact .cons (Td.da hn d _ h1) (TdAll.da hn ds _ h2)
end
theorem TdAll.len {H : Hp} : ∀ {vs : List V} {ds : List PyData}, TdAll H vs ds → vs.length = ds.length
  | _, _, .nil => rfl
  | _, _, .cons _ t => by rw [List.length_cons, List.length_cons, TdAll.len t]
theorem TdAll.get {H : Hp} : ∀ {vs : List V} {ds : List PyData} {i : Nat} {v : V}, TdAll H vs ds → vs[i]? = some v → ∃ d, ds[i]? = some d ∧ Td H v d
  | _, _, _, _, .nil, e => by simp at e
  | _, _, 0, _, .cons h _, e => by
    have e' := Option.some.inj e
    exact ⟨_, rfl, e' ▸ h⟩
  | _, _, i + 1, _, .cons _ t, e => by
    obtain ⟨d, h1, h2⟩ := TdAll.get (i := i) t (by simpa using e)
    exact ⟨d, by simpa using h1, h2⟩
theorem TdAll.at {H : Hp} : ∀ {vs : List V} {ds : List PyData} {i : Nat} {d : PyData}, TdAll H vs ds → ds[i]? = some d → ∃ v, vs[i]? = some v ∧ Td H v d
  | _, _, _, _, .nil, e => by simp at e
  | _, _, 0, _, .cons h _, e => by
    have e' := Option.some.inj e
    exact ⟨_, rfl, e' ▸ h⟩
  | _, _, i + 1, _, .cons _ t, e => by
    obtain ⟨v, h1, h2⟩ := TdAll.at (i := i) t (by simpa using e)
    exact ⟨v, by simpa using h1, h2⟩
theorem TdAll.append {H : Hp} : ∀ {vs us : List V} {ds es : List PyData}, TdAll H vs ds → TdAll H us es → TdAll H (vs ++ us) (ds ++ es)
  | _, _, _, _, .nil, s => s
  | _, _, _, _, .cons r t, s => .cons r (TdAll.append t s)
theorem TdAll.snoc {H : Hp} {vs : List V} {ds : List PyData} {v : V} {d : PyData} (h : TdAll H vs ds) (g : Td H v d) : TdAll H (vs ++ [v]) (ds ++ [d]) := h.append (.cons g .nil)
theorem TdAll.ints {H : Hp} : ∀ ns : List Int, TdAll H (ns.map V.int) (ns.map PyData.int)
  | [] => .nil
  | n :: ns => .cons (.int n) (TdAll.ints ns)
theorem Td.new {H : Hp} {p : Addr} {xs : List V} {ds : List PyData} (hp : H p = none) (h : TdAll H xs ds) : Td (upd H p (.tup xs)) (.ref p) (.tuple ds) := .tup upd_same (TdAll.mono (KT.new hp) _ _ h)
def EndsOk (n : Int) (s : List Int) : Prop := s.length ≤ 3 ∧ ∀ e ∈ s, 0 ≤ e ∧ e < n
def WheelOk (n : Int) (w : List (List Int)) : Prop := 1 ≤ w.length ∧ w.length ≤ 4 ∧ ∀ s ∈ w, EndsOk n s
structure BoardOk (ws : List (List (List Int))) (c : Int) : Prop where
  w1 : 1 ≤ ws.length
  w6 : ws.length ≤ 6
  c0 : 0 ≤ c
  c4 : c ≤ 4
  wheels : ∀ w ∈ ws, WheelOk ((ws.length : Int) + c) w
end HX
set_option maxRecDepth 100000
set_option maxHeartbeats 4000000
namespace HX
open PySem PySem.Spec PyProof.Rows L2
def Fr (N : Addr → Prop) (H : Hp) : Prop := ∀ H1, Same H H1 → ∀ p, H1 p = none → ¬ N p
theorem Fr.none (H : Hp) : Fr (fun _ => False) H := fun _ _ _ _ z => z
theorem Fr.one {H : Hp} {a : Addr} {o : HO} (h : H a = some o) : Fr (· = a) H := fun H1 s p hp z => by
  rw [z, s _ _ h] at hp
  cases hp
section
variable {N : Addr → Prop} {σ : L2.St} {H : Hp} {te : TE} {ta : TA} {d : PyData} {ds : List PyData}
end
theorem wtAll_append : ∀ xs ys : List PyData, wtAll (xs ++ ys) = wtAll xs + wtAll ys
  | [], ys => by simp [wtAll]
  | x :: xs, ys => by
    rw [List.cons_append]
    simp only [wtAll]
    rw [wtAll_append xs ys]
    omega
theorem withinAll_append {b : Int} : ∀ xs ys : List PyData, withinAll b (xs ++ ys) ↔ withinAll b xs ∧ withinAll b ys
  | [], ys => by simp [withinAll]
  | x :: xs, ys => by
    rw [List.cons_append]
    simp only [withinAll]
    rw [withinAll_append xs ys, and_assoc]
theorem depthAll_append : ∀ xs ys : List PyData, PyData.depthAll (xs ++ ys) = max (PyData.depthAll xs) (PyData.depthAll ys)
  | [], ys => by simp [PyData.depthAll]
  | x :: xs, ys => by
    rw [List.cons_append]
    simp only [PyData.depthAll]
    rw [depthAll_append xs ys]
    omega
theorem hu150 {A : Around} {k : Nat} (hr : Room k A) : A.units + 150 < cLine := by
  have := hr.un
  omega
theorem def_mk {K : PySem.W.Frag} {mg : Str → Option Value} {h : Heap} {x : Str} {st : Stmt} {ps : List Str} {f : Addr} {od an : Option Addr} {sl : Array (Option Value)} {oc kV dc pm cd ct : Value} (X : K.In h) (G : h.Ns mainGlobals mg)
    (a : PySem.W.nsIn K mainGlobals x = some (some (.ref f))) (l : K.lookup f = some ⟨oc, od, .func (PySem.W.fnOf x x (defArgs st) (defBody st) (defScope st) .none kV dc pm an cd ct), sl⟩) (c : PySem.W.codeIn K cd x = true) (k : PySem.W.keepIn K (.ref f) = true)
    (hb : ∀ (kV doc pm : Value) (an : Option Addr) (cdv ct : Value) (us : List Value), us.length = ps.length → bindArgs (PySem.W.fnOf x x (defArgs st) (defBody st) (defScope st) .none kV doc pm an cdv ct) ⟨us, []⟩ = pure (ps.zip us)) : Def K mg x st ps :=
  ⟨f, _, fun_mk l c k, PySem.W.mg_of X G a, (fun_mk l c k).binds hb⟩
theorem gint_mk {K : PySem.W.Frag} {mg : Str → Option Value} {h : Heap} {x : Str} {i : Int} {t : Tok} (X : K.In h) (G : h.Ns mainGlobals mg) (a : PySem.W.nsIn K mainGlobals x = some (some (.int i t))) : ∃ t, mg x = some (.int i t) := ⟨t, PySem.W.mg_of X G a⟩
theorem def_cut {C : Prop} {K : PySem.W.Frag} {mg : Str → Option Value} {h : Heap} {x : Str} {st : Stmt} {ps : List Str} {f : Addr} {od an : Option Addr} {sl : Array (Option Value)} {oc kV dc pm cd ct : Value} (X : K.In h) (G : h.Ns mainGlobals mg)
    (a : PySem.W.nsIn K mainGlobals x = some (some (.ref f))) (l : K.lookup f = some ⟨oc, od, .func (PySem.W.fnOf x x (defArgs st) (defBody st) (defScope st) .none kV dc pm an cd ct), sl⟩) (c : PySem.W.codeIn K cd x = true) (k : PySem.W.keepIn K (.ref f) = true)
    (hb : ∀ (kV doc pm : Value) (an : Option Addr) (cdv ct : Value) (us : List Value), us.length = ps.length → bindArgs (PySem.W.fnOf x x (defArgs st) (defBody st) (defScope st) .none kV doc pm an cdv ct) ⟨us, []⟩ = pure (ps.zip us)) (z : Def K mg x st ps → C) : C :=
  z (def_mk X G a l c k hb)
structure Pt (b : Int) (w e : Nat) (ds : List PyData) : Prop where
  iw : withinAll b ds
  wn : wtAll ds ≤ w
  dp : PyData.depthAll ds ≤ e
theorem Pt.append {b : Int} {w1 w2 e : Nat} {xs ys : List PyData} (h : Pt b w1 e xs) (g : Pt b w2 e ys) : Pt b (w1 + w2) e (xs ++ ys) := by
  refine ⟨(withinAll_append _ _).mpr ⟨h.iw, g.iw⟩, ?_, ?_⟩
  · rw [wtAll_append]
    exact Nat.add_le_add h.wn g.wn
  · rw [depthAll_append]
    exact Nat.max_le.mpr ⟨h.dp, g.dp⟩
theorem Pt.one {b : Int} {w e : Nat} {d : PyData} (h1 : within b d) (h2 : wt d ≤ w) (h3 : d.depth ≤ e) : Pt b (w + 2) e [d] := by
  refine ⟨?_, ?_, ?_⟩
  · simp only [withinAll]
    exact ⟨h1, trivial⟩
  · simp only [wtAll]
    omega
  · simp only [PyData.depthAll]
    omega
theorem Pt.le {b : Int} {w w' e : Nat} {xs : List PyData} (h : Pt b w e xs) (hw : w ≤ w') : Pt b w' e xs := ⟨h.iw, Nat.le_trans h.wn hw, h.dp⟩
theorem Pt.cut {b : Int} {w e : Nat} {xs : List PyData} (h : Pt b w e xs) (n : Nat) : ∃ w1 w2, Pt b w1 e (xs.take n) ∧ Pt b w2 e (xs.drop n) ∧ w1 + w2 ≤ w := by
  obtain ⟨h1, h2, h3⟩ := h
  have q1 := (withinAll_append (xs.take n) (xs.drop n)).mp (by rw [List.take_append_drop]; exact h1)
  have q2 := wtAll_append (xs.take n) (xs.drop n)
  rw [List.take_append_drop] at q2
  have q3 := depthAll_append (xs.take n) (xs.drop n)
  rw [List.take_append_drop] at q3
  exact ⟨_, _, ⟨q1.1, Nat.le_refl _, by omega⟩, ⟨q1.2, Nat.le_refl _, by omega⟩, by omega⟩
end HX
set_option maxRecDepth 100000
set_option maxHeartbeats 1000000
namespace HX
open PySem PySem.Spec PyProof.Rows L2
inductive Ki where
  | l | t
def SqK (K : PySem.W.Frag) (H : Hp) : Ki → Addr → List V → Prop
  | .l, a, xs => SqL K H a xs
  | .t, a, xs => SqT K H a xs
def ItrK (h : Heap) : Ki → Addr → Addr → Nat → Prop
  | .l, it, a, i => h.IsListIter it a i
  | .t, it, a, i => h.IsTupleIter it a i
def SeqK (h : Heap) : Ki → Addr → Array Value → Prop
  | .l, a, its => h.IsList a its
  | .t, a, its => h.IsTuple a its
def itO : Ki → Addr → Obj
  | .l, a => { cls := .type "list_iterator", data := .fields #[.ref a, .int 0 0] }
  | .t, a => { cls := .type "tuple_iterator", data := .fields #[.ref a, .int 0 0] }
theorem beginsK (k : Ki) (a : Addr) (its : Array Value) : Begins (.ref a) (itO k a) (fun h => SeqK h k a its) := by
  cases k with
  | l => exact begins_list a its
  | t => exact begins_tuple a its
theorem drawsK {prog : Program} {w : World} {A : Around} (hh : A.handled = none) (k : Ki) (it a : Addr) (hne : a ≠ it) (its : Array Value) :
    Draws prog w A it [it, a] its.size (fun i v => its[i]? = some v) (fun i h => ItrK h k it a i ∧ SeqK h k a its) := by
  cases k with
  | l => exact Draws.list hh it a hne its
  | t => exact Draws.tuple hh it a hne its
theorem itrK_of {h : Heap} {k : Ki} {it a : Addr} (e : h.get? it = some (itO k a)) : ItrK h k it a 0 := by
  cases k with
  | l => exact ⟨_, e, rfl, rfl⟩
  | t => exact ⟨_, e, rfl, rfl⟩
theorem itrK_at {h h' : Heap} {k : Ki} {it a : Addr} {i : Nat} (x : ItrK h k it a i) (e : ∀ o, h.get? it = some o → h'.get? it = some o) : ItrK h' k it a i := by
  cases k with
  | l => exact Heap.IsListIter.at x e
  | t => exact Heap.IsTupleIter.at x e
theorem itrK_obj {h : Heap} {k : Ki} {it a : Addr} {i : Nat} (x : ItrK h k it a i) : ∃ o, h.get? it = some o ∧ ∀ v, o.data ≠ .cell v := by
  cases k with
  | l =>
    obtain ⟨o, e, _, d⟩ := x
    exact ⟨o, e, fun v q => by rw [d] at q; cases q⟩
  | t =>
    obtain ⟨o, e, _, d⟩ := x
    exact ⟨o, e, fun v q => by rw [d] at q; cases q⟩
section
variable {X : Cx} {pins : List (Addr × Obj)} {σ : L2.St} {H : Hp} {s : Shared} {k : Ki} {a : Addr} {xs ys : List V}
theorem inv_seqK (I : Inv X pins σ H s) (h : SqK X.K H k a xs) : ∃ its : List Value, Vals xs its ∧ SeqK s.heap k a its.toArray := by
  cases k with
  | l =>
    obtain ⟨its, rv, p, _⟩ := I.list h
    exact ⟨its, rv, p.isList⟩
  | t =>
    obtain ⟨its, rv, p, _⟩ := I.tuple h
    exact ⟨its, rv, p⟩
theorem inv_seqK_inj (I : Inv X pins σ H s) (h : SqK X.K H k a xs) (h' : SqK X.K H k a ys) : xs = ys := by
  cases k with
  | l => exact I.list_inj h h'
  | t => exact I.tuple_inj h h'
theorem seqK_lt {h : Heap} {its : Array Value} (x : SeqK h k a its) : a < h.objs.size := by
  cases k with
  | l =>
    obtain ⟨o, e, _⟩ := x
    exact Heap.lt_size e
  | t =>
    obtain ⟨o, e, _⟩ := x
    exact Heap.lt_size e
end
theorem SqK.same {K : PySem.W.Frag} {H H' : Hp} {k : Ki} {a : Addr} {xs : List V} (s : Same H H') (h : SqK K H k a xs) : SqK K H' k a xs := by
  cases k with
  | l => exact s.seq h
  | t =>
    rcases h with (h | ⟨o, h⟩) | h
    · exact .inl (.inl (s _ _ h))
    · exact .inl (.inr ⟨o, s _ _ h⟩)
    · exact .inr h
def Itz2 (K : PySem.W.Frag) (k1 : Ki) (a : Addr) (k2 : Ki) (b : Addr) : It :=
  ⟨fun i H => ∃ (xs ys : List V) (x y : V), SqK K H k1 a xs ∧ SqK K H k2 b ys ∧ xs[i]? = some x ∧ ys[i]? = some y,
    fun i H v H' => ∃ T x y, v = .ref T ∧ H T = none ∧ H' = upd H T (.tup [x, y]) ∧ (∀ xs, SqK K H k1 a xs → xs[i]? = some x) ∧ ∀ ys, SqK K H k2 b ys → ys[i]? = some y,
    fun i H => ∃ xs ys : List V, SqK K H k1 a xs ∧ SqK K H k2 b ys ∧ i = min xs.length ys.length⟩
theorem turn_zip2 {P : Program} {w : World} {K : PySem.W.Frag} {elts : List Expr} {kk : Nat} {tpos : Pos} {k1 k2 : Ki} {a b z TI TO i1 i2 : Addr} (S : ZipSep2 z TI TO i1 i2 [i1, a] [i2, b]) (na : a ≠ i1) (nb : b ≠ i2) :
    Turn P w K (.Tuple elts kk tpos) (Itz2 K k1 a k2 b) [z, TI, TO, i1, i2] z (fun i h => IsZip h z TI TO .none ∧ IsTupOf2 h TI (.ref i1) (.ref i2) ∧ (∃ x y, IsTupOf2 h TO x y) ∧ ItrK h k1 i1 a i ∧ ItrK h k2 i2 b i) where
  mem := by simp
  obj := fun i h st c hc => by
    obtain ⟨hz, hTI, ⟨x, y, hTO⟩, h1, h2⟩ := st
    have e' : c = z ∨ c = TI ∨ c = TO ∨ c = i1 ∨ c = i2 := by simpa using hc
    rcases e' with rfl | rfl | rfl | rfl | rfl
    · exact ⟨_, hz, fun v q => nomatch q⟩
    · exact ⟨_, hTI, fun v q => nomatch q⟩
    · exact ⟨_, hTO, fun v q => nomatch q⟩
    · exact itrK_obj h1
    · exact itrK_obj h2
  keep := fun i h h' st k => by
    obtain ⟨hz, hTI, ⟨x, y, hTO⟩, h1, h2⟩ := st
    exact ⟨k z (by simp) _ hz, k TI (by simp) _ hTI, ⟨x, y, k TO (by simp) _ hTO⟩, itrK_at h1 fun o q => k i1 (by simp) o q, itrK_at h2 fun o q => k i2 (by simp) o q⟩
  item := by
    intro X hP hw hK hc i pins s σ H E I hf st hg
    subst hP hw hK
    obtain ⟨hz, hTI, hTO, h1, h2⟩ := st
    obtain ⟨xs, ys, x, y, hqx, hqy, hx, hy⟩ := hg
    obtain ⟨its, rv, p⟩ := inv_seqK I hqx
    obtain ⟨its2, rv2, p2⟩ := inv_seqK I hqy
    have l1 := rv.length
    have l2 := rv2.length
    have b1 := (List.getElem?_eq_some_iff.mp hx).1
    have b2 := (List.getElem?_eq_some_iff.mp hy).1
    have hh : X.A.in1.handled = none := I.ok.hd hc
    have G := GoesN.zip2 (A := X.A) (elts := elts) (x1 := kk) (pos := tpos) S (drawsK (prog := X.prog) (w := X.w) hh k1 i1 a na its.toArray) (drawsK (prog := X.prog) (w := X.w) hh k2 i2 b nb its2.toArray)
    refine G.goes i s _ E (by rw [List.size_toArray, List.size_toArray]; omega) ⟨hz, hTI, hTO, ⟨h1, p⟩, ⟨h2, p2⟩⟩ fun v h' tk hY st' hk htk => ?_
    obtain ⟨T, u, u2, rfl, hT, hu, hu2, hTup⟩ := hY
    obtain ⟨q1, q2, q3, q4, q5⟩ := st'
    obtain ⟨u', e1, ru⟩ := rv.get hx
    obtain ⟨u2', e2, ru2⟩ := rv2.get hy
    have e3 : u' = u := Option.some.inj (e1.symm.trans (by simpa using hu))
    have e4 : u2' = u2 := Option.some.inj (e2.symm.trans (by simpa using hu2))
    subst e3 e4
    have new : ObjOk X.prog X.w (upd H T (.tup [x, y])) h' T (.tup [x, y]) := ⟨by show 2 ≤ sizeLine; decide, [u', u2'], .cons ru (.cons ru2 .nil), hTup⟩
    have I1 : Inv X pins σ (upd H T (.tup [x, y])) { s with heap := h', toks := tk } :=
      I.turnedNew (t' := tk) (ch := [z, TI, TO, i1, i2]) (fun c o hb q => hk c o (fun m => hb (by
        have e' : c = z ∨ c = TO ∨ c = i1 ∨ c = i2 := by simpa using m
        rcases e' with rfl | rfl | rfl | rfl <;> simp)) q) hf hT new
    refine ⟨.ref T, _, I1, rfl, ⟨T, x, y, rfl, I.hok.fresh hT, rfl, fun l hl => by rw [inv_seqK_inj I hl hqx]; exact hx, fun l hl => by rw [inv_seqK_inj I hl hqy]; exact hy⟩, ⟨q1, q2, q3, q4.1, q5.1⟩, fun c hcm => ?_⟩
    have hlt : c < s.heap.objs.size := by
      have e' : c = z ∨ c = TI ∨ c = TO ∨ c = i1 ∨ c = i2 := by simpa using hcm
      obtain ⟨x0, y0, hTO'⟩ := hTO
      rcases e' with rfl | rfl | rfl | rfl | rfl
      · exact Heap.lt_size hz
      · exact Heap.lt_size hTI
      · exact Heap.lt_size hTO'
      · exact Heap.lt_size (itrK_obj h1).choose_spec.1
      · exact Heap.lt_size (itrK_obj h2).choose_spec.1
    rw [upd_ne (Nat.ne_of_lt (Nat.lt_of_lt_of_le hlt hT))]
    exact (hf c hcm).1
  done := by
    intro X hP hw hK hc i pins s σ H E I hf st hg
    subst hP hw hK
    obtain ⟨hz, hTI, hTO, h1, h2⟩ := st
    obtain ⟨xs, ys, hqx, hqy, hend⟩ := hg
    obtain ⟨its, rv, p⟩ := inv_seqK I hqx
    obtain ⟨its2, rv2, p2⟩ := inv_seqK I hqy
    have l1 := rv.length
    have l2 := rv2.length
    have hh : X.A.in1.handled = none := I.ok.hd hc
    have G := GoesN.zip2 (A := X.A) (elts := elts) (x1 := kk) (pos := tpos) S (drawsK (prog := X.prog) (w := X.w) hh k1 i1 a na its.toArray) (drawsK (prog := X.prog) (w := X.w) hh k2 i2 b nb its2.toArray)
    have ei : i = min its.toArray.size its2.toArray.size := by rw [List.size_toArray, List.size_toArray]; omega
    subst ei
    exact G.stops s _ E ⟨hz, hTI, hTO, ⟨h1, p⟩, ⟨h2, p2⟩⟩ fun h' tk hk htk => I.turnedL (t' := tk) (ch := [z, TI, TO, i1, i2]) (fun c o hb q => hk c o (fun m => hb (by
        have e' : c = z ∨ c = TO ∨ c = i1 ∨ c = i2 := by simpa using m
        rcases e' with rfl | rfl | rfl | rfl <;> simp)) q) hf
  self := fun A i s Q E st h => wpAny_pyIter_zip st.1 h
def iZip2 (K : PySem.W.Frag) (ta : TA) : TI := fun σ H R => ta σ H fun vs H1 => ∃ k1 a k2 b xs ys, vs = [.ref a, .ref b] ∧ SqK K H1 k1 a xs ∧ SqK K H1 k2 b ys ∧ R (Itz2 K k1 a k2 b) H1
theorem pi_zip2 {X : Cx} {e e2 : Expr} {ta : TA} {p pos tpos : Pos} {elts : List Expr} {kk : Nat} (hg : Gl X "zip") (hm : X.mg "zip" = none) (ha : PA X [e, e2] ta)
    (hs : starEach [e, e2] X.env = (false, eval e X.env) :: starEach [e2] X.env := by rfl) (hpl : (backTo pos (starEach [e2] X.env)).any (·.1) = false := by rfl) :
    PI X (.Tuple elts kk tpos) (.Call (.Name "zip" p) [e, e2] [] pos) (iZip2 X.K ta) := by
  refine ⟨fun pins s σ H R I h => ?_⟩
  refine Call_ (ld_blt I hg hm PyProof.Rows.boot_zip (PyProof.Rows.callWith_type1 (thn (ha.run pos pins s σ H _ I h) fun us s1 ⟨vs, H1, I1, r1, q1⟩ => ?_) hs hpl))
  obtain ⟨k1, a, k2, b, xs, ys, rfl, hqx, hqy, q⟩ := q1
  obtain ⟨u1, u2, rfl, r, r'⟩ := vals2 r1
  cases r
  cases r'
  obtain ⟨its, rv, p1⟩ := inv_seqK I1 hqx
  obtain ⟨its2, rv2, p2⟩ := inv_seqK I1 hqy
  have la := seqK_lt p1
  have lb := seqK_lt p2
  refine zip_begins2 (beginsK k1 a its.toArray) (beginsK k2 b its2.toArray) p1 p2 fun h' hz hTI hTO g1 g2 hsz hk => wpAny_pyIter_zip hz ?_
  have I2 : Inv X pins σ H1 { s1 with heap := h' } := I1.kept (t' := s1.toks) hk
  refine ⟨s1.heap.objs.size + 4, [s1.heap.objs.size + 4, s1.heap.objs.size + 2, s1.heap.objs.size + 3, s1.heap.objs.size, s1.heap.objs.size + 1], _, _, H1, rfl, I2,
    turn_zip2 (zip_sep2 (N := s1.heap.objs.size) (fp1 := [a]) (fp2 := [b]) (fun c m => by rw [List.mem_singleton.mp m]; exact la) (fun c m => by rw [List.mem_singleton.mp m]; exact lb)) (Nat.ne_of_lt la) (Nat.ne_of_lt (Nat.lt_succ_of_lt lb)),
    ⟨hz, hTI, ⟨_, _, hTO⟩, itrK_of g1, itrK_of g2⟩, fun c hcm => ?_, q⟩
  have hle : s1.heap.objs.size ≤ c := by
    have e' : c = s1.heap.objs.size + 4 ∨ c = s1.heap.objs.size + 2 ∨ c = s1.heap.objs.size + 3 ∨ c = s1.heap.objs.size ∨ c = s1.heap.objs.size + 1 := by simpa using hcm
    rcases e' with e' | e' | e' | e' | e' <;> rw [e'] <;> first | exact Nat.le_refl _ | exact Nat.le_add_right _ _
  exact I1.fpOk hle (I1.hok.fresh hle)
end HX
set_option maxRecDepth 100000
set_option maxHeartbeats 1000000
namespace HX
open PySem PySem.Spec PyProof.Rows L2
structure Bi2 (mg : Str → Option Value) : Prop where
  zip_ : mg "zip" = none
  enumerate_ : mg "enumerate" = none
  sum_ : mg "sum" = none
end HX
set_option maxRecDepth 100000
set_option maxHeartbeats 1000000
namespace HX
open PySem PySem.Spec PyProof.Rows L2
theorem enum_make {v : Value} {o : Obj} {J : Heap → Prop} (B : Begins v o J) :
    Meets (Builtin.«enumerate.__new__» ⟨[.type "enumerate", v], []⟩) (fun _ R s => J s.heap ∧ R (.ok (.ret (.ref (s.heap.push o).objs.size))) { s with heap := (s.heap.push o).push { cls := .type "enumerate", data := .fields #[.none, .bool false, .ref s.heap.objs.size, rawInt 0, .none, .none] } }) :=
  .of_wp fun prog w A R s h => by
    obtain ⟨hp, g, d, tk, os⟩ := s
    obtain ⟨hJ, h⟩ := h
    have hsub := sub_enumerate
    have goes : ∀ {A' : Around} {E : Value → Shared → Prop} {Q : Value → Shared → Prop}, Q (.ref hp.objs.size) ⟨hp.push o, g, d, tk, os⟩ → wpAny (model prog w) A' (pyIter v) Q E ⟨hp, g, d, tk, os⟩ :=
      fun q => B.iter prog w _ _ ⟨hp, g, d, tk, os⟩ _ hJ q
    wp_walk using goes
    refine wpAny_stack_any fun st => wpAny_pure ?_
    split
    · rename_i c _ _ _ _ _
      cases (c == Value.type "enumerate") <;> (wp_walk using goes; exact ⟨_, rfl, h⟩)
    · wp_walk using goes
      exact ⟨_, rfl, h⟩
theorem enum_call {prog : Program} {w : World} {A : Around} {E : Value → Shared → Prop} {s : Shared} {v : Value} {o : Obj} {J : Heap → Prop} {Q : Value → Shared → Prop} (B : Begins v o J) (hJ : J s.heap)
    (h : ∀ h', IsEnum h' (s.heap.objs.size + 1) s.heap.objs.size 0 .none → h'.get? s.heap.objs.size = some o → h'.objs.size = s.heap.objs.size + 2 → (∀ b o, s.heap.get? b = some o → h'.get? b = some o) → Q (.ref (s.heap.objs.size + 1)) { s with heap := h' }) :
    wpAny (model prog w) A (call (.type "enumerate") [v]) Q E s := by
  refine callType_new F.called_enumerate (by decide) (F.typeCall_enumerate_1 _) (F.newCall_enumerate_1 _) (fun obj => F.args_object_init_2 obj _) F.entry_enumerate_new (enum_make B) ⟨hJ, ?_⟩
  have hz : (s.heap.push o).objs.size = s.heap.objs.size + 1 := Heap.size_push ..
  show _ ∧ _
  rw [hz]
  have he : IsEnum ((s.heap.push o).push { cls := .type "enumerate", data := .fields #[.none, .bool false, .ref s.heap.objs.size, rawInt 0, .none, .none] }) (s.heap.objs.size + 1) s.heap.objs.size 0 .none := by
    have e := Heap.get?_push_size (s.heap.push o) (o := { cls := .type "enumerate", data := .fields #[.none, .bool false, .ref s.heap.objs.size, rawInt 0, .none, .none] }) rfl
    rw [hz] at e
    exact e
  exact ⟨⟨_, he, rfl⟩, h _ he (Heap.get?_push_of_some _ (Heap.get?_push_size _ B.free)) (by rw [Heap.size_push, hz]) fun b o x => Heap.get?_push_of_some _ (Heap.get?_push_of_some _ x)⟩
def IteK (K : PySem.W.Frag) (k : Ki) (a : Addr) : It :=
  ⟨fun i H => ∃ (xs : List V) (x : V), SqK K H k a xs ∧ xs[i]? = some x,
    fun i H v H' => ∃ T x, v = .ref T ∧ H T = none ∧ H' = upd H T (.tup [.int (i : Nat), x]) ∧ ∀ xs, SqK K H k a xs → xs[i]? = some x,
    fun i H => ∃ xs : List V, SqK K H k a xs ∧ i = xs.length⟩
theorem turn_enumK {P : Program} {w : World} {K : PySem.W.Frag} {elts : List Expr} {kk : Nat} {tpos : Pos} {k : Ki} {a e it : Addr} (nei : e ≠ it) (nea : e ≠ a) (na : a ≠ it) :
    Turn P w K (.Tuple elts kk tpos) (IteK K k a) [e, it] e (fun i h => (∃ old, IsEnum h e it ((0 : Int) + (i : Int)) old) ∧ ItrK h k it a i) where
  mem := by simp
  obj := fun i h st c hc => by
    obtain ⟨⟨old, he⟩, h1⟩ := st
    have e' : c = e ∨ c = it := by simpa using hc
    rcases e' with rfl | rfl
    · exact ⟨_, he, fun v q => nomatch q⟩
    · exact itrK_obj h1
  keep := fun i h h' st k => by
    obtain ⟨⟨old, he⟩, h1⟩ := st
    exact ⟨⟨old, k e (by simp) _ he⟩, itrK_at h1 fun o q => k it (by simp) o q⟩
  item := by
    intro X hP hw hK hc i pins s σ H E I hf st hg
    subst hP hw hK
    obtain ⟨he, h1⟩ := st
    obtain ⟨xs, x, hqx, hx⟩ := hg
    obtain ⟨its, rv, p⟩ := inv_seqK I hqx
    have l1 := rv.length
    have b1 := (List.getElem?_eq_some_iff.mp hx).1
    have hh : X.A.in1.handled = none := I.ok.hd hc
    have G := GoesN.enumFrom (A := X.A) (elts := elts) (x1 := kk) (pos := tpos) 0 (drawsK (prog := X.prog) (w := X.w) hh k it a na its.toArray) e nei (by simp [nei, nea]) (by simp)
    refine G.goes i s _ E (by rw [List.size_toArray]; omega) ⟨he, ⟨h1, p⟩⟩ fun v h' tk hY st' hk htk => ?_
    obtain ⟨T, t, u, rfl, hT, hu, hTup⟩ := hY
    obtain ⟨q1, q2, q3⟩ := st'
    obtain ⟨u', e1, ru⟩ := rv.get hx
    have e3 : u' = u := Option.some.inj (e1.symm.trans (by simpa using hu))
    subst e3
    have e0 : (0 : Int) + (i : Int) = ((i : Nat) : Int) := by omega
    rw [e0] at hTup
    have new : ObjOk X.prog X.w (upd H T (.tup [.int (i : Nat), x])) h' T (.tup [.int (i : Nat), x]) := ⟨by show 2 ≤ sizeLine; decide, [.int (i : Nat) t, u'], .cons ⟨_, rfl⟩ (.cons ru .nil), hTup⟩
    have I1 : Inv X pins σ (upd H T (.tup [.int (i : Nat), x])) { s with heap := h', toks := tk } := I.turnedNew (t' := tk) (ch := [e, it]) (fun c o hb q => hk c o hb q) hf hT new
    refine ⟨.ref T, _, I1, rfl, ⟨T, x, rfl, I.hok.fresh hT, rfl, fun l hl => by rw [inv_seqK_inj I hl hqx]; exact hx⟩, ⟨q1, q2⟩, fun c hcm => ?_⟩
    have hlt : c < s.heap.objs.size := by
      have e' : c = e ∨ c = it := by simpa using hcm
      obtain ⟨old, he'⟩ := he
      rcases e' with rfl | rfl
      · exact Heap.lt_size he'
      · exact Heap.lt_size (itrK_obj h1).choose_spec.1
    rw [upd_ne (Nat.ne_of_lt (Nat.lt_of_lt_of_le hlt hT))]
    exact (hf c hcm).1
  done := by
    intro X hP hw hK hc i pins s σ H E I hf st hg
    subst hP hw hK
    obtain ⟨he, h1⟩ := st
    obtain ⟨xs, hqx, hend⟩ := hg
    obtain ⟨its, rv, p⟩ := inv_seqK I hqx
    have l1 := rv.length
    have hh : X.A.in1.handled = none := I.ok.hd hc
    have G := GoesN.enumFrom (A := X.A) (elts := elts) (x1 := kk) (pos := tpos) 0 (drawsK (prog := X.prog) (w := X.w) hh k it a na its.toArray) e nei (by simp [nei, nea]) (by simp)
    have ei : i = its.toArray.size := by rw [List.size_toArray]; omega
    subst ei
    exact G.stops s _ E ⟨he, ⟨h1, p⟩⟩ fun h' tk hk htk => I.turnedL (t' := tk) (ch := [e, it]) (fun c o hb q => hk c o hb q) hf
  self := fun A i s Q E st h => let ⟨⟨_, he⟩, _⟩ := st; wpAny_pyIter_enum he h
def iEnumK (K : PySem.W.Frag) (ta : TA) : TI := fun σ H R => ta σ H fun vs H1 => ∃ k a xs, vs = [.ref a] ∧ SqK K H1 k a xs ∧ R (IteK K k a) H1
theorem pi_enumT {X : Cx} {e : Expr} {ta : TA} {p pos tpos : Pos} {elts : List Expr} {kk : Nat} (hg : Gl X "enumerate") (hm : X.mg "enumerate" = none) (ha : PA X [e] ta) (hs : starEach [e] X.env = [(false, eval e X.env)] := by rfl) :
    PI X (.Tuple elts kk tpos) (.Call (.Name "enumerate" p) [e] [] pos) (iEnumK X.K ta) := by
  refine ⟨fun pins s σ H R I h => ?_⟩
  refine Call_ (ld_blt I hg hm boot_enumerate (PyProof.Rows.callWith_type1 (thn (ha.run pos pins s σ H _ I h) fun us s1 ⟨vs, H1, I1, r1, q1⟩ => ?_) hs rfl))
  obtain ⟨k, a, xs, rfl, hqx, q⟩ := q1
  obtain ⟨u1, rfl, r⟩ := vals1 r1
  cases r
  obtain ⟨its, rv, p1⟩ := inv_seqK I1 hqx
  have la := seqK_lt p1
  refine enum_call (beginsK k a its.toArray) p1 fun h' he g1 hsz hk => wpAny_pyIter_enum he ?_
  have I2 : Inv X pins σ H1 { s1 with heap := h' } := I1.kept (t' := s1.toks) hk
  refine ⟨s1.heap.objs.size + 1, [s1.heap.objs.size + 1, s1.heap.objs.size], _, _, H1, rfl, I2, turn_enumK (Nat.succ_ne_self _) (Nat.ne_of_gt (Nat.lt_succ_of_lt la)) (Nat.ne_of_lt la), ⟨⟨.none, he⟩, itrK_of g1⟩, fun c hcm => ?_, q⟩
  have hle : s1.heap.objs.size ≤ c := by
    have e' : c = s1.heap.objs.size + 1 ∨ c = s1.heap.objs.size := by simpa using hcm
    rcases e' with e' | e' <;> rw [e'] <;> first | exact Nat.le_refl _ | exact Nat.le_add_right _ _
  exact I1.fpOk hle (I1.hok.fresh hle)
def rGetL (K : PySem.W.Frag) : V → V → Hp → VK → Prop := fun o i H Q => ∃ p xs j z, o = .ref p ∧ i = .int ((j : Nat) : Int) ∧ SqL K H p xs ∧ xs[j]? = some z ∧ Q z H
theorem get_list {X : Cx} : PGet X (rGetL X.K) := by
  intro pins s σ H o i ov iv Q I ro ri h
  obtain ⟨p, xs, j, z, rfl, rfl, hq, hz, q⟩ := h
  cases ro
  obtain ⟨t, rfl⟩ := ri
  obtain ⟨its, r, pl, hsz⟩ := I.list hq
  obtain ⟨u, e, ru⟩ := r.get hz
  have hj := (List.getElem?_eq_some_iff.mp hz).1
  have hn := line63
  exact wpAny_getItem_list pl.isList (by omega) (by omega) (by simpa using e) ⟨z, H, I, ru, q⟩
end HX
set_option maxRecDepth 100000
set_option maxHeartbeats 1000000
namespace HX
open PySem PySem.Spec PyProof.Rows L2
structure Mo where
  st : List Int
  wt : List Int
  hd : List Int
def bump (l : List Int) (i : Nat) (d : Int) : List Int := l.set i (l.getD i 0 + d)
theorem bump_len {l : List Int} {i : Nat} {d : Int} : (bump l i d).length = l.length := List.length_set
def sendM (W : Nat) (p : List Int × List Int) (e : Int) : List Int × List Int := if e < (W : Int) then (bump p.1 e.toNat 1, p.2) else (p.1, bump p.2 (e - (W : Int)).toNat 1)
def endsAt (ws : List (List (List Int))) (st : List Int) (w : Nat) : List Int := (ws.getD w []).getD (st.getD w 0).toNat []
def sentM (ws : List (List (List Int))) (m : Mo) (w : Nat) : List Int × List Int := (endsAt ws m.st w).foldl (sendM ws.length) (bump m.wt w (-1), m.hd)
def handleM (ws : List (List (List Int))) (m : Mo) (w : Nat) : Mo := ⟨m.st.set w ((m.st.getD w 0 + 1) % ((ws.getD w []).length : Int)), (sentM ws m w).1, (sentM ws m w).2⟩
structure MoF (ws : List (List (List Int))) (c : Int) (m : Mo) : Prop where
  sl : m.st.length = ws.length
  sr : ∀ (i : Nat) (s : Int) (w : List (List Int)), m.st[i]? = some s → ws[i]? = some w → 0 ≤ s ∧ s < (w.length : Int)
  wl : m.wt.length = ws.length
  hl : (m.hd.length : Int) = c
structure MoOk (ws : List (List (List Int))) (c : Int) (m : Mo) : Prop extends MoF ws c m where
  wn : ∀ x ∈ m.wt, 0 ≤ x
  hn : ∀ x ∈ m.hd, 0 ≤ x
theorem send_len (W : Nat) : ∀ (es : List Int) (p : List Int × List Int), ((es.foldl (sendM W) p).1.length = p.1.length) ∧ ((es.foldl (sendM W) p).2.length = p.2.length)
  | [], p => ⟨rfl, rfl⟩
  | e :: es, p => by
    obtain ⟨h1, h2⟩ := send_len W es (sendM W p e)
    rw [List.foldl_cons]
    refine ⟨h1.trans ?_, h2.trans ?_⟩
    · unfold sendM
      split
      · exact bump_len
      · rfl
    · unfold sendM
      split
      · rfl
      · exact bump_len
theorem bump_nn {l : List Int} {i : Nat} {d : Int} (h : ∀ x ∈ l, 0 ≤ x) (hd : 0 ≤ l.getD i 0 + d) : ∀ x ∈ bump l i d, 0 ≤ x := by
  intro x hx
  rcases List.mem_or_eq_of_mem_set hx with hx | hx
  · exact h x hx
  · rw [hx]
    exact hd
theorem getD_nn {l : List Int} {i : Nat} (h : ∀ x ∈ l, 0 ≤ x) : 0 ≤ l.getD i 0 := by
  rw [List.getD_eq_getElem?_getD]
  cases e : l[i]? with
  | none => exact Int.le_refl 0
  | some x => exact h x (List.mem_of_getElem? e)
theorem send_nn (W : Nat) : ∀ (es : List Int) (p : List Int × List Int), (∀ x ∈ p.1, 0 ≤ x) → (∀ x ∈ p.2, 0 ≤ x) → (∀ x ∈ (es.foldl (sendM W) p).1, 0 ≤ x) ∧ ∀ x ∈ (es.foldl (sendM W) p).2, 0 ≤ x
  | [], p, h1, h2 => ⟨h1, h2⟩
  | e :: es, p, h1, h2 => by
    rw [List.foldl_cons]
    refine send_nn W es _ ?_ ?_
    · unfold sendM
      split
      · exact bump_nn h1 (by have := getD_nn (i := e.toNat) h1; omega)
      · exact h1
    · unfold sendM
      split
      · exact h2
      · exact bump_nn h2 (by have := getD_nn (i := (e - (W : Int)).toNat) h2; omega)
theorem MoF.handle {ws : List (List (List Int))} {c : Int} {m : Mo} {w : Nat} (h : MoF ws c m) (hw : ∀ x ∈ ws, 1 ≤ x.length) : MoF ws c (handleM ws m w) := by
  obtain ⟨l1, l2⟩ := send_len ws.length (endsAt ws m.st w) (bump m.wt w (-1), m.hd)
  refine ⟨?_, fun i s x e1 e2 => ?_, ?_, ?_⟩
  · show (m.st.set _ _).length = _
    rw [List.length_set]
    exact h.sl
  · have e1' : (m.st.set w ((m.st.getD w 0 + 1) % ((ws.getD w []).length : Int)))[i]? = some s := e1
    rw [List.getElem?_set] at e1'
    split at e1'
    · rename_i q
      subst q
      split at e1'
      · have e3 := Option.some.inj e1'
        have hx := hw x (List.mem_of_getElem? e2)
        have e4 : ws.getD w [] = x := by
          rw [List.getD_eq_getElem?_getD, e2]
          rfl
        rw [← e3, e4]
        exact ⟨Int.emod_nonneg _ (by omega), Int.emod_lt_of_pos _ (by omega)⟩
      · cases e1'
    · exact h.sr i s x e1' e2
  · show (sentM ws m w).1.length = _
    unfold sentM
    rw [l1, bump_len]
    exact h.wl
  · show ((sentM ws m w).2.length : Int) = _
    unfold sentM
    rw [l2]
    exact h.hl
theorem MoOk.handle {ws : List (List (List Int))} {c : Int} {m : Mo} {w : Nat} (h : MoOk ws c m) (hw : ∀ x ∈ ws, 1 ≤ x.length) (hp : 0 < m.wt.getD w 0) : MoOk ws c (handleM ws m w) := by
  obtain ⟨n1, n2⟩ := send_nn ws.length (endsAt ws m.st w) (bump m.wt w (-1), m.hd) (bump_nn h.wn (by omega)) h.hn
  exact ⟨h.toMoF.handle hw, n1, n2⟩
theorem ixN_nat {n j : Nat} (h : j < n) : ixN n (j : Int) = some j := by
  unfold ixN
  rw [if_pos (Int.natCast_nonneg j), if_pos (by omega)]
  rfl
theorem KT.kpN {N : Addr → Prop} {H H' : Hp} (hl : ∀ b, N b → ∃ xs, H b = some (.lst xs)) (k : Kp N H H') : KT H H' := fun b ys e => k b _ e fun n => by
  obtain ⟨xs, e'⟩ := hl b n
  rw [e] at e'
  cases e'
def N3 (a b c : Addr) : Addr → Prop := fun x => x = a ∨ x = b ∨ x = c
structure Laid (H : Hp) (a b c : Addr) (m : Mo) : Prop where
  s : H a = some (.lst (m.st.map V.int))
  w : H b = some (.lst (m.wt.map V.int))
  h : H c = some (.lst (m.hd.map V.int))
  nab : a ≠ b
  nac : a ≠ c
  nbc : b ≠ c
theorem Laid.kt {H H' : Hp} {a b c : Addr} {m : Mo} (l : Laid H a b c m) (k : Kp (N3 a b c) H H') : KT H H' := KT.kpN (fun x n => by
  rcases n with rfl | rfl | rfl
  · exact ⟨_, l.s⟩
  · exact ⟨_, l.w⟩
  · exact ⟨_, l.h⟩) k
end HX
set_option maxRecDepth 100000
set_option maxHeartbeats 1000000
namespace HX
open PySem PySem.Spec PyProof.Rows L2
end HX
set_option maxRecDepth 100000
set_option maxHeartbeats 1000000
namespace HX
open PySem PySem.Spec PyProof.Rows L2
theorem hu64 {A : Around} {k : Nat} (hr : Room k A) : A.units + 64 < cLine := by
  have := hu150 hr
  omega
theorem call_tuple_frz {X : Cx} : CallR X (.type "tuple") (fun xs H Q => ∃ p ys, xs = [.ref p] ∧ SqL X.K H p ys ∧ ∀ l o, H l = none → o.dict = none → Q (.ref l) (upd H l (.frz o (.tup ys)))) := by
  intro pins s σ H xs us Q I r h
  obtain ⟨p, ys, rfl, hq, q⟩ := h
  obtain ⟨u, rfl, rx⟩ := vals1 r
  cases rx
  obtain ⟨its, r', pl, hz⟩ := I.list hq
  have hlen := r'.length
  refine call_tuple_list pl.isList (fun h' kp => ?_) (by simp only [List.size_toArray] <;> omega)
  have I1 : Inv X pins σ H { s with heap := h' } := I.kept (t' := s.toks) kp
  have I2 : Inv X pins σ (upd H h'.objs.size (.frz { cls := .type "tuple", data := .seq its.toArray } (.tup ys))) { s with heap := h'.push { cls := .type "tuple", data := .seq its.toArray } } :=
    I1.laid (t' := s.toks) (fun b o e => Heap.get?_push_of_some _ e) (Nat.le_refl _) (show ObjOk X.prog X.w _ _ _ (.frz _ (.tup ys)) from ⟨Heap.get?_push_size _ rfl, hz, its, r', IsTup.new _ _⟩)
  exact ⟨.ref h'.objs.size, _, I2, rfl, q _ _ (I1.hok.fresh (Nat.le_refl _)) rfl⟩
def rowV (row : List Nat) : List V := row.map fun n : Nat => V.int (n : Int)
def RowF (H : Hp) (r : Addr) (row : List Nat) : Prop := ∃ o : Obj, o.dict = none ∧ H r = some (.frz o (.tup (rowV row)))
def RowAt (H : Hp) (r : Addr) (row : List Nat) : Prop := H r = some (.tup (rowV row)) ∨ RowF H r row
theorem RowF.same {H H' : Hp} {r : Addr} {row : List Nat} (h : RowF H r row) (s : Same H H') : RowF H' r row := by
  obtain ⟨o, d, e⟩ := h
  exact ⟨o, d, s _ _ e⟩
theorem RowAt.same {H H' : Hp} {r : Addr} {row : List Nat} (h : RowAt H r row) (s : Same H H') : RowAt H' r row := by
  rcases h with h | h
  · exact .inl (s _ _ h)
  · exact .inr (h.same s)
theorem RowAt.ty {K : PySem.W.Frag} {H : Hp} {r : Addr} {row : List Nat} (h : RowAt H r row) : TyX K H (.ref r) (.type "tuple") := by
  rcases h with h | ⟨o, _, h⟩
  · exact .base (.tup h)
  · exact .fTuple h
end HX
set_option maxRecDepth 100000
set_option maxHeartbeats 1000000
namespace HX
open PySem PySem.Spec PyProof.Rows L2
mutual
theorem Td.dp {K : PySem.W.Frag} {H : Hp} : ∀ (d : PyData) (v : V), Td H v d → Dp K H v d
  | .none, _, h => by cases h; exact .non
  | .bool b, _, h => by cases h; exact .bl b
  | .int i, _, h => by cases h; exact .int i
  | .str x, _, h => by cases h; exact .str x
  | .tuple ds, _, h => by
    cases h with
    | tup e ha => exact .tup (.inl (.inl e)) (TdAll.dp ds _ ha)
  | .list _, _, h => by cases h
  | .dict _, _, h => by cases h
theorem TdAll.dp {K : PySem.W.Frag} {H : Hp} : ∀ (ds : List PyData) (vs : List V), TdAll H vs ds → DpAll K H vs ds
  | [], _, h => by cases h; exact .nil
  | d :: ds, _, h => by
    cases h with
    | cons h1 h2 => exact .cons (Td.dp d _ h1) (TdAll.dp ds _ h2)
end
end HX
set_option maxRecDepth 100000
set_option maxHeartbeats 1000000
namespace HX
open PySem PySem.Spec PyProof.Rows L2
def cnt (es : List Int) (e : Nat) : Int := ((es.count (e : Int) : Nat) : Int)
theorem cnt_cons (x : Int) (es : List Int) (e : Nat) : cnt (x :: es) e = cnt es e + (if x = (e : Int) then 1 else 0) := by
  unfold cnt
  rw [List.count_cons]
  by_cases h : x = (e : Int)
  · simp [h]
  · simp [h]
theorem bump_get {l : List Int} {i e : Nat} {d : Int} (hi : i < l.length) : (bump l i d).getD e 0 = l.getD e 0 + (if i = e then d else 0) := by
  unfold bump
  rw [List.getD_eq_getElem?_getD, List.getElem?_set]
  by_cases h : i = e
  · subst h
    rw [if_pos rfl, if_pos hi, if_pos rfl]
    rfl
  · rw [if_neg h, if_neg h, Int.add_zero, List.getD_eq_getElem?_getD]
theorem send_get {W : Nat} : ∀ (es : List Int) (p : List Int × List Int), (∀ x ∈ es, 0 ≤ x ∧ x < (W : Int) + (p.2.length : Int)) → p.1.length = W →
    (∀ e, e < W → (es.foldl (sendM W) p).1.getD e 0 = p.1.getD e 0 + cnt es e) ∧ ∀ j, (es.foldl (sendM W) p).2.getD j 0 = p.2.getD j 0 + cnt es (W + j)
  | [], p, _, _ => ⟨fun e _ => by simp [cnt], fun j => by simp [cnt]⟩
  | x :: es, p, h, hw => by
    obtain ⟨x0, x1⟩ := h x (List.mem_cons_self ..)
    rw [List.foldl_cons]
    by_cases g : x < (W : Int)
    · have e1 : sendM W p x = (bump p.1 x.toNat 1, p.2) := if_pos g
      rw [e1]
      obtain ⟨h1, h2⟩ := send_get (W := W) es (bump p.1 x.toNat 1, p.2) (fun y hy => h y (List.mem_cons_of_mem _ hy)) (bump_len.trans hw)
      refine ⟨fun e he => ?_, fun j => ?_⟩
      · rw [h1 e he, cnt_cons]
        show (bump p.1 x.toNat 1).getD e 0 + _ = _
        rw [bump_get (by omega)]
        have : (x.toNat = e) ↔ x = (e : Int) := by omega
        by_cases g' : x = (e : Int)
        · rw [if_pos (this.mpr g'), if_pos g']
          omega
        · rw [if_neg (fun z => g' (this.mp z)), if_neg g']
          omega
      · rw [h2 j, cnt_cons, if_neg (by omega)]
        show p.2.getD j 0 + _ = _
        omega
    · have e1 : sendM W p x = (p.1, bump p.2 (x - (W : Int)).toNat 1) := if_neg g
      rw [e1]
      obtain ⟨h1, h2⟩ := send_get (W := W) es (p.1, bump p.2 (x - (W : Int)).toNat 1) (fun y hy => by
        show 0 ≤ y ∧ y < (W : Int) + ((bump p.2 (x - (W : Int)).toNat 1).length : Int)
        rw [bump_len]
        exact h y (List.mem_cons_of_mem _ hy)) hw
      refine ⟨fun e he => ?_, fun j => ?_⟩
      · rw [h1 e he, cnt_cons, if_neg (by omega)]
        show p.1.getD e 0 + _ = _
        omega
      · rw [h2 j, cnt_cons]
        show (bump p.2 (x - (W : Int)).toNat 1).getD j 0 + _ = _
        rw [bump_get (by omega)]
        have : ((x - (W : Int)).toNat = j) ↔ x = ((W + j : Nat) : Int) := by omega
        by_cases g' : x = ((W + j : Nat) : Int)
        · rw [if_pos (this.mpr g'), if_pos g']
          omega
        · rw [if_neg (fun z => g' (this.mp z)), if_neg g']
          omega
def sumTo : Nat → (Nat → Int) → Int
  | 0, _ => 0
  | n + 1, f => sumTo n f + f n
theorem sumTo_congr : ∀ (n : Nat) {f g : Nat → Int}, (∀ u, u < n → f u = g u) → sumTo n f = sumTo n g
  | 0, _, _, _ => rfl
  | n + 1, f, g, h => by
    show sumTo n f + f n = sumTo n g + g n
    rw [sumTo_congr n (fun u hu => h u (by omega)), h n (by omega)]
theorem sumTo_one : ∀ (n : Nat) {f g : Nat → Int} {a : Nat}, a < n → (∀ u, u < n → u ≠ a → f u = g u) → sumTo n f = sumTo n g + (f a - g a)
  | 0, _, _, _, h, _ => absurd h (by omega)
  | n + 1, f, g, a, ha, h => by
    show sumTo n f + f n = sumTo n g + g n + (f a - g a)
    by_cases e : a = n
    · subst e
      rw [sumTo_congr a (fun u hu => h u (by omega) (by omega))]
      omega
    · rw [sumTo_one n (a := a) (by omega) (fun u hu => h u (by omega)), h n (by omega) (fun z => e z.symm)]
      omega
theorem sumTo_front (n : Nat) (f : Nat → Int) : sumTo (n + 1) f = f 0 + sumTo n fun t => f (t + 1) := by
  induction n with
  | zero => show 0 + f 0 = f 0 + 0; omega
  | succ n ih =>
    show sumTo (n + 1) f + f (n + 1) = f 0 + (sumTo n (fun t => f (t + 1)) + f (n + 1))
    rw [ih]
    omega
def endsOf (ws : List (List (List Int))) (u : Nat) (s : Int) : List Int := (ws.getD u []).getD (s % ((ws.getD u []).length : Int)).toNat []
def sent (ws : List (List (List Int))) (u : Nat) (s : Int) (k : Nat) (e : Nat) : Int := sumTo k fun t => cnt (endsOf ws u (s + (t : Int))) e
theorem endsOf_mod {ws : List (List (List Int))} {u : Nat} {s t : Int} : endsOf ws u (s % ((ws.getD u []).length : Int) + t) = endsOf ws u (s + t) := by
  unfold endsOf
  rw [Int.emod_add_emod]
theorem sent_front {ws : List (List (List Int))} {u : Nat} {s : Int} {k e : Nat} : sent ws u s (k + 1) e = cnt (endsOf ws u s) e + sent ws u ((s + 1) % ((ws.getD u []).length : Int)) k e := by
  unfold sent
  rw [sumTo_front]
  have h0 : s + ((0 : Nat) : Int) = s := by omega
  rw [h0]
  congr 1
  refine sumTo_congr k fun t _ => ?_
  rw [endsOf_mod]
  have : s + ((t + 1 : Nat) : Int) = s + 1 + (t : Int) := by omega
  rw [this]
def came (ws : List (List (List Int))) (st : List Int) (cs : Nat → Nat) (e : Nat) : Int := sumTo ws.length fun u => sent ws u (st.getD u 0) (cs u) e
end HX
set_option maxRecDepth 100000
set_option maxHeartbeats 3200000
namespace HX
open PySem PySem.Spec PyProof.Rows L2
structure Bi3 (mg : Str → Option Value) : Prop where
  sorted_ : mg "sorted" = none
  set_ : mg "set" = none
section
variable {P : Program} {w : World} {A : Around} {E : Value → Shared → Prop} {s : Shared}
end
section
variable {X : Cx}
def rSetL (w : World) (K : PySem.W.Frag) : List V → Hp → VK → Prop := fun vs H Q => ∃ (l : Addr) (ns : List Int), vs = [.ref l] ∧ SqL K H l (ns.map V.int) ∧ ns.length ≤ 1000 ∧ ∀ (p : Addr) (c : Nat), c ≤ ns.length → H p = none → Q (.ref p) (upd H p (SetO w p (fun j => decide (j ∈ ns)) c))
end
end HX
set_option maxRecDepth 100000
set_option maxHeartbeats 2000000
namespace HX
open PySem PySem.Spec PyProof.Rows L2 L2H
def CalX (P : Program) (w : World) (K : PySem.W.Frag) (mg : Str → Option Value) (base : Heap) (k : Nat) (x : Str) (ps : List Str) (sp : Sp) : Prop :=
  ∃ (f : Addr) (fd : FuncData), FnOk P w K mg base (L2.CX P w) k f fd ps sp ∧ mg x = some (.ref f) ∧ PySem.W.keepIn K (.ref f) = true ∧ Binds K fd ps []
section
variable {P : Program} {w : World} {K : PySem.W.Frag} {mg : Str → Option Value} {base : Heap} {j k : Nat} {x : Str} {ps : List Str} {sp : Sp}
theorem CalX.mono (c : CalX P w K mg base j x ps sp) (h : j ≤ k) : CalX P w K mg base k x ps sp := by
  obtain ⟨f, fd, F, a, b, d⟩ := c
  exact ⟨f, fd, F.mono h, a, b, d⟩
theorem Def.okX {st : Stmt} {N : List Str} (D : Def K mg x st ps) (S : FnScope N ps (defScope st)) (len : ∀ vs H Q E, sp vs H Q E → vs.length = ps.length)
    (hbody : ∀ (f : Addr) (cdv : Value) (A : Around) (outer : List Env) (s : Shared) (H : Hp) (vs : List V) (Q : VK) (E : XK), Room k (A.deeper (envOfC x (defScope st) s.heap.objs.size f cdv)) → sp vs H Q E →
      Takes (cxOf (L2.CX P w) P w K mg base N x (defScope st) f cdv A outer s H E) (fun cls d _ H => E cls d H) →
      ∃ t, PSs (cxOf (L2.CX P w) P w K mg base N x (defScope st) f cdv A outer s H E) (defBody st) t ∧ t { nx := fun _ H' => Q .non H', rt := Q } (start N vs) H) : CalX P w K mg base (k + 1) x ps sp := by
  obtain ⟨f, fd, F, hm, hb⟩ := D
  exact ⟨f, fd, Fun.okX F S len fun cdv A outer s H vs Q E hr h => hbody f cdv A outer s H vs Q E hr h (takes_of rfl rfl rfl rfl), hm, F.kp, hb⟩
end
section
variable {X : Cx} {k : Nat} {x : Str} {ps : List Str} {sp : Sp} {p pos : Pos} {e : Expr} {es : List Expr} {t : TA} {W : WX}
theorem pe_calX (tk : Takes X W) (c : CalX X.prog X.w X.K X.mg X.base k x ps sp) (hr : Room k X.A) (hg : Gl X x) (ha : PA X (e :: es) t) (hdb : (x == ("__debug__" : Str)) = false := by decide) (he : starEach (e :: es) X.env = (false, eval e X.env) :: starEach es X.env := by rfl)
    (hpl : (backTo pos (starEach es X.env)).any (·.1) = false := by rfl) : PE X (.Call (.Name x p) (e :: es) [] pos) (tCallS sp (WE W) t) := by
  obtain ⟨f, fd, F, hm, hk, hb⟩ := c
  exact pe_callS F hr hg hm hk hb (passAt tk) ha hdb he hpl
end
abbrev veTail : List Value := [.type "ValueError", .type "Exception", .type "BaseException", .type "object"]
structure Err (K : PySem.W.Frag) (mg : Str → Option Value) (x : Str) (C : Addr) : Prop where
  gC : mg x = some (.ref C)
  kC : PySem.W.keepIn K (.ref C) = true
  ex : PySem.W.excIn K C veTail "ValueError.__new__" = true
  sb : PySem.W.subIn K (.ref C) (.type "BaseException") = some true
  ty : PySem.W.typeIn K (.ref C) = some (.type "type")
section
variable {X : Cx} {C : Addr}
theorem pmk_err {x : Str} {p pos : Pos} (R : Err X.K X.mg x C) (hg : Gl X x) (hdb : (x == ("__debug__" : Str)) = false := by decide) : PMk X (.Call (.Name x p) [] [] pos) (fun _ H Q => Q (.ref C) none H) := by
  intro pins s σ H Q I h
  refine wpAny_Call_Name_kw (ld_glob I hg R.gC (PySem.W.callWith_K0 I.kIn R.kC ?_) hdb)
  obtain ⟨_, _, _, _, _, _, _, _, _, _, _, _, _, _, _, _, _, hC, hN, hni, T⟩ := exc_obj I.kIn R.ex
  refine wpAny_call_exc_subT PySem.F.excBase_ValueError T hC hN hni (fun h' e hm => ?_) (Nat.zero_le _)
  exact mk_of I hm (raises_own R.sb R.ty) h (I.hok.gone hm.new)
theorem ps_err {x : Str} {p pos pos2 : Pos} {W : WX} (R : Err X.K X.mg x C) (tk : Takes X W) (hc : X.calm = true := by rfl) (hg : Gl X x := by rfl) (hdb : (x == ("__debug__" : Str)) = false := by decide) :
    PS X (.Raise (some (.Call (.Name x p) [] [] pos)) none pos2) (fun _ σ H => W (.ref C) none σ H) := ps_raise hc tk (pmk_err R hg hdb)
end
structure FnE (P : Program) (w : World) (K : PySem.W.Frag) (mg : Str → Option Value) (base : Heap) (k : Nat) (f : Addr) (fd : FuncData) (a : Str) (sp : Addr → Value → Option Addr → Hp → VK → Prop) : Prop where
  run : ∀ (A : Around) (outer : List Env) (s : Shared) (H : Hp) (p : Addr × Obj) (cls : Value) (d : Option Addr) (Q : VK), RoomH k A → PinOk outer H s p → Zc cls d p.2 → (∃ vs, p.2.data = .fields vs) → Env0 P w K mg base A outer s H → BindsTo s fd ⟨[.ref p.1], []⟩ [(a, .ref p.1)] → sp p.1 cls d H Q →
    codeAny (model P w) A (.call (.ref f) ⟨[.ref p.1], []⟩) (CR CX0 outer P w H s Q E0) s
def CalE (P : Program) (w : World) (K : PySem.W.Frag) (mg : Str → Option Value) (base : Heap) (k : Nat) (x a : Str) (sp : Addr → Value → Option Addr → Hp → VK → Prop) : Prop :=
  ∃ (f : Addr) (fd : FuncData), FnE P w K mg base k f fd a sp ∧ mg x = some (.ref f) ∧ PySem.W.keepIn K (.ref f) = true ∧ Binds K fd [a] []
section
variable {P : Program} {w : World} {K : PySem.W.Frag} {mg : Str → Option Value} {base : Heap} {k : Nat} {x a : Str} {sp : Addr → Value → Option Addr → Hp → VK → Prop}
theorem CalE.mono {j : Nat} (c : CalE P w K mg base j x a sp) (h : j ≤ k) : CalE P w K mg base k x a sp := by
  obtain ⟨f, fd, F, b1, b2, b3⟩ := c
  exact ⟨f, fd, ⟨fun A outer s H p cls d Q hr => F.run A outer s H p cls d Q (hr.mono h)⟩, b1, b2, b3⟩
end
end HX
set_option maxRecDepth 100000
set_option maxHeartbeats 2000000
namespace HX
open PySem PySem.Spec PyProof.Rows L2 L2H LamX
theorem law_callTG {P : Program} {w : World} {K : PySem.W.Frag} {mg mb : Str → Option Value} {k : Nat} {fa a : Addr} {cs : List (Addr × Addr)} {fd : FuncData} {x : Str} {sp : Sp} {s1 : Shared} {vs : List Value} {ns : List Int}
    (KX : K.In s1.heap) (hns : s1.heap.Ns mainGlobals mg) (hb : s1.heap.Ns builtinsNs mb) (hbb : ∀ x : Str, x ≠ "__name__" → mb x = bootBuiltins x) (hlim : s1.heap.NoLimit) (hsys : ∃ mm, s1.heap.Ns sysModules mm) (hg : s1.gens = #[])
    (hT : ∀ p ∈ cs, s1.heap.get? p.2 = some { cls := .none, data := .fields #[] }) (nT : ∀ p ∈ cs, K.lookup p.2 = none) (hC : ∀ p ∈ cs, PySem.W.CodeHd s1.heap p.1 p.2)
    (hbm : ∃ (bm : Addr) (ob : Obj), mg "__builtins__" = some (.ref bm) ∧ bm ≠ builtinsNs ∧ s1.heap.get? bm = some ob ∧ ob.cls = .type "module" ∧ ob.dict = some builtinsNs ∧ ob.data = .plain)
    (ha : s1.heap.get? a = some { cls := .type "list", data := .seq vs.toArray }) (hi : IntsAre vs ns) (hl : ns.length ≤ sizeLine) (hr : Room k callerA)
    (F : ∀ base : Heap, K.In base → base.Ns mainGlobals mg → (∀ p ∈ cs, TabB base mg p.1 p.2) → FnG P w K mg base k fa fd [x] sp) (hbind : ∀ (s : Shared) (u : Value), K.In s.heap → BindsTo s fd ⟨[u], []⟩ [(x, u)])
    (hsp : ∀ H : Hp, (∀ p ∈ cs, H p.2 = some (.tbl #[])) → SqL K H a (ns.map V.int) → sp [.ref a] H (fun v _ => v = .bl true) fun _ _ _ => False) :
    codeAny (model P w) callerA (.call (.ref fa) ⟨[.ref a], []⟩) (fun r s' => r = .ok (.ret (.bool true)) ∧ OldK s1.heap s'.heap ∧ s'.os = s1.os ∧ AllBare s'.gens) s1 := by
  have rv := vals_ints hi
  have lenV := hi.length
  let tab : Addr → Prop := fun b => b ∈ cs.map (·.2)
  have tabAt : ∀ {b : Addr}, tab b → s1.heap.get? b = some { cls := .none, data := .fields #[] } := by
    intro b hb
    obtain ⟨p, hp, rfl⟩ := List.mem_map.mp hb
    exact hT p hp
  have aNo : ¬ tab a := fun z => by
    have e := tabAt z
    rw [ha] at e
    cases e
  have tabOf : ∀ {p}, p ∈ cs → tab p.2 := fun {p} hp => List.mem_map.mpr ⟨p, hp, rfl⟩
  have main : ∀ H : Hp, (∀ p ∈ cs, H p.2 = some (.tbl #[])) → (∀ b, ¬ tab b → H b = none ∨ ∃ o xs, H b = some (.frz o (.lst xs))) → SqL K H a (ns.map V.int) → HOk P w H s1.heap → (∀ b, H b ≠ none → b = a ∨ tab b) → (H a ≠ none → K.lookup a = none) →
      codeAny (model P w) callerA (.call (.ref fa) ⟨[.ref a], []⟩) (fun r s' => r = .ok (.ret (.bool true)) ∧ OldK s1.heap s'.heap ∧ s'.os = s1.os ∧ AllBare s'.gens) s1 := by
    intro H hH hO hS hok hA hK
    have out : ∀ {b : Addr} {o : Obj}, s1.heap.get? b = some o → (∀ vs n, o.data ≠ .seq vs n) → o.data ≠ .fields #[] → H b = none := by
      intro b o e n1 n2
      cases q : H b with
      | none => rfl
      | some u =>
        exfalso
        rcases hA b (by rw [q]; exact fun z => nomatch z) with z | z
        · rw [z, ha] at e
          cases e
          exact n1 _ _ rfl
        · rw [tabAt z] at e
          cases e
          exact n2 rfl
    have at_dict : ∀ {b : Addr} {o : Obj} {es : Array DictEntry} {ep : Nat}, s1.heap.get? b = some o → o.data = .dict es ep → H b = none := fun {b o es ep} e d => out e (fun _ _ z => by rw [d] at z; cases z) fun z => by rw [d] at z; cases z
    have keepNs : ∀ {b : Addr} {m : Str → Option Value}, s1.heap.Ns b m → (hidT s1.heap H).Ns b m := by
      rintro b m ⟨o, es, ep, e, d, r⟩
      exact ⟨o, es, ep, hidT_get e (at_dict e d), d, r⟩
    have hKb : K.In (hidT s1.heap H) := by
      intro b o e
      refine hidT_get (KX b o e) ?_
      cases q : H b with
      | none => rfl
      | some u =>
        exfalso
        have hn : H b ≠ none := by rw [q]; exact fun z => nomatch z
        rcases hA b hn with z | z
        · subst z
          rw [hK hn] at e
          cases e
        · obtain ⟨p, hp, rfl⟩ := List.mem_map.mp z
          rw [nT p hp] at e
          cases e
    have e0 : Env0 P w K mg (hidT s1.heap H) callerA [] s1 H := by
      refine ⟨rfl, ⟨hKb, keepNs hns, ⟨mb, keepNs hb, hbb⟩, ?_⟩, fun b o e => of_hidT e, Nat.le_of_eq (hidT_size _ _), trivial, fun b hb => ?_, hok, .of_eq hg⟩
      · obtain ⟨mc, h1, h2⟩ := hlim
        exact ⟨mc, keepNs h1, h2⟩
      · exact absurd (show b ∈ ([] : List Addr) from hb) (by simp)
    have en : Ent callerA s1 H := by
      obtain ⟨mm, o, es, ep, e, d, _⟩ := hsys
      exact ⟨rfl, ⟨o, e⟩, at_dict e d⟩
    have tb : ∀ p ∈ cs, TabB (hidT s1.heap H) mg p.1 p.2 := by
      intro p hp
      refine ⟨?_, ?_, fun z => ?_⟩
      · obtain ⟨o, us, file, tf, flags, tg, inF, text, tt, e1, r1, r2, r3, rest⟩ := hC p hp
        refine ⟨o, us, file, tf, flags, tg, inF, text, tt, hidT_get e1 (out e1 (fun _ _ z => by rw [r2] at z; cases z) fun z => ?_), r1, r2, r3, rest⟩
        rw [r2] at z
        cases z
        simp at r3
      · obtain ⟨bm, ob, b1, b2, b3, b4, b5, b6⟩ := hbm
        refine ⟨bm, ob, b1, b2, fun z => ?_, fun z => ?_, hidT_get b3 (out b3 (fun _ _ z => by rw [b6] at z; cases z) fun z => by rw [b6] at z; cases z), b4, b5, b6⟩
        · obtain ⟨o, es, ep, e, d, _⟩ := hns
          rw [z, e] at b3
          cases b3
          rw [d] at b6
          cases b6
        · rw [z, hT p hp] at b3
          cases b3
          cases b6
      · obtain ⟨o, es, ep, e, d, _⟩ := hns
        rw [z, hT p hp] at e
        cases e
        cases d
    refine codeAny_mono ((F _ hKb (keepNs hns) tb).run callerA [] s1 H ⟨[.ref a], []⟩ [.ref a] [.ref a] _ _ en hr e0 (hbind s1 (.ref a) KX) (.cons rfl .nil) (hsp H hH hS)) fun r s' h => ?_
    cases r with
    | error e => exact False.elim h
    | ok fl =>
      cases fl with
      | next => exact False.elim h
      | brk => exact False.elim h
      | cont => exact False.elim h
      | ret u =>
        obtain ⟨v, H', os, bare, un, hok', r', q⟩ := h
        obtain rfl : v = .bl true := q
        obtain rfl : u = Value.bool true := r'
        have stays : ∀ b o, ¬ tab b → s1.heap.get? b = some o → s'.heap.get? b = some o := by
          intro b o nb e
          rcases hO b nb with z | ⟨ob, xs, z⟩
          · exact un.keep b o e z (fun m => absurd (show b ∈ ([] : List Addr) from m) (by simp)) (by simp)
          · have e1 := (hok b _ z).1
            have e2 := (hok' b _ (un.frzs b ob _ z)).1
            rw [e] at e1
            cases e1
            exact e2
        have grows : ∀ p ∈ cs, ∃ more : Array Value, s'.heap.get? p.2 = some { cls := .none, data := .fields more } := by
          intro p hp
          obtain ⟨more, z⟩ := un.tbls p.2 #[] (hH p hp)
          exact ⟨_, hok' p.2 _ z⟩
        refine ⟨rfl, ⟨fun b o e => ?_, fun b o e => ?_⟩, os, bare⟩
        · by_cases hb : tab b
          · obtain ⟨p, hp, rfl⟩ := List.mem_map.mp hb
            obtain ⟨more, hm⟩ := grows p hp
            have e' := e
            rw [hT p hp] at e'
            cases e'
            exact .inr (.inl ⟨((hC p hp).tab (hT p hp)).isCodeTable, rfl, #[], more, rfl, by rw [Array.empty_append]; exact hm⟩)
          · exact .inl (stays b o hb e)
        · by_cases hb : tab b
          · obtain ⟨p, hp, rfl⟩ := List.mem_map.mp hb
            obtain ⟨more, hm⟩ := grows p hp
            exact ⟨_, hm⟩
          · exact ⟨o, stays b o hb e⟩
  cases hk : K.lookup a with
  | some o =>
    have e := KX a o hk
    rw [ha] at e
    cases e
    let Hs : Hp := fun b => if b ∈ cs.map (·.2) then some (.tbl #[]) else none
    have in_ : ∀ b, tab b → Hs b = some (.tbl #[]) := fun b hb => if_pos hb
    have out_ : ∀ b, ¬ tab b → Hs b = none := fun b hb => if_neg hb
    refine main Hs (fun p hp => in_ _ (tabOf hp)) (fun b nb => .inl (out_ b nb)) (.inr ⟨_, vs.toArray, _, hk, rfl, rfl, rfl, ?_, ?_⟩) (fun b u z => ?_) (fun b z => ?_) fun z => absurd (out_ a aNo) z
    · rw [List.size_toArray, lenV]
      exact hl
    · simpa using rv
    · by_cases hb : tab b
      · rw [in_ b hb] at z
        cases z
        exact tabAt hb
      · rw [out_ b hb] at z
        cases z
    · by_cases hb : tab b
      · exact .inr hb
      · exact absurd (out_ b hb) z
  | none =>
    let Hs : Hp := fun b => if b = a then some (.frz { cls := .type "list", data := .seq vs.toArray } (.lst (ns.map V.int))) else if b ∈ cs.map (·.2) then some (.tbl #[]) else none
    have at_a : Hs a = some (.frz { cls := .type "list", data := .seq vs.toArray } (.lst (ns.map V.int))) := if_pos rfl
    have in_ : ∀ b, tab b → Hs b = some (.tbl #[]) := fun b hb => (if_neg (fun z : b = a => aNo (z ▸ hb))).trans (if_pos hb)
    have out_ : ∀ b, b ≠ a → ¬ tab b → Hs b = none := fun b h1 h2 => (if_neg h1).trans (if_neg h2)
    refine main Hs (fun p hp => in_ _ (tabOf hp)) (fun b nb => ?_) (.inl (.inr ⟨_, at_a⟩)) (fun b u z => ?_) (fun b z => ?_) fun _ => hk
    · by_cases hb : b = a
      · rw [hb]
        exact .inr ⟨_, _, at_a⟩
      · exact .inl (out_ b hb nb)
    · by_cases hb : b = a
      · rw [hb, at_a] at z
        cases z
        rw [hb]
        exact ⟨ha, by rw [List.length_map]; exact hl, vs, _, rv, ha⟩
      · by_cases hb2 : tab b
        · rw [in_ b hb2] at z
          cases z
          exact tabAt hb2
        · rw [out_ b hb hb2] at z
          cases z
    · by_cases hb : b = a
      · exact .inl hb
      · by_cases hb2 : tab b
        · exact .inr hb2
        · exact absurd (out_ b hb hb2) z
def LawTG (l : PySem.W.OpenLaw) (w : World) (K : PySem.W.Frag) (k n : Nat) (x : Str) (mg : Str → Option Value) (fa : Addr) (h : Heap) : Prop :=
  ∃ (fd : FuncData) (cs : List (Addr × Addr)) (sp : Sp), (∀ p ∈ cs, h.get? p.2 = some { cls := .none, data := .fields #[] }) ∧ (∀ p ∈ cs, K.lookup p.2 = none) ∧ (∀ p ∈ cs, PySem.W.CodeHd h p.1 p.2) ∧ (∀ (s : Shared) (u : Value), K.In s.heap → BindsTo s fd ⟨[u], []⟩ [(x, u)]) ∧
    (∀ (H : Hp) (a : Addr) (ns : List Int), ns.length ≤ n → (∀ p ∈ cs, H p.2 = some (.tbl #[])) → SqL K H a (ns.map V.int) → sp [.ref a] H (fun v _ => v = .bl true) fun _ _ _ => False) ∧
    ∀ base : Heap, K.In base → base.Ns mainGlobals mg → (∀ p ∈ cs, TabB base mg p.1 p.2) → FnG l.prog w K mg base k fa fd [x] sp
theorem walk_ofTG {l : PySem.W.OpenLaw} {n k : Nat} {q : Program} {loose : List Str} {XP : (Str → Option Value) → Heap → Prop} {YP : World → Heap → Prop} {d : DefRec} {K : Params → PySem.W.Frag} {x : Str}
    (hn : l.most = some n) (hn2 : n ≤ sizeLine) (hdf : d.params.defaults = []) (hr : Room k callerA) (hi : importsNone q = true) (hY : ∀ (w : World) (h : Heap), YP w h → (K w.params).In h)
    (F : ∀ (w : World) (mg : Str → Option Value) (fa : Addr) (h : Heap), (K w.params).In h → h.Ns mainGlobals mg → mg d.name = some (.ref fa) →
      (∀ (y : Str) (e : DefRec) (c T : Addr), (recsOf q).find? (fun e => e.name == y) = some e → PySem.W.tabIn (K w.params) y = some (c, T) → PySem.W.CodeHd h c T ∧ h.get? T = some { cls := .none, data := .fields #[] }) → LawTG l w (K w.params) k n x mg fa h) :
    PySem.W.WalkO q loose XP YP l.row.toRowW d [] (fun f vs => PySem.call f vs) := by
  refine Att.attach_callB hn hdf fun w s0 s1 mg mb fa o pm cd doc a vs ns G Y ho hd hcd hmg hobj hints hlen hbits hg => ?_
  have KX := hY w _ Y
  obtain ⟨fd, cs, sp, hT, nT, hC, hb, hsp, hF⟩ := F w mg fa _ KX G.T.g hmg fun y e c T h1 h2 => PySem.W.tab_of G.T KX h1 h2
  obtain ⟨mm, hm, _⟩ := (G.T.seer hi).mods
  exact law_callTG KX G.T.g G.T.b G.T.builtins G.T.nolimit ⟨mm, hm⟩ hg hT nT hC G.T.bmain hobj hints (Nat.le_trans hlen hn2) hr hF hb fun H hH hS => hsp H a ns hlen hH hS
section
variable {P : Program} {w : World} {K : PySem.W.Frag} {mg : Str → Option Value} {base : Heap}
theorem Fun.okGC {x qual : Str} {st : Stmt} {f c : Addr} {fd : FuncData} {N ps : List Str} {k : Nat} {sp : Sp} (F : Fun K x qual st f fd) (hc : fd.code = .ref c) (S : FnScope N ps (defScope st)) (len : ∀ vs H Q E, sp vs H Q E → vs.length = ps.length)
    (hbody : ∀ (A : Around) (outer : List Env) (s : Shared) (H : Hp) (vs : List V) (Q : VK) (E : XK), Ent A s H → Room k (A.deeper (envOfC qual (defScope st) s.heap.objs.size f (.ref c))) → sp vs H Q E →
      ∃ t, PSs (cxOf CX0 P w K mg base N qual (defScope st) f (.ref c) A outer s H E).nox (defBody st) t ∧ t { nx := fun _ H' => Q .non H', rt := Q } (start N vs) H) : FnG P w K mg base (k + 1) f fd ps sp := by
  obtain ⟨oc, od, kV, doc, pm, an, cdv, ct, osl, rfl, lk, hcd⟩ := F.ex
  obtain rfl : cdv = .ref c := hc
  refine ⟨len, fun A outer s H args us vs Q E en hr e0 hb r hsp => ?_⟩
  have hl := len _ _ _ _ hsp
  have KX : K.In s.heap := e0.mod.kin.keeps fun b o e => (e0.bs b o e).1
  have lim : s.heap.NoLimit := e0.mod.nolimit.keeps fun b o e => (e0.bs b o e).1
  have hkind : ∀ y ∈ ps.zip us, (defScope st).names.lookup y.1 = some .local ∨ ((defScope st).names.lookup y.1 = some .cell ∧ ((cellsFrom (s.heap.objs.size + 1) (defScope st).names []).lookup y.1).isSome = true) := by
    rintro ⟨n, v⟩ hy
    rcases S.par n (List.of_mem_zip hy).1 with q | q
    · exact .inl q
    · exact .inr ⟨q, PySem.W.cellsFrom_some _ _ _ (.inl q)⟩
  refine codeAny_call_function hr.depth (KX _ _ lk) rfl S.co S.gen rfl (PySem.W.codeRec_of KX hcd) (hb _ _ _ _ ?_)
  refine wpAny_newFunctionEnv_cells S.kind hkind fun env he s1 xx => ?_
  subst he
  refine ⟨lim.keeps xx.toInCall.keep, codeAny_func ?_⟩
  obtain ⟨t, ht, hq⟩ := hbody A outer s H vs Q E en (hr.deeper _) hsp
  have I := inv_start (CX := CX0) (E := E) S hr.hd e0 hl r xx
  refine wpAny_mono (ht.nox.run [] s1 (start N vs) H _ I hq) (fun fl s' hs => ?_) fun e s' hs => hs
  cases fl with
  | ret u =>
    obtain ⟨v, σ', H', J, rv, q⟩ := hs
    exact ⟨v, H', J.os, J.bare, J.base, J.hok, rv, q⟩
  | next =>
    obtain ⟨σ', H', J, q⟩ := hs
    exact ⟨V.non, H', J.os, J.bare, J.base, J.hok, rfl, q⟩
  | brk =>
    obtain ⟨_, _, _, q⟩ := hs
    exact False.elim q
  | cont =>
    obtain ⟨_, _, _, q⟩ := hs
    exact False.elim q
end
theorem ExtN.seq {K : PySem.W.Frag} {H H' : Hp} {a : Addr} {xs : List V} (k : ExtN H H') (h : SqL K H a xs) : SqL K H' a xs := by
  rcases h with (h | ⟨o, h⟩) | h
  · exact .inl (.inl (k _ _ h fun _ z => nomatch z))
  · exact .inl (.inr ⟨o, k _ _ h fun _ z => nomatch z⟩)
  · exact .inr h
theorem Tabs.kp {T : List (Addr × Str)} {H H' : Hp} {pn : Addr} {xs : List V} (t : Tabs T H) (e : H pn = some (.lst xs)) (k : Kp (· = pn) H H') : Tabs T H' := fun p hp => by
  obtain ⟨ps, h1, h2, h3⟩ := t p hp
  refine ⟨ps, k _ _ h1 fun z => ?_, h2, fun pos cv hc => ?_⟩
  · rw [z, e] at h1
    cases h1
  · obtain ⟨c, e1, e2⟩ := h3 pos cv hc
    refine ⟨c, e1, k _ _ e2 fun z => ?_⟩
    rw [z, e] at e2
    unfold CodeO at e2
    cases e2
end HX
set_option maxRecDepth 100000
set_option maxHeartbeats 2000000
namespace HX
open PySem PySem.Spec PyProof.Rows L2 L2H LamX
structure Cls21 (mg : Str → Option Value) (C : Nat → Addr) : Prop where
  NoBoard : mg "NoBoard" = some (.ref (C 0))
  NoStand : mg "NoStand" = some (.ref (C 1))
  NoMoment : mg "NoMoment" = some (.ref (C 2))
  NoWheel : mg "NoWheel" = some (.ref (C 3))
  NotNow : mg "NotNow" = some (.ref (C 4))
  NoRow : mg "NoRow" = some (.ref (C 5))
  NoDrain : mg "NoDrain" = some (.ref (C 6))
  NoDrops : mg "NoDrops" = some (.ref (C 7))
  NoAgain : mg "NoAgain" = some (.ref (C 8))
  NoNumber : mg "NoNumber" = some (.ref (C 9))
  NoLinks : mg "NoLinks" = some (.ref (C 10))
  NoMouths : mg "NoMouths" = some (.ref (C 11))
  NoWord : mg "NoWord" = some (.ref (C 12))
  NotAlike : mg "NotAlike" = some (.ref (C 13))
  NoFault : mg "NoFault" = some (.ref (C 14))
  NoSeen : mg "NoSeen" = some (.ref (C 15))
  NoHands : mg "NoHands" = some (.ref (C 16))
  NoDeed : mg "NoDeed" = some (.ref (C 17))
  NoLine : mg "NoLine" = some (.ref (C 18))
  NoText : mg "NoText" = some (.ref (C 19))
  TooMany : mg "TooMany" = some (.ref (C 20))
structure EF (K : PySem.W.Frag) (C : Nat → Addr) (D : Addr) (i : Nat) : Prop where
  ec : ExcC K D
  ve : PySem.W.kitOne K (.ref D) (.type "ValueError") = some true
  is : ∀ j, j < 21 → PySem.W.kitOne K (.ref D) (.ref (C j)) = some (decide (j = i))
structure Bi4 (mg : Str → Option Value) : Prop where
  ValueError : mg "ValueError" = none
end HX
set_option maxRecDepth 100000
set_option maxHeartbeats 2000000
namespace HX
open PySem PySem.Spec PyProof.Rows L2
section
variable {X : Cx}
theorem laidF {pins : List (Addr × Obj)} {σ : L2.St} {H : Hp} {s : Shared} {ys : List V} {its : List Value} {Q : VK} (I : Inv X pins σ H s) (hz : ys.length ≤ sizeLine) (r : Vals ys its) (q : ∀ p o, H p = none → o.dict = none → Q (.ref p) (upd H p (.frz o (.tup ys)))) :
    EP X pins σ Q (.ref s.heap.objs.size) { s with heap := s.heap.push { cls := .type "tuple", data := .seq its.toArray } } := by
  have I2 : Inv X pins σ (upd H s.heap.objs.size (.frz { cls := .type "tuple", data := .seq its.toArray } (.tup ys))) { s with heap := s.heap.push { cls := .type "tuple", data := .seq its.toArray } } :=
    I.laid (t' := s.toks) (fun b o e => Heap.get?_push_of_some _ e) (Nat.le_refl _) (show ObjOk X.prog X.w _ _ _ (.frz _ (.tup ys)) from ⟨Heap.get?_push_size _ rfl, hz, its, r, IsTup.new _ _⟩)
  exact ⟨.ref s.heap.objs.size, _, I2, rfl, q _ _ (I.hok.fresh (Nat.le_refl _)) rfl⟩
def rSlF (K : PySem.W.Frag) : V → Option Int → Option Int → Hp → VK → Prop := fun x lo hi H Q => ∃ a xs, x = .ref a ∧ SqT K H a xs ∧ (HT.sIx xs.length 0 lo = 0 ∧ HT.sIx xs.length xs.length hi = xs.length → Q (.ref a) H) ∧
  (¬ (HT.sIx xs.length 0 lo = 0 ∧ HT.sIx xs.length xs.length hi = xs.length) → ∀ p o, H p = none → o.dict = none → Q (.ref p) (upd H p (.frz o (.tup (cutV xs lo hi)))))
theorem sl_tupF : SlR X (rSlF X.K) := by
  intro pins s σ H x v vl vu lo hi sl Q I rx hs pl pu h
  obtain ⟨a, xs, rfl, hx, q1, q2⟩ := h
  cases rx
  obtain ⟨its, r, ht, hz⟩ := I.tuple hx
  have hn : its.toArray.size = xs.length := by rw [List.size_toArray]; exact r.length.symm
  refine ⟨"tuple", _, PyProof.Rows.slot_tuple_getitem.lookup, ht.typeIs, ?_⟩
  by_cases hw : HT.sIx xs.length 0 lo = 0 ∧ HT.sIx xs.length xs.length hi = xs.length
  · exact getItem_tuple_whole ht hs pl pu (by rw [hn]; exact hw) ⟨.ref a, H, I, rfl, q1 hw⟩
  · refine HT.getItem_tuple_cut ht hs pl pu (by rw [hn]; exact hw) ?_ (by rw [hn]; exact hz)
    rw [hn]
    exact laidF I (Nat.le_trans (cutV_length xs lo hi) hz) ((r.drop (HT.sIx xs.length 0 lo)).take (HT.sIx xs.length xs.length hi - HT.sIx xs.length 0 lo)) (q2 hw)
def rCatF (K : PySem.W.Frag) : R2 := fun x y H Q => ∃ a b xs ys, x = .ref a ∧ y = .ref b ∧ SqT K H a xs ∧ SqT K H b ys ∧ xs.length + ys.length ≤ sizeLine ∧
  (xs = [] → Q (.ref b) H) ∧ (xs ≠ [] → ys = [] → Q (.ref a) H) ∧ (xs ≠ [] → ys ≠ [] → ∀ p o, H p = none → o.dict = none → Q (.ref p) (upd H p (.frz o (.tup (xs ++ ys)))))
theorem op_catF : OpR X (binaryOp .Add) (rCatF X.K) := by
  intro pins s σ H x y v u Q I rx ry h
  obtain ⟨a, b, xs, ys, rfl, rfl, ha, hb, hz, q0, q1, q2⟩ := h
  cases rx
  cases ry
  obtain ⟨i1, r1, p1, _⟩ := I.tuple ha
  obtain ⟨i2, r2, p2, _⟩ := I.tuple hb
  by_cases hx : xs = []
  · subst hx
    cases r1
    exact cat_tup0 p1 p2 ⟨.ref b, H, I, rfl, q0 rfl⟩
  · refine HT.cat_tup p1 p2 (fun z => hx (r1.nil_iff.mp z)) (fun z => ⟨.ref a, H, I, rfl, q1 hx (r2.nil_iff.mp z)⟩) (fun z => ?_) (by rw [← r1.length, ← r2.length]; exact hz)
    exact laidF I (by rw [List.length_append]; exact hz) (r1.append r2) (q2 hx (fun w => z (r2.nil_iff.mpr w)))
def tTupF (t : TA) : TE := fun σ H Q => t σ H fun xs H1 => xs.length ≤ sizeLine ∧ ∀ p o, H1 p = none → o.dict = none → Q (.ref p) (upd H1 p (.frz o (.tup xs)))
theorem pe_tupF {es : List Expr} {t : TA} {x1} {pos : Pos} (h : PA X es t) : PE X (.Tuple es x1 pos) (tTupF t) := by
  refine ⟨fun pins s σ H Q I hq => ?_⟩
  refine wpAny_Tuple_spliced (thn (h.run pos pins s σ H _ I hq) fun us s1 ⟨xs, H1, I1, r, z, q⟩ => ⟨by rw [← r.length]; exact z, ?_⟩)
  exact laidF I1 z r q
end
end HX
set_option maxRecDepth 100000
set_option maxHeartbeats 2000000
namespace HX
open PySem PySem.Spec PyProof.Rows L2 L2H LamX
def DefC (K : PySem.W.Frag) (mg : Str → Option Value) (x : Str) (st : Stmt) (ps : List Str) (c : Addr) : Prop := ∃ (f : Addr) (fd : FuncData), Fun K x x st f fd ∧ mg x = some (.ref f) ∧ Binds K fd ps [] ∧ fd.code = .ref c
theorem DefC.okG {P : Program} {w : World} {K : PySem.W.Frag} {mg : Str → Option Value} {base : Heap} {k : Nat} {x : Str} {ps : List Str} {sp : Sp} {st : Stmt} {N : List Str} {c : Addr} (D : DefC K mg x st ps c) (S : FnScope N ps (defScope st)) (len : ∀ vs H Q E, sp vs H Q E → vs.length = ps.length)
    (hbody : ∀ (f : Addr) (A : Around) (outer : List Env) (s : Shared) (H : Hp) (vs : List V) (Q : VK) (E : XK), Ent A s H → Room k (A.deeper (envOfC x (defScope st) s.heap.objs.size f (.ref c))) → sp vs H Q E →
      ∃ t, PSs (cxOf CX0 P w K mg base N x (defScope st) f (.ref c) A outer s H E).nox (defBody st) t ∧ t { nx := fun _ H' => Q .non H', rt := Q } (start N vs) H) : CalG P w K mg base (k + 1) x ps sp := by
  obtain ⟨f, fd, F, hm, hb, hc⟩ := D
  exact ⟨f, fd, Fun.okGC F hc S len (hbody f), hm, F.kp, hb⟩
def relabelS (scope sc : Scope) : Scope := { scope with names := scope.names.map fun (n, k) => if (k == .free && sc.kind == .function && sc.names.lookup n == some .cell) then (n, .cell) else (n, k) }
def KX (pn : Addr) (H H' : Hp) : Prop := ∀ b o, H b = some o → b ≠ pn → (∀ ps, o ≠ .tbl ps) → H' b = some o
theorem KX.refl (pn : Addr) (H : Hp) : KX pn H H := fun _ _ h _ _ => h
theorem KX.trans {pn : Addr} {H H1 H2 : Hp} (a : KX pn H H1) (b : KX pn H1 H2) : KX pn H H2 := fun c o h n t => b c o (a c o h n t) n t
theorem KX.kp {pn : Addr} {H H1 : Hp} (a : Kp (· = pn) H H1) : KX pn H H1 := fun c o h n _ => a c o h n
theorem KX.ext {pn : Addr} {H H1 : Hp} (a : ExtN H H1) : KX pn H H1 := fun c o h _ t => a c o h t
theorem KX.seq {K : PySem.W.Frag} {pn : Addr} {H H' : Hp} {a : Addr} {xs : List V} (k : KX pn H H') (n : H pn = none) (h : SqL K H a xs) : SqL K H' a xs := by
  rcases h with (h | ⟨o, h⟩) | h
  · exact .inl (.inl (k _ _ h (ne_of_none h n) fun _ z => nomatch z))
  · exact .inl (.inr ⟨o, k _ _ h (ne_of_none h n) fun _ z => nomatch z⟩)
  · exact .inr h
end HX
namespace HX
open PySem PySem.Spec PyProof.Rows L2
end HX
set_option maxRecDepth 100000
set_option maxHeartbeats 1000000
namespace HX
open PySem PySem.Spec PyProof.Rows L2
end HX
set_option maxRecDepth 100000
set_option maxHeartbeats 2000000
namespace HX
open PySem PySem.Spec PyProof.Rows L2
mutual
def pureK : NestedKey → Bool
  | .num _ => true
  | .tup ks => pureA ks
  | _ => false
def pureA : List NestedKey → Bool
  | [] => true
  | k :: ks => pureK k && pureA ks
end
mutual
def hN : NestedKey → Int
  | .num i => hashInt i
  | .tup ks => reduceHash (Builtin.Tuple.tupleHashOf (hNs ks))
  | _ => 0
def hNs : List NestedKey → List Int
  | [] => []
  | k :: ks => hN k :: hNs ks
end
mutual
theorem hN_eq (w : World) : ∀ k : NestedKey, pureK k = true → k.hash w = hN k
  | .none, h => by simp [pureK] at h
  | .num i, _ => by rw [NestedKey.hash, hN]
  | .text x, h => by simp [pureK] at h
  | .tup ks, h => by
    rw [NestedKey.hash, hN, hNs_eq w ks (by simpa [pureK] using h)]
theorem hNs_eq (w : World) : ∀ ks : List NestedKey, pureA ks = true → NestedKey.hashes w ks = hNs ks
  | [], _ => by rw [NestedKey.hashes, hNs]
  | k :: ks, h => by
    rw [pureA, Bool.and_eq_true] at h
    rw [NestedKey.hashes, hNs, hN_eq w k h.1, hNs_eq w ks h.2]
end
def KTup (H : Hp) (v : V) (xs : List V) : Prop := ∃ (a : Addr) (o : Obj), v = .ref a ∧ H a = some (.frz o (.tup xs))
mutual
def KeyV (H : Hp) : NestedKey → V → Prop
  | .num i, v => v = .int i
  | .tup ks, v => ∃ xs, KTup H v xs ∧ KeyVs H ks xs
  | _, _ => False
def KeyVs (H : Hp) : List NestedKey → List V → Prop
  | [], vs => vs = []
  | k :: ks, vs => ∃ v r, vs = v :: r ∧ KeyV H k v ∧ KeyVs H ks r
end
section
variable {P : Program} {w : World} {H : Hp} {h : Heap}
mutual
theorem KeyV.nested (ok : HOk P w H h) : ∀ (k : NestedKey) (v : V) (u : Value), KeyV H k v → RelV v u → NestedIs h k u
  | .none, v, u, e, _ => by simp [KeyV] at e
  | .text x, v, u, e, _ => by simp [KeyV] at e
  | .num i, v, u, e, r => by
    rw [KeyV] at e
    subst e
    obtain ⟨t, rfl⟩ := r
    exact .int i t
  | .tup ks, v, u, e, r => by
    rw [KeyV] at e
    obtain ⟨xs, ⟨a, o, rfl, ha⟩, hk⟩ := e
    cases (show u = Value.ref a from r)
    obtain ⟨e1, _, its, rv, o', h1, h2, n, h3⟩ := (show ObjOk P w H h a (.frz o (.tup xs)) from ok a _ ha)
    exact .tup h1 h2 h3 (KeyVs.nested ok ks xs _ hk (by simpa using rv))
theorem KeyVs.nested (ok : HOk P w H h) : ∀ (ks : List NestedKey) (vs : List V) (us : List Value), KeyVs H ks vs → Vals vs us → NestedAll h ks us
  | [], vs, us, e, r => by
    rw [KeyVs] at e
    subst e
    cases r
    exact .nil
  | k :: ks, vs, us, e, r => by
    rw [KeyVs] at e
    obtain ⟨v, r', rfl, e1, e2⟩ := e
    cases r with
    | cons r1 r2 => exact .cons (KeyV.nested ok k _ _ e1 r1) (KeyVs.nested ok ks _ _ e2 r2)
end
abbrev NE := NestedKey × Addr × V
def nEnt (x : NestedKey × Addr × Value) : DictEntry := ⟨hN x.1, .ref x.2.1, x.2.2⟩
def NRel : List NE → List (NestedKey × Addr × Value) → Prop := Paired fun p q => p.1 = q.1 ∧ p.2.1 = q.2.1 ∧ RelV p.2.2 q.2.2
def NdAt (h : Heap) (d : Addr) (xs : List NE) : Prop := (d == sysModules) = false ∧ xs.length ≤ sizeLine ∧ ∃ us, NRel xs us ∧ ∃ o es ep, h.get? d = some o ∧ o.ExactDict ∧ o.data = .dict es ep ∧ es.toList = us.map nEnt ∧ (us.map (·.1)).Nodup
def NdO (d : Addr) (xs : List NE) : HO := .ext fun h => NdAt h d xs
theorem NdAt.ok {d : Addr} {xs : List NE} (n : NdAt h d xs) : ObjOk P w H h d (NdO d xs) := by
  refine ⟨n, ?_, fun h1 h2 n1 k => ?_⟩
  · obtain ⟨_, _, us, _, o, es, ep, ho, _⟩ := n
    exact ⟨o, ho⟩
  · obtain ⟨a, b, us, r, o, es, ep, ho, q⟩ := n1
    exact ⟨a, b, us, r, o, es, ep, k o ho, q⟩
def KeysOk (H : Hp) (xs : List NE) : Prop := ∀ x ∈ xs, pureK x.1 = true ∧ x.1.depth ≤ 8 ∧ KeyV H x.1 (.ref x.2.1)
def nGet (xs : List NE) (k : NestedKey) : Option V := (xs.find? fun x => decide (x.1 = k)).map (·.2.2)
def nPut (xs : List NE) (k : NestedKey) (a : Addr) (v : V) : List NE := if (nGet xs k).isSome = true then xs.map (fun x => if x.1 = k then (x.1, x.2.1, v) else x) else xs ++ [(k, a, v)]
theorem NRel.mem {xs : List NE} {us : List (NestedKey × Addr × Value)} (r : NRel xs us) : ∀ u ∈ us, ∃ x ∈ xs, x.1 = u.1 ∧ x.2.1 = u.2.1 := by
  induction r with
  | nil => intro u hu; cases hu
  | cons q _ ih =>
    intro u hu
    rcases List.mem_cons.mp hu with rfl | hu
    · exact ⟨_, List.mem_cons_self .., q.1, q.2.1⟩
    · obtain ⟨x, hx, e⟩ := ih u hu
      exact ⟨x, List.mem_cons_of_mem _ hx, e⟩
theorem NRel.len {xs : List NE} {us : List (NestedKey × Addr × Value)} (r : NRel xs us) : xs.length = us.length := Paired.length r
theorem NRel.get {xs : List NE} {us : List (NestedKey × Addr × Value)} (r : NRel xs us) (k : NestedKey) : (nGet xs k = none ∧ atKey us k = none) ∨ ∃ v p, nGet xs k = some v ∧ atKey us k = some p ∧ RelV v p.2 := by
  induction r with
  | nil => exact .inl ⟨rfl, rfl⟩
  | @cons x u xs us q _ ih =>
    obtain ⟨e1, e2, e3⟩ := q
    by_cases hk : x.1 = k
    · refine .inr ⟨x.2.2, u.2, ?_, ?_, e3⟩
      · simp [nGet, List.find?_cons, hk]
      · simp [atKey, List.find?_cons, ← e1, hk]
    · have h1 : nGet (x :: xs) k = nGet xs k := by simp [nGet, List.find?_cons, hk]
      have h2 : atKey (u :: us) k = atKey us k := by simp [atKey, List.find?_cons, ← e1, hk]
      rw [h1, h2]
      exact ih
theorem NRel.put {xs : List NE} {us : List (NestedKey × Addr × Value)} (r : NRel xs us) (k : NestedKey) (a : Addr) {v : V} {u : Value} (rv : RelV v u) : NRel (nPut xs k a v) (storedH us k a u) := by
  have rep : NRel (xs.map fun x => if x.1 = k then (x.1, x.2.1, v) else x) (us.map (putAt k u)) := by
    induction r with
    | nil => exact .nil
    | @cons x y xs us q _ ih =>
      obtain ⟨e1, e2, e3⟩ := q
      refine .cons ?_ ih
      dsimp only
      by_cases hk : x.1 = k
      · rw [if_pos hk, putAt, if_pos (by rw [← e1]; exact hk)]
        exact ⟨e1, e2, rv⟩
      · rw [if_neg hk, putAt, if_neg (by rw [← e1]; exact hk)]
        exact ⟨e1, e2, e3⟩
  unfold nPut storedH
  rcases r.get k with ⟨h1, h2⟩ | ⟨v', p, h1, h2, _⟩
  · rw [h1, h2]
    exact Paired.snoc r ⟨rfl, rfl, rv⟩
  · rw [h1, h2]
    exact rep
theorem nPut_len (xs : List NE) (k : NestedKey) (a : Addr) (v : V) : (nPut xs k a v).length ≤ xs.length + 1 := by
  unfold nPut
  split
  · rw [List.length_map]; omega
  · rw [List.length_append]; exact Nat.le_refl _
theorem NdAt.dict {d : Addr} {xs : List NE} (ok : HOk P w H h) (n : NdAt h d xs) (hk : KeysOk H xs) : (d == sysModules) = false ∧ xs.length ≤ sizeLine ∧ ∃ us, NRel xs us ∧ h.DictOfH (nestedKind P w) d us := by
  obtain ⟨a, b, us, r, o, es, ep, ho, hx, hd, he, hn⟩ := n
  have key : ∀ u ∈ us, pureK u.1 = true ∧ (nestedKind P w).is h u.1 u.2.1 := fun u hu => by
    obtain ⟨x, hx, e1, e2⟩ := r.mem u hu
    obtain ⟨p1, p2, p3⟩ := hk x hx
    refine ⟨by rw [← e1]; exact p1, ?_, by rw [← e1]; exact p2⟩
    have := KeyV.nested ok x.1 _ (.ref x.2.1) p3 rfl
    rw [e1, e2] at this
    exact this
  refine ⟨a, b, us, r, o, es, ep, ho, hx, hd, ?_, fun u hu => (key u hu).2, hn⟩
  rw [he]
  refine List.map_congr_left fun u hu => ?_
  unfold nEnt entryOfKey
  show DictEntry.mk (hN u.1) _ _ = DictEntry.mk (u.1.hash w) _ _
  rw [hN_eq w u.1 (key u hu).1]
theorem NdAt.of_dict {d : Addr} {xs : List NE} {us : List (NestedKey × Addr × Value)} (a : (d == sysModules) = false) (b : xs.length ≤ sizeLine) (r : NRel xs us) (hk : ∀ x ∈ xs, pureK x.1 = true) (q : h.DictOfH (nestedKind P w) d us) : NdAt h d xs := by
  obtain ⟨o, es, ep, ho, hx, hd, he, _, hn⟩ := q
  refine ⟨a, b, us, r, o, es, ep, ho, hx, hd, ?_, hn⟩
  rw [he]
  refine List.map_congr_left fun u hu => ?_
  obtain ⟨x, hx, e1, _⟩ := r.mem u hu
  unfold nEnt entryOfKey
  show DictEntry.mk (u.1.hash w) _ _ = DictEntry.mk (hN u.1) _ _
  rw [hN_eq w u.1 (by rw [← e1]; exact hk x hx)]
end
def DicAt (H : Hp) (d : Addr) (xs : List NE) : Prop := H d = some (NdO d xs) ∧ KeysOk H xs
def KeyAt (H : Hp) (a : Addr) (ks : List NestedKey) : Prop := pureA ks = true ∧ (NestedKey.tup ks).depth ≤ 8 ∧ KeyV H (.tup ks) (.ref a)
section
variable {X : Cx}
theorem DicAt.use {pins : List (Addr × Obj)} {σ : L2.St} {H : Hp} {s : Shared} {d : Addr} {xs : List NE} (I : Inv X pins σ H s) (h : DicAt H d xs) : (d == sysModules) = false ∧ xs.length ≤ sizeLine ∧ ∃ us, NRel xs us ∧ s.heap.DictOfH (nestedKind X.prog X.w) d us :=
  NdAt.dict I.hok (show ObjOk X.prog X.w H s.heap d (NdO d xs) from I.hok d _ h.1).1 h.2
theorem KeyAt.use {pins : List (Addr × Obj)} {σ : L2.St} {H : Hp} {s : Shared} {a : Addr} {ks : List NestedKey} (I : Inv X pins σ H s) (h : KeyAt H a ks) : (nestedKind X.prog X.w).is s.heap (.tup ks) a := ⟨KeyV.nested I.hok _ _ (.ref a) h.2.2 rfl, h.2.1⟩
theorem room9 {A : Around} {P : Program} {w : World} (hu : A.units + 9 < cLine) : (nestedKind P w).room A.in1 := by
  show A.units + 1 + 8 < cLine
  omega
def rInN (neg : Bool) : R2 := fun x y H Q => ∃ d xs a ks, y = .ref d ∧ x = .ref a ∧ DicAt H d xs ∧ KeyAt H a ks ∧ Q (.bl (if neg = true then !(nGet xs (.tup ks)).isSome else (nGet xs (.tup ks)).isSome)) H
theorem op_inN (hu : X.A.units + 9 < cLine) : OpR X (compareOp .In) (rInN false) := by
  intro pins s σ H x y v u Q I rx ry h
  obtain ⟨d, xs, a, ks, rfl, rfl, hd, hk, q⟩ := h
  cases rx
  cases ry
  obtain ⟨z, _, us, r, dd⟩ := hd.use I
  refine wpAny_in_heap (room9 hu) (hk.use I) z dd ⟨.bl _, H, I.tok _, rfl, ?_⟩
  rcases r.get (.tup ks) with ⟨e1, e2⟩ | ⟨v', p, e1, e2, _⟩
  · rw [e2]; rw [e1] at q; exact q
  · rw [e2]; rw [e1] at q; exact q
theorem op_ninN (hu : X.A.units + 9 < cLine) : OpR X (compareOp .NotIn) (rInN true) := by
  intro pins s σ H x y v u Q I rx ry h
  obtain ⟨d, xs, a, ks, rfl, rfl, hd, hk, q⟩ := h
  cases rx
  cases ry
  obtain ⟨z, _, us, r, dd⟩ := hd.use I
  refine wpAny_notIn_heap (room9 hu) (hk.use I) z dd ⟨.bl _, H, I.tok _, rfl, ?_⟩
  rcases r.get (.tup ks) with ⟨e1, e2⟩ | ⟨v', p, e1, e2, _⟩
  · rw [e2]; rw [e1] at q; exact q
  · rw [e2]; rw [e1] at q; exact q
def rGetN : R2 := fun x y H Q => ∃ d xs a ks v, x = .ref d ∧ y = .ref a ∧ DicAt H d xs ∧ KeyAt H a ks ∧ nGet xs (.tup ks) = some v ∧ Q v H
theorem ix_dictN (hu : X.A.units + 9 < cLine) : IxR X rGetN := by
  intro value slice pins s σ H x y v u Q I rx ry h hs
  obtain ⟨d, xs, a, ks, r0, rfl, rfl, hd, hk, hg, q⟩ := h
  cases rx
  cases ry
  obtain ⟨z, _, us, r, dd⟩ := hd.use I
  rcases r.get (.tup ks) with ⟨e1, _⟩ | ⟨v', p, e1, e2, rv⟩
  · rw [hg] at e1; cases e1
  · rw [hg] at e1
    cases e1
    exact tail_any dd.typeIs PySem.F.slot_dict_getitem.lookup (wpAny_getItem_heap (room9 hu) (hk.use I) dd e2 ⟨r0, H, I.tok _, rv, q⟩) hs
def rSetN : V → V → V → Hp → (Hp → Prop) → Prop := fun o i v H Q => ∃ d xs a ks, o = .ref d ∧ i = .ref a ∧ DicAt H d xs ∧ KeyAt H a ks ∧ xs.length < sizeLine ∧ Q (upd H d (NdO d (nPut xs (.tup ks) a v)))
theorem set_dictN (hu : X.A.units + 9 < cLine) : PSet X rSetN := by
  intro pins s σ H o i v ov iv u Q I ro ri rv h
  obtain ⟨d, xs, a, ks, rfl, rfl, hd, hk, hl, q⟩ := h
  cases ro
  cases ri
  obtain ⟨z, _, us, r, dd⟩ := hd.use I
  refine wpAny_setItem_heap (hsz := by rw [← r.len]; omega) (room9 hu) (hk.use I) dd fun h' dd' hs => ⟨_, ?_, q⟩
  have hp := nPut_len xs (.tup ks) a v
  have pk : ∀ x ∈ nPut xs (.tup ks) a v, pureK x.1 = true := fun x hx => by
    unfold nPut at hx
    split at hx
    · obtain ⟨y, hy, rfl⟩ := List.mem_map.mp hx
      have := (hd.2 y hy).1
      split <;> exact this
    · rcases List.mem_append.mp hx with hx | hx
      · exact (hd.2 x hx).1
      · rw [List.mem_singleton.mp hx]
        exact (by rw [pureK]; exact hk.1)
  have hq : ∃ p, h'.get? d = some p := let ⟨p, _, _, hp, _⟩ := dd'; ⟨p, hp⟩
  exact d_write I (by rw [hd.1]; exact True.intro) hs hq (NdAt.of_dict (P := X.prog) (w := X.w) z (by omega) (r.put (.tup ks) a rv) pk dd').ok
def tNewN : TE := fun _ H Q => ∀ p, H p = none → Q (.ref p) (upd H p (NdO p []))
theorem pe_newN {pos : Pos} : PE X (.Dict [] [] pos) tNewN := ⟨fun pins s σ H Q I h =>
  wpAny_Dict_empty ⟨.ref s.heap.objs.size, _, I.laid (a := s.heap.objs.size) (o := NdO s.heap.objs.size []) (t' := s.toks) (fun _ _ q => Heap.get?_push_of_some _ q) (Nat.le_refl _)
    (NdAt.ok ⟨beq_eq_false_iff_ne.mpr (Ne.symm (Nat.ne_of_lt I.big)), Nat.zero_le _, [], .nil, _, #[], 0, Heap.get?_push_size _ rfl, ⟨rfl, rfl, rfl⟩, rfl, rfl, List.nodup_nil⟩), rfl, h _ (I.hok.fresh (Nat.le_refl _))⟩⟩
end
end HX
set_option maxRecDepth 100000
set_option maxHeartbeats 1000000
namespace QX
open PySem PySem.Spec PyProof.Rows L2 HX
inductive D where
  | non | bl (b : Bool) | int (i : Int) | str (x : Str) | tup (ds : List D) | lst (ds : List D) | dct (ks : List Key) (ds : List D) | scr (ns : List Int) | ref (n : Nat) | adr (v : V)
inductive Cell where
  | lst (ds : List D)
  | dic (kvs : List (NestedKey × D))
abbrev Mem := List Cell
abbrev Sa := List (Option D)
def FzT (H : Hp) (a : Addr) (xs : List V) : Prop := ∃ o : Obj, o.dict = none ∧ H a = some (.frz o (.tup xs))
def ScrAt (K : PySem.W.Frag) (ρ : List Addr) (H : Hp) (a : Addr) (ns : List Int) : Prop :=
  (Rd H a (.lst (ns.map V.int)) ∧ a ∉ ρ) ∨ ∃ (o : Obj) (its : Array Value) (n : Nat), K.lookup a = some o ∧ o.cls = .type "list" ∧ o.dict = none ∧ o.data = .seq its n ∧ its.size ≤ sizeLine ∧ Vals (ns.map V.int) its.toList
mutual
inductive Rep (K : PySem.W.Frag) (ρ : List Addr) (H : Hp) : V → D → Prop
  | non : Rep K ρ H .non .non
  | bl (b : Bool) : Rep K ρ H (.bl b) (.bl b)
  | int (i : Int) : Rep K ρ H (.int i) (.int i)
  | str (x : Str) : Rep K ρ H (.str x) (.str x)
  | tup {a : Addr} {xs : List V} {ds : List D} : FzT H a xs → a ∉ ρ → RepA K ρ H xs ds → Rep K ρ H (.ref a) (.tup ds)
  | lst {a : Addr} {xs : List V} {ds : List D} : H a = some (.lst xs) → a ∉ ρ → RepA K ρ H xs ds → Rep K ρ H (.ref a) (.lst ds)
  | dct {a : Addr} {kvs : List (Key × V)} {ks : List Key} {ds : List D} : H a = some (.dK kvs) → a ∉ ρ → ks = kvs.map (·.1) → RepA K ρ H (kvs.map (·.2)) ds → Rep K ρ H (.ref a) (.dct ks ds)
  | scr {a : Addr} {ns : List Int} : ScrAt K ρ H a ns → Rep K ρ H (.ref a) (.scr ns)
  | ref {a : Addr} {n : Nat} : ρ[n]? = some a → Rep K ρ H (.ref a) (.ref n)
  | adr (v : V) : Rep K ρ H v (.adr v)
inductive RepA (K : PySem.W.Frag) (ρ : List Addr) (H : Hp) : List V → List D → Prop
  | nil : RepA K ρ H [] []
  | cons {v : V} {vs : List V} {d : D} {ds : List D} : Rep K ρ H v d → RepA K ρ H vs ds → RepA K ρ H (v :: vs) (d :: ds)
end
def Th (H : Hp) (a : Addr) : Prop := ∃ o, H a = some o ∧ ∀ ps, o ≠ .tbl ps
structure Ext (ρ : List Addr) (H : Hp) (ρ' : List Addr) (H' : Hp) : Prop where
  pre : ∃ more, ρ' = ρ ++ more ∧ ∀ a ∈ more, ¬ Th H a
  keep : ∀ a o, H a = some o → a ∉ ρ → (∀ ps, o ≠ .tbl ps) → H' a = some o
  live : ∀ a, Th H a → Th H' a
theorem Th.none {H : Hp} {a : Addr} (h : H a = none) : ¬ Th H a := fun ⟨o, e, _⟩ => by rw [h] at e; cases e
theorem Ext.refl (ρ : List Addr) (H : Hp) : Ext ρ H ρ H := ⟨⟨[], by simp, by simp⟩, fun _ _ h _ _ => h, fun _ h => h⟩
theorem Ext.notin {ρ ρ' : List Addr} {H H' : Hp} (e : Ext ρ H ρ' H') {a : Addr} (n : a ∉ ρ) (h : Th H a) : a ∉ ρ' := by
  obtain ⟨more, rfl, hm⟩ := e.pre
  intro z
  rcases List.mem_append.mp z with z | z
  · exact n z
  · exact hm a z h
theorem Ext.trans {ρ ρ1 ρ2 : List Addr} {H H1 H2 : Hp} (a : Ext ρ H ρ1 H1) (b : Ext ρ1 H1 ρ2 H2) : Ext ρ H ρ2 H2 := by
  refine ⟨?_, fun x o h n t => ?_, fun x h => b.live x (a.live x h)⟩
  · obtain ⟨m1, rfl, h1⟩ := a.pre
    obtain ⟨m2, rfl, h2⟩ := b.pre
    refine ⟨m1 ++ m2, by rw [List.append_assoc], fun x hx => ?_⟩
    rcases List.mem_append.mp hx with z | z
    · exact h1 x z
    · exact fun t => h2 x z (a.live x t)
  · exact b.keep x o (a.keep x o h n t) (a.notin n ⟨o, h, t⟩) t
theorem Ext.at {ρ ρ' : List Addr} {H H' : Hp} (e : Ext ρ H ρ' H') {n : Nat} {a : Addr} (h : ρ[n]? = some a) : ρ'[n]? = some a := by
  obtain ⟨more, rfl, hm⟩ := e.pre
  have := (List.getElem?_eq_some_iff.mp h).1
  rw [List.getElem?_append_left this]
  exact h
theorem FzT.ext {ρ ρ' : List Addr} {H H' : Hp} {a : Addr} {xs : List V} (e : Ext ρ H ρ' H') (h : FzT H a xs) (n : a ∉ ρ) : FzT H' a xs ∧ a ∉ ρ' := by
  obtain ⟨o, h1, h2⟩ := h
  exact ⟨⟨o, h1, e.keep _ _ h2 n fun _ z => nomatch z⟩, e.notin n ⟨_, h2, fun _ z => nomatch z⟩⟩
theorem ScrAt.ext {K : PySem.W.Frag} {ρ ρ' : List Addr} {H H' : Hp} {a : Addr} {ns : List Int} (e : Ext ρ H ρ' H') (h : ScrAt K ρ H a ns) : ScrAt K ρ' H' a ns := by
  rcases h with ⟨h | ⟨o, h⟩, n⟩ | h
  · exact .inl ⟨.inl (e.keep _ _ h n fun _ z => nomatch z), e.notin n ⟨_, h, fun _ z => nomatch z⟩⟩
  · exact .inl ⟨.inr ⟨o, e.keep _ _ h n fun _ z => nomatch z⟩, e.notin n ⟨_, h, fun _ z => nomatch z⟩⟩
  · exact .inr h
mutual
theorem Rep.mono {K : PySem.W.Frag} {ρ ρ' : List Addr} {H H' : Hp} (e : Ext ρ H ρ' H') : ∀ (d : D) (v : V), Rep K ρ H v d → Rep K ρ' H' v d
  | .non, _, h => by cases h; exact .non
  | .bl b, _, h => by cases h; exact .bl b
  | .int i, _, h => by cases h; exact .int i
  | .str x, _, h => by cases h; exact .str x
  | .tup ds, _, h => by
    cases h with
    | tup f n ha => exact .tup (f.ext e n).1 (f.ext e n).2 (RepA.mono e ds _ ha)
  | .lst ds, _, h => by
    cases h with
    | lst f n ha => exact .lst (e.keep _ _ f n fun _ z => nomatch z) (e.notin n ⟨_, f, fun _ z => nomatch z⟩) (RepA.mono e ds _ ha)
  | .dct ks ds, _, h => by
    cases h with
    | dct f n hk ha => exact .dct (e.keep _ _ f n fun _ z => nomatch z) (e.notin n ⟨_, f, fun _ z => nomatch z⟩) hk (RepA.mono e ds _ ha)
  | .scr ns, _, h => by
    cases h with
    | scr f => exact .scr (f.ext e)
  | .ref n, _, h => by
    cases h with
    | ref f => exact .ref (e.at f)
  | .adr v, _, h => by cases h; exact .adr v
theorem RepA.mono {K : PySem.W.Frag} {ρ ρ' : List Addr} {H H' : Hp} (e : Ext ρ H ρ' H') : ∀ (ds : List D) (vs : List V), RepA K ρ H vs ds → RepA K ρ' H' vs ds
  | [], _, h => by cases h; exact .nil
  | d :: ds, _, h => by
    cases h with
    | cons h1 h2 => exact .cons (Rep.mono e d _ h1) (RepA.mono e ds _ h2)
end
section
variable {K : PySem.W.Frag} {ρ : List Addr} {H : Hp}
theorem RepA.len : ∀ {vs : List V} {ds : List D}, RepA K ρ H vs ds → vs.length = ds.length
  | _, _, .nil => rfl
  | _, _, .cons _ t => by rw [List.length_cons, List.length_cons, RepA.len t]
theorem RepA.get : ∀ {vs : List V} {ds : List D} {i : Nat} {v : V}, RepA K ρ H vs ds → vs[i]? = some v → ∃ d, ds[i]? = some d ∧ Rep K ρ H v d
  | _, _, _, _, .nil, e => by simp at e
  | _, _, 0, _, .cons h _, e => ⟨_, rfl, by simp at e; exact e ▸ h⟩
  | _, _, i + 1, _, .cons _ t, e => by
    obtain ⟨d, h1, h2⟩ := RepA.get (i := i) t (by simpa using e)
    exact ⟨d, by simpa using h1, h2⟩
theorem RepA.at : ∀ {vs : List V} {ds : List D} {i : Nat} {d : D}, RepA K ρ H vs ds → ds[i]? = some d → ∃ v, vs[i]? = some v ∧ Rep K ρ H v d
  | _, _, _, _, .nil, e => by simp at e
  | _, _, 0, _, .cons h _, e => ⟨_, rfl, by simp at e; exact e ▸ h⟩
  | _, _, i + 1, _, .cons _ t, e => by
    obtain ⟨d, h1, h2⟩ := RepA.at (i := i) t (by simpa using e)
    exact ⟨d, by simpa using h1, h2⟩
theorem RepA.append : ∀ {vs us : List V} {ds es : List D}, RepA K ρ H vs ds → RepA K ρ H us es → RepA K ρ H (vs ++ us) (ds ++ es)
  | _, _, _, _, .nil, s => s
  | _, _, _, _, .cons r t, s => .cons r (RepA.append t s)
theorem RepA.take : ∀ {vs : List V} {ds : List D} (n : Nat), RepA K ρ H vs ds → RepA K ρ H (vs.take n) (ds.take n)
  | _, _, 0, _ => .nil
  | _, _, _ + 1, .nil => .nil
  | _, _, n + 1, .cons r t => .cons r (RepA.take n t)
theorem RepA.drop : ∀ {vs : List V} {ds : List D} (n : Nat), RepA K ρ H vs ds → RepA K ρ H (vs.drop n) (ds.drop n)
  | _, _, 0, r => r
  | _, _, _ + 1, .nil => .nil
  | _, _, n + 1, .cons _ t => RepA.drop n t
theorem RepA.set {v : V} {d : D} (r : Rep K ρ H v d) : ∀ {vs : List V} {ds : List D} (i : Nat), RepA K ρ H vs ds → RepA K ρ H (vs.set i v) (ds.set i d)
  | _, _, _, .nil => .nil
  | _, _, 0, .cons _ t => .cons r t
  | _, _, i + 1, .cons q t => .cons q (RepA.set r i t)
theorem RepA.dropLast {vs : List V} {ds : List D} (h : RepA K ρ H vs ds) : RepA K ρ H vs.dropLast ds.dropLast := by
  rw [List.dropLast_eq_take, List.dropLast_eq_take, h.len]
  exact h.take _
theorem RepA.rep {vs : List V} {ds : List D} (h : RepA K ρ H vs ds) : ∀ n : Nat, RepA K ρ H (List.replicate n vs).flatten (List.replicate n ds).flatten
  | 0 => .nil
  | n + 1 => by
    rw [List.replicate_succ, List.replicate_succ, List.flatten_cons, List.flatten_cons]
    exact h.append (RepA.rep h n)
theorem RepA.ints : ∀ (ns : List Int), RepA K ρ H (ns.map V.int) (ns.map D.int)
  | [] => .nil
  | n :: ns => .cons (.int n) (RepA.ints ns)
end
structure Sc where
  K : PySem.W.Frag
  T : List (Addr × Str)
  C : Nat → Addr
mutual
def dK : NestedKey → D
  | .none => .non
  | .num i => .int i
  | .text x => .str x
  | .tup ks => .tup (dKs ks)
def dKs : List NestedKey → List D
  | [] => []
  | k :: ks => dK k :: dKs ks
end
def DRel (K : PySem.W.Frag) (ρ : List Addr) (H : Hp) : List NE → List (NestedKey × D) → Prop := Paired fun x kv => x.1 = kv.1 ∧ pureK kv.1 = true ∧ kv.1.depth ≤ 8 ∧ Rep K ρ H (.ref x.2.1) (dK kv.1) ∧ Rep K ρ H x.2.2 kv.2
theorem DRel.mono {K : PySem.W.Frag} {ρ ρ' : List Addr} {H H' : Hp} (e : Ext ρ H ρ' H') {xs : List NE} {kvs : List (NestedKey × D)} (h : DRel K ρ H xs kvs) : DRel K ρ' H' xs kvs :=
  Paired.mapP h fun _ _ ⟨a, b, c, d, f⟩ => ⟨a, b, c, Rep.mono e _ _ d, Rep.mono e _ _ f⟩
def CellOk (K : PySem.W.Frag) (ρ : List Addr) (H : Hp) (a : Addr) : Cell → Prop
  | .lst ds => ∃ xs, H a = some (.lst xs) ∧ RepA K ρ H xs ds
  | .dic kvs => ∃ xs, H a = some (NdO a xs) ∧ DRel K ρ H xs kvs
structure MemOk (S : Sc) (ρ : List Addr) (H : Hp) (M : Mem) : Prop where
  len : ρ.length = M.length
  nd : ρ.Nodup
  cell : ∀ (n : Nat) (a : Addr) (c : Cell), ρ[n]? = some a → M[n]? = some c → CellOk S.K ρ H a c
  tab : LamX.Tabs S.T H
theorem CellOk.some {K : PySem.W.Frag} {ρ : List Addr} {H : Hp} {a : Addr} {c : Cell} (h : CellOk K ρ H a c) : H a ≠ none := by
  cases c with
  | lst ds => obtain ⟨xs, e, _⟩ := h; rw [e]; exact fun z => nomatch z
  | dic kvs => obtain ⟨xs, e, _⟩ := h; rw [e]; exact fun z => nomatch z
theorem CellOk.ext {K : PySem.W.Frag} {ρ ρ' : List Addr} {H H' : Hp} {a : Addr} {c : Cell} (h : CellOk K ρ H a c) (e : Ext ρ H ρ' H') (k : H' a = H a) : CellOk K ρ' H' a c := by
  cases c with
  | lst ds => obtain ⟨xs, e1, r⟩ := h; exact ⟨xs, k.trans e1, RepA.mono e _ _ r⟩
  | dic kvs => obtain ⟨xs, e1, r⟩ := h; exact ⟨xs, k.trans e1, DRel.mono e r⟩
section
variable {S : Sc} {ρ : List Addr} {H : Hp} {M : Mem}
theorem MemOk.at (m : MemOk S ρ H M) {n : Nat} {a : Addr} (h : ρ[n]? = some a) : ∃ c, M[n]? = some c ∧ CellOk S.K ρ H a c := by
  have hn := (List.getElem?_eq_some_iff.mp h).1
  rw [m.len] at hn
  exact ⟨_, List.getElem?_eq_getElem hn, m.cell n a _ h (List.getElem?_eq_getElem hn)⟩
theorem MemOk.there (m : MemOk S ρ H M) {a : Addr} (h : a ∈ ρ) : H a ≠ none := by
  obtain ⟨n, hn, e⟩ := List.getElem_of_mem h
  obtain ⟨c, _, ok⟩ := m.at (n := n) (a := a) (by rw [List.getElem?_eq_getElem hn, e])
  exact ok.some
theorem MemOk.new (m : MemOk S ρ H M) {p : Addr} (h : H p = none) : p ∉ ρ := fun z => m.there z h
end
def Stp (S : Sc) (ρ : List Addr) (H : Hp) (ρ' : List Addr) (H' : Hp) (M : Mem) : Prop := Ext ρ H ρ' H' ∧ MemOk S ρ' H' M
section
variable {S : Sc} {ρ : List Addr} {H : Hp} {M : Mem}
theorem Stp.refl (m : MemOk S ρ H M) : Stp S ρ H ρ H M := ⟨Ext.refl ρ H, m⟩
theorem Ext.fresh {p : Addr} {o : HO} (h : H p = none) : Ext ρ H ρ (upd H p o) := by
  refine ⟨⟨[], by simp, by simp⟩, fun a u e _ _ => by rw [upd_ne (ne_of_none e h)]; exact e, fun a ⟨u, e, t⟩ => ⟨u, by rw [upd_ne (ne_of_none e h)]; exact e, t⟩⟩
theorem Stp.fresh (m : MemOk S ρ H M) {p : Addr} {o : HO} (h : H p = none) : Stp S ρ H ρ (upd H p o) M := by
  have e : Ext ρ H ρ (upd H p o) := Ext.fresh h
  refine ⟨e, m.len, m.nd, fun n a c h1 h2 => ?_, m.tab.ext fun b u q => by rw [upd_ne (ne_of_none q h)]; exact q⟩
  have ok := m.cell n a c h1 h2
  refine ok.ext e (upd_ne ?_)
  intro z
  exact ok.some (by rw [z]; exact h)
theorem Stp.alloc (m : MemOk S ρ H M) {p : Addr} {xs : List V} {ds : List D} (h : H p = none) (r : RepA S.K ρ H xs ds) : Stp S ρ H (ρ ++ [p]) (upd H p (.lst xs)) (M ++ [.lst ds]) := by
  have e : Ext ρ H (ρ ++ [p]) (upd H p (.lst xs)) := by
    refine ⟨⟨[p], rfl, fun a ha => ?_⟩, (Ext.fresh (ρ := ρ) h).keep, (Ext.fresh (ρ := ρ) h).live⟩
    rw [List.mem_singleton.mp ha]
    exact Th.none h
  refine ⟨e, ?_, ?_, fun n a c h1 h2 => ?_, m.tab.ext fun b u q => by rw [upd_ne (ne_of_none q h)]; exact q⟩
  · rw [List.length_append, List.length_append, m.len]
    rfl
  · refine List.nodup_append.mpr ⟨m.nd, by simp, ?_⟩
    intro a ha b hb
    rw [List.mem_singleton.mp hb]
    rintro rfl
    exact m.new h ha
  · by_cases hn : n < ρ.length
    · rw [List.getElem?_append_left hn] at h1
      rw [List.getElem?_append_left (by rw [← m.len]; exact hn)] at h2
      have ok := m.cell n a c h1 h2
      refine ok.ext e (upd_ne ?_)
      intro z
      exact ok.some (by rw [z]; exact h)
    · rw [List.getElem?_append_right (by omega)] at h1
      rw [List.getElem?_append_right (by rw [← m.len]; omega)] at h2
      have e0 : n - ρ.length = 0 := by
        have := (List.getElem?_eq_some_iff.mp h1).1
        simp at this
        omega
      rw [← m.len] at h2
      rw [e0] at h1 h2
      simp at h1 h2
      subst h1 h2
      exact ⟨xs, upd_same, RepA.mono e _ _ r⟩
theorem Stp.put (m : MemOk S ρ H M) {n : Nat} {a : Addr} {ds0 : List D} {xs : List V} {ds : List D} (h : ρ[n]? = some a) (h2 : M[n]? = some (.lst ds0)) (r : RepA S.K ρ H xs ds) : Stp S ρ H ρ (upd H a (.lst xs)) (M.set n (.lst ds)) := by
  obtain ⟨ys, ey, _⟩ := m.cell n a _ h h2
  have ha : a ∈ ρ := List.mem_of_getElem? h
  have e : Ext ρ H ρ (upd H a (.lst xs)) := by
    refine ⟨⟨[], by simp, by simp⟩, fun b u q nb _ => by rw [upd_ne (fun z => nb (by rw [z]; exact ha))]; exact q, fun b ⟨u, q, t⟩ => ?_⟩
    by_cases hb : b = a
    · exact ⟨.lst xs, by rw [hb, upd_same], fun _ z => nomatch z⟩
    · exact ⟨u, by rw [upd_ne hb]; exact q, t⟩
  refine ⟨e, by rw [List.length_set]; exact m.len, m.nd, fun k b c h1 h3 => ?_, HX.Tabs.kp m.tab ey (Kp.put rfl)⟩
  by_cases hk : k = n
  · subst hk
    rw [h] at h1
    cases h1
    rw [List.getElem?_set_self (List.getElem?_eq_some_iff.mp h2).1] at h3
    cases h3
    exact ⟨xs, upd_same, RepA.mono e _ _ r⟩
  · rw [List.getElem?_set_ne (Ne.symm hk)] at h3
    have ok := m.cell k b c h1 h3
    refine ok.ext e (upd_ne ?_)
    intro z
    subst z
    exact hk ((List.getElem?_inj (List.getElem?_eq_some_iff.mp h1).1 m.nd).mp (h1.trans h.symm))
end
inductive Res (α : Type) where
  | ok (x : α) (M : Mem) | exc (c : Nat) (fs : List (Str × D)) (M : Mem) | bad
def Res.bind {α β : Type} : Res α → (α → Mem → Res β) → Res β
  | .ok x M, k => k x M
  | .exc c fs M, _ => .exc c fs M
  | .bad, _ => .bad
abbrev F (α : Type) := Sa → Mem → Res α
def XRep (K : PySem.W.Frag) (ρ : List Addr) (H : Hp) : Option Addr → List (Str × D) → Prop
  | none, fs => fs = []
  | some a, fs => a ∉ ρ ∧ ∃ vs, H a = some (.xd vs) ∧ vs.map (·.1) = fs.map (·.1) ∧ RepA K ρ H (vs.map (·.2)) (fs.map (·.2)) ∧ fs ≠ []
def Post {α β : Type} (S : Sc) (W : WX) (R : List Addr → Hp → β → α → Prop) (σ : L2.St) (ρ : List Addr) (H : Hp) (Q : β → Hp → Prop) : Res α → Prop
  | .ok x M => ∀ ρ' H' v, Stp S ρ H ρ' H' M → R ρ' H' v x → Q v H'
  | .exc c fs M => ∀ ρ' H' d, Stp S ρ H ρ' H' M → XRep S.K ρ' H' d fs → W (.ref (S.C c)) d σ H'
  | .bad => False
def RepSt (K : PySem.W.Frag) (ρ : List Addr) (H : Hp) (σ : L2.St) (σa : Sa) : Prop := σ.length = σa.length ∧ ∀ (i : Nat) (d : D), σa[i]? = some (some d) → ∃ v, σ[i]? = some (some v) ∧ Rep K ρ H v d
def tOf {α β : Type} (S : Sc) (W : WX) (R : List Addr → Hp → β → α → Prop) (f : F α) : L2.St → Hp → (β → Hp → Prop) → Prop := fun σ H Q => ∃ ρ M σa, MemOk S ρ H M ∧ RepSt S.K ρ H σ σa ∧ Post S W R σ ρ H Q (f σa M)
theorem RepSt.mono {K : PySem.W.Frag} {ρ ρ' : List Addr} {H H' : Hp} {σ : L2.St} {σa : Sa} (h : RepSt K ρ H σ σa) (e : Ext ρ H ρ' H') : RepSt K ρ' H' σ σa := ⟨h.1, fun i d q => let ⟨v, h1, h2⟩ := h.2 i d q; ⟨v, h1, Rep.mono e _ _ h2⟩⟩
section
variable {α β γ δ : Type} {S : Sc} {W : WX} {R : List Addr → Hp → β → α → Prop} {R2 : List Addr → Hp → δ → γ → Prop} {σ : L2.St} {σa : Sa} {ρ ρ' : List Addr} {H H' : Hp} {M : Mem}
theorem Post.mono {Q : β → Hp → Prop} {r : Res α} (h : Post S W R σ ρ H Q r) (e : Ext ρ H ρ' H') : Post S W R σ ρ' H' Q r := by
  cases r with
  | ok x M => exact fun ρ2 H2 v st => h ρ2 H2 v ⟨e.trans st.1, st.2⟩
  | exc c fs M => exact fun ρ2 H2 d st => h ρ2 H2 d ⟨e.trans st.1, st.2⟩
  | bad => exact h
theorem use {f : F α} {k : α → Mem → Res γ} {Q : β → Hp → Prop} {Q2 : δ → Hp → Prop} (mo : MemOk S ρ H M) (rs : RepSt S.K ρ H σ σa) (h : Post S W R2 σ ρ H Q2 ((f σa M).bind k))
    (c : ∀ x M1 ρ1 H1 v, Stp S ρ H ρ1 H1 M1 → R ρ1 H1 v x → RepSt S.K ρ1 H1 σ σa → Post S W R2 σ ρ1 H1 Q2 (k x M1) → Q v H1) : tOf S W R f σ H Q := by
  refine ⟨ρ, M, σa, mo, rs, ?_⟩
  cases e : f σa M with
  | ok x M1 =>
    rw [e] at h
    intro ρ1 H1 v st r
    exact c x M1 ρ1 H1 v st r (rs.mono st.1) (Post.mono h st.1)
  | exc c2 fs M1 => rw [e] at h; exact h
  | bad => rw [e] at h; exact h
end
section
variable {X : Cx}
theorem PE.imp {e : Expr} {t t' : TE} (h : PE X e t) (w : ∀ σ H Q, t' σ H Q → t σ H Q) : PE X e t' := ⟨fun pins s σ H Q I q => h.run pins s σ H Q I (w σ H Q q)⟩
theorem PT.imp {e : Expr} {t t' : TT} (h : PT X e t) (w : ∀ σ H Q, t' σ H Q → t σ H Q) : PT X e t' := ⟨fun pins s σ H Q I q => h.run pins s σ H Q I (w σ H Q q)⟩
theorem PW.imp {e : Expr} {t t' : TT} (h : PW X e t) (w : ∀ σ H Q, t' σ H Q → t σ H Q) : PW X e t' := ⟨fun wh pins s σ H Q I q => h.run wh pins s σ H Q I (w σ H Q q)⟩
theorem PA.imp {es : List Expr} {t t' : TA} (h : PA X es t) (w : ∀ σ H Q, t' σ H Q → t σ H Q) : PA X es t' := ⟨fun pos pins s σ H Q I q => h.run pos pins s σ H Q I (w σ H Q q)⟩
theorem PS.imp {st : Stmt} {t t' : TS} (h : PS X st t) (w : ∀ D σ H, t' D σ H → t D σ H) : PS X st t' := ⟨fun pins s σ H D I q => h.run pins s σ H D I (w D σ H q)⟩
theorem PSs.imp {st : List Stmt} {t t' : TS} (h : PSs X st t) (w : ∀ D σ H, t' D σ H → t D σ H) : PSs X st t' := ⟨fun pins s σ H D I q => h.run pins s σ H D I (w D σ H q)⟩
theorem PI.imp {tg e : Expr} {t t' : TI} (h : PI X tg e t) (w : ∀ σ H R, t' σ H R → t σ H R) : PI X tg e t' := ⟨fun pins s σ H R I q => h.run pins s σ H R I (w σ H R q)⟩
end
abbrev QE (S : Sc) (W : WX) (X : Cx) (e : Expr) (f : F D) : Prop := PE X e (tOf S W (Rep S.K) f)
def REq {α : Type} : List Addr → Hp → α → α → Prop := fun _ _ a b => a = b
abbrev QT (S : Sc) (W : WX) (X : Cx) (e : Expr) (f : F Bool) : Prop := PT X e (tOf S W REq f)
abbrev QW (S : Sc) (W : WX) (X : Cx) (e : Expr) (f : F Bool) : Prop := PW X e (tOf S W REq f)
abbrev QA (S : Sc) (W : WX) (X : Cx) (es : List Expr) (f : F (List D)) : Prop := PA X es (tOf S W (RepA S.K) f)
end QX
set_option maxRecDepth 100000
set_option maxHeartbeats 1000000
namespace QX
open PySem PySem.Spec PyProof.Rows L2 HX
section
variable {X : Cx} {S : Sc} {W : WX} {e a b c : Expr} {pos : Pos}
def fVar (i : Nat) : F D := fun σ M => match σ[i]? with | some (some d) => .ok d M | _ => .bad
def fC (d : D) : F D := fun _ M => .ok d M
theorem qe_var {i : Nat} (h : PE X e (tVar i)) : QE S W X e (fVar i) := PE.imp h fun σ H Q ⟨ρ, M, σa, mo, rs, p⟩ => by
  unfold fVar at p
  split at p
  · rename_i d hd
    obtain ⟨v, e1, r⟩ := rs.2 _ _ hd
    exact ⟨v, e1, p ρ H v (Stp.refl mo) r⟩
  · exact p.elim
theorem qe_c {v : V} {d : D} (h : PE X e (tC v)) (r : ∀ K ρ H, Rep K ρ H v d) : QE S W X e (fC d) := PE.imp h fun σ H Q ⟨ρ, M, σa, mo, rs, p⟩ => p ρ H v (Stp.refl mo) (r _ _ _)
theorem qe_int {i j pos} : QE S W X (.Constant (.int i) j pos) (fC (.int i)) := qe_c pe_int fun _ _ _ => .int i
theorem qe_bl {i j pos} : QE S W X (.Constant (.bool i) j pos) (fC (.bl i)) := qe_c pe_bl fun _ _ _ => .bl i
theorem qe_non {j pos} : QE S W X (.Constant .none j pos) (fC .non) := qe_c pe_non fun _ _ _ => .non
theorem qe_str {i j pos} : QE S W X (.Constant (.str i) j pos) (fC (.str i)) := qe_c pe_str fun _ _ _ => .str i
theorem qe_gint {x : Str} {i : Int} (h : PE X e (tC (.int i))) : QE S W X e (fC (.int i)) := qe_c h fun _ _ _ => .int i
theorem qe_adr {v : V} (h : PE X e (tC v)) : QE S W X e (fC (.adr v)) := qe_c h fun _ _ _ => .adr v
def fBin (g : D → D → Mem → Res D) (fa fb : F D) : F D := fun σ M => (fa σ M).bind fun x M1 => (fb σ M1).bind fun y M2 => g x y M2
def OpQ (S : Sc) (r : R2) (g : D → D → Mem → Res D) : Prop := ∀ (W : WX) (σ : L2.St) (ρ : List Addr) (H : Hp) (M : Mem) (x y : V) (dx dy : D) (Q : VK), MemOk S ρ H M → Rep S.K ρ H x dx → Rep S.K ρ H y dy → Post S W (Rep S.K) σ ρ H Q (g dx dy M) → r x y H Q
theorem bin_imp {r : R2} {g : D → D → Mem → Res D} {fa fb : F D} (hq : OpQ S r g) {σ : L2.St} {H : Hp} {Q : VK} (h : tOf S W (Rep S.K) (fBin g fa fb) σ H Q) : tOp r (tOf S W (Rep S.K) fa) (tOf S W (Rep S.K) fb) σ H Q := by
  obtain ⟨ρ, M, σa, mo, rs, p⟩ := h
  exact use mo rs p fun x M1 ρ1 H1 v st1 r1 rs1 p1 => use st1.2 rs1 p1 fun y M2 ρ2 H2 u st2 r2 rs2 p2 => hq _ _ _ _ _ _ _ _ _ _ st2.2 (Rep.mono st2.1 _ _ r1) r2 p2
variable {fa fb fc : F D}
theorem qe_bin {op : Operator} {r : R2} {g : D → D → Mem → Res D} (ho : OpR X (binaryOp op) r) (hq : OpQ S r g) (ha : QE S W X a fa) (hb : QE S W X b fb) : QE S W X (.BinOp a op b pos) (fBin g fa fb) :=
  PE.imp (pe_op ho ha hb) fun _ _ _ h => bin_imp hq h
theorem qe_cmp {op : CmpOp} {r : R2} {g : D → D → Mem → Res D} (ho : OpR X (compareOp op) r) (hq : OpQ S r g) (ha : QE S W X a fa) (hb : QE S W X b fb) (hm : behindInMarks op b = false) : QE S W X (.Compare a [op] [b] pos) (fBin g fa fb) :=
  PE.imp (pe_cmpR ho ha hb hm) fun _ _ _ h => bin_imp hq h
def fTest (f : F D) : F Bool := fun σ M => (f σ M).bind fun d M1 => match d with | .bl b => .ok b M1 | _ => .bad
theorem test_imp {f : F D} {σ : L2.St} {H : Hp} {Q : Bool → Hp → Prop} (h : tOf S W REq (fTest f) σ H Q) : tOf S W (Rep S.K) f σ H fun x H' => ∃ k, x = .bl k ∧ Q k H' := by
  obtain ⟨ρ, M, σa, mo, rs, p⟩ := h
  refine use mo rs p fun x M1 ρ1 H1 v st1 r1 rs1 p1 => ?_
  cases x with
  | bl b =>
    cases r1
    exact ⟨b, rfl, p1 ρ1 H1 b (Stp.refl st1.2) rfl⟩
  | _ => exact False.elim p1
theorem qt_cmp {op : CmpOp} {r : R2} {g : D → D → Mem → Res D} (ho : OpR X (compareOp op) r) (hq : OpQ S r g) (ha : QE S W X a fa) (hb : QE S W X b fb) (hm : behindInMarks op b = false) : QT S W X (.Compare a [op] [b] pos) (fTest (fBin g fa fb)) :=
  PT.imp (pt_cmpR ho ha hb hm) fun _ _ _ h => bin_imp hq (test_imp h)
theorem qt_val (h : QE S W X a fa) (he : ∀ whole, isTrue a X.env whole = (do let v ← whole; standAt a.pos; holding [v] (truthy v)) := by intro _; rfl) : QT S W X a (fTest fa) := PT.imp (pt_val h he) fun _ _ _ h => test_imp h
def fChain (g g' : D → D → Mem → Res D) (fa fb fc : F D) : F D := fun σ M => (fa σ M).bind fun x M1 => (fb σ M1).bind fun y M2 => (g x y M2).bind fun z M3 => match z with
  | .bl true => (fc σ M3).bind fun w M4 => g' y w M4
  | .bl false => .ok (.bl false) M3
  | _ => .bad
def Flat (g : D → D → Mem → Res D) : Prop := ∀ x y M, (∃ b, g x y M = .ok (.bl b) M) ∨ g x y M = .bad
theorem chain_imp {r r' : R2} {g g' : D → D → Mem → Res D} (hf : Flat g) (hq : OpQ S r g) (hq' : OpQ S r' g') {σ : L2.St} {H : Hp} {Q : VK} (h : tOf S W (Rep S.K) (fChain g g' fa fb fc) σ H Q) : tChain r r' (tOf S W (Rep S.K) fa) (tOf S W (Rep S.K) fb) (tOf S W (Rep S.K) fc) σ H Q := by
  obtain ⟨ρ, M, σa, mo, rs, p⟩ := h
  refine use mo rs p fun x M1 ρ1 H1 v st1 r1 rs1 p1 => use st1.2 rs1 p1 fun y M2 ρ2 H2 u st2 r2 rs2 p2 => ?_
  refine hq W σ ρ2 H2 M2 _ _ _ _ _ st2.2 (Rep.mono st2.1 _ _ r1) r2 ?_
  rcases hf x y M2 with ⟨k, e⟩ | e
  · rw [e] at p2 ⊢
    intro ρ3 H3 w st3 r3
    cases r3
    refine ⟨k, rfl, ?_⟩
    have p3 := Post.mono p2 st3.1
    cases k with
    | false => exact p3 ρ3 H3 _ (Stp.refl st3.2) (.bl false)
    | true =>
      refine use st3.2 (rs2.mono st3.1) p3 fun z M4 ρ4 H4 w' st4 r4 rs4 p4 => ?_
      exact hq' W σ ρ4 H4 M4 _ _ _ _ _ st4.2 (Rep.mono (st3.1.trans st4.1) _ _ r2) r4 p4
  · rw [e] at p2
    exact p2.elim
theorem qe_chain {op op' : CmpOp} {r r' : R2} {g g' : D → D → Mem → Res D} (ho : OpR X (compareOp op) r) (ho' : OpR X (compareOp op') r') (hf : Flat g) (hq : OpQ S r g) (hq' : OpQ S r' g') (ha : QE S W X a fa) (hb : QE S W X b fb) (hc : QE S W X c fc)
    (hm : lastMarks [op, op'] [b, c] = false := by with_unfolding_all rfl) : QE S W X (.Compare a [op, op'] [b, c] pos) (fChain g g' fa fb fc) := PE.imp (pe_chain ho ho' ha hb hc hm) fun _ _ _ h => chain_imp hf hq hq' h
variable {ga gb : F Bool} {rest : List Expr}
def fAndT (ga gb : F Bool) : F Bool := fun σ M => (ga σ M).bind fun c M1 => if c = true then gb σ M1 else .ok false M1
def fOrT (ga gb : F Bool) : F Bool := fun σ M => (ga σ M).bind fun c M1 => if c = true then .ok true M1 else gb σ M1
def fNotT (ga : F Bool) : F Bool := fun σ M => (ga σ M).bind fun c M1 => .ok (!c) M1
theorem qw_and1 (ha : QT S W X a ga) : QW S W X (.BoolOp .And [a] pos) ga := pw_and1 ha
theorem qw_or1 (ha : QT S W X a ga) : QW S W X (.BoolOp .Or [a] pos) ga := pw_or1 ha
theorem qw_and (ha : QT S W X a ga) (hb : QW S W X (.BoolOp .And (b :: rest) pos) gb) : QW S W X (.BoolOp .And (a :: b :: rest) pos) (fAndT ga gb) := PW.imp (pw_and ha hb) fun σ H Q ⟨ρ, M, σa, mo, rs, p⟩ => by
  refine use mo rs p fun x M1 ρ1 H1 v st1 r1 rs1 p1 => ?_
  cases (show v = x from r1)
  cases x with
  | true => exact ⟨ρ1, M1, σa, st1.2, rs1, p1⟩
  | false => exact p1 ρ1 H1 _ (Stp.refl st1.2) rfl
theorem qw_or (ha : QT S W X a ga) (hb : QW S W X (.BoolOp .Or (b :: rest) pos) gb) : QW S W X (.BoolOp .Or (a :: b :: rest) pos) (fOrT ga gb) := PW.imp (pw_or ha hb) fun σ H Q ⟨ρ, M, σa, mo, rs, p⟩ => by
  refine use mo rs p fun x M1 ρ1 H1 v st1 r1 rs1 p1 => ?_
  cases (show v = x from r1)
  cases x with
  | false => exact ⟨ρ1, M1, σa, st1.2, rs1, p1⟩
  | true => exact p1 ρ1 H1 _ (Stp.refl st1.2) rfl
theorem qt_pw (h : QW S W X a ga) : QT S W X a ga := PW.pt h
theorem qt_not (ha : QT S W X a ga) : QT S W X (.UnaryOp .Not a pos) (fNotT ga) := PT.imp (pt_not ha) fun σ H Q ⟨ρ, M, σa, mo, rs, p⟩ => by
  refine use mo rs p fun x M1 ρ1 H1 v st1 r1 rs1 p1 => ?_
  cases (show v = x from r1)
  exact p1 ρ1 H1 _ (Stp.refl st1.2) rfl
def fAnd (fa fb : F D) : F D := fun σ M => (fa σ M).bind fun x M1 => match x with | .bl true => fb σ M1 | .bl false => .ok (.bl false) M1 | _ => .bad
def fOr (fa fb : F D) : F D := fun σ M => (fa σ M).bind fun x M1 => match x with | .bl true => .ok (.bl true) M1 | .bl false => fb σ M1 | _ => .bad
def fNot (fa : F D) : F D := fun σ M => (fa σ M).bind fun x M1 => match x with | .bl b => .ok (.bl (!b)) M1 | _ => .bad
theorem qe_one {op} (h : QE S W X a fa) : QE S W X (.BoolOp op [a] pos) fa := pe_one h
theorem qe_and (ha : QE S W X a fa) (hb : QE S W X (.BoolOp .And (b :: rest) pos) fb) : QE S W X (.BoolOp .And (a :: b :: rest) pos) (fAnd fa fb) := PE.imp (pe_and ha hb) fun σ H Q ⟨ρ, M, σa, mo, rs, p⟩ => by
  refine use mo rs p fun x M1 ρ1 H1 v st1 r1 rs1 p1 => ?_
  cases x with
  | bl k =>
    cases r1
    refine ⟨k, rfl, ?_⟩
    cases k with
    | true => exact ⟨ρ1, M1, σa, st1.2, rs1, p1⟩
    | false => exact p1 ρ1 H1 _ (Stp.refl st1.2) (.bl false)
  | _ => exact False.elim p1
theorem qe_not (ha : QE S W X a fa) : QE S W X (.UnaryOp .Not a pos) (fNot fa) := PE.imp (pe_not ha) fun σ H Q ⟨ρ, M, σa, mo, rs, p⟩ => by
  refine use mo rs p fun x M1 ρ1 H1 v st1 r1 rs1 p1 => ?_
  cases x with
  | bl k =>
    cases r1
    exact ⟨k, rfl, p1 ρ1 H1 _ (Stp.refl st1.2) (.bl _)⟩
  | _ => exact False.elim p1
def fIf (g : F Bool) (fa fb : F D) : F D := fun σ M => (g σ M).bind fun c M1 => if c = true then fa σ M1 else fb σ M1
theorem qe_if (hc : QT S W X c ga) (ha : QE S W X a fa) (hb : QE S W X b fb) : QE S W X (.IfExp c a b pos) (fIf ga fa fb) := PE.imp (pe_ifExp hc ha hb) fun σ H Q ⟨ρ, M, σa, mo, rs, p⟩ => by
  refine use mo rs p fun x M1 ρ1 H1 v st1 r1 rs1 p1 => ?_
  cases (show v = x from r1)
  cases x with
  | true => exact ⟨ρ1, M1, σa, st1.2, rs1, p1⟩
  | false => exact ⟨ρ1, M1, σa, st1.2, rs1, p1⟩
variable {es : List Expr} {fs : F (List D)}
def fNil : F (List D) := fun _ M => .ok [] M
def fCons (fa : F D) (fs : F (List D)) : F (List D) := fun σ M => (fa σ M).bind fun x M1 => (fs σ M1).bind fun xs M2 => .ok (x :: xs) M2
theorem qa_nil : QA S W X [] fNil := PA.imp pa_nil fun σ H Q ⟨ρ, M, σa, mo, rs, p⟩ => p ρ H [] (Stp.refl mo) .nil
theorem qa_cons (ha : QE S W X e fa) (hr : QA S W X es fs) (hs : starEach (e :: es) X.env = (false, eval e X.env) :: starEach es X.env := by rfl) : QA S W X (e :: es) (fCons fa fs) := PA.imp (pa_cons ha hr hs) fun σ H Q ⟨ρ, M, σa, mo, rs, p⟩ =>
  use mo rs p fun x M1 ρ1 H1 v st1 r1 rs1 p1 => use st1.2 rs1 p1 fun y M2 ρ2 H2 u st2 r2 rs2 p2 => p2 ρ2 H2 _ (Stp.refl st2.2) (.cons (Rep.mono st2.1 _ _ r1) r2)
abbrev few (n : Nat) : Bool := Nat.ble n 16777216
theorem few_ok {n : Nat} (h : few n = true) : n ≤ sizeLine := by rw [sizeLine_eq]; exact Nat.le_of_ble_eq_true h
theorem ok_few {n : Nat} (h : n ≤ sizeLine) : few n = true := by rw [sizeLine_eq] at h; exact Nat.ble_eq_true_of_le h
def fTup (fs : F (List D)) : F D := fun σ M => (fs σ M).bind fun ds M1 => if few ds.length = true then .ok (.tup ds) M1 else .bad
def fLst (fs : F (List D)) : F D := fun σ M => (fs σ M).bind fun ds M1 => if few ds.length = true then .ok (.lst ds) M1 else .bad
def fNew (fs : F (List D)) : F D := fun σ M => (fs σ M).bind fun ds M1 => if few ds.length = true then .ok (.ref M1.length) (M1 ++ [.lst ds]) else .bad
theorem rep_tup {ρ : List Addr} {H : Hp} {M : Mem} {p : Addr} {o : Obj} {xs : List V} {ds : List D} (m : MemOk S ρ H M) (h : H p = none) (ho : o.dict = none) (r : RepA S.K ρ H xs ds) : Rep S.K ρ (upd H p (.frz o (.tup xs))) (.ref p) (.tup ds) :=
  .tup ⟨o, ho, upd_same⟩ (m.new h) (RepA.mono (Ext.fresh h) _ _ r)
theorem rep_lst {ρ : List Addr} {H : Hp} {M : Mem} {p : Addr} {xs : List V} {ds : List D} (m : MemOk S ρ H M) (h : H p = none) (r : RepA S.K ρ H xs ds) : Rep S.K ρ (upd H p (.lst xs)) (.ref p) (.lst ds) :=
  .lst upd_same (m.new h) (RepA.mono (Ext.fresh h) _ _ r)
theorem rep_new {ρ : List Addr} {H H' : Hp} {M : Mem} {p : Addr} (m : MemOk S ρ H M) : Rep S.K (ρ ++ [p]) H' (.ref p) (.ref M.length) := by
  refine .ref ?_
  rw [← m.len, List.getElem?_append_right (Nat.le_refl _), Nat.sub_self]
  rfl
theorem qe_tup {x1} (h : QA S W X es fs) : QE S W X (.Tuple es x1 pos) (fTup fs) := PE.imp (pe_tupF h) fun σ H Q ⟨ρ, M, σa, mo, rs, p⟩ => by
  refine use mo rs p fun ds M1 ρ1 H1 vs st1 r1 rs1 p1 => ?_
  split at p1
  · rename_i hf
    exact ⟨by rw [r1.len]; exact few_ok hf, fun q o hq ho => p1 ρ1 _ _ (Stp.fresh st1.2 hq) (rep_tup st1.2 hq ho r1)⟩
  · exact p1.elim
theorem qe_lst (h : QA S W X es fs) : QE S W X (.List es pos) (fLst fs) := PE.imp (pe_lst h) fun σ H Q ⟨ρ, M, σa, mo, rs, p⟩ => by
  refine use mo rs p fun ds M1 ρ1 H1 vs st1 r1 rs1 p1 => ?_
  split at p1
  · rename_i hf
    exact ⟨by rw [r1.len]; exact few_ok hf, fun q hq => p1 ρ1 _ _ (Stp.fresh st1.2 hq) (rep_lst st1.2 hq r1)⟩
  · exact p1.elim
theorem qe_new (h : QA S W X es fs) : QE S W X (.List es pos) (fNew fs) := PE.imp (pe_lst h) fun σ H Q ⟨ρ, M, σa, mo, rs, p⟩ => by
  refine use mo rs p fun ds M1 ρ1 H1 vs st1 r1 rs1 p1 => ?_
  split at p1
  · rename_i hf
    exact ⟨by rw [r1.len]; exact few_ok hf, fun q hq => p1 (ρ1 ++ [q]) _ _ (Stp.alloc st1.2 hq r1) (rep_new st1.2)⟩
  · exact p1.elim
end
def listOf (M : Mem) : D → Option (List D)
  | .lst ds => some ds
  | .ref n => match M[n]? with | some (.lst ds) => some ds | _ => none
  | _ => none
def seqOf (M : Mem) : D → Option (List D)
  | .tup ds => some ds
  | .scr ns => some (ns.map .int)
  | d => listOf M d
section
variable {S : Sc} {ρ : List Addr} {H : Hp} {M : Mem} {v : V} {d : D} {ds : List D}
theorem list_of (m : MemOk S ρ H M) (r : Rep S.K ρ H v d) (h : listOf M d = some ds) : ∃ a xs, v = .ref a ∧ H a = some (.lst xs) ∧ RepA S.K ρ H xs ds := by
  cases r with
  | lst e n ra => cases h; exact ⟨_, _, rfl, e, ra⟩
  | ref e =>
    rename_i a n
    unfold listOf at h
    dsimp only at h
    split at h
    · rename_i ds' hm
      cases h
      obtain ⟨xs, e1, ra⟩ := m.cell n a _ e hm
      exact ⟨a, xs, rfl, e1, ra⟩
    · cases h
  | _ => cases h
theorem scr_sq {K : PySem.W.Frag} {a : Addr} {ns : List Int} (h : ScrAt K ρ H a ns) : SqL K H a (ns.map V.int) := by
  rcases h with ⟨h, _⟩ | h
  · exact .inl h
  · exact .inr h
theorem seq_of (m : MemOk S ρ H M) (r : Rep S.K ρ H v d) (h : seqOf M d = some ds) : ∃ a xs, v = .ref a ∧ (SqL S.K H a xs ∨ SqT S.K H a xs) ∧ RepA S.K ρ H xs ds := by
  cases r with
  | tup f n ra =>
    cases h
    obtain ⟨o, _, e⟩ := f
    exact ⟨_, _, rfl, .inr (.inl (.inr ⟨o, e⟩)), ra⟩
  | scr f =>
    cases h
    exact ⟨_, _, rfl, .inl (scr_sq f), RepA.ints _⟩
  | lst e n ra => cases h; exact ⟨_, _, rfl, .inl (SqL.of e), ra⟩
  | ref e =>
    obtain ⟨a, xs, e0, e1, ra⟩ := list_of m (.ref e) h
    exact ⟨a, xs, e0, .inl (SqL.of e1), ra⟩
  | _ => cases h
theorem tup_of (r : Rep S.K ρ H v (.tup ds)) : ∃ a xs, v = .ref a ∧ SqT S.K H a xs ∧ RepA S.K ρ H xs ds ∧ FzT H a xs ∧ a ∉ ρ := by
  cases r with
  | tup f n ra =>
    obtain ⟨o, h1, e⟩ := id f
    exact ⟨_, _, rfl, .inl (.inr ⟨o, e⟩), ra, f, n⟩
theorem RepA.atI {xs : List V} {i : Int} (r : RepA S.K ρ H xs ds) (h : L2.atI ds i = some d) : ∃ v, L2.atI xs i = some v ∧ Rep S.K ρ H v d := by
  unfold L2.atI at h ⊢
  rw [r.len]
  cases e : ixN ds.length i with
  | none => rw [e] at h; cases h
  | some j => rw [e] at h; exact r.at h
end
def gIx : D → D → Mem → Res D
  | .str z, .int i, M => if few z.length = true then match atI z.cps.toList i with | some c => .ok (.str ⟨#[c]⟩) M | none => .bad else .bad
  | d, .int i, M => match seqOf M d with | some ds => (match atI ds i with | some d => .ok d M | none => .bad) | none => .bad
  | _, _, _ => .bad
theorem oq_ix {S : Sc} : OpQ S (rIx S.K) gIx := by
  intro W σ ρ H M x y dx dy Q mo rx ry p
  unfold gIx at p
  split at p
  · cases rx
    cases ry
    split at p
    · rename_i hf
      split at p
      · rename_i c hc
        exact .inr (.inr ⟨_, _, c, rfl, rfl, few_ok hf, hc, p ρ H _ (Stp.refl mo) (.str _)⟩)
      · exact p.elim
    · exact p.elim
  · cases ry
    split at p
    · rename_i ds hs
      split at p
      · rename_i d hd
        obtain ⟨a, xs, rfl, hq, ra⟩ := seq_of mo rx hs
        obtain ⟨v, hv, rv⟩ := ra.atI hd
        rcases hq with hq | hq
        · exact .inl ⟨a, xs, _, v, rfl, rfl, hq, hv, p ρ H v (Stp.refl mo) rv⟩
        · exact .inr (.inl ⟨a, xs, _, v, rfl, rfl, hq, hv, p ρ H v (Stp.refl mo) rv⟩)
      · exact p.elim
    · exact p.elim
  · exact p.elim
theorem qe_ix {X : Cx} {S : Sc} {W : WX} {a b : Expr} {pos : Pos} {fa fb : F D} (hk : X.K = S.K) (ha : QE S W X a fa) (hb : QE S W X b fb) (hs : PlainIx b := by exact fun _ _ => rfl) : QE S W X (.Subscript a b pos) (fBin gIx fa fb) := by
  have h : IxR X (rIx S.K) := hk ▸ ix_seq
  exact PE.imp (pe_ix h ha hb hs) fun _ _ _ h => bin_imp oq_ix h
section
variable {X : Cx} {S : Sc} {W : WX} {e : Expr} {lo hi : Option Expr} {p2 pos : Pos} {fe : F D} {fl fh : F (Option Int)}
abbrev QO (S : Sc) (W : WX) (X : Cx) (e : Option Expr) (f : F (Option Int)) : Prop := PO X e (tOf S W REq f)
theorem PO.imp {e : Option Expr} {t t' : TO} (h : PO X e t) (w : ∀ σ H Q, t' σ H Q → t σ H Q) : PO X e t' := ⟨fun pins s σ H Q I q => h.run pins s σ H Q I (w σ H Q q)⟩
def fNoPart : F (Option Int) := fun _ M => .ok none M
def fPart (f : F D) : F (Option Int) := fun σ M => (f σ M).bind fun d M1 => match d with | .int i => .ok (some i) M1 | _ => .bad
theorem qo_none : QO S W X none fNoPart := PO.imp po_none fun σ H Q ⟨ρ, M, σa, mo, rs, p⟩ => p ρ H none (Stp.refl mo) rfl
theorem qo_some (h : QE S W X e fe) : QO S W X (some e) (fPart fe) := PO.imp (po_some h) fun σ H Q ⟨ρ, M, σa, mo, rs, p⟩ => by
  refine use mo rs p fun x M1 ρ1 H1 v st1 r1 rs1 p1 => ?_
  cases x with
  | int i =>
    cases r1
    exact ⟨i, rfl, p1 ρ1 H1 _ (Stp.refl st1.2) rfl⟩
  | _ => exact False.elim p1
def cutD (ds : List D) (lo hi : Option Int) : List D := (ds.drop (HT.sIx ds.length 0 lo)).take (HT.sIx ds.length ds.length hi - HT.sIx ds.length 0 lo)
theorem RepA.cut {K : PySem.W.Frag} {ρ : List Addr} {H : Hp} {xs : List V} {ds : List D} (r : RepA K ρ H xs ds) (lo hi : Option Int) : RepA K ρ H (cutV xs lo hi) (cutD ds lo hi) := by
  unfold cutV cutD
  rw [r.len]
  exact (r.drop _).take _
theorem cutV_whole {xs : List V} {lo hi : Option Int} (h : HT.sIx xs.length 0 lo = 0 ∧ HT.sIx xs.length xs.length hi = xs.length) : cutV xs lo hi = xs := by
  unfold cutV
  rw [h.1, h.2]
  simp
def gSl (d : D) (lo hi : Option Int) (M : Mem) : Res D := match d with
  | .tup ds => .ok (.tup (cutD ds lo hi)) M
  | d => match listOf M d with | some ds => .ok (.lst (cutD ds lo hi)) M | none => .bad
def fSl (fe : F D) (fl fh : F (Option Int)) : F D := fun σ M => (fe σ M).bind fun d M1 => (fl σ M1).bind fun l M2 => (fh σ M2).bind fun h M3 => gSl d l h M3
theorem qe_sl (hk : X.K = S.K) (he : QE S W X e fe) (hl : QO S W X lo fl) (hh : QO S W X hi fh) : QE S W X (.Subscript e (.Slice lo hi none p2) pos) (fSl fe fl fh) := by
  have h : SlR X (fun x lo hi H Q => rSlF S.K x lo hi H Q ∨ rSlL S.K x lo hi H Q) := (hk ▸ sl_tupF : SlR X (rSlF S.K)).or (hk ▸ sl_list : SlR X (rSlL S.K))
  refine PE.imp (pe_slice h he hl hh) fun σ H Q ⟨ρ, M, σa, mo, rs, p⟩ => ?_
  refine use mo rs p fun d M1 ρ1 H1 v st1 r1 rs1 p1 => use st1.2 rs1 p1 fun l M2 ρ2 H2 l' st2 r2 rs2 p2 => use st2.2 rs2 p2 fun u M3 ρ3 H3 u' st3 r3 rs3 p3 => ?_
  cases (show l' = l from r2)
  cases (show u' = u from r3)
  have r := Rep.mono (st2.1.trans st3.1) _ _ r1
  have mo3 := st3.2
  unfold gSl at p3
  split at p3
  · obtain ⟨a, xs, rfl, hq, ra, hf, na⟩ := tup_of r
    refine .inl ⟨a, xs, rfl, hq, fun hw => ?_, fun _ q o hq ho => p3 ρ3 _ _ (Stp.fresh mo3 hq) (rep_tup mo3 hq ho (ra.cut _ _))⟩
    have rc := ra.cut l u
    rw [cutV_whole hw] at rc
    exact p3 ρ3 H3 _ (Stp.refl mo3) (.tup hf na rc)
  · split at p3
    · rename_i ds hs
      obtain ⟨a, xs, rfl, e1, ra⟩ := list_of mo3 r hs
      exact .inr ⟨a, xs, rfl, SqL.of e1, fun q hq => p3 ρ3 _ _ (Stp.fresh mo3 hq) (rep_lst mo3 hq (ra.cut _ _))⟩
    · exact p3.elim
end
end QX
set_option maxRecDepth 100000
set_option maxHeartbeats 1000000
namespace QX
open PySem PySem.Spec PyProof.Rows L2 HX
mutual
def D.beq : D → D → Bool
  | .non, .non => true
  | .bl a, .bl b => a == b
  | .int a, .int b => a == b
  | .str a, .str b => decide (a = b)
  | .tup a, .tup b => D.beqA a b
  | .lst a, .lst b => D.beqA a b
  | .dct k a, .dct l b => decide (k = l) && D.beqA a b
  | .scr a, .scr b => decide (a = b)
  | .ref a, .ref b => a == b
  | .adr a, .adr b => decide (a = b)
  | _, _ => false
def D.beqA : List D → List D → Bool
  | [], [] => true
  | a :: as, b :: bs => D.beq a b && D.beqA as bs
  | _, _ => false
end
mutual
theorem D.beq_eq : ∀ (a b : D), D.beq a b = true → a = b
  | .non, b, h => by cases b <;> first | rfl | (simp [D.beq] at h)
  | .bl a, b, h => by cases b <;> first | (simp [D.beq] at h; done) | (simp [D.beq] at h; rw [h])
  | .int a, b, h => by cases b <;> first | (simp [D.beq] at h; done) | (simp [D.beq] at h; rw [h])
  | .str a, b, h => by cases b <;> first | (simp [D.beq] at h; done) | (simp [D.beq] at h; rw [h])
  | .tup a, b, h => by cases b <;> first | (simp [D.beq] at h; done) | (simp only [D.beq] at h; rw [D.beqA_eq _ _ h])
  | .lst a, b, h => by cases b <;> first | (simp [D.beq] at h; done) | (simp only [D.beq] at h; rw [D.beqA_eq _ _ h])
  | .dct k a, b, h => by cases b <;> first | (simp [D.beq] at h; done) | (simp only [D.beq, Bool.and_eq_true, decide_eq_true_eq] at h; rw [h.1, D.beqA_eq _ _ h.2])
  | .scr a, b, h => by cases b <;> first | (simp [D.beq] at h; done) | (simp [D.beq] at h; rw [h])
  | .ref a, b, h => by cases b <;> first | (simp [D.beq] at h; done) | (simp [D.beq] at h; rw [h])
  | .adr a, b, h => by cases b <;> first | (simp [D.beq] at h; done) | (simp [D.beq] at h; rw [h])
theorem D.beqA_eq : ∀ (as bs : List D), D.beqA as bs = true → as = bs
  | [], b, h => by cases b <;> first | rfl | (simp [D.beqA] at h)
  | a :: as, b, h => by
    cases b with
    | nil => simp [D.beqA] at h
    | cons b bs =>
      simp only [D.beqA, Bool.and_eq_true] at h
      rw [D.beq_eq _ _ h.1, D.beqA_eq _ _ h.2]
end
inductive Im where
  | d (d : D) | pr (ds : List D)
def RepI (K : PySem.W.Frag) (ρ : List Addr) (H : Hp) (v : V) : Im → Prop
  | .d d => Rep K ρ H v d
  | .pr ds => ∃ a xs, v = .ref a ∧ SqT K H a xs ∧ RepA K ρ H xs ds
structure Ita where
  items : List Im
  chk : Mem → Bool
structure ItaOk (S : Sc) (ρ : List Addr) (H : Hp) (J : It) (it : Ita) : Prop where
  go : ∀ ρ' H' M' i, Ext ρ H ρ' H' → MemOk S ρ' H' M' → it.chk M' = true → i < it.items.length → J.go i H'
  stop : ∀ ρ' H' M', Ext ρ H ρ' H' → MemOk S ρ' H' M' → it.chk M' = true → J.stop it.items.length H'
  yld : ∀ ρ' H' M' i x H2, Ext ρ H ρ' H' → MemOk S ρ' H' M' → it.chk M' = true → i < it.items.length → J.yld i H' x H2 → ∃ im, it.items[i]? = some im ∧ Stp S ρ' H' ρ' H2 M' ∧ RepI S.K ρ' H2 x im
theorem ItaOk.mono {S : Sc} {ρ ρ' : List Addr} {H H' : Hp} {J : It} {it : Ita} (h : ItaOk S ρ H J it) (e : Ext ρ H ρ' H') : ItaOk S ρ' H' J it :=
  ⟨fun ρ2 H2 M i e2 => h.go ρ2 H2 M i (e.trans e2), fun ρ2 H2 M e2 => h.stop ρ2 H2 M (e.trans e2), fun ρ2 H2 M i x H3 e2 => h.yld ρ2 H2 M i x H3 (e.trans e2)⟩
abbrev QI (S : Sc) (W : WX) (X : Cx) (tg e : Expr) (f : F Ita) : Prop := PI X tg e (tOf S W (fun ρ H J it => ItaOk S ρ H J it) f)
def chkOf (n : Nat) (ds : List D) : Mem → Bool := fun M => match M[n]? with | some (.lst es) => D.beqA es ds | _ => false
def seqI (M : Mem) : D → Option (List D × (Mem → Bool))
  | .tup ds => some (ds, fun _ => true)
  | .lst ds => some (ds, fun _ => true)
  | .scr ns => some (ns.map .int, fun _ => true)
  | .ref n => match M[n]? with | some (.lst ds) => some (ds, chkOf n ds) | _ => none
  | _ => none
def SeqIOk (S : Sc) (ρ : List Addr) (H : Hp) (k : Ki) (a : Addr) (ds : List D) (chk : Mem → Bool) : Prop :=
  ∀ ρ' H' M', Ext ρ H ρ' H' → MemOk S ρ' H' M' → chk M' = true → ∃ xs, SqK S.K H' k a xs ∧ RepA S.K ρ' H' xs ds
theorem seqI_ok {S : Sc} {ρ : List Addr} {H : Hp} {M : Mem} {v : V} {d : D} {ds : List D} {chk : Mem → Bool} (m : MemOk S ρ H M) (r : Rep S.K ρ H v d) (h : seqI M d = some (ds, chk)) :
    ∃ k a xs, v = .ref a ∧ SqK S.K H k a xs ∧ SeqIOk S ρ H k a ds chk := by
  cases r with
  | tup f n ra =>
    cases h
    obtain ⟨o, h1, e⟩ := id f
    refine ⟨.t, _, _, rfl, .inl (.inr ⟨o, e⟩), fun ρ' H' M' ex mo _ => ⟨_, .inl (.inr ⟨o, ex.keep _ _ e n fun _ z => nomatch z⟩), RepA.mono ex _ _ ra⟩⟩
  | lst e n ra =>
    cases h
    exact ⟨.l, _, _, rfl, SqL.of e, fun ρ' H' M' ex mo _ => ⟨_, SqL.of (ex.keep _ _ e n fun _ z => nomatch z), RepA.mono ex _ _ ra⟩⟩
  | scr f =>
    cases h
    exact ⟨.l, _, _, rfl, scr_sq f, fun ρ' H' M' ex mo _ => ⟨_, scr_sq (f.ext ex), RepA.ints _⟩⟩
  | ref e =>
    rename_i a n
    unfold seqI at h
    dsimp only at h
    split at h
    · rename_i ds' hm
      cases h
      obtain ⟨xs, e1, ra⟩ := m.cell n a _ e hm
      refine ⟨.l, a, xs, rfl, SqL.of e1, fun ρ' H' M' ex mo hc => ?_⟩
      unfold chkOf at hc
      split at hc
      · rename_i es he
        obtain rfl := D.beqA_eq _ _ hc
        obtain ⟨ys, e2, rb⟩ := mo.cell n a _ (ex.at e) he
        exact ⟨ys, SqL.of e2, rb⟩
      · cases hc
    · cases h
  | _ => cases h
section
variable {X : Cx} {S : Sc} {W : WX} {tg e e2 e3 : Expr} {pos p tpos : Pos} {fe : F D} {fs : F (List D)}
theorem PI.or {t t' : TI} (h : PI X tg e t) (h' : PI X tg e t') : PI X tg e (fun σ H R => t σ H R ∨ t' σ H R) := ⟨fun pins s σ H R I q => q.elim (h.run pins s σ H R I) (h'.run pins s σ H R I)⟩
def gIter (d : D) (M : Mem) : Res Ita := match seqI M d with | some (ds, chk) => .ok ⟨ds.map .d, chk⟩ M | none => .bad
def fIter (fe : F D) : F Ita := fun σ M => (fe σ M).bind gIter
def ItK (K : PySem.W.Frag) (a : Addr) : Ki → It
  | .l => Itl K a
  | .t => Itt K a
def iSeq (K : PySem.W.Frag) (tl : TE) : TI := fun σ H R => tl σ H fun x H1 => ∃ k a xs, x = .ref a ∧ SqK K H1 k a xs ∧ R (ItK K a k) H1
theorem pi_seq {l : Expr} {tl : TE} (hl : PE X l tl) : PI X tg l (iSeq X.K tl) := by
  refine ⟨fun pins s σ H R I h => ?_⟩
  refine thn (hl.run pins s σ H _ I h) fun v s1 ⟨x, H1, I1, r1, q1⟩ => ?_
  obtain ⟨k, a, xs, e, hq, q⟩ := q1
  subst e
  cases r1
  cases k with
  | l =>
    obtain ⟨its, rv, p, hz⟩ := I1.list hq
    refine wpAny_pyIter_list p.isList ?_
    refine ⟨s1.heap.objs.size, [s1.heap.objs.size], _, _, H1, rfl, I1.kept (t' := s1.toks) fun b o e => Heap.get?_push_of_some _ e, turn_list a _, ⟨_, Heap.get?_push_size _ rfl, rfl, rfl⟩, fun b hb => ?_, q⟩
    have e : b = s1.heap.objs.size := by simpa using hb
    subst e
    exact I1.fpOk (Nat.le_refl _) (I1.hok.fresh (Nat.le_refl _))
  | t =>
    obtain ⟨its, rv, p, hz⟩ := I1.tuple hq
    refine wpAny_pyIter_tuple (show s1.heap.IsTuple a its.toArray from p) ?_
    refine ⟨s1.heap.objs.size, [s1.heap.objs.size], _, _, H1, rfl, I1.kept (t' := s1.toks) fun b o e => Heap.get?_push_of_some _ e, turn_tuple a _, ⟨_, Heap.get?_push_size _ rfl, rfl, rfl⟩, fun b hb => ?_, q⟩
    have e : b = s1.heap.objs.size := by simpa using hb
    subst e
    exact I1.fpOk (Nat.le_refl _) (I1.hok.fresh (Nat.le_refl _))
theorem at_of {S : Sc} {ρ : List Addr} {H : Hp} {xs : List V} {ds : List D} {i : Nat} (r : RepA S.K ρ H xs ds) (h : i < ds.length) : ∃ v d, xs[i]? = some v ∧ ds[i]? = some d ∧ Rep S.K ρ H v d := by
  obtain ⟨v, h1, h2⟩ := r.at (List.getElem?_eq_getElem h)
  exact ⟨v, _, h1, List.getElem?_eq_getElem h, h2⟩
theorem ok_iter {ρ : List Addr} {H : Hp} {k : Ki} {a : Addr} {ds : List D} {chk : Mem → Bool} (s : SeqIOk S ρ H k a ds chk) : ItaOk S ρ H (ItK S.K a k) ⟨ds.map .d, chk⟩ := by
  refine ⟨fun ρ' H' M' i ex mo hc hi => ?_, fun ρ' H' M' ex mo hc => ?_, fun ρ' H' M' i x H2 ex mo hc hi y => ?_⟩
  all_goals obtain ⟨xs, hq, ra⟩ := s ρ' H' M' ex mo hc
  · rw [List.length_map] at hi
    obtain ⟨v, d, h1, h2, _⟩ := at_of ra hi
    cases k with
    | l => exact ⟨xs, v, hq, h1⟩
    | t => exact ⟨xs, v, hq, h1⟩
  · show (ItK S.K a k).stop (ds.map Im.d).length H'
    rw [List.length_map, ← ra.len]
    cases k with
    | l => exact ⟨xs, hq, Nat.le_refl _⟩
    | t => exact ⟨xs, hq, Nat.le_refl _⟩
  · rw [List.length_map] at hi
    obtain ⟨v, d, h1, h2, rv⟩ := at_of ra hi
    have e : (ds.map Im.d)[i]? = some (.d d) := by rw [List.getElem?_map, h2]; rfl
    cases k with
    | l =>
      obtain ⟨rfl, y2⟩ := y
      obtain rfl := Option.some.inj ((y2 xs hq).symm.trans h1)
      exact ⟨_, e, Stp.refl mo, rv⟩
    | t =>
      obtain ⟨rfl, y2⟩ := y
      obtain rfl := Option.some.inj ((y2 xs hq).symm.trans h1)
      exact ⟨_, e, Stp.refl mo, rv⟩
theorem qi_seq (hk : X.K = S.K) (he : QE S W X e fe) : QI S W X tg e (fIter fe) := by
  have h : PI X tg e (iSeq S.K (tOf S W (Rep S.K) fe)) := by
    have h := pi_seq (tg := tg) he
    rw [hk] at h
    exact h
  refine PI.imp h fun σ H R ⟨ρ, M, σa, mo, rs, p⟩ => ?_
  refine use mo rs p fun d M1 ρ1 H1 v st1 r1 rs1 p1 => ?_
  unfold gIter at p1
  split at p1
  · rename_i ds chk hs
    obtain ⟨k, a, xs, rfl, hq, ok⟩ := seqI_ok st1.2 r1 hs
    exact ⟨k, a, xs, rfl, hq, p1 ρ1 H1 _ (Stp.refl st1.2) (ok_iter ok)⟩
  · exact p1.elim
def nums (lo : Int) : Nat → List Im
  | 0 => []
  | n + 1 => .d (.int lo) :: nums (lo + 1) n
theorem nums_len : ∀ (n : Nat) (lo : Int), (nums lo n).length = n
  | 0, _ => rfl
  | n + 1, lo => by rw [nums, List.length_cons, nums_len n]
theorem nums_at : ∀ (n : Nat) (lo : Int) (i : Nat), i < n → (nums lo n)[i]? = some (.d (.int (lo + i)))
  | n + 1, lo, 0, _ => by simp [nums]
  | n + 1, lo, i + 1, h => by
    rw [nums, List.getElem?_cons_succ, nums_at n (lo + 1) i (by omega)]
    congr 3
    omega
theorem ok_range {ρ : List Addr} {H : Hp} {lo : Int} {n : Nat} : ItaOk S ρ H (Itr lo n) ⟨nums lo n, fun _ => true⟩ := by
  refine ⟨fun ρ' H' M' i ex mo hc hi => ?_, fun ρ' H' M' ex mo hc => ?_, fun ρ' H' M' i x H2 ex mo hc hi y => ?_⟩
  · rw [nums_len] at hi; exact hi
  · exact Nat.le_of_eq (nums_len n lo).symm
  · rw [nums_len] at hi
    obtain ⟨rfl, rfl⟩ := y
    exact ⟨_, nums_at n lo i hi, Stp.refl mo, .int _⟩
abbrev mid (i : Int) : Bool := decide (-4611686018427387904 ≤ i) && decide (i < 4611686018427387904)
theorem mid_ok {i : Int} (h : mid i = true) : -(2 ^ 62) ≤ i ∧ i < 2 ^ 62 := by
  rw [Bool.and_eq_true, decide_eq_true_eq, decide_eq_true_eq] at h
  exact ⟨by omega, by omega⟩
def gRange1 : List D → Mem → Res Ita
  | [.int j], M => if mid j = true then .ok ⟨nums 0 j.toNat, fun _ => true⟩ M else .bad
  | _, _ => .bad
def gRange2 : List D → Mem → Res Ita
  | [.int i, .int j], M => if (mid i && mid j) = true then .ok ⟨nums i (j - i).toNat, fun _ => true⟩ M else .bad
  | _, _ => .bad
def fIt (g : List D → Mem → Res Ita) (fs : F (List D)) : F Ita := fun σ M => (fs σ M).bind g
theorem RepA.one {K : PySem.W.Frag} {ρ : List Addr} {H : Hp} {vs : List V} {d : D} (r : RepA K ρ H vs [d]) : ∃ v, vs = [v] ∧ Rep K ρ H v d := by
  cases r with
  | cons h t => cases t; exact ⟨_, rfl, h⟩
theorem RepA.two {K : PySem.W.Frag} {ρ : List Addr} {H : Hp} {vs : List V} {d d2 : D} (r : RepA K ρ H vs [d, d2]) : ∃ v v2, vs = [v, v2] ∧ Rep K ρ H v d ∧ Rep K ρ H v2 d2 := by
  cases r with
  | cons h t =>
    obtain ⟨v, rfl, h2⟩ := RepA.one t
    exact ⟨_, _, rfl, h, h2⟩
theorem qi_range1 (hg : Gl X "range") (hm : X.mg "range" = none) (ha : QA S W X [e] fs) (hs : starEach [e] X.env = [(false, eval e X.env)] := by rfl) : QI S W X tg (.Call (.Name "range" p) [e] [] pos) (fIt gRange1 fs) := by
  refine PI.imp (pi_range1 hg hm ha hs) fun σ H R ⟨ρ, M, σa, mo, rs, p⟩ => ?_
  refine use mo rs p fun ds M1 ρ1 H1 vs st1 r1 rs1 p1 => ?_
  unfold gRange1 at p1
  split at p1
  · obtain ⟨v, rfl, rv⟩ := RepA.one r1
    cases rv
    split at p1
    · rename_i hm
      exact ⟨_, rfl, (mid_ok hm).1, (mid_ok hm).2, p1 ρ1 H1 _ (Stp.refl st1.2) ok_range⟩
    · exact p1.elim
  · exact p1.elim
def zip2 : List D → List D → List Im
  | a :: as, b :: bs => .pr [a, b] :: zip2 as bs
  | _, _ => []
def enumI (i : Int) : List D → List Im
  | [] => []
  | a :: as => .pr [.int i, a] :: enumI (i + 1) as
theorem zip2_len : ∀ (as bs : List D), (zip2 as bs).length = min as.length bs.length
  | [], bs => by simp [zip2]
  | a :: as, [] => by simp [zip2]
  | a :: as, b :: bs => by simp only [zip2, List.length_cons, zip2_len as bs]; omega
theorem zip2_at : ∀ (as bs : List D) (i : Nat) (a b : D), as[i]? = some a → bs[i]? = some b → (zip2 as bs)[i]? = some (.pr [a, b])
  | x :: as, y :: bs, 0, a, b, h1, h2 => by simp at h1 h2; simp [zip2, h1, h2]
  | x :: as, y :: bs, i + 1, a, b, h1, h2 => by
    rw [zip2, List.getElem?_cons_succ]
    exact zip2_at as bs i a b (by simpa using h1) (by simpa using h2)
  | [], _, _, _, _, h, _ => by simp at h
  | _ :: _, [], _, _, _, _, h => by simp at h
theorem enum_len : ∀ (as : List D) (i : Int), (enumI i as).length = as.length
  | [], _ => rfl
  | a :: as, i => by simp only [enumI, List.length_cons, enum_len as]
theorem enum_at : ∀ (as : List D) (k : Int) (i : Nat) (a : D), as[i]? = some a → (enumI k as)[i]? = some (.pr [.int (k + i), a])
  | x :: as, k, 0, a, h => by simp at h; simp [enumI, h]
  | x :: as, k, i + 1, a, h => by
    rw [enumI, List.getElem?_cons_succ, enum_at as (k + 1) i a (by simpa using h)]
    congr 4
    omega
  | [], _, _, _, h => by simp at h
def gZip2 : List D → Mem → Res Ita
  | [a, b], M => match seqI M a, seqI M b with | some (x, c), some (y, c') => .ok ⟨zip2 x y, fun M => c M && c' M⟩ M | _, _ => .bad
  | _, _ => .bad
def gEnum : List D → Mem → Res Ita
  | [a], M => match seqI M a with | some (x, c) => .ok ⟨enumI 0 x, c⟩ M | none => .bad
  | _, _ => .bad
theorem pair_ok {ρ : List Addr} {H : Hp} {M : Mem} {U : Addr} {xs : List V} {ds : List D} (mo : MemOk S ρ H M) (h : H U = none) (r : RepA S.K ρ H xs ds) : Stp S ρ H ρ (upd H U (.tup xs)) M ∧ RepI S.K ρ (upd H U (.tup xs)) (.ref U) (.pr ds) :=
  ⟨Stp.fresh mo h, U, xs, rfl, SqT.of upd_same, RepA.mono (Ext.fresh h) _ _ r⟩
theorem qi_zip2 {elts : List Expr} {kk : Nat} (hk : X.K = S.K) (hg : Gl X "zip") (hm : X.mg "zip" = none) (ha : QA S W X [e, e2] fs) (hs : starEach [e, e2] X.env = (false, eval e X.env) :: starEach [e2] X.env := by rfl) (hpl : (backTo pos (starEach [e2] X.env)).any (·.1) = false := by rfl) :
    QI S W X (.Tuple elts kk tpos) (.Call (.Name "zip" p) [e, e2] [] pos) (fIt gZip2 fs) := by
  have h : PI X (.Tuple elts kk tpos) (.Call (.Name "zip" p) [e, e2] [] pos) (iZip2 S.K (tOf S W (RepA S.K) fs)) := by
    have h := pi_zip2 (elts := elts) (kk := kk) (tpos := tpos) (p := p) hg hm ha hs hpl
    rw [hk] at h
    exact h
  refine PI.imp h fun σ H R ⟨ρ, M, σa, mo, rs, p⟩ => ?_
  refine use mo rs p fun ds M1 ρ1 H1 vs st1 r1 rs1 p1 => ?_
  unfold gZip2 at p1
  split at p1
  · obtain ⟨v, v2, rfl, rv, rv2⟩ := RepA.two r1
    split at p1
    · rename_i x c y c' h1 h2
      obtain ⟨k1, a1, xs1, rfl, q1, ok1⟩ := seqI_ok st1.2 rv h1
      obtain ⟨k2, a2, xs2, rfl, q2, ok2⟩ := seqI_ok st1.2 rv2 h2
      refine ⟨k1, a1, k2, a2, xs1, xs2, rfl, q1, q2, p1 ρ1 H1 _ (Stp.refl st1.2) ?_⟩
      refine ⟨fun ρ' H' M' i ex mo hc hi => ?_, fun ρ' H' M' ex mo hc => ?_, fun ρ' H' M' i z H2 ex mo hc hi w => ?_⟩
      all_goals (dsimp only at hc; rw [Bool.and_eq_true] at hc; obtain ⟨ys1, e1, ra1⟩ := ok1 ρ' H' M' ex mo hc.1; obtain ⟨ys2, e2, ra2⟩ := ok2 ρ' H' M' ex mo hc.2)
      · dsimp only at hi
        rw [zip2_len] at hi
        obtain ⟨v1, d1, g1, g1', _⟩ := at_of ra1 (show i < x.length by omega)
        obtain ⟨v2, d2, g2, g2', _⟩ := at_of ra2 (show i < y.length by omega)
        exact ⟨ys1, ys2, v1, v2, e1, e2, g1, g2⟩
      · refine ⟨ys1, ys2, e1, e2, ?_⟩
        dsimp only
        rw [zip2_len, ra1.len, ra2.len]
      · dsimp only at hi ⊢
        rw [zip2_len] at hi
        obtain ⟨v1, d1, g1, g1', rr1⟩ := at_of ra1 (show i < x.length by omega)
        obtain ⟨v2, d2, g2, g2', rr2⟩ := at_of ra2 (show i < y.length by omega)
        obtain ⟨U, u1, u2, rfl, hU, rfl, w1, w2⟩ := w
        obtain rfl := Option.some.inj ((w1 ys1 e1).symm.trans g1)
        obtain rfl := Option.some.inj ((w2 ys2 e2).symm.trans g2)
        exact ⟨_, zip2_at _ _ _ _ _ g1' g2', pair_ok mo hU (.cons rr1 (.cons rr2 .nil))⟩
    · exact p1.elim
  · exact p1.elim
theorem qi_enum {elts : List Expr} {kk : Nat} (hk : X.K = S.K) (hg : Gl X "enumerate") (hm : X.mg "enumerate" = none) (ha : QA S W X [e] fs) (hs : starEach [e] X.env = [(false, eval e X.env)] := by rfl) :
    QI S W X (.Tuple elts kk tpos) (.Call (.Name "enumerate" p) [e] [] pos) (fIt gEnum fs) := by
  have h : PI X (.Tuple elts kk tpos) (.Call (.Name "enumerate" p) [e] [] pos) (iEnumK S.K (tOf S W (RepA S.K) fs)) := by
    have h := pi_enumT (elts := elts) (kk := kk) (tpos := tpos) (p := p) (pos := pos) hg hm ha hs
    rw [hk] at h
    exact h
  refine PI.imp h fun σ H R ⟨ρ, M, σa, mo, rs, p⟩ => ?_
  refine use mo rs p fun ds M1 ρ1 H1 vs st1 r1 rs1 p1 => ?_
  unfold gEnum at p1
  split at p1
  · obtain ⟨v, rfl, rv⟩ := RepA.one r1
    split at p1
    · rename_i x c h1
      obtain ⟨k1, a1, xs1, rfl, q1, ok1⟩ := seqI_ok st1.2 rv h1
      refine ⟨k1, a1, xs1, rfl, q1, p1 ρ1 H1 _ (Stp.refl st1.2) ?_⟩
      refine ⟨fun ρ' H' M' i ex mo hc hi => ?_, fun ρ' H' M' ex mo hc => ?_, fun ρ' H' M' i z H2 ex mo hc hi w => ?_⟩
      all_goals obtain ⟨ys1, e1, ra1⟩ := ok1 ρ' H' M' ex mo hc
      · dsimp only at hi
        rw [enum_len] at hi
        obtain ⟨v1, d1, g1, g1', _⟩ := at_of ra1 hi
        exact ⟨ys1, v1, e1, g1⟩
      · refine ⟨ys1, e1, ?_⟩
        dsimp only
        rw [enum_len, ra1.len]
      · dsimp only at hi ⊢
        rw [enum_len] at hi
        obtain ⟨v1, d1, g1, g1', rr1⟩ := at_of ra1 hi
        obtain ⟨U, u1, rfl, hU, rfl, w1⟩ := w
        obtain rfl := Option.some.inj ((w1 ys1 e1).symm.trans g1)
        refine ⟨_, enum_at _ _ _ _ g1', pair_ok mo hU (.cons ?_ (.cons rr1 .nil))⟩
        rw [Int.zero_add]
        exact .int _
    · exact p1.elim
  · exact p1.elim
end
end QX
set_option maxRecDepth 100000
set_option maxHeartbeats 1000000
namespace QX
open PySem PySem.Spec PyProof.Rows L2 HX
mutual
def D.und (n : Nat) : D → Bool
  | .tup ds => D.undA n ds
  | .lst ds => D.undA n ds
  | .dct _ ds => D.undA n ds
  | .ref m => Nat.blt m n
  | _ => true
def D.undA (n : Nat) : List D → Bool
  | [] => true
  | d :: ds => D.und n d && D.undA n ds
end
def Cell.und (n : Nat) : Cell → Bool
  | .lst ds => D.undA n ds
  | .dic kvs => D.undA n (kvs.map (·.2))
def closed (n : Nat) (M : Mem) : Bool := (M.take n).all (Cell.und n)
def resL (g : D → Option D) : List D → Option (List D)
  | [] => some []
  | d :: ds => match g d, resL g ds with | some a, some b => some (a :: b) | _, _ => none
def D.res : Nat → Nat → Mem → D → Option D
  | 0, n, _, d => if d.und n = true then some d else none
  | k + 1, n, M, d => if d.und n = true then some d else match d with
    | .tup ds => (resL (D.res k n M) ds).map .tup
    | .lst ds => (resL (D.res k n M) ds).map .lst
    | .ref m => (match M[m]? with | some (.lst ds) => (resL (D.res k n M) ds).map .lst | _ => none)
    | _ => none
def trimR (n : Nat) : Res D → Res D
  | .ok d M => if Nat.ble M.length n = true then .ok d M else (match D.res 5 n M d with | some d' => if closed n M = true then .ok d' (M.take n) else .bad | none => .bad)
  | .exc c fs M => if Nat.ble M.length n = true then .exc c fs M else if (fs.all (fun p => p.2.und n) && closed n M) = true then .exc c fs (M.take n) else .bad
  | .bad => .bad
section
variable {K : PySem.W.Frag} {ρ more : List Addr} {H : Hp}
mutual
theorem Rep.down : ∀ (d : D) (v : V), d.und ρ.length = true → Rep K (ρ ++ more) H v d → Rep K ρ H v d
  | .non, _, _, h => by cases h; exact .non
  | .bl b, _, _, h => by cases h; exact .bl b
  | .int i, _, _, h => by cases h; exact .int i
  | .str x, _, _, h => by cases h; exact .str x
  | .tup ds, _, b, h => by
    cases h with
    | tup f n ha => exact .tup f (fun z => n (List.mem_append_left _ z)) (RepA.down ds _ (by simpa only [D.und] using b) ha)
  | .lst ds, _, b, h => by
    cases h with
    | lst f n ha => exact .lst f (fun z => n (List.mem_append_left _ z)) (RepA.down ds _ (by simpa only [D.und] using b) ha)
  | .dct ks ds, _, b, h => by
    cases h with
    | dct f n hk ha => exact .dct f (fun z => n (List.mem_append_left _ z)) hk (RepA.down ds _ (by simpa only [D.und] using b) ha)
  | .scr ns, _, _, h => by
    cases h with
    | scr f => exact .scr (f.imp (fun ⟨a, n⟩ => ⟨a, fun z => n (List.mem_append_left _ z)⟩) id)
  | .ref n, _, b, h => by
    cases h with
    | ref f =>
      have hn : n < ρ.length := by simpa only [D.und, Nat.blt_eq] using b
      rw [List.getElem?_append_left hn] at f
      exact .ref f
  | .adr v, _, _, h => by cases h; exact .adr v
theorem RepA.down : ∀ (ds : List D) (vs : List V), D.undA ρ.length ds = true → RepA K (ρ ++ more) H vs ds → RepA K ρ H vs ds
  | [], _, _, h => by cases h; exact .nil
  | d :: ds, _, b, h => by
    simp only [D.undA, Bool.and_eq_true] at b
    cases h with
    | cons h1 h2 => exact .cons (Rep.down d _ b.1 h1) (RepA.down ds _ b.2 h2)
end
mutual
theorem und_dK {n : Nat} : ∀ k : NestedKey, pureK k = true → (dK k).und n = true
  | .none, h => by simp [pureK] at h
  | .num i, _ => by rw [dK]; rfl
  | .text x, h => by simp [pureK] at h
  | .tup ks, h => by
    rw [dK, D.und]
    exact und_dKs ks (by simpa [pureK] using h)
theorem und_dKs {n : Nat} : ∀ ks : List NestedKey, pureA ks = true → D.undA n (dKs ks) = true
  | [], _ => by rw [dKs]; rfl
  | k :: ks, h => by
    rw [pureA, Bool.and_eq_true] at h
    rw [dKs, D.undA, und_dK k h.1, und_dKs ks h.2]
    rfl
end
theorem DRel.down {xs : List NE} {kvs : List (NestedKey × D)} (hb : D.undA ρ.length (kvs.map (·.2)) = true) (r : DRel K (ρ ++ more) H xs kvs) : DRel K ρ H xs kvs := by
  induction r with
  | nil => exact .nil
  | cons q _ ih =>
    obtain ⟨a, b, c, d, f⟩ := q
    rw [List.map_cons, D.undA, Bool.and_eq_true] at hb
    exact .cons ⟨a, b, c, Rep.down _ _ (und_dK _ b) d, Rep.down _ _ hb.1 f⟩ (ih hb.2)
theorem resL_ok {g : D → Option D} (hg : ∀ d d' v, g d = some d' → Rep K (ρ ++ more) H v d → Rep K ρ H v d') : ∀ (ds ds' : List D) (vs : List V), resL g ds = some ds' → RepA K (ρ ++ more) H vs ds → RepA K ρ H vs ds'
  | [], ds', vs, h, r => by
    cases h
    cases r
    exact .nil
  | d :: ds, ds', vs, h, r => by
    cases r with
    | cons r1 r2 =>
      unfold resL at h
      split at h
      · rename_i a b h1 h2
        cases h
        exact .cons (hg _ _ _ h1 r1) (resL_ok hg ds _ _ h2 r2)
      · cases h
theorem res_ok {S : Sc} {M : Mem} (mo : MemOk S (ρ ++ more) H M) : ∀ (k : Nat) (d d' : D) (v : V), D.res k ρ.length M d = some d' → Rep S.K (ρ ++ more) H v d → Rep S.K ρ H v d'
  | 0, d, d', v, h, r => by
    unfold D.res at h
    split at h
    · cases h
      exact Rep.down d v (by assumption) r
    · cases h
  | k + 1, d, d', v, h, r => by
    unfold D.res at h
    split at h
    · cases h
      exact Rep.down d v (by assumption) r
    · rename_i hb
      have ih := res_ok mo k
      split at h
      · rename_i ds
        cases e : resL (D.res k ρ.length M) ds with
        | none => rw [e] at h; cases h
        | some es =>
          rw [e] at h
          cases h
          cases r with
          | tup f n ha => exact .tup f (fun z => n (List.mem_append_left _ z)) (resL_ok (fun a b c => ih a b c) ds es _ e ha)
      · rename_i ds
        cases e : resL (D.res k ρ.length M) ds with
        | none => rw [e] at h; cases h
        | some es =>
          rw [e] at h
          cases h
          cases r with
          | lst f n ha => exact .lst f (fun z => n (List.mem_append_left _ z)) (resL_ok (fun a b c => ih a b c) ds es _ e ha)
      · rename_i m
        split at h
        · rename_i ds hm
          cases e : resL (D.res k ρ.length M) ds with
          | none => rw [e] at h; cases h
          | some es =>
            rw [e] at h
            cases h
            cases r with
            | ref f =>
              obtain ⟨xs, e1, ra⟩ := mo.cell _ _ _ f hm
              refine .lst e1 (fun z => ?_) (resL_ok (fun a b c => ih a b c) ds es _ e ra)
              have hge : ρ.length ≤ m := by
                simp only [D.und, Nat.blt_eq] at hb
                omega
              rw [List.getElem?_append_right hge] at f
              exact (List.nodup_append.mp mo.nd).2.2 _ z _ (List.mem_of_getElem? f) rfl
        · cases h
      · cases h
theorem mem_down {S : Sc} {M : Mem} (mo : MemOk S (ρ ++ more) H M) (hc : closed ρ.length M = true) : MemOk S ρ H (M.take ρ.length) := by
  have hl : ρ.length ≤ M.length := by
    have := mo.len
    rw [List.length_append] at this
    omega
  refine ⟨by rw [List.length_take]; omega, (List.nodup_append.mp mo.nd).1, fun n a c h1 h2 => ?_, mo.tab⟩
  have hn := (List.getElem?_eq_some_iff.mp h1).1
  rw [List.getElem?_take, if_pos hn] at h2
  have ok := mo.cell n a c (by rw [List.getElem?_append_left hn]; exact h1) h2
  have hb : Cell.und ρ.length c = true := by
    unfold closed at hc
    rw [List.all_eq_true] at hc
    refine hc c (List.mem_of_getElem? (i := n) ?_)
    rw [List.getElem?_take, if_pos hn]
    exact h2
  cases c with
  | lst ds =>
    obtain ⟨xs, e, ra⟩ := ok
    exact ⟨xs, e, RepA.down ds _ hb ra⟩
  | dic kvs =>
    obtain ⟨xs, e, r⟩ := ok
    exact ⟨xs, e, DRel.down hb r⟩
end
section
variable {S : Sc} {W : WX} {σ : L2.St} {ρ : List Addr} {H : Hp} {M : Mem} {Q : VK}
theorem Post.trim {r : Res D} (mo : MemOk S ρ H M) (h : Post S W (Rep S.K) σ ρ H Q (trimR M.length r)) : Post S W (Rep S.K) σ ρ H Q r := by
  rw [← mo.len] at h
  cases r with
  | ok d M' =>
    unfold trimR at h
    dsimp only at h
    split at h
    · exact h
    split at h
    · rename_i d' hd
      split at h
      · rename_i hc
        intro ρ' H' v st rv
        obtain ⟨e, m'⟩ := st
        obtain ⟨more, rfl, hm⟩ := e.pre
        exact h ρ H' v ⟨⟨⟨[], by simp, by simp⟩, e.keep, e.live⟩, mem_down m' hc⟩ (res_ok m' 5 d d' v hd rv)
      · exact h.elim
    · exact h.elim
  | exc c fs M' =>
    unfold trimR at h
    dsimp only at h
    split at h
    · exact h
    split at h
    · rename_i hc
      rw [Bool.and_eq_true] at hc
      intro ρ' H' d st rx
      obtain ⟨e, m'⟩ := st
      obtain ⟨more, rfl, hm⟩ := e.pre
      refine h ρ H' d ⟨⟨⟨[], by simp, by simp⟩, e.keep, e.live⟩, mem_down m' hc.2⟩ ?_
      cases d with
      | none => exact rx
      | some a =>
        obtain ⟨n1, vs, e1, e2, e3, e4⟩ := rx
        refine ⟨fun z => n1 (List.mem_append_left _ z), vs, e1, e2, RepA.down _ _ ?_ e3, e4⟩
        have ha := hc.1
        clear hc e1 e2 e3 e4 h m'
        induction fs with
        | nil => rfl
        | cons p fs ih =>
          rw [List.all_cons, Bool.and_eq_true] at ha
          rw [List.map_cons, D.undA, ha.1, ih ha.2]
          rfl
    · exact h.elim
  | bad => exact h
def fTrim (f : F D) : F D := fun σ M => trimR M.length (f σ M)
theorem qe_trim {X : Cx} {e : Expr} {f : F D} (h : QE S W X e f) : QE S W X e (fTrim f) := PE.imp h fun σ H Q ⟨ρ, M, σa, mo, rs, p⟩ => ⟨ρ, M, σa, mo, rs, Post.trim mo p⟩
end
inductive Tg where
  | name (i : Nat) | tup (is : List Nat)
def setAll : Sa → List Nat → List D → Sa
  | σ, i :: is, d :: ds => setAll (σ.set i (some d)) is ds
  | σ, _, _ => σ
def Tg.put : Tg → Im → Sa → Option Sa
  | .name i, .d d, σ => some (σ.set i (some d))
  | .tup is, .d (.tup ds), σ => if ds.length == is.length then some (setAll σ is ds) else none
  | .tup is, .pr ds, σ => if ds.length == is.length then some (setAll σ is ds) else none
  | _, _, _ => none
def Tg.slots : Tg → List Nat
  | .name i => [i]
  | .tup is => is
def gNames : List Nat → TGs
  | [] => gNil
  | i :: is => gCons (gName i) (gNames is)
def gOf (K : PySem.W.Frag) : Tg → TG
  | .name i => gName i
  | .tup is => gTup K is.length (gNames is)
theorem wipe_get (σ : L2.St) : ∀ (vs : List Nat) (j : Nat), (wipe σ vs)[j]? = if j ∈ vs then σ[j]?.map (fun _ => none) else σ[j]?
  | [], j => by simp [wipe]
  | v :: vs, j => by
    rw [wipe, List.getElem?_set]
    have hl := wipe_length σ vs
    by_cases h : v = j
    · subst h
      rw [if_pos rfl, if_pos List.mem_cons_self, hl]
      by_cases hv : v < σ.length
      · rw [if_pos hv, List.getElem?_eq_getElem hv]; rfl
      · rw [if_neg hv, List.getElem?_eq_none (by omega)]; rfl
    · rw [if_neg h, wipe_get σ vs j]
      by_cases hm : j ∈ vs
      · rw [if_pos hm, if_pos (List.mem_cons_of_mem _ hm)]
      · rw [if_neg hm, if_neg (fun z => (List.mem_cons.mp z).elim (fun e => h e.symm) hm)]
theorem wipe_set {σ : L2.St} {i : Nat} {x : Option V} {vs : List Nat} (h : i ∈ vs) : wipe (σ.set i x) vs = wipe σ vs := by
  refine List.ext_getElem? fun j => ?_
  rw [wipe_get, wipe_get]
  by_cases hj : j ∈ vs
  · rw [if_pos hj, if_pos hj, List.getElem?_set]
    by_cases e : i = j
    · subst e
      rw [if_pos rfl]
      by_cases hl : i < σ.length
      · rw [if_pos hl, List.getElem?_eq_getElem hl]; rfl
      · rw [if_neg hl, List.getElem?_eq_none (by omega)]
    · rw [if_neg e]
  · rw [if_neg hj, if_neg hj, List.getElem?_set_ne (fun e => hj (by rw [← e]; exact h))]
def wipeA (σ : Sa) : List Nat → Sa
  | [] => σ
  | v :: vs => (wipeA σ vs).set v none
theorem RepSt.forget {K : PySem.W.Frag} {ρ : List Addr} {H : Hp} {σ : L2.St} {σa : Sa} (h : RepSt K ρ H σ σa) (i : Nat) : RepSt K ρ H (σ.set i none) (σa.set i none) := by
  refine ⟨by rw [List.length_set, List.length_set]; exact h.1, fun j d e => ?_⟩
  by_cases hj : i = j
  · subst hj
    by_cases hl : i < σa.length
    · rw [List.getElem?_set_self hl] at e; cases e
    · rw [List.getElem?_eq_none (by rw [List.length_set]; omega)] at e; cases e
  · rw [List.getElem?_set_ne hj] at e ⊢
    exact h.2 j d e
theorem RepSt.wipe {K : PySem.W.Frag} {ρ : List Addr} {H : Hp} {σ : L2.St} {σa : Sa} (h : RepSt K ρ H σ σa) : ∀ vs : List Nat, RepSt K ρ H (L2.wipe σ vs) (wipeA σa vs)
  | [] => h
  | v :: vs => (RepSt.wipe h vs).forget v
theorem RepSt.set {K : PySem.W.Frag} {ρ : List Addr} {H : Hp} {σ : L2.St} {σa : Sa} {v : V} {d : D} (h : RepSt K ρ H σ σa) (i : Nat) (r : Rep K ρ H v d) : RepSt K ρ H (σ.set i (some v)) (σa.set i (some d)) := by
  refine ⟨by rw [List.length_set, List.length_set]; exact h.1, fun j d' e => ?_⟩
  by_cases hj : i = j
  · subst hj
    by_cases hl : i < σa.length
    · rw [List.getElem?_set_self hl] at e
      cases e
      exact ⟨v, List.getElem?_set_self (by rw [h.1]; exact hl), r⟩
    · rw [List.getElem?_eq_none (by rw [List.length_set]; omega)] at e; cases e
  · rw [List.getElem?_set_ne hj] at e ⊢
    exact h.2 j d' e
theorem names_ok {K : PySem.W.Frag} {ρ : List Addr} {H : Hp} {Q : L2.St → Hp → Prop} : ∀ (is : List Nat) (xs : List V) (ds : List D) (σ : L2.St) (σa : Sa), RepA K ρ H xs ds → ds.length = is.length → RepSt K ρ H σ σa →
    (∀ σ', RepSt K ρ H σ' (setAll σa is ds) → (∀ vs : List Nat, (∀ i ∈ is, i ∈ vs) → wipe σ' vs = wipe σ vs) → Q σ' H) → gNames is xs σ H Q
  | [], _, _, σ, σa, .nil, _, rs, q => ⟨rfl, q σ rs fun _ _ => rfl⟩
  | [], _, _, _, _, .cons _ _, hl, _, _ => by simp at hl
  | i :: is, _, _, _, _, .nil, hl, _, _ => by simp at hl
  | i :: is, _, _, σ, σa, .cons r1 r2, hl, rs, q => by
    refine ⟨_, _, rfl, ?_⟩
    refine names_ok is _ _ _ _ r2 (by simpa using hl) (rs.set i r1) fun σ' rs' w' => q σ' rs' fun vs hvs => ?_
    rw [w' vs fun j hj => hvs j (List.mem_cons_of_mem _ hj), wipe_set (hvs i List.mem_cons_self)]
theorem put_ok {S : Sc} {ρ : List Addr} {H : Hp} {Q : L2.St → Hp → Prop} {t : Tg} {v : V} {im : Im} {σ : L2.St} {σa σa' : Sa} (rs : RepSt S.K ρ H σ σa) (ri : RepI S.K ρ H v im) (h : t.put im σa = some σa')
    (q : ∀ σ', RepSt S.K ρ H σ' σa' → (∀ vs : List Nat, (∀ i ∈ t.slots, i ∈ vs) → wipe σ' vs = wipe σ vs) → Q σ' H) : gOf S.K t v σ H Q := by
  unfold Tg.put at h
  split at h
  · cases h
    exact q _ (rs.set _ ri) fun vs hvs => wipe_set (hvs _ (by simp [Tg.slots]))
  · rename_i is ds
    split at h
    · rename_i hl
      cases h
      obtain ⟨a, xs, rfl, hq, ra, _, _⟩ := tup_of ri
      have hl' : ds.length = is.length := by simpa using hl
      exact ⟨a, xs, rfl, hq, by rw [ra.len]; exact hl', names_ok is xs ds _ _ ra hl' rs q⟩
    · cases h
  · rename_i is ds
    split at h
    · rename_i hl
      cases h
      obtain ⟨a, xs, rfl, hq, ra⟩ := ri
      have hl' : ds.length = is.length := by simpa using hl
      exact ⟨a, xs, rfl, hq, by rw [ra.len]; exact hl', names_ok is xs ds _ _ ra hl' rs q⟩
    · cases h
  · cases h
abbrev QG (S : Sc) (X : Cx) (tg : Expr) (t : Tg) : Prop := PG X tg (gOf S.K t)
def Res.nox {α : Type} : Res α → Res α
  | .exc _ _ _ => .bad
  | r => r
def compL (t : Tg) (c : F Bool) (e : F D) (chk : Mem → Bool) (σ : Sa) (n : Nat) : List Im → Mem → Res Unit
  | [], M => if chk M = true then .ok () M else .bad
  | im :: ims, M => if chk M = true then (match t.put im σ with
      | none => .bad
      | some σ1 => (c σ1 M).nox.bind fun b M1 => if b = true then (e σ1 M1).nox.bind fun d M2 => (match M2[n]? with
          | some (.lst acc) => if Nat.blt acc.length 16777216 = true then compL t c e chk σ n ims (M2.set n (.lst (acc ++ [d]))) else .bad
          | _ => .bad) else compL t c e chk σ n ims M1) else .bad
def fCompC (fi : F Ita) (vs : List Nat) (t : Tg) (c : F Bool) (e : F D) : F D := fun σ M => (fi σ M).bind fun it M1 => (compL t c e it.chk (wipeA σ vs) M1.length it.items (M1 ++ [.lst []])).bind fun _ M2 => .ok (.ref M1.length) M2
abbrev W0 : WX := fun _ _ _ _ => False
def fYes : F Bool := fun _ M => .ok true M
theorem nox_use {α β : Type} {S : Sc} {R : List Addr → Hp → β → α → Prop} {f : F α} {σ : L2.St} {σa : Sa} {ρ : List Addr} {H : Hp} {M : Mem} {Q : β → Hp → Prop} (mo : MemOk S ρ H M) (rs : RepSt S.K ρ H σ σa) {γ : Type} {k : α → Mem → Res γ} {P : Res γ → Prop} (hb : P .bad → False)
    (h : P ((f σa M).nox.bind k)) (c : ∀ x M1 ρ1 H1 v, Stp S ρ H ρ1 H1 M1 → R ρ1 H1 v x → P (k x M1) → Q v H1) : tOf S W0 R f σ H Q := by
  refine ⟨ρ, M, σa, mo, rs, ?_⟩
  cases e : f σa M with
  | ok x M1 =>
    rw [e] at h
    exact fun ρ1 H1 v st r => c x M1 ρ1 H1 v st r h
  | exc c2 fs M1 => rw [e] at h; exact (hb h).elim
  | bad => rw [e] at h; exact (hb h).elim
section
variable {X : Cx} {S : Sc} {W : WX}
theorem lc_imp {fi : F Ita} {vs : List Nat} {t : Tg} {c : F Bool} {e : F D} (ht : ∀ i ∈ t.slots, i ∈ vs) {σ : L2.St} {H : Hp} {Q : VK} (h : tOf S W (Rep S.K) (fCompC fi vs t c e) σ H Q) :
    tLc (tOf S W (fun ρ H J it => ItaOk S ρ H J it) fi) (gOf S.K t) (tOf S W0 REq c) (tOf S W0 (Rep S.K) e) vs σ H Q := by
  obtain ⟨ρ, M, σa, mo, rs, p⟩ := h
  refine use mo rs p fun it M1 ρ1 H1 J st1 ok rs1 p1 => ?_
  intro D hD
  have sA : Stp S ρ1 H1 (ρ1 ++ [D]) (upd H1 D (.lst [])) (M1 ++ [.lst []]) := Stp.alloc st1.2 hD .nil
  have hl1 := st1.2.len
  have atn : ∀ {ρ2 : List Addr} {H2 : Hp}, Ext (ρ1 ++ [D]) (upd H1 D (.lst [])) ρ2 H2 → ρ2[M1.length]? = some D := fun e => e.at (by
    rw [List.getElem?_append_right (by omega), hl1, Nat.sub_self]
    rfl)
  refine ⟨fun i m Hc => m = it.items.length - i ∧ i ≤ it.items.length ∧ ∃ ρc Mc, Stp S (ρ1 ++ [D]) (upd H1 D (.lst [])) ρc Hc Mc ∧ Post S W (Rep S.K) σ ρ1 H1 Q ((compL t c e it.chk (wipeA σa vs) M1.length (it.items.drop i) Mc).bind fun _ M2 => .ok (.ref M1.length) M2),
    ⟨_, rfl, Nat.zero_le _, ρ1 ++ [D], M1 ++ [.lst []], Stp.refl sA.2, by rw [List.drop_zero]; exact p1⟩, ?_⟩
  rintro i m Hc ⟨rfl, hi, ρc, Mc, stc, pc⟩
  have ex1 : Ext ρ1 H1 ρc Hc := sA.1.trans stc.1
  by_cases hlt : i < it.items.length
  · have hdrop : it.items.drop i = it.items[i] :: it.items.drop (i + 1) := List.drop_eq_getElem_cons hlt
    rw [hdrop] at pc
    unfold compL at pc
    by_cases hc : it.chk Mc = true
    · rw [if_pos hc] at pc
      refine .inr ⟨ok.go ρc Hc Mc i ex1 stc.2 hc hlt, fun H' => ∃ ρc' Mc', Stp S (ρ1 ++ [D]) (upd H1 D (.lst [])) ρc' H' Mc' ∧ Post S W (Rep S.K) σ ρ1 H1 Q ((compL t c e it.chk (wipeA σa vs) M1.length (it.items.drop (i + 1)) Mc').bind fun _ M2 => .ok (.ref M1.length) M2),
        fun H' ⟨ρc', Mc', a, b⟩ => ⟨_, by omega, rfl, hlt, ρc', Mc', a, b⟩, fun x H2 y => ?_⟩
      obtain ⟨im, him, st2, ri⟩ := ok.yld ρc Hc Mc i x H2 ex1 stc.2 hc hlt y
      have e0 : it.items[i] = im := by
        rw [List.getElem?_eq_getElem hlt] at him
        exact Option.some.inj him
      rw [e0] at pc
      split at pc
      · exact pc.elim
      · rename_i σ1 hput
        have rsw : RepSt S.K ρc H2 (wipe σ vs) (wipeA σa vs) := (rs1.mono (ex1.trans st2.1)).wipe vs
        refine put_ok rsw ri hput fun σ' rs' hw => ⟨?_, ?_⟩
        · have := hw vs ht
          rw [this]
          refine List.ext_getElem? fun j => ?_
          rw [wipe_get, wipe_get]
          by_cases hj : j ∈ vs
          · rw [if_pos hj, if_pos hj]
            cases σ[j]? <;> rfl
          · rw [if_neg hj, if_neg hj]
        · have stc2 : Stp S (ρ1 ++ [D]) (upd H1 D (.lst [])) ρc H2 Mc := ⟨stc.1.trans st2.1, st2.2⟩
          refine nox_use (P := fun r => Post S W (Rep S.K) σ ρ1 H1 Q (r.bind fun _ M2 => .ok (.ref M1.length) M2)) stc2.2 rs' (fun z => z) pc fun b M3 ρ3 H3 b' st3 rb p3 => ?_
          cases (show b' = b from rb)
          cases b with
          | false => exact ⟨ρ3, M3, ⟨stc2.1.trans st3.1, st3.2⟩, p3⟩
          | true =>
            refine nox_use (P := fun r => Post S W (Rep S.K) σ ρ1 H1 Q (r.bind fun _ M2 => .ok (.ref M1.length) M2)) st3.2 (rs'.mono st3.1) (fun z => z) p3 fun d M4 ρ4 H4 v st4 rv p4 => ?_
            have ex4 := stc2.1.trans (st3.1.trans st4.1)
            have hD4 := atn ex4
            split at p4
            · rename_i acc hacc
              obtain ⟨xs, e1, ra⟩ := st4.2.cell _ _ _ hD4 hacc
              split at p4
              · rename_i hsz
                refine ⟨xs, e1, ?_, ρ4, _, ?_, p4⟩
                · rw [ra.len, sizeLine_eq]
                  simpa [Nat.blt_eq] using hsz
                · have sp := Stp.put st4.2 hD4 hacc (ra.append (.cons rv .nil))
                  exact ⟨ex4.trans sp.1, sp.2⟩
              · exact p4.elim
            · exact p4.elim
    · rw [if_neg hc] at pc
      exact pc.elim
  · have e : i = it.items.length := by omega
    subst e
    rw [List.drop_length] at pc
    unfold compL at pc
    by_cases hc : it.chk Mc = true
    · rw [if_pos hc] at pc
      refine .inl ⟨ok.stop ρc Hc Mc ex1 stc.2 hc, ?_⟩
      exact pc ρc Hc (.ref D) ⟨ex1, stc.2⟩ (.ref (atn stc.1))
    · rw [if_neg hc] at pc
      exact pc.elim
variable {elt tg iter : Expr} {ifs : List Expr} {scope : Scope} {own : List (Str × Nat)} {pos : Pos} {fi : F Ita} {t : Tg} {c : F Bool} {e : F D}
abbrev QTs (S : Sc) (W : WX) (X : Cx) (es : List Expr) (f : F Bool) : Prop := PTs X es (tOf S W REq f)
theorem PTs.imp {es : List Expr} {t t' : TT} (h : PTs X es t) (w : ∀ σ H Q, t' σ H Q → t σ H Q) : PTs X es t' := ⟨fun pins s σ H Q I q => h.run pins s σ H Q I (w σ H Q q)⟩
theorem qts_nil : QTs S W X [] fYes := PTs.imp pts_nil fun σ H Q ⟨ρ, M, σa, mo, rs, p⟩ => p ρ H true (Stp.refl mo) rfl
theorem qe_lcC (hc : X.calm = true) (hN : X.N.Nodup) (hi : QI S W X tg iter fi) (ok : BlkOk X.N X.env.scope scope own)
    (hg : ∀ (s : Shared) (H : Hp) (C : Addr) (cl : List (Str × Addr)) (fp : List Addr), QG S (X.blk s H scope (compEnvC scope cl C X.env) fp) tg t) (ht : ∀ (s : Shared) (H : Hp) (C : Addr) (cl : List (Str × Addr)) (fp : List Addr), QTs S W0 (X.blk s H scope (compEnvC scope cl C X.env) fp) ifs c)
    (he : ∀ (s : Shared) (H : Hp) (C : Addr) (cl : List (Str × Addr)) (fp : List Addr), QE S W0 (X.blk s H scope (compEnvC scope cl C X.env) fp) elt e) (hsl : ∀ i ∈ t.slots, i ∈ own.map (·.2) := by decide) (hs : ∀ x, foldedSetIterable iter X.env x = pure x := by intro _; rfl) :
    QE S W X (.ListComp elt [⟨tg, iter, ifs, 0⟩] scope pos) (fCompC fi (own.map (·.2)) t c e) := PE.imp (pe_lc hc hN hi ok hg ht he hs) fun _ _ _ h => lc_imp hsl h
theorem qe_lc (hc : X.calm = true) (hN : X.N.Nodup) (hi : QI S W X tg iter fi) (ok : BlkOk X.N X.env.scope scope own)
    (hg : ∀ (s : Shared) (H : Hp) (C : Addr) (cl : List (Str × Addr)) (fp : List Addr), QG S (X.blk s H scope (compEnvC scope cl C X.env) fp) tg t) (ht : ∀ (s : Shared) (H : Hp) (C : Addr) (cl : List (Str × Addr)) (fp : List Addr), QTs S W0 (X.blk s H scope (compEnvC scope cl C X.env) fp) ifs c)
    (he : ∀ (s : Shared) (H : Hp) (C : Addr) (cl : List (Str × Addr)) (fp : List Addr), QE S W0 (X.blk s H scope (compEnvC scope cl C X.env) fp) elt e) (hsl : ∀ i ∈ t.slots, i ∈ own.map (·.2) := by decide) (hs : ∀ x, foldedSetIterable iter X.env x = pure x := by intro _; rfl) :
    QE S W X (.ListComp elt [⟨tg, iter, ifs, 0⟩] scope pos) (fTrim (fCompC fi (own.map (·.2)) t c e)) := qe_trim (qe_lcC hc hN hi ok hg ht he hsl hs)
end
end QX
set_option maxRecDepth 100000
set_option maxHeartbeats 1000000
namespace QX
open PySem PySem.Spec PyProof.Rows L2 HX
inductive Fl where
  | nx (σ : Sa) | rt (d : D) | bk (σ : Sa) | ct (σ : Sa)
inductive RS where
  | ok (f : Fl) (M : Mem) | exc (c : Nat) (fs : List (Str × D)) (σ : Sa) (M : Mem) | bad
abbrev FS := Sa → Mem → RS
def Res.bindS {α : Type} (r : Res α) (σ : Sa) (k : α → Mem → RS) : RS := match r with
  | .ok x M => k x M
  | .exc c fs M => .exc c fs σ M
  | .bad => .bad
def PostS (S : Sc) (W : WX) (ρ : List Addr) (H : Hp) (E : Ends) : RS → Prop
  | .ok (.nx σa) M => ∀ ρ' H' σ, Stp S ρ H ρ' H' M → RepSt S.K ρ' H' σ σa → E.nx σ H'
  | .ok (.rt d) M => ∀ ρ' H' v, Stp S ρ H ρ' H' M → Rep S.K ρ' H' v d → E.rt v H'
  | .ok (.bk σa) M => ∀ ρ' H' σ, Stp S ρ H ρ' H' M → RepSt S.K ρ' H' σ σa → E.bk σ H'
  | .ok (.ct σa) M => ∀ ρ' H' σ, Stp S ρ H ρ' H' M → RepSt S.K ρ' H' σ σa → E.ct σ H'
  | .exc c fs σa M => ∀ ρ' H' σ d, Stp S ρ H ρ' H' M → RepSt S.K ρ' H' σ σa → XRep S.K ρ' H' d fs → W (.ref (S.C c)) d σ H'
  | .bad => False
def tOfS (S : Sc) (W : WX) (f : FS) : TS := fun E σ H => ∃ ρ M σa, MemOk S ρ H M ∧ RepSt S.K ρ H σ σa ∧ PostS S W ρ H E (f σa M)
abbrev QS (S : Sc) (W : WX) (X : Cx) (st : Stmt) (f : FS) : Prop := PS X st (tOfS S W f)
abbrev QSs (S : Sc) (W : WX) (X : Cx) (st : List Stmt) (f : FS) : Prop := PSs X st (tOfS S W f)
section
variable {S : Sc} {W : WX} {ρ ρ' : List Addr} {H H' : Hp} {E : Ends}
theorem PostS.mono {r : RS} (h : PostS S W ρ H E r) (e : Ext ρ H ρ' H') : PostS S W ρ' H' E r := by
  cases r with
  | ok f M =>
    cases f with
    | nx σ => exact fun ρ2 H2 v st => h ρ2 H2 v ⟨e.trans st.1, st.2⟩
    | rt d => exact fun ρ2 H2 v st => h ρ2 H2 v ⟨e.trans st.1, st.2⟩
    | bk σ => exact fun ρ2 H2 v st => h ρ2 H2 v ⟨e.trans st.1, st.2⟩
    | ct σ => exact fun ρ2 H2 v st => h ρ2 H2 v ⟨e.trans st.1, st.2⟩
  | exc c fs σ M => exact fun ρ2 H2 σ d st => h ρ2 H2 σ d ⟨e.trans st.1, st.2⟩
  | bad => exact h
theorem useS {α β : Type} {R : List Addr → Hp → β → α → Prop} {σ : L2.St} {σa : Sa} {M : Mem} {f : F α} {k : α → Mem → RS} {Q : β → Hp → Prop} (mo : MemOk S ρ H M) (rs : RepSt S.K ρ H σ σa) (h : PostS S W ρ H E ((f σa M).bindS σa k))
    (c : ∀ x M1 ρ1 H1 v, Stp S ρ H ρ1 H1 M1 → R ρ1 H1 v x → RepSt S.K ρ1 H1 σ σa → PostS S W ρ1 H1 E (k x M1) → Q v H1) : tOf S W R f σ H Q := by
  refine ⟨ρ, M, σa, mo, rs, ?_⟩
  cases e : f σa M with
  | ok x M1 =>
    rw [e] at h
    intro ρ1 H1 v st r
    exact c x M1 ρ1 H1 v st r (rs.mono st.1) (PostS.mono h st.1)
  | exc c2 fs M1 =>
    rw [e] at h
    exact fun ρ1 H1 d st xr => h ρ1 H1 σ d st (rs.mono st.1) xr
  | bad => rw [e] at h; exact h
theorem useB {α β : Type} {R : List Addr → Hp → β → α → Prop} {σ : L2.St} {σa : Sa} {M : Mem} {f : F α} {k : α → Mem → RS} {Q : β → Hp → Prop} (ex : Ext ρ H ρ' H') (mo : MemOk S ρ' H' M) (rs : RepSt S.K ρ' H' σ σa) (h : PostS S W ρ H E ((f σa M).bindS σa k))
    (c : ∀ x M1 ρ1 H1 v, Stp S ρ' H' ρ1 H1 M1 → R ρ1 H1 v x → RepSt S.K ρ1 H1 σ σa → PostS S W ρ H E (k x M1) → Q v H1) : tOf S W R f σ H' Q := by
  refine ⟨ρ', M, σa, mo, rs, ?_⟩
  cases e : f σa M with
  | ok x M1 =>
    rw [e] at h
    intro ρ1 H1 v st r
    exact c x M1 ρ1 H1 v st r (rs.mono st.1) h
  | exc c2 fs M1 =>
    rw [e] at h
    exact fun ρ1 H1 d st xr => h ρ1 H1 σ d ⟨ex.trans st.1, st.2⟩ (rs.mono st.1) xr
  | bad => rw [e] at h; exact h
variable {X : Cx} {st : Stmt} {rest : List Stmt} {e : Expr} {pos : Pos} {fe : F D} {s1 s2 : FS} {g : F Bool}
def sNext : FS := fun σ M => .ok (.nx σ) M
def sRet (f : F D) : FS := fun σ M => (f σ M).bindS σ fun d M1 => .ok (.rt d) M1
def sRetN : FS := fun σ M => .ok (.rt .non) M
def sExpr (f : F D) : FS := fun σ M => (f σ M).bindS σ fun _ M1 => .ok (.nx σ) M1
def sSet (i : Nat) (f : F D) : FS := fun σ M => (f σ M).bindS σ fun d M1 => .ok (.nx (σ.set i (some d))) M1
def sAsg (f : F D) (t : Tg) : FS := fun σ M => (f σ M).bindS σ fun d M1 => match t.put (.d d) σ with | some σ1 => .ok (.nx σ1) M1 | none => .bad
def sPar (i j : Nat) (fs : F (List D)) : FS := fun σ M => (fs σ M).bindS σ fun ds M1 => match ds with | [a, b] => .ok (.nx ((σ.set i (some a)).set j (some b))) M1 | _ => .bad
def sIf (g : F Bool) (s1 s2 : FS) : FS := fun σ M => (g σ M).bindS σ fun c M1 => if c = true then s1 σ M1 else s2 σ M1
def sSeq (s1 s2 : FS) : FS := fun σ M => match s1 σ M with | .ok (.nx σ1) M1 => s2 σ1 M1 | r => r
def sBreak : FS := fun σ M => .ok (.bk σ) M
def sCont : FS := fun σ M => .ok (.ct σ) M
def sRaise (c : Nat) : FS := fun σ M => .exc c [] σ M
def sNever : FS := fun _ _ => .bad
theorem qss_nil : QSs S W X [] sNext := PSs.imp pss_nil fun E σ H ⟨ρ, M, σa, mo, rs, p⟩ => p ρ H σ (Stp.refl mo) rs
theorem qss_one (h : QS S W X st s1) : QSs S W X [st] s1 := pss_one h
theorem qss_cons (h1 : QS S W X st s1) (h2 : QSs S W X rest s2) : QSs S W X (st :: rest) (sSeq s1 s2) := PSs.imp (pss_cons h1 h2) fun E σ H ⟨ρ, M, σa, mo, rs, p⟩ => by
  refine ⟨ρ, M, σa, mo, rs, ?_⟩
  unfold sSeq at p
  cases e : s1 σa M with
  | ok f M1 =>
    rw [e] at p
    cases f with
    | nx σ1 => exact fun ρ1 H1 σ' st rs' => ⟨ρ1, M1, σ1, st.2, rs', PostS.mono p st.1⟩
    | rt d => exact p
    | bk σ1 => exact p
    | ct σ1 => exact p
  | exc c fs σ1 M1 => rw [e] at p; exact p
  | bad => rw [e] at p; exact p
theorem qs_never : QS S W X st sNever := PS.imp ps_never fun E σ H ⟨ρ, M, σa, mo, rs, p⟩ => p.elim
theorem qs_ret (h : QE S W X e fe) : QS S W X (.Return (some e) pos) (sRet fe) := PS.imp (ps_ret h) fun E σ H ⟨ρ, M, σa, mo, rs, p⟩ => useS mo rs p fun x M1 ρ1 H1 v st1 r1 rs1 p1 => p1 ρ1 H1 v (Stp.refl st1.2) r1
theorem qs_expr (h : QE S W X e fe) (hs : swapsWith e none pos.line X.env = pure false := by rfl) : QS S W X (.Expr e pos) (sExpr fe) := PS.imp (ps_expr h hs) fun E σ H ⟨ρ, M, σa, mo, rs, p⟩ => useS mo rs p fun x M1 ρ1 H1 v st1 r1 rs1 p1 => p1 ρ1 H1 σ (Stp.refl st1.2) rs1
theorem asg_imp {i : Nat} {E : Ends} {σ : L2.St} {H : Hp} (h : tOfS S W (sSet i fe) E σ H) : tAsg (tOf S W (Rep S.K) fe) (gName i) E σ H := by
  obtain ⟨ρ, M, σa, mo, rs, p⟩ := h
  exact useS mo rs p fun x M1 ρ1 H1 v st1 r1 rs1 p1 => p1 ρ1 H1 _ (Stp.refl st1.2) (rs1.set i r1)
theorem qs_set {i : Nat} {x : Str} {pos' : Pos} (hN : X.N.Nodup) (hi : X.N[i]? = some x) (hx : Loc X.env.scope x) (he : QE S W X e fe) (hs : swapsWith e (some (.Name x pos')) pos.line X.env = pure false := by rfl) (hf : X.fn x = true ∨ X.env.scope.names.lookup x = some .local := by first | exact .inl rfl | exact .inr rfl | assumption) :
    QS S W X (.Assign [.Name x pos'] e pos) (sSet i fe) := PS.imp (ps_set hN hi hx he hs hf) fun _ _ _ h => asg_imp h
theorem qs_asg {tg : Expr} {t : Tg} (he : QE S W X e fe) (hg : QG S X tg t) (hs : swapsWithSole [tg] e pos.line X.env = pure false := by rfl) (hw : swappedStores [tg] e X.env = pure none := by rfl)
    (h1 : (assignEach [tg] X.env).map (·.2) = [assign tg X.env] := by rfl) : QS S W X (.Assign [tg] e pos) (sAsg fe t) := PS.imp (ps_asg he hg hs hw h1) fun E σ H ⟨ρ, M, σa, mo, rs, p⟩ => by
  refine useS mo rs p fun x M1 ρ1 H1 v st1 r1 rs1 p1 => ?_
  split at p1
  · rename_i σ1 hp
    exact put_ok (im := .d x) rs1 r1 hp fun σ' rs' _ => p1 ρ1 H1 σ' (Stp.refl st1.2) rs'
  · exact p1.elim
theorem qs_par {i j : Nat} {x y : Str} {a b : Expr} {fs : F (List D)} {px py pt : Pos} {kt k2 pt2} (hc : X.calm = true) (hN : X.N.Nodup) (hi : X.N[i]? = some x) (hj : X.N[j]? = some y) (hij : i ≠ j)
    (hx : X.env.scope.names.lookup x = some .local) (hy : X.env.scope.names.lookup y = some .local) (ha : QA S W X [a, b] fs)
    (hw : swappedStores [.Tuple [.Name x px, .Name y py] kt pt] (.Tuple [a, b] k2 pt2) X.env = pure (some [x, y]))
    (hs : swapsWithSole [.Tuple [.Name x px, .Name y py] kt pt] (.Tuple [a, b] k2 pt2) pos.line X.env = pure false := by rfl) :
    QS S W X (.Assign [.Tuple [.Name x px, .Name y py] kt pt] (.Tuple [a, b] k2 pt2) pos) (sPar i j fs) := PS.imp (ps_par hc hN hi hj hij hx hy ha hw hs) fun E σ H ⟨ρ, M, σa, mo, rs, p⟩ => by
  refine useS mo rs p fun ds M1 ρ1 H1 vs st1 r1 rs1 p1 => ?_
  split at p1
  · obtain ⟨v, w, rfl, rv, rw'⟩ := RepA.two r1
    exact ⟨v, w, rfl, p1 ρ1 H1 _ (Stp.refl st1.2) ((rs1.set i rv).set j rw')⟩
  · exact p1.elim
theorem qs_if {c : Expr} {a b : List Stmt} (hc : QT S W X c g) (ha : QSs S W X a s1) (hb : QSs S W X b s2) : QS S W X (.If c a b pos) (sIf g s1 s2) := PS.imp (ps_if hc ha hb) fun E σ H ⟨ρ, M, σa, mo, rs, p⟩ => by
  refine useS mo rs p fun x M1 ρ1 H1 v st1 r1 rs1 p1 => ?_
  cases (show v = x from r1)
  cases x with
  | true => exact ⟨ρ1, M1, σa, st1.2, rs1, p1⟩
  | false => exact ⟨ρ1, M1, σa, st1.2, rs1, p1⟩
theorem qs_err {x : Str} {n : Nat} {p pos pos2 : Pos} (R : Err X.K X.mg x (S.C n)) (tk : Takes X W) (hc : X.calm = true := by rfl) (hg : Gl X x := by rfl) (hdb : (x == ("__debug__" : Str)) = false := by decide) :
    QS S W X (.Raise (some (.Call (.Name x p) [] [] pos)) none pos2) (sRaise n) := PS.imp (ps_err R tk hc hg hdb) fun E σ H ⟨ρ, M, σa, mo, rs, p⟩ => p ρ H σ none (Stp.refl mo) rs rfl
def keepS (n : Nat) : Option D → Option D
  | some d => if d.und n = true then some d else none
  | none => none
def gc (n : Nat) (σ : Sa) (M : Mem) : Sa × Mem := if Nat.ble M.length n = true then (σ, M) else if closed n M = true then (σ.map (keepS n), M.take n) else (σ, M)
theorem gc_ok {ρ0 : List Addr} {H0 : Hp} {M : Mem} {σ : L2.St} {σa : Sa} (e : Ext ρ0 H0 ρ H) (mo : MemOk S ρ H M) (rs : RepSt S.K ρ H σ σa) : ∃ ρ', Stp S ρ0 H0 ρ' H (gc ρ0.length σa M).2 ∧ RepSt S.K ρ' H σ (gc ρ0.length σa M).1 := by
  unfold gc
  split
  · exact ⟨ρ, ⟨e, mo⟩, rs⟩
  · split
    · rename_i hc
      obtain ⟨more, rfl, hm⟩ := e.pre
      refine ⟨ρ0, ⟨⟨⟨[], by simp, by simp⟩, e.keep, e.live⟩, mem_down mo hc⟩, by rw [List.length_map]; exact rs.1, fun i d h => ?_⟩
      rw [List.getElem?_map] at h
      cases q : σa[i]? with
      | none => rw [q] at h; cases h
      | some o =>
        rw [q] at h
        cases o with
        | none => cases h
        | some d' =>
          have h' : keepS ρ0.length (some d') = some d := Option.some.inj h
          have h2 : (if d'.und ρ0.length = true then some d' else none) = some d := h'
          by_cases hb : d'.und ρ0.length = true
          · rw [if_pos hb] at h2
            cases h2
            obtain ⟨v, h1, h2⟩ := rs.2 i d q
            exact ⟨v, h1, Rep.down d v hb h2⟩
          · rw [if_neg hb] at h2
            cases h2
    · exact ⟨ρ, ⟨e, mo⟩, rs⟩
def forL (t : Tg) (b : FS) (chk : Mem → Bool) (n : Nat) : List Im → FS
  | [], σ, M => if chk M = true then .ok (.nx σ) M else .bad
  | im :: ims, σ, M => if chk M = true then (match t.put im σ with
      | none => .bad
      | some σ1 => (match b σ1 M with
        | .ok (.nx σ2) M2 => forL t b chk n ims (gc n σ2 M2).1 (gc n σ2 M2).2
        | .ok (.ct σ2) M2 => forL t b chk n ims (gc n σ2 M2).1 (gc n σ2 M2).2
        | .ok (.bk σ2) M2 => .ok (.nx σ2) M2
        | .ok (.rt d) M2 => .ok (.rt d) M2
        | .exc c fs σ2 M2 => .exc c fs σ2 M2
        | .bad => .bad)) else .bad
def sFor (fi : F Ita) (t : Tg) (b : FS) : FS := fun σ M => (fi σ M).bindS σ fun it M1 => forL t b it.chk M1.length it.items σ M1
theorem qs_for {iter tg : Expr} {body : List Stmt} {fi : F Ita} {t : Tg} {b : FS} {pos : Pos} (hp : PassesOwn (model X.prog X.w) X.A X.env X.xe) (hc : X.calm = true) (hi : QI S W X tg iter fi) (hg : QG S X tg t) (hb : QSs S W X body b)
    (hs : ∀ x, foldedSetIterable iter X.env x = pure x := by intro _; rfl) : QS S W X (.For tg iter body [] pos) (sFor fi t b) := PS.imp (ps_for hp hc hi hg hb hs) fun E σ H ⟨ρ, M, σa, mo, rs, p⟩ => by
  refine useS mo rs p fun it M1 ρ1 H1 J st1 ok rs1 p1 => ?_
  rw [← st1.2.len] at p1
  refine ⟨fun i m σ H => m = it.items.length - i ∧ i ≤ it.items.length ∧ ∃ ρc Mc σc, Stp S ρ1 H1 ρc H Mc ∧ RepSt S.K ρc H σ σc ∧ PostS S W ρ1 H1 E (forL t b it.chk ρ1.length (it.items.drop i) σc Mc),
    ⟨_, rfl, Nat.zero_le _, ρ1, M1, σa, Stp.refl st1.2, rs1, by rw [List.drop_zero]; exact p1⟩, ?_⟩
  rintro i m σ' Hc ⟨rfl, hi, ρc, Mc, σc, stc, rsc, pc⟩
  by_cases hlt : i < it.items.length
  · rw [List.drop_eq_getElem_cons hlt] at pc
    unfold forL at pc
    by_cases hc : it.chk Mc = true
    · rw [if_pos hc] at pc
      refine .inr ⟨ok.go ρc Hc Mc i stc.1 stc.2 hc hlt, fun σ' H' => ∃ ρc' Mc' σc', Stp S ρ1 H1 ρc' H' Mc' ∧ RepSt S.K ρc' H' σ' σc' ∧ PostS S W ρ1 H1 E (forL t b it.chk ρ1.length (it.items.drop (i + 1)) σc' Mc'),
        fun σ' H' ⟨ρc', Mc', σc', a1, a2, a3⟩ => ⟨_, by omega, rfl, hlt, ρc', Mc', σc', a1, a2, a3⟩, fun x H2 y => ?_⟩
      obtain ⟨im, him, st2, ri⟩ := ok.yld ρc Hc Mc i x H2 stc.1 stc.2 hc hlt y
      have e0 : it.items[i] = im := by
        rw [List.getElem?_eq_getElem hlt] at him
        exact Option.some.inj him
      rw [e0] at pc
      split at pc
      · exact pc.elim
      · rename_i σ1 hput
        refine put_ok (rsc.mono st2.1) ri hput fun σ2 rs2 _ => ⟨ρc, Mc, σ1, st2.2, rs2, ?_⟩
        have ex2 := stc.1.trans st2.1
        have go : ∀ {σ3 : Sa} {M3 : Mem}, PostS S W ρ1 H1 E (forL t b it.chk ρ1.length (it.items.drop (i + 1)) (gc ρ1.length σ3 M3).1 (gc ρ1.length σ3 M3).2) → ∀ ρ' H' σ', Stp S ρc H2 ρ' H' M3 → RepSt S.K ρ' H' σ' σ3 → ∃ ρc' Mc' σc', Stp S ρ1 H1 ρc' H' Mc' ∧ RepSt S.K ρc' H' σ' σc' ∧ PostS S W ρ1 H1 E (forL t b it.chk ρ1.length (it.items.drop (i + 1)) σc' Mc') := by
          intro σ3 M3 p3 ρ' H' σ' st' rs'
          obtain ⟨ρ4, a1, a2⟩ := gc_ok (ex2.trans st'.1) st'.2 rs'
          exact ⟨ρ4, _, _, a1, a2, p3⟩
        cases e : b σ1 Mc with
        | ok f M3 =>
          rw [e] at pc
          cases f with
          | nx σ3 => exact go pc
          | ct σ3 => exact go pc
          | bk σ3 => exact (PostS.mono pc ex2 : PostS S W ρc H2 E (.ok (.nx σ3) M3))
          | rt d => exact (PostS.mono pc ex2 : PostS S W ρc H2 E (.ok (.rt d) M3))
        | exc c fs σ3 M3 => rw [e] at pc; exact (PostS.mono pc ex2 : PostS S W ρc H2 E (.exc c fs σ3 M3))
        | bad => rw [e] at pc; exact pc
    · rw [if_neg hc] at pc
      exact pc.elim
  · have e : i = it.items.length := by omega
    subst e
    rw [List.drop_length] at pc
    unfold forL at pc
    by_cases hc : it.chk Mc = true
    · rw [if_pos hc] at pc
      exact .inl ⟨ok.stop ρc Hc Mc stc.1 stc.2 hc, pc ρc Hc σ' stc rsc⟩
    · rw [if_neg hc] at pc
      exact pc.elim
def whileL (c : F Bool) (b : FS) (n : Nat) : Nat → FS
  | 0, _, _ => .bad
  | k + 1, σ, M => (c σ M).bindS σ fun t M1 => if t = true then (match b σ M1 with
        | .ok (.nx σ2) M2 => whileL c b n k (gc n σ2 M2).1 (gc n σ2 M2).2
        | .ok (.ct σ2) M2 => whileL c b n k (gc n σ2 M2).1 (gc n σ2 M2).2
        | .ok (.bk σ2) M2 => .ok (.nx σ2) M2
        | .ok (.rt d) M2 => .ok (.rt d) M2
        | .exc c fs σ2 M2 => .exc c fs σ2 M2
        | .bad => .bad) else .ok (.nx σ) M1
def sWhile (fu : Nat) (c : F Bool) (b : FS) : FS := fun σ M => whileL c b M.length fu σ M
theorem qs_while {c : Expr} {body : List Stmt} {g : F Bool} {b : FS} {pos : Pos} (fu : Nat) (hp : PassesOwn (model X.prog X.w) X.A X.env X.xe) (hc : QT S W X c g) (hb : QSs S W X body b) : QS S W X (.While c body [] pos) (sWhile fu g b) := PS.imp (ps_while hp hc hb) fun E σ H ⟨ρ, M, σa, mo, rs, p⟩ => by
  unfold sWhile at p
  rw [← mo.len] at p
  refine ⟨fun m σ' H' => ∃ ρc Mc σc, Stp S ρ H ρc H' Mc ∧ RepSt S.K ρc H' σ' σc ∧ PostS S W ρ H E (whileL g b ρ.length m σc Mc), ⟨fu, ρ, M, σa, Stp.refl mo, rs, p⟩, ?_⟩
  rintro m σ' Hc ⟨ρc, Mc, σc, stc, rsc, pc⟩
  cases m with
  | zero => exact pc.elim
  | succ k =>
    unfold whileL at pc
    refine useB (E := E) stc.1 stc.2 rsc pc fun t M1 ρ1 H1 t' st1 rt rs1 p1 => ?_
    cases (show t' = t from rt)
    have ex1 := stc.1.trans st1.1
    cases t with
    | false =>
      rw [if_neg (by decide)] at p1
      rw [if_neg (by decide)]
      exact p1 ρ1 H1 σ' ⟨ex1, st1.2⟩ rs1
    | true =>
      rw [if_pos rfl] at p1
      rw [if_pos rfl]
      refine ⟨fun σ' H' => ∃ ρc Mc σc, Stp S ρ H ρc H' Mc ∧ RepSt S.K ρc H' σ' σc ∧ PostS S W ρ H E (whileL g b ρ.length k σc Mc), fun σ' H' h => ⟨k, Nat.lt_succ_self k, h⟩, ρ1, M1, σc, st1.2, rs1, ?_⟩
      have go : ∀ {σ3 : Sa} {M3 : Mem}, PostS S W ρ H E (whileL g b ρ.length k (gc ρ.length σ3 M3).1 (gc ρ.length σ3 M3).2) → ∀ ρ' H' σ', Stp S ρ1 H1 ρ' H' M3 → RepSt S.K ρ' H' σ' σ3 → ∃ ρc Mc σc, Stp S ρ H ρc H' Mc ∧ RepSt S.K ρc H' σ' σc ∧ PostS S W ρ H E (whileL g b ρ.length k σc Mc) := by
        intro σ3 M3 p3 ρ' H' σ' st' rs'
        obtain ⟨ρ4, a1, a2⟩ := gc_ok (ex1.trans st'.1) st'.2 rs'
        exact ⟨ρ4, _, _, a1, a2, p3⟩
      cases e : b σc M1 with
      | ok f M3 =>
        rw [e] at p1
        cases f with
        | nx σ3 => exact go p1
        | ct σ3 => exact go p1
        | bk σ3 => exact (PostS.mono p1 ex1 : PostS S W ρ1 H1 E (.ok (.nx σ3) M3))
        | rt d => exact (PostS.mono p1 ex1 : PostS S W ρ1 H1 E (.ok (.rt d) M3))
      | exc c fs σ3 M3 => rw [e] at p1; exact (PostS.mono p1 ex1 : PostS S W ρ1 H1 E (.exc c fs σ3 M3))
      | bad => rw [e] at p1; exact p1
def gSetIx (o i v : D) (M : Mem) : Option Mem := match o, i with
  | .ref n, .int k => (match M[n]? with | some (.lst ds) => (match ixN ds.length k with | some j => some (M.set n (.lst (ds.set j v))) | none => none) | _ => none)
  | _, _ => none
theorem set_ok {M M2 : Mem} {o i v : D} {vo vi vv : V} {Q : Hp → Prop} (mo : MemOk S ρ H M) (ro : Rep S.K ρ H vo o) (ri : Rep S.K ρ H vi i) (rv : Rep S.K ρ H vv v) (h : gSetIx o i v M = some M2) (q : ∀ H', Stp S ρ H ρ H' M2 → Q H') : rSetL vo vi vv H Q := by
  unfold gSetIx at h
  split at h
  · split at h
    · rename_i ds hm
      split at h
      · rename_i j hj
        cases h
        cases ri
        cases ro with
        | ref e =>
          obtain ⟨xs, e1, ra⟩ := mo.cell _ _ _ e hm
          exact ⟨_, xs, _, j, rfl, rfl, e1, by rw [ra.len]; exact hj, q _ (Stp.put mo e hm (ra.set rv j))⟩
      · cases h
    · cases h
  · cases h
def sSetIx (fo fi fv : F D) : FS := fun σ M => (fv σ M).bindS σ fun v M1 => (fo σ M1).bindS σ fun o M2 => (fi σ M2).bindS σ fun i M3 => match gSetIx o i v M3 with | some M4 => .ok (.nx σ) M4 | none => .bad
theorem qs_setIx {o i e : Expr} {fo fi fv : F D} {pos pos' : Pos} (ho : QE S W X o fo) (hi : QE S W X i fi) (he : QE S W X e fv)
    (ha : ∀ v, assign (.Subscript o i pos') X.env v = (do
      let ov ← holding [v] (eval o X.env)
      let iv ← holding [v, ov] (eval i X.env)
      standAt pos'
      holding [v, ov, iv] (setItem ov iv v)
      release [v, ov, iv] []) := by intro _; rfl) (hs : swapsWithSole [.Subscript o i pos'] e pos.line X.env = pure false := by rfl) (hw : swappedStores [.Subscript o i pos'] e X.env = pure none := by rfl)
    (h1 : (assignEach [.Subscript o i pos'] X.env).map (·.2) = [assign (.Subscript o i pos') X.env] := by rfl) : QS S W X (.Assign [.Subscript o i pos'] e pos) (sSetIx fo fi fv) :=
  PS.imp (ps_asg he (pg_sub ho hi set_list ha) hs hw h1) fun E σ H ⟨ρ, M, σa, mo, rs, p⟩ => by
  refine useS mo rs p fun x M1 ρ1 H1 v st1 r1 rs1 p1 => useS st1.2 rs1 p1 fun x2 M2 ρ2 H2 v2 st2 r2 rs2 p2 => useS st2.2 rs2 p2 fun x3 M3 ρ3 H3 v3 st3 r3 rs3 p3 => ?_
  split at p3
  · rename_i M4 h4
    exact set_ok st3.2 (Rep.mono st3.1 _ _ r2) r3 (Rep.mono (st2.1.trans st3.1) _ _ r1) h4 fun H' st4 => p3 ρ3 H' σ st4 (rs3.mono st4.1)
  · exact p3.elim
def gAug (sub : Bool) : D → D → Option D
  | .int i, .int j => some (.int (if sub = true then i - j else i + j))
  | _, _ => none
def IpQ (S : Sc) (ti : TIp) (g : D → D → Option D) : Prop := ∀ (ρ : List Addr) (H : Hp) (x y : V) (dx dy d : D) (Q : VK), Rep S.K ρ H x dx → Rep S.K ρ H y dy → g dx dy = some d → (∀ v, Rep S.K ρ H v d → Q v H) → ti x y H Q
theorem ipq_add : IpQ S (ipI fun i j => i + j) (gAug false) := by
  intro ρ H x y dx dy d Q rx ry h q
  unfold gAug at h
  split at h
  · cases h; cases rx; cases ry
    exact ⟨_, _, rfl, rfl, q _ (.int _)⟩
  · cases h
theorem ipq_sub : IpQ S (ipI fun i j => i - j) (gAug true) := by
  intro ρ H x y dx dy d Q rx ry h q
  unfold gAug at h
  split at h
  · cases h; cases rx; cases ry
    exact ⟨_, _, rfl, rfl, q _ (.int _)⟩
  · cases h
def sAug (i : Nat) (g : D → D → Option D) (f : F D) : FS := fun σ M => (fVar i σ M).bindS σ fun x M0 => (f σ M0).bindS σ fun y M1 => match g x y with | some z => .ok (.nx (σ.set i (some z))) M1 | none => .bad
theorem qs_aug {i : Nat} {x : Str} {op : Operator} {ti : TIp} {g : D → D → Option D} {pos' : Pos} (hN : X.N.Nodup) (hi : X.N[i]? = some x) (hx : Loc X.env.scope x) (he : QE S W X e fe) (ho : PIp X op ti) (hq : IpQ S ti g) (hf : X.fn x = true ∨ X.env.scope.names.lookup x = some .local := by first | exact .inl rfl | exact .inr rfl | assumption) :
    QS S W X (.AugAssign (.Name x pos') op e pos) (sAug i g fe) := PS.imp (ps_aug hN hi hx he ho hf) fun E σ H ⟨ρ, M, σa, mo, rs, p⟩ => by
  unfold sAug fVar at p
  cases q : σa[i]? with
  | none => rw [q] at p; exact p.elim
  | some o =>
    cases o with
    | none => rw [q] at p; exact p.elim
    | some d =>
      rw [q] at p
      obtain ⟨v, h1, r⟩ := rs.2 i d q
      refine ⟨v, h1, useS mo rs p fun y M1 ρ1 H1 vy st1 r1 rs1 p1 => ?_⟩
      split at p1
      · rename_i z hz
        exact hq ρ1 H1 v vy d y z _ (Rep.mono st1.1 _ _ r) r1 hz fun w rw' => p1 ρ1 H1 _ (Stp.refl st1.2) (rs1.set i rw')
      · exact p1.elim
def gGetN (o i : D) (M : Mem) : Option D := match i with
  | .int k => if decide (0 ≤ k) = true then (match listOf M o with | some ds => ds[k.toNat]? | none => none) else none
  | _ => none
def sAugIx (fo fi fe : F D) (g : D → D → Option D) : FS := fun σ M => (fo σ M).bindS σ fun o M1 => (fi σ M1).bindS σ fun i M2 => match gGetN o i M2 with
  | some x => (fe σ M2).bindS σ fun y M3 => (match g x y with | some z => (match gSetIx o i z M3 with | some M4 => .ok (.nx σ) M4 | none => .bad) | none => .bad)
  | none => .bad
theorem qs_augIx {o i e : Expr} {fo fi fe : F D} {op : Operator} {ti : TIp} {g : D → D → Option D} {tpos pos : Pos} (hk : X.K = S.K) (ho : QE S W X o fo) (hi : QE S W X i fi) (he : QE S W X e fe) (hp : PIp X op ti) (hq : IpQ S ti g)
    (ha : ∀ ov iv new, augStore i ov iv new = (do holding [new, ov, iv] (setItem ov iv new); release [new, ov, iv] []; pure .next) := by intros; rfl) : QS S W X (.AugAssign (.Subscript o i tpos) op e pos) (sAugIx fo fi fe g) := by
  have hg : PGet X (rGetL S.K) := hk ▸ get_list
  refine PS.imp (ps_augS ho hi hg he hp set_list ha) fun E σ H ⟨ρ, M, σa, mo, rs, p⟩ => ?_
  refine useS mo rs p fun xo M1 ρ1 H1 vo st1 r1 rs1 p1 => useS st1.2 rs1 p1 fun xi M2 ρ2 H2 vi st2 r2 rs2 p2 => ?_
  split at p2
  · rename_i x hx
    unfold gGetN at hx
    split at hx
    · rename_i k
      split at hx
      · rename_i hk0
        split at hx
        · rename_i ds hl
          cases r2
          obtain ⟨a, xs, rfl, e1, ra⟩ := list_of st2.2 (Rep.mono st2.1 _ _ r1) hl
          obtain ⟨v, hv, rv⟩ := ra.at hx
          have hk1 : (0 : Int) ≤ k := of_decide_eq_true hk0
          refine ⟨a, xs, k.toNat, v, rfl, by rw [Int.toNat_of_nonneg hk1], SqL.of e1, hv, ?_⟩
          refine useS st2.2 rs2 p2 fun y M3 ρ3 H3 vy st3 r3 rs3 p3 => ?_
          split at p3
          · rename_i z hz
            split at p3
            · rename_i M4 h4
              refine hq ρ3 H3 v vy x y z _ (Rep.mono st3.1 _ _ rv) r3 hz fun w rw' => ?_
              exact set_ok st3.2 (Rep.mono (st2.1.trans st3.1) _ _ r1) (.int k) rw' h4 fun H' st4 => p3 ρ3 H' σ st4 (rs3.mono st4.1)
            · exact p3.elim
          · exact p3.elim
        · cases hx
      · cases hx
    · cases hx
  · exact p2.elim
end
def startA (n : Nat) (ds : List D) : Sa := ds.map some ++ List.replicate (n - ds.length) none
def runD (n k : Nat) (b : FS) (ds : List D) (M : Mem) : Res D := if ds.length == k then (match b (startA n ds) M with
  | .ok (.rt d) M1 => .ok d M1
  | .ok (.nx _) M1 => .ok .non M1
  | .exc c fs _ M1 => .exc c fs M1
  | _ => .bad) else .bad
def runT (n k : Nat) (b : FS) (ds : List D) (M : Mem) : Res D := trimR M.length (runD n k b ds M)
def spM (S : Sc) (n : Nat) (m : List D → Mem → Res D) : Sp := fun vs H Q E => vs.length = n ∧ ∃ ρ M ds, MemOk S ρ H M ∧ RepA S.K ρ H vs ds ∧ Post S (fun cls d _ H => E cls d H) (Rep S.K) [] ρ H Q (m ds M)
abbrev CalQ (S : Sc) (P : Program) (w : World) (mg : Str → Option Value) (base : Heap) (k : Nat) (x : Str) (ps : List Str) (m : List D → Mem → Res D) : Prop := CalX P w S.K mg base k x ps (spM S ps.length m)
theorem rep_start {K : PySem.W.Frag} {ρ : List Addr} {H : Hp} {N : List Str} {vs : List V} {ds : List D} (r : RepA K ρ H vs ds) : RepSt K ρ H (start N vs) (startA N.length ds) := by
  refine ⟨?_, fun i d h => ?_⟩
  · unfold L2.start startA
    rw [List.length_append, List.length_append, List.length_map, List.length_map, List.length_replicate, List.length_replicate, r.len]
  · unfold startA at h
    unfold L2.start
    by_cases hi : i < ds.length
    · rw [List.getElem?_append_left (by rw [List.length_map]; exact hi), List.getElem?_map] at h
      rw [List.getElem?_append_left (by rw [List.length_map, r.len]; exact hi), List.getElem?_map]
      cases q : ds[i]? with
      | none => rw [q] at h; cases h
      | some d' =>
        rw [q] at h
        cases h
        obtain ⟨v, h1, h2⟩ := r.at q
        exact ⟨v, by rw [h1]; rfl, h2⟩
    · rw [List.getElem?_append_right (by rw [List.length_map]; omega), List.length_map, List.getElem?_replicate] at h
      split at h
      · cases h
      · cases h
section
variable {S : Sc} {P : Program} {w : World} {mg : Str → Option Value} {base : Heap} {k : Nat} {x : Str} {ps N : List Str} {st : Stmt} {b : FS}
theorem Def.okQ (T : HX.Def S.K mg x st ps) (sc : FnScope N ps (defScope st))
    (hb : ∀ (f : Addr) (cdv : Value) (A : Around) (outer : List Env) (s : Shared) (H : Hp) (E : XK), Room k (A.deeper (envOfC x (defScope st) s.heap.objs.size f cdv)) → Takes (cxOf (L2.CX P w) P w S.K mg base N x (defScope st) f cdv A outer s H E) (fun cls d _ H => E cls d H) →
      PassesOwn (model P w) (cxOf (L2.CX P w) P w S.K mg base N x (defScope st) f cdv A outer s H E).A (cxOf (L2.CX P w) P w S.K mg base N x (defScope st) f cdv A outer s H E).env (cxOf (L2.CX P w) P w S.K mg base N x (defScope st) f cdv A outer s H E).xe →
      QSs S (fun cls d _ H => E cls d H) (cxOf (L2.CX P w) P w S.K mg base N x (defScope st) f cdv A outer s H E) (defBody st) b) : CalQ S P w mg base (k + 1) x ps (runD N.length ps.length b) := by
  refine HX.Def.okX T sc (fun vs H Q E h => h.1) fun f cdv A outer s H vs Q E hr h tk => ⟨_, hb f cdv A outer s H E hr tk (passes_of (X := cxOf (L2.CX P w) P w S.K mg base N x (defScope st) f cdv A outer s H E) rfl), ?_⟩
  obtain ⟨hl, ρ, M, ds, mo, ra, p⟩ := h
  refine ⟨ρ, M, _, mo, rep_start ra, ?_⟩
  unfold runD at p
  split at p
  · cases e : b (startA N.length ds) M with
    | ok fl M1 =>
      rw [e] at p
      cases fl with
      | rt d => exact p
      | nx σ => exact fun ρ' H' _ st' _ => p ρ' H' .non st' .non
      | bk σ => exact p.elim
      | ct σ => exact p.elim
    | exc c fs σ M1 => rw [e] at p; exact fun ρ' H' _ d st' _ xr => p ρ' H' d st' xr
    | bad => rw [e] at p; exact p
  · exact p.elim
theorem CalQ.imp {m m' : List D → Mem → Res D} (c : CalQ S P w mg base k x ps m) (h : ∀ (W : WX) (ρ : List Addr) (H : Hp) (Q : VK) (vs : List V) (ds : List D) (M : Mem), MemOk S ρ H M → RepA S.K ρ H vs ds → Post S W (Rep S.K) [] ρ H Q (m' ds M) → Post S W (Rep S.K) [] ρ H Q (m ds M)) : CalQ S P w mg base k x ps m' := by
  obtain ⟨f, fd, F, a1, a2, a3⟩ := c
  exact ⟨f, fd, F.imp fun vs H Q E ⟨hl, ρ, M, ds, mo, ra, p⟩ => ⟨hl, ρ, M, ds, mo, ra, h _ _ _ _ _ _ _ mo ra p⟩, a1, a2, a3⟩
theorem CalQ.trim {m : List D → Mem → Res D} (c : CalQ S P w mg base k x ps m) : CalQ S P w mg base k x ps (fun ds M => trimR M.length (m ds M)) := CalQ.imp c fun _ _ _ _ _ _ _ mo _ p => Post.trim mo p
end
theorem len_nil : ∀ σ M ds M1, fNil σ M = .ok ds M1 → ds.length = 0 := fun σ M ds M1 h => by cases h; rfl
theorem len_cons {fa : F D} {fs : F (List D)} {n : Nat} (h : ∀ σ M ds M1, fs σ M = .ok ds M1 → ds.length = n) : ∀ σ M ds M1, fCons fa fs σ M = .ok ds M1 → ds.length = n + 1 := fun σ M ds M1 e => by
  unfold fCons at e
  cases q : fa σ M with
  | ok x M2 =>
    rw [q] at e
    dsimp only [Res.bind] at e
    cases q2 : fs σ M2 with
    | ok xs M3 =>
      rw [q2] at e
      cases e
      rw [List.length_cons, h _ _ _ _ q2]
    | exc c f2 M3 => rw [q2] at e; cases e
    | bad => rw [q2] at e; cases e
  | exc c f2 M3 => rw [q] at e; cases e
  | bad => rw [q] at e; cases e
def fCall (m : List D → Mem → Res D) (fs : F (List D)) : F D := fun σ M => (fs σ M).bind m
theorem qe_call {X : Cx} {S : Sc} {W : WX} {k : Nat} {x : Str} {ps : List Str} {m : List D → Mem → Res D} {p pos : Pos} {e : Expr} {es : List Expr} {fs : F (List D)} (tk : Takes X W) (hk : X.K = S.K) (c : CalQ S X.prog X.w X.mg X.base k x ps m) (hr : Room k X.A) (hg : Gl X x) (ha : QA S W X (e :: es) fs) (hn : ∀ σ M ds M1, fs σ M = .ok ds M1 → ds.length = ps.length) (hdb : (x == ("__debug__" : Str)) = false := by decide)
    (he : starEach (e :: es) X.env = (false, eval e X.env) :: starEach es X.env := by rfl) (hpl : (backTo pos (starEach es X.env)).any (·.1) = false := by rfl) : QE S W X (.Call (.Name x p) (e :: es) [] pos) (fCall m fs) := by
  have c' : CalX X.prog X.w X.K X.mg X.base k x ps (spM S ps.length m) := by rw [hk]; exact c
  refine PE.imp (pe_calX tk c' hr hg ha hdb he hpl) fun σ H Q ⟨ρ, M, σa, mo, rs, p⟩ => ?_
  refine ⟨ρ, M, σa, mo, rs, ?_⟩
  unfold fCall at p
  cases e0 : fs σa M with
  | ok ds M1 =>
    rw [e0] at p
    intro ρ1 H1 vs st1 r1
    refine ⟨by rw [r1.len]; exact hn _ _ _ _ e0, ρ1, M1, ds, st1.2, r1, ?_⟩
    have p1 := Post.mono p st1.1
    cases e1 : m ds M1 with
    | ok d M2 => dsimp only [Res.bind] at p1; rw [e1] at p1; exact p1
    | exc c fs M2 => dsimp only [Res.bind] at p1; rw [e1] at p1; exact p1
    | bad => dsimp only [Res.bind] at p1; rw [e1] at p1; exact p1
  | exc c fs M1 => rw [e0] at p; exact p
  | bad => rw [e0] at p; exact p
end QX
set_option maxRecDepth 100000
set_option maxHeartbeats 2000000
namespace QX
open PySem PySem.Spec PyProof.Rows L2 HX
theorem tuple_mulS (l : Addr) (items : Array Value) (n : Nat) (dd : Option Addr) (sl : Array (Option Value)) (x : Int) (u : Tok) (c0 : (decide (x < -(2 ^ 63)) || decide (x ≥ 2 ^ 63)) = false) (c1 : (items.isEmpty || x == 1) = true) :
    Meets (Builtin.«tuple.__mul__» ⟨[.ref l, .int x u], []⟩) (fun _ R s => s.heap.get? l = some { cls := .type "tuple", dict := dd, data := .seq items n, slots := sl } ∧ R (.ok (.ret (Value.ref l))) s) :=
  .of_wp fun prog w A R s h => by
    obtain ⟨hp, g, d, tk, os⟩ := s
    obtain ⟨hl, h⟩ := h
    have f1 := AutoSeq1.idx_int
    wp_walk using wpAny_loadPart' hl
    repeat (first
      | (refine wpAny_ite_false (decide_eq_false (by rw [c0]; exact Bool.false_ne_true)) ?_; wp_walk using wpAny_loadPart' hl)
      | (refine wpAny_ite_true (decide_eq_true (by rw [c1])) ?_; wp_walk using wpAny_loadPart' hl)
      | (refine wpAny_ite_true (decide_eq_true rfl) ?_; wp_walk using wpAny_loadPart' hl))
    exact ⟨_, rfl, h⟩
theorem tuple_mul0 (l : Addr) (items : Array Value) (n : Nat) (dd : Option Addr) (sl : Array (Option Value)) (x : Int) (u : Tok) (c0 : (decide (x < -(2 ^ 63)) || decide (x ≥ 2 ^ 63)) = false) (c1 : (items.isEmpty || x == 1) = false) (c2 : (decide (x ≤ 0) || items.isEmpty) = true) :
    Meets (Builtin.«tuple.__mul__» ⟨[.ref l, .int x u], []⟩) (fun _ R s => s.heap.get? l = some { cls := .type "tuple", dict := dd, data := .seq items n, slots := sl } ∧
      R (.ok (.ret (Value.ref s.heap.objs.size))) { s with heap := s.heap.push { cls := Value.type "tuple", data := Data.seq #[] }, toks := s.toks }) :=
  .of_wp fun prog w A R s h => by
    obtain ⟨hp, g, d, tk, os⟩ := s
    obtain ⟨hl, h⟩ := h
    have f1 := AutoSeq1.idx_int
    wp_walk using wpAny_loadPart' hl
    repeat (first
      | (refine wpAny_ite_false (decide_eq_false (by rw [c0]; exact Bool.false_ne_true)) ?_; wp_walk using wpAny_loadPart' hl)
      | (refine wpAny_ite_false (decide_eq_false (by rw [c1]; exact Bool.false_ne_true)) ?_; wp_walk using wpAny_loadPart' hl)
      | (refine wpAny_ite_true (decide_eq_true (by rw [c2])) ?_; wp_walk using wpAny_loadPart' hl)
      | (refine wpAny_ite_false (decide_eq_false (Nat.not_lt.mpr (by show 0 ≤ sizeLine; exact Nat.zero_le _))) ?_; wp_walk using wpAny_loadPart' hl))
    exact ⟨_, rfl, h⟩
section
variable {X : Cx}
def rRepF (K : PySem.W.Frag) : R2 := fun x y H Q => ∃ l k xs, x = .ref l ∧ y = .int k ∧ SqT K H l xs ∧ -1000 ≤ k ∧ k ≤ 1000 ∧ xs.length ≤ 1000 ∧ ((xs = [] ∨ k = 1) → Q (.ref l) H) ∧ (xs ≠ [] → k ≠ 1 → ∀ p o, H p = none → o.dict = none → Q (.ref p) (upd H p (.frz o (.tup (List.replicate k.toNat xs).flatten))))
theorem op_repF : OpR X (binaryOp .Mult) (rRepF X.K) := by
  intro pins s σ H x y v u Q I rx ry h
  obtain ⟨l, k, xs, rfl, rfl, hT, h1, h2, hz, q1, q2⟩ := h
  cases rx
  obtain ⟨t, rfl⟩ := ry
  obtain ⟨its, r, ⟨⟨cls, dd, data, sl⟩, ho, hc, n, hd⟩, hs⟩ := I.tuple hT
  simp only at hc hd
  subst hc hd
  have hle : its.length = xs.length := r.length.symm
  have c0 : (decide (k < -(2 ^ 63)) || decide (k ≥ 2 ^ 63)) = false := by
    rw [decide_eq_false (by omega), decide_eq_false (by omega)] <;> rfl
  by_cases hs1 : xs = [] ∨ k = 1
  · have c1 : (its.toArray.isEmpty || k == 1) = true := by
      rcases hs1 with e | e
      · rw [e] at hle
        have : its = [] := List.eq_nil_of_length_eq_zero hle
        rw [this]
        rfl
      · rw [e, show ((1 : Int) == 1) = true from rfl, Bool.or_true]
    exact wpAny_binaryOp_repeat_ref (T := "tuple") (U := "int") (by decide) ⟨_, ho, rfl⟩ (fun s' => typeIs_int s' k t) noFill_tuple_mul F.fills_int_mul F.slot_int_rmul repeat_tuple F.slot_int_index.lookup
      (call_meets F.slot_int_rmul (typeIs_int s k t) F.entry_int_rmul (F.args_int_rmul_2 _ _) (int_rmul_tuple k t l its.toArray n dd sl)
        ⟨ho, rfl, ⟨_, ho, rfl⟩, call_meets F.slot_tuple_mul ⟨_, ho, rfl⟩ F.entry_tuple_mul (F.args_tuple_mul_2 _ _) (tuple_mulS l its.toArray n dd sl k t c0 c1) ⟨ho, .ref l, H, I, rfl, q1 hs1⟩⟩)
  · have hne : xs ≠ [] := fun e => hs1 (.inl e)
    have hk1 : k ≠ 1 := fun e => hs1 (.inr e)
    have hn : its ≠ [] := fun e => hne (by
      rw [e] at hle
      exact List.eq_nil_of_length_eq_zero hle.symm)
    have hi : its.toArray.isEmpty = false := by
      cases its with
      | nil => exact absurd rfl hn
      | cons a b => rfl
    have c1 : (its.toArray.isEmpty || k == 1) = false := by
      rw [hi, Bool.false_or]
      exact beq_eq_false_iff_ne.mpr hk1
    by_cases hk0 : k ≤ 0
    · have c2 : (decide (k ≤ 0) || its.toArray.isEmpty) = true := by rw [decide_eq_true hk0]; rfl
      refine wpAny_binaryOp_repeat_ref (T := "tuple") (U := "int") (by decide) ⟨_, ho, rfl⟩ (fun s' => typeIs_int s' k t) noFill_tuple_mul F.fills_int_mul F.slot_int_rmul repeat_tuple F.slot_int_index.lookup
        (call_meets F.slot_int_rmul (typeIs_int s k t) F.entry_int_rmul (F.args_int_rmul_2 _ _) (int_rmul_tuple k t l its.toArray n dd sl)
          ⟨ho, rfl, ⟨_, ho, rfl⟩, call_meets F.slot_tuple_mul ⟨_, ho, rfl⟩ F.entry_tuple_mul (F.args_tuple_mul_2 _ _) (tuple_mul0 l its.toArray n dd sl k t c0 c1 c2) ⟨ho, ?_⟩⟩)
      have e0 : (List.replicate k.toNat xs).flatten = [] := by
        rw [show k.toNat = 0 by omega]
        rfl
      rw [e0] at q2
      exact laidF (its := []) I (Nat.zero_le _) .nil (q2 hne hk1)
    · have hsz0 : its.toArray.size = xs.length := by rw [List.size_toArray, hle]
      have hm : ((its.toArray.size : Nat) : Int) * k ≤ 1000000 := by
        rw [hsz0]
        have a1 : ((xs.length : Nat) : Int) * k ≤ 1000 * k := Int.mul_le_mul_of_nonneg_right (by omega) (by omega)
        omega
      have flen : (List.replicate k.toNat its).flatten.length ≤ sizeLine := by
        rw [PyProof.Rows.lm_len_rep_flat, hle, sizeLine_eq]
        have a1 : k.toNat * xs.length ≤ 1000 * 1000 := Nat.mul_le_mul (by omega) hz
        omega
      have c2 : (decide (k ≤ 0) || its.toArray.isEmpty) = false := by
        rw [hi, Bool.or_false]
        exact decide_eq_false hk0
      have c4 : Builtin.Tuple.tupleTooMany (((its.toArray.size : Nat) : Int) * k) = false := by
        unfold Builtin.Tuple.tupleTooMany
        rw [sizeLine_eq]
        exact decide_eq_false (by omega)
      refine wpAny_binaryOp_repeat_ref (T := "tuple") (U := "int") (by decide) ⟨_, ho, rfl⟩ (fun s' => typeIs_int s' k t) noFill_tuple_mul F.fills_int_mul F.slot_int_rmul repeat_tuple F.slot_int_index.lookup
        (call_meets F.slot_int_rmul (typeIs_int s k t) F.entry_int_rmul (F.args_int_rmul_2 _ _) (int_rmul_tuple k t l its.toArray n dd sl)
          ⟨ho, rfl, ⟨_, ho, rfl⟩, call_meets F.slot_tuple_mul ⟨_, ho, rfl⟩ F.entry_tuple_mul (F.args_tuple_mul_2 _ _) (tuple_mulW l its.toArray n dd sl k t c0 c1 c2 (by omega) c4 (by rw [size_rep, List.size_toArray]; exact flen)) ⟨ho, ?_⟩⟩)
      rw [size_rep]
      refine laidF I ?_ (r.rep k.toNat) (q2 hne hk1)
      rw [PyProof.Rows.lm_len_rep_flat, sizeLine_eq]
      have a1 : k.toNat * xs.length ≤ 1000 * 1000 := Nat.mul_le_mul (by omega) hz
      omega
end
section
variable {S : Sc} {X : Cx}
def gAdd : D → D → Mem → Res D
  | .int i, .int j, M => .ok (.int (i + j)) M
  | .str a, .str b, M => if few (a.length + b.length) = true then .ok (.str (a ++ b)) M else .bad
  | .tup a, .tup b, M => if few (a.length + b.length) = true then .ok (.tup (a ++ b)) M else .bad
  | x, y, M => match listOf M x, listOf M y with | some a, some b => if few (a.length + b.length) = true then .ok (.lst (a ++ b)) M else .bad | _, _ => .bad
def rAddA (K : PySem.W.Frag) : R2 := fun x y H Q => (∃ i j, x = .int i ∧ y = .int j ∧ Q (.int (i + j)) H) ∨ (∃ i j, x = .str i ∧ y = .str j ∧ i.length + j.length ≤ sizeLine ∧ Q (.str (i ++ j)) H) ∨ rCatF K x y H Q ∨ rCat x y H Q
theorem op_addA : OpR X (binaryOp .Add) (rAddA X.K) := op_add.or (op_add_str.or (op_catF.or op_cat))
theorem rep_cat {ρ : List Addr} {H : Hp} {M : Mem} {a b : Addr} {xs ys : List V} {as bs : List D} {W : WX} {σ : L2.St} {Q : VK} (mo : MemOk S ρ H M) (fa : FzT H a xs) (na : a ∉ ρ) (ra : RepA S.K ρ H xs as) (fb : FzT H b ys) (nb : b ∉ ρ) (rb : RepA S.K ρ H ys bs) (hz : few (as.length + bs.length) = true) (p : Post S W (Rep S.K) σ ρ H Q (.ok (.tup (as ++ bs)) M)) : rCatF S.K (.ref a) (.ref b) H Q := by
  obtain ⟨oa, ha, ea⟩ := id fa
  obtain ⟨ob, hb, eb⟩ := id fb
  refine ⟨a, b, xs, ys, rfl, rfl, .inl (.inr ⟨oa, ea⟩), .inl (.inr ⟨ob, eb⟩), by rw [ra.len, rb.len]; exact few_ok hz, fun e => ?_, fun _ e => ?_, fun _ _ q o hq ho => p ρ _ _ (Stp.fresh mo hq) (rep_tup mo hq ho (ra.append rb))⟩
  · subst e
    cases ra
    exact p ρ H _ (Stp.refl mo) (.tup fb nb rb)
  · subst e
    cases rb
    rw [List.append_nil] at p
    exact p ρ H _ (Stp.refl mo) (.tup fa na ra)
theorem oq_add : OpQ S (rAddA S.K) gAdd := by
  intro W σ ρ H M x y dx dy Q mo rx ry p
  unfold gAdd at p
  split at p
  · cases rx; cases ry
    exact .inl ⟨_, _, rfl, rfl, p ρ H _ (Stp.refl mo) (.int _)⟩
  · split at p
    · rename_i hf
      cases rx; cases ry
      exact .inr (.inl ⟨_, _, rfl, rfl, few_ok hf, p ρ H _ (Stp.refl mo) (.str _)⟩)
    · exact p.elim
  · split at p
    · rename_i hf
      cases rx with
      | tup fa na ra =>
        cases ry with
        | tup fb nb rb => exact .inr (.inr (.inl (rep_cat mo fa na ra fb nb rb hf p)))
    · exact p.elim
  · split at p
    · rename_i a b h1 h2
      split at p
      · rename_i hf
        obtain ⟨l, xs, rfl, e1, ra⟩ := list_of mo rx h1
        obtain ⟨l2, ys, rfl, e2, rb⟩ := list_of mo ry h2
        exact .inr (.inr (.inr ⟨l, l2, xs, ys, rfl, rfl, e1, e2, by rw [ra.len, rb.len]; exact few_ok hf, fun q hq => p ρ _ _ (Stp.fresh mo hq) (rep_lst mo hq (ra.append rb))⟩))
      · exact p.elim
    · exact p.elim
def gSub : D → D → Mem → Res D
  | .int i, .int j, M => .ok (.int (i - j)) M
  | _, _, _ => .bad
theorem oq_sub : OpQ S (rI0 fun i j => .int (i - j)) gSub := by
  intro W σ ρ H M x y dx dy Q mo rx ry p
  unfold gSub at p
  split at p
  · cases rx; cases ry
    exact ⟨_, _, rfl, rfl, p ρ H _ (Stp.refl mo) (.int _)⟩
  · exact p.elim
def mulOk (i j : Int) : Bool := Nat.blt (i.natAbs.log2 + j.natAbs.log2) 1000000
abbrev thou (k : Int) : Bool := decide (-1000 ≤ k) && decide (k ≤ 1000)
def gMul : D → D → Mem → Res D
  | .int i, .int j, M => if mulOk i j = true then .ok (.int (i * j)) M else .bad
  | .tup a, .int k, M => if (thou k && Nat.ble a.length 1000) = true then .ok (.tup (List.replicate k.toNat a).flatten) M else .bad
  | x, .int k, M => match listOf M x with | some a => if (thou k && Nat.ble a.length 1000) = true then .ok (.lst (List.replicate k.toNat a).flatten) M else .bad | none => .bad
  | _, _, _ => .bad
def rMulA (K : PySem.W.Frag) : R2 := fun x y H Q => rI CMulW (fun i j => .int (i * j)) x y H Q ∨ rRepF K x y H Q ∨ rRep x y H Q
theorem op_mulA : OpR X (binaryOp .Mult) (rMulA X.K) := op_mulW.or (op_repF.or op_rep)
theorem thou_ok {k : Int} {n : Nat} (h : (thou k && Nat.ble n 1000) = true) : -1000 ≤ k ∧ k ≤ 1000 ∧ n ≤ 1000 := by
  rw [Bool.and_eq_true, Bool.and_eq_true, decide_eq_true_eq, decide_eq_true_eq] at h
  exact ⟨h.1.1, h.1.2, Nat.le_of_ble_eq_true h.2⟩
theorem oq_mul : OpQ S (rMulA S.K) gMul := by
  intro W σ ρ H M x y dx dy Q mo rx ry p
  unfold gMul at p
  split at p
  · split at p
    · rename_i hm
      cases rx; cases ry
      exact .inl ⟨_, _, rfl, rfl, (show CMulW _ _ from by unfold CMulW; simpa [mulOk, Nat.blt_eq] using hm), p ρ H _ (Stp.refl mo) (.int _)⟩
    · exact p.elim
  · split at p
    · rename_i hm
      obtain ⟨h1, h2, h3⟩ := thou_ok hm
      cases ry
      cases rx with
      | tup fa na ra =>
        obtain ⟨oa, ha, ea⟩ := id fa
        refine .inr (.inl ⟨_, _, _, rfl, rfl, .inl (.inr ⟨oa, ea⟩), h1, h2, by rw [ra.len]; exact h3, fun e => ?_, fun _ _ q o hq ho => p ρ _ _ (Stp.fresh mo hq) (rep_tup mo hq ho (ra.rep _))⟩)
        refine p ρ H _ (Stp.refl mo) (.tup fa na ?_)
        rcases e with e | e
        · subst e
          cases ra
          have : ∀ n : Nat, (List.replicate n ([] : List D)).flatten = [] := fun n => by simp
          rw [this]
          exact .nil
        · subst e
          show RepA S.K ρ H _ (List.replicate 1 _).flatten
          rw [show (List.replicate 1 _).flatten = (_ : List D) ++ [] from rfl, List.append_nil]
          exact ra
    · exact p.elim
  · split at p
    · rename_i a h1
      split at p
      · rename_i hm
        obtain ⟨g1, g2, g3⟩ := thou_ok hm
        cases ry
        obtain ⟨l, xs, rfl, e1, ra⟩ := list_of mo rx h1
        refine .inr (.inr ⟨l, _, xs, rfl, rfl, e1, by omega, by omega, ?_, fun q hq => p ρ _ _ (Stp.fresh mo hq) (rep_lst mo hq (ra.rep _))⟩)
        rw [ra.len, sizeLine_eq]
        have a0 : ∀ k : Int, k ≤ 1000 → a.length * k.toNat ≤ 1000 * 1000 := fun k hk => Nat.mul_le_mul g3 (by omega)
        have a1 := a0 _ g2
        omega
      · exact p.elim
    · exact p.elim
  · exact p.elim
def gMod : D → D → Mem → Res D
  | .int i, .int j, M => if decide (0 < j) = true then .ok (.int (i % j)) M else .bad
  | _, _, _ => .bad
theorem oq_mod : OpQ S (rI (fun _ j => 0 < j) fun i j => .int (i % j)) gMod := by
  intro W σ ρ H M x y dx dy Q mo rx ry p
  unfold gMod at p
  split at p
  · split at p
    · rename_i hm
      cases rx; cases ry
      exact ⟨_, _, rfl, rfl, of_decide_eq_true hm, p ρ H _ (Stp.refl mo) (.int _)⟩
    · exact p.elim
  · exact p.elim
def gFdiv : D → D → Mem → Res D
  | .int i, .int j, M => if (decide (0 < j) && Nat.blt j.natAbs.log2 9000) = true then .ok (.int (i / j)) M else .bad
  | _, _, _ => .bad
theorem oq_fdiv : OpQ S (rI CDivW fun i j => .int (i / j)) gFdiv := by
  intro W σ ρ H M x y dx dy Q mo rx ry p
  unfold gFdiv at p
  split at p
  · split at p
    · rename_i hm
      rw [Bool.and_eq_true, decide_eq_true_eq, Nat.blt_eq] at hm
      cases rx; cases ry
      exact ⟨_, _, rfl, rfl, hm, p ρ H _ (Stp.refl mo) (.int _)⟩
    · exact p.elim
  · exact p.elim
def gPow : D → D → Mem → Res D
  | .int i, .int j, M => if (decide (0 ≤ j) && decide (j ≤ 1000000) && Nat.blt i.natAbs 18446744073709551616) = true then .ok (.int (i ^ j.toNat)) M else .bad
  | _, _, _ => .bad
theorem oq_pow : OpQ S (rI CPow fun i j => .int (i ^ j.toNat)) gPow := by
  intro W σ ρ H M x y dx dy Q mo rx ry p
  unfold gPow at p
  split at p
  · split at p
    · rename_i hm
      rw [Bool.and_eq_true, Bool.and_eq_true, decide_eq_true_eq, decide_eq_true_eq, Nat.blt_eq] at hm
      cases rx; cases ry
      exact ⟨_, _, rfl, rfl, ⟨hm.1.1, hm.1.2, by have := hm.2; omega⟩, p ρ H _ (Stp.refl mo) (.int _)⟩
    · exact p.elim
  · exact p.elim
def gCmp (f : Int → Int → Bool) : D → D → Mem → Res D
  | .int i, .int j, M => .ok (.bl (f i j)) M
  | _, _, _ => .bad
theorem oq_cmp (f : Int → Int → Bool) : OpQ S (rI0 fun i j => .bl (f i j)) (gCmp f) := by
  intro W σ ρ H M x y dx dy Q mo rx ry p
  unfold gCmp at p
  split at p
  · cases rx; cases ry
    exact ⟨_, _, rfl, rfl, p ρ H _ (Stp.refl mo) (.bl _)⟩
  · exact p.elim
theorem flat_cmp (f : Int → Int → Bool) : Flat (gCmp f) := by
  intro x y M
  unfold gCmp
  split
  · exact .inl ⟨_, rfl⟩
  · exact .inr rfl
def gIsN (neg : Bool) : D → D → Mem → Res D
  | .adr _, _, _ => .bad
  | .non, .non, M => .ok (.bl (!neg)) M
  | _, .non, M => .ok (.bl neg) M
  | _, _, _ => .bad
theorem not_non {K : PySem.W.Frag} {ρ : List Addr} {H : Hp} {x : V} {d : D} (r : Rep K ρ H x d) (h1 : d ≠ .non) (h2 : ∀ v, d ≠ .adr v) : x ≠ .non := by
  intro e
  subst e
  cases r with
  | non => exact h1 rfl
  | adr => exact h2 _ rfl
theorem oq_isN : OpQ S (fun x y H Q => y = .non ∧ Q (.bl (decide (x = .non))) H) (gIsN false) := by
  intro W σ ρ H M x y dx dy Q mo rx ry p
  unfold gIsN at p
  split at p
  · exact p.elim
  · cases rx; cases ry
    exact ⟨rfl, p ρ H _ (Stp.refl mo) (.bl _)⟩
  · rename_i h1 h2
    cases ry
    refine ⟨rfl, ?_⟩
    rw [decide_eq_false (not_non rx (fun e => h2 e) h1)]
    exact p ρ H _ (Stp.refl mo) (.bl _)
  · exact p.elim
mutual
def D.py : D → Option PyData
  | .non => some .none
  | .bl b => some (.bool b)
  | .int i => some (.int i)
  | .str x => some (.str x)
  | .tup ds => (match D.pyA ds with | some ps => some (.tuple ps) | none => none)
  | .lst ds => (match D.pyA ds with | some ps => some (.list ps) | none => none)
  | _ => none
def D.pyA : List D → Option (List PyData)
  | [] => some []
  | d :: ds => (match D.py d, D.pyA ds with | some p, some ps => some (p :: ps) | _, _ => none)
end
def toPy (M : Mem) : D → Option PyData
  | .ref n => (match M[n]? with | some (.lst ds) => (match D.pyA ds with | some ps => some (.list ps) | none => none) | _ => none)
  | d => D.py d
mutual
theorem py_dp {K : PySem.W.Frag} {ρ : List Addr} {H : Hp} : ∀ (d : D) (v : V) (p : PyData), Rep K ρ H v d → D.py d = some p → Dp K H v p
  | .non, _, _, r, h => by cases r; cases h; exact .non
  | .bl b, _, _, r, h => by cases r; cases h; exact .bl b
  | .int i, _, _, r, h => by cases r; cases h; exact .int i
  | .str x, _, _, r, h => by cases r; cases h; exact .str x
  | .tup ds, _, _, r, h => by
    unfold D.py at h
    split at h
    · rename_i ps e
      cases h
      cases r with
      | tup f n ra =>
        obtain ⟨o, _, e1⟩ := f
        exact .tup (.inl (.inr ⟨o, e1⟩)) (pyA_dp ds _ _ ra e)
    · cases h
  | .lst ds, _, _, r, h => by
    unfold D.py at h
    split at h
    · rename_i ps e
      cases h
      cases r with
      | lst f n ra => exact .lst (SqL.of f) (pyA_dp ds _ _ ra e)
    · cases h
  | .dct _ _, _, _, _, h => by cases h
  | .scr _, _, _, _, h => by cases h
  | .ref _, _, _, _, h => by cases h
  | .adr _, _, _, _, h => by cases h
theorem pyA_dp {K : PySem.W.Frag} {ρ : List Addr} {H : Hp} : ∀ (ds : List D) (vs : List V) (ps : List PyData), RepA K ρ H vs ds → D.pyA ds = some ps → DpAll K H vs ps
  | [], _, _, r, h => by cases r; cases h; exact .nil
  | d :: ds, _, _, r, h => by
    unfold D.pyA at h
    split at h
    · rename_i p ps e1 e2
      cases h
      cases r with
      | cons r1 r2 => exact .cons (py_dp d _ _ r1 e1) (pyA_dp ds _ _ r2 e2)
    · cases h
end
theorem toPy_dp {ρ : List Addr} {H : Hp} {M : Mem} {d : D} {v : V} {p : PyData} (mo : MemOk S ρ H M) (r : Rep S.K ρ H v d) (h : toPy M d = some p) : Dp S.K H v p := by
  unfold toPy at h
  split at h
  · split at h
    · rename_i ds hm
      split at h
      · rename_i ps e
        cases h
        cases r with
        | ref f =>
          obtain ⟨xs, e1, ra⟩ := mo.cell _ _ _ f hm
          exact .lst (SqL.of e1) (pyA_dp ds _ _ ra e)
      · cases h
    · cases h
  · exact py_dp _ _ _ r h
def gEq (neg : Bool) (x y : D) (M : Mem) : Res D := match toPy M x, toPy M y with
  | some a, some b => if (SeqAt.shaped a && SeqAt.shaped b) = true then .ok (.bl (if neg = true then !PyData.eqv a b else PyData.eqv a b)) M else .bad
  | _, _ => .bad
theorem oq_eq : OpQ S (rEqD S.K) (gEq false) := by
  intro W σ ρ H M x y dx dy Q mo rx ry p
  unfold gEq at p
  split at p
  · rename_i a b h1 h2
    split at p
    · rename_i hs
      rw [Bool.and_eq_true] at hs
      exact ⟨a, b, toPy_dp mo rx h1, toPy_dp mo ry h2, hs.1, hs.2, p ρ H _ (Stp.refl mo) (.bl _)⟩
    · exact p.elim
  · exact p.elim
theorem oq_ne : OpQ S (rNeD S.K) (gEq true) := by
  intro W σ ρ H M x y dx dy Q mo rx ry p
  unfold gEq at p
  split at p
  · rename_i a b h1 h2
    split at p
    · rename_i hs
      rw [Bool.and_eq_true] at hs
      exact ⟨a, b, toPy_dp mo rx h1, toPy_dp mo ry h2, hs.1, hs.2, p ρ H _ (Stp.refl mo) (.bl _)⟩
    · exact p.elim
  · exact p.elim
def gNeg : D → Mem → Res D
  | .int i, M => .ok (.int (-i)) M
  | _, _ => .bad
def fUn (g : D → Mem → Res D) (f : F D) : F D := fun σ M => (f σ M).bind g
theorem qe_neg {W : WX} {a : Expr} {pos : Pos} {fa : F D} (ha : QE S W X a fa) : QE S W X (.UnaryOp .USub a pos) (fUn gNeg fa) := PE.imp (pe_un un_neg ha) fun σ H Q ⟨ρ, M, σa, mo, rs, p⟩ => by
  refine use mo rs p fun x M1 ρ1 H1 v st1 r1 rs1 p1 => ?_
  cases x with
  | int i => cases r1; exact ⟨i, rfl, p1 ρ1 H1 _ (Stp.refl st1.2) (.int _)⟩
  | _ => exact False.elim p1
end
section
variable {S : Sc} {X : Cx} {W : WX}
def CallQ (S : Sc) (r : List V → Hp → VK → Prop) (g : List D → Mem → Res D) : Prop := ∀ (W : WX) (σ : L2.St) (ρ : List Addr) (H : Hp) (M : Mem) (xs : List V) (ds : List D) (Q : VK), MemOk S ρ H M → RepA S.K ρ H xs ds → Post S W (Rep S.K) σ ρ H Q (g ds M) → r xs H Q
theorem cb_imp {r : List V → Hp → VK → Prop} {g : List D → Mem → Res D} {fs : F (List D)} (hq : CallQ S r g) {σ : L2.St} {H : Hp} {Q : VK} (h : tOf S W (Rep S.K) (fCall g fs) σ H Q) : tCB r (tOf S W (RepA S.K) fs) σ H Q := by
  obtain ⟨ρ, M, σa, mo, rs, p⟩ := h
  exact use mo rs p fun ds M1 ρ1 H1 vs st1 r1 rs1 p1 => hq _ _ _ _ _ _ _ _ st1.2 r1 p1
variable {e : Expr} {es : List Expr} {fs : F (List D)} {x : Str} {p pos : Pos}
theorem qe_callB {id : String} {r : List V → Hp → VK → Prop} {g : List D → Mem → Res D} (hc : CallR X (.builtin id) r) (hq : CallQ S r g) (hg : Gl X x) (hm : X.mg x = none) (hv : bootBuiltins x = some (.builtin id)) (ha : QA S W X (e :: es) fs) (hn : x ≠ "__name__" := by decide) (hdb : (x == ("__debug__" : Str)) = false := by decide)
    (he : starEach (e :: es) X.env = (false, eval e X.env) :: starEach es X.env := by rfl) (hpl : (backTo pos (starEach es X.env)).any (·.1) = false := by rfl) : QE S W X (.Call (.Name x p) (e :: es) [] pos) (fCall g fs) := PE.imp (pe_callB hc hg hm hv ha hn hdb he hpl) fun _ _ _ h => cb_imp hq h
theorem qe_callTy {id : String} {r : List V → Hp → VK → Prop} {g : List D → Mem → Res D} (hc : CallR X (.type id) r) (hq : CallQ S r g) (hg : Gl X x) (hm : X.mg x = none) (hv : bootBuiltins x = some (.type id)) (ha : QA S W X (e :: es) fs) (hn : x ≠ "__name__" := by decide) (hdb : (x == ("__debug__" : Str)) = false := by decide)
    (he : starEach (e :: es) X.env = (false, eval e X.env) :: starEach es X.env := by rfl) (hpl : (backTo pos (starEach es X.env)).any (·.1) = false := by rfl) : QE S W X (.Call (.Name x p) (e :: es) [] pos) (fCall g fs) := PE.imp (pe_callTy hc hg hm hv ha hn hdb he hpl) fun _ _ _ h => cb_imp hq h
end
end QX
set_option maxRecDepth 100000
set_option maxHeartbeats 2000000
namespace QX
open PySem PySem.Spec PyProof.Rows L2 HX
section
variable {S : Sc} {X : Cx} {W : WX}
inductive Ty where
  | none | bool | int | str | tuple | list | dict
  deriving DecidableEq
def Ty.name : Ty → String
  | .none => "NoneType" | .bool => "bool" | .int => "int" | .str => "str" | .tuple => "tuple" | .list => "list" | .dict => "dict"
def D.ty : D → Option Ty
  | .non => some .none
  | .bl _ => some .bool
  | .int _ => some .int
  | .str _ => some .str
  | .tup _ => some .tuple
  | .lst _ => some .list
  | .dct _ _ => some .dict
  | .ref _ => none
  | .scr _ => none
  | .adr _ => none
def Ty.is (t c : Ty) : Bool := decide (t = c) || (decide (t = .bool) && decide (c = .int))
theorem kit_is : ∀ t c : Ty, c ≠ .none → kitB t.name c.name = some (t.is c) := by
  intro t c h
  cases c with
  | none => exact absurd rfl h
  | _ => cases t <;> decide +kernel
theorem ty_ok {ρ : List Addr} {H : Hp} {M : Mem} {v : V} {d : D} {t : Ty} (mo : MemOk S ρ H M) (r : Rep S.K ρ H v d) (h : d.ty = some t) : TyX S.K H v (.type t.name) := by
  cases r with
  | non => cases h; exact .base .non
  | bl b => cases h; exact .base (.bl b)
  | int i => cases h; exact .base (.int i)
  | str x => cases h; exact .base (.str x)
  | tup f n ra =>
    cases h
    obtain ⟨o, _, e⟩ := f
    exact .fTuple e
  | lst e n ra => cases h; exact .base (.lst e)
  | dct e n hk ra => cases h; exact .base (.dK e)
  | scr f => cases h
  | ref f => cases h
  | adr v => cases h
def gIsi (c : Ty) : List D → Mem → Res D
  | [d, .adr (.ty n)], M => if n = c.name then (match d.ty with | some t => .ok (.bl (t.is c)) M | none => .bad) else .bad
  | _, _ => .bad
theorem cq_isi (c : Ty) (hc : c ≠ .none) : CallQ S (rIsi S.K) (gIsi c) := by
  intro W σ ρ H M xs ds Q mo ra p
  unfold gIsi at p
  split at p
  · split at p
    · rename_i hn
      split at p
      · rename_i t ht
        obtain ⟨v, v2, rfl, r1, r2⟩ := RepA.two ra
        cases r2
        subst hn
        exact ⟨v, _, _, _, _, rfl, .ty _, ty_ok mo r1 ht, kit_ty (kit_is t c hc), p ρ H _ (Stp.refl mo) (.bl _)⟩
      · exact p.elim
    · exact p.elim
  · exact p.elim
def gLen : List D → Mem → Res D
  | [.str z], M => if few z.length = true then .ok (.int z.length) M else .bad
  | [d], M => (match seqOf M d with | some ds => .ok (.int ds.length) M | none => .bad)
  | _, _ => .bad
def rLenA (K : PySem.W.Frag) : List V → Hp → VK → Prop := fun xs H Q => (∃ p ys, xs = [.ref p] ∧ (SqL K H p ys ∨ SqT K H p ys) ∧ Q (.int ys.length) H) ∨ ∃ z, xs = [.str z] ∧ z.length ≤ sizeLine ∧ Q (.int z.length) H
theorem call_lenA : CallR X (.builtin "len") (rLenA X.K) := call_len_seq.or call_len_str
theorem cq_len : CallQ S (rLenA S.K) gLen := by
  intro W σ ρ H M xs ds Q mo ra p
  unfold gLen at p
  split at p
  · split at p
    · rename_i hf
      obtain ⟨v, rfl, r⟩ := RepA.one ra
      cases r
      exact .inr ⟨_, rfl, few_ok hf, p ρ H _ (Stp.refl mo) (.int _)⟩
    · exact p.elim
  · split at p
    · rename_i ds hs
      obtain ⟨v, rfl, r⟩ := RepA.one ra
      obtain ⟨a, ys, rfl, hq, rb⟩ := seq_of mo r hs
      refine .inl ⟨a, ys, rfl, hq, ?_⟩
      rw [rb.len]
      exact p ρ H _ (Stp.refl mo) (.int _)
    · exact p.elim
  · exact p.elim
def blsOf : List D → Option (List Bool)
  | [] => some []
  | .bl b :: ds => (match blsOf ds with | some bs => some (b :: bs) | none => none)
  | _ => none
def intsOf : List D → Option (List Int)
  | [] => some []
  | .int b :: ds => (match intsOf ds with | some bs => some (b :: bs) | none => none)
  | _ => none
theorem bls_ok {K : PySem.W.Frag} {ρ : List Addr} {H : Hp} : ∀ (ds : List D) (xs : List V) (bs : List Bool), RepA K ρ H xs ds → blsOf ds = some bs → xs = bs.map V.bl
  | [], _, _, r, h => by cases r; cases h; rfl
  | d :: ds, _, bs, r, h => by
    cases r with
    | cons r1 r2 =>
      cases d with
      | bl b =>
        unfold blsOf at h
        split at h
        · rename_i bs' e
          cases h
          cases r1
          rw [List.map_cons, bls_ok ds _ _ r2 e]
        · cases h
      | _ => cases h
theorem ints_ok {K : PySem.W.Frag} {ρ : List Addr} {H : Hp} : ∀ (ds : List D) (xs : List V) (bs : List Int), RepA K ρ H xs ds → intsOf ds = some bs → xs = bs.map V.int
  | [], _, _, r, h => by cases r; cases h; rfl
  | d :: ds, _, bs, r, h => by
    cases r with
    | cons r1 r2 =>
      cases d with
      | int b =>
        unfold intsOf at h
        split at h
        · rename_i bs' e
          cases h
          cases r1
          rw [List.map_cons, ints_ok ds _ _ r2 e]
        · cases h
      | _ => cases h
def gAll : List D → Mem → Res D
  | [d], M => (match listOf M d with | some ds => (match blsOf ds with | some bs => .ok (.bl (bs.all id)) M | none => .bad) | none => .bad)
  | _, _ => .bad
theorem cq_all : CallQ S (rAll S.K) gAll := by
  intro W σ ρ H M xs ds Q mo ra p
  unfold gAll at p
  split at p
  · split at p
    · rename_i es hl
      split at p
      · rename_i bs hb
        obtain ⟨v, rfl, r⟩ := RepA.one ra
        obtain ⟨a, ys, rfl, e, rb⟩ := list_of mo r hl
        rw [bls_ok es ys bs rb hb] at e
        exact ⟨a, bs, rfl, SqL.of e, p ρ H _ (Stp.refl mo) (.bl _)⟩
      · exact p.elim
    · exact p.elim
  · exact p.elim
def gMax2 : List D → Mem → Res D
  | [.int i, .int j], M => .ok (.int (if j > i then j else i)) M
  | _, _ => .bad
def gMin2 : List D → Mem → Res D
  | [.int i, .int j], M => .ok (.int (if j < i then j else i)) M
  | _, _ => .bad
theorem cq_max2 : CallQ S (fun xs H Q => ∃ i j, xs = [.int i, .int j] ∧ Q (.int (if j > i then j else i)) H) gMax2 := by
  intro W σ ρ H M xs ds Q mo ra p
  unfold gMax2 at p
  split at p
  · obtain ⟨v, v2, rfl, r1, r2⟩ := RepA.two ra
    cases r1; cases r2
    exact ⟨_, _, rfl, p ρ H _ (Stp.refl mo) (.int _)⟩
  · exact p.elim
theorem cq_min2 : CallQ S (fun xs H Q => ∃ i j, xs = [.int i, .int j] ∧ Q (.int (if j < i then j else i)) H) gMin2 := by
  intro W σ ρ H M xs ds Q mo ra p
  unfold gMin2 at p
  split at p
  · obtain ⟨v, v2, rfl, r1, r2⟩ := RepA.two ra
    cases r1; cases r2
    exact ⟨_, _, rfl, p ρ H _ (Stp.refl mo) (.int _)⟩
  · exact p.elim
def gTuple : List D → Mem → Res D
  | [.tup ds], M => .ok (.tup ds) M
  | [d], M => (match listOf M d with | some ds => .ok (.tup ds) M | none => .bad)
  | _, _ => .bad
def rTupleA (K : PySem.W.Frag) : List V → Hp → VK → Prop := fun xs H Q => (∃ p ys, xs = [.ref p] ∧ SqL K H p ys ∧ ∀ l o, H l = none → o.dict = none → Q (.ref l) (upd H l (.frz o (.tup ys)))) ∨ ∃ a ys, xs = [.ref a] ∧ SqT K H a ys ∧ Q (.ref a) H
theorem call_tupleA : CallR X (.type "tuple") (rTupleA X.K) := call_tuple_frz.or call_tupleT
theorem cq_tuple : CallQ S (rTupleA S.K) gTuple := by
  intro W σ ρ H M xs ds Q mo ra p
  unfold gTuple at p
  split at p
  · obtain ⟨v, rfl, r⟩ := RepA.one ra
    have r' := r
    obtain ⟨a, ys, rfl, hq, rb, _, _⟩ := tup_of r
    exact .inr ⟨a, ys, rfl, hq, p ρ H _ (Stp.refl mo) r'⟩
  · split at p
    · rename_i es hl
      obtain ⟨v, rfl, r⟩ := RepA.one ra
      obtain ⟨a, ys, rfl, e, rb⟩ := list_of mo r hl
      exact .inl ⟨a, ys, rfl, SqL.of e, fun q o hq ho => p ρ _ _ (Stp.fresh mo hq) (rep_tup mo hq ho rb)⟩
    · exact p.elim
  · exact p.elim
def gList : List D → Mem → Res D
  | [d], M => (match seqOf M d with | some ds => .ok (.lst ds) M | none => .bad)
  | _, _ => .bad
def gListC : List D → Mem → Res D
  | [d], M => (match seqOf M d with | some ds => .ok (.ref M.length) (M ++ [.lst ds]) | none => .bad)
  | _, _ => .bad
def rListA (K : PySem.W.Frag) : List V → Hp → VK → Prop := fun xs H Q => ∃ p ys, xs = [.ref p] ∧ (SqL K H p ys ∨ SqT K H p ys) ∧ ∀ l, H l = none → Q (.ref l) (upd H l (.lst ys))
theorem call_listA : CallR X (.type "list") (rListA X.K) := call_list_of
theorem cq_listC : CallQ S (rListA S.K) gListC := by
  intro W σ ρ H M xs ds Q mo ra p
  unfold gListC at p
  split at p
  · split at p
    · rename_i es hl
      obtain ⟨v, rfl, r⟩ := RepA.one ra
      obtain ⟨a, ys, rfl, hq, rb⟩ := seq_of mo r hl
      exact ⟨a, ys, rfl, hq, fun q hq => p (ρ ++ [q]) _ _ (Stp.alloc mo hq rb) (rep_new mo)⟩
    · exact p.elim
  · exact p.elim
def gInt : List D → Mem → Res D
  | [.int i], M => .ok (.int i) M
  | [.bl b], M => .ok (.int (if b then 1 else 0)) M
  | _, _ => .bad
def numsD (lo : Int) : Nat → List D
  | 0 => []
  | n + 1 => .int lo :: numsD (lo + 1) n
theorem numsD_eq : ∀ (n : Nat) (lo : Int), numsD lo n = (List.range n).map fun i : Nat => D.int (lo + i)
  | 0, _ => rfl
  | n + 1, lo => by
    rw [numsD, numsD_eq n, List.range_succ_eq_map, List.map_cons, List.map_map]
    congr 1
    · simp
    · refine List.map_congr_left fun i _ => ?_
      simp only [Function.comp]
      congr 1
      omega
def rgOk (a b : Int) : Bool := mid a && mid b && Nat.ble (b - a).toNat 16777216
def fListRg (c : Bool) (fa : F D) (fb : F D) : F D := fun σ M => (fa σ M).bind fun x M1 => (fb σ M1).bind fun y M2 => match x, y with
  | .int a, .int b => if rgOk a b = true then (if c = true then .ok (.ref M2.length) (M2 ++ [.lst (numsD a (b - a).toNat)]) else .ok (.lst (numsD a (b - a).toNat)) M2) else .bad
  | _, _ => .bad
def fListRg1 (c : Bool) (fb : F D) : F D := fun σ M => (fb σ M).bind fun y M2 => match y with
  | .int b => if rgOk 0 b = true then (if c = true then .ok (.ref M2.length) (M2 ++ [.lst (numsD 0 (b - 0).toNat)]) else .ok (.lst (numsD 0 (b - 0).toNat)) M2) else .bad
  | _ => .bad
theorem rg_ok {a b : Int} (h : rgOk a b = true) : RgOk a b := by
  unfold rgOk at h
  rw [Bool.and_eq_true, Bool.and_eq_true] at h
  exact ⟨(mid_ok h.1.1).1, (mid_ok h.1.1).2, (mid_ok h.1.2).1, (mid_ok h.1.2).2, Nat.le_of_ble_eq_true h.2⟩
theorem rep_rg {K : PySem.W.Frag} {ρ : List Addr} {H : Hp} (a b : Int) : RepA K ρ H (rgV a b) (numsD a (b - a).toNat) := by
  rw [numsD_eq]
  unfold rgV
  generalize (b - a).toNat = n
  have : ∀ l : List Nat, RepA K ρ H (l.map fun i : Nat => V.int (a + i)) (l.map fun i : Nat => D.int (a + i)) := by
    intro l
    induction l with
    | nil => exact .nil
    | cons x l ih => exact .cons (.int _) ih
  exact this _
variable {a b : Expr} {fa fb : F D} {p p2 pos pos2 : Pos}
theorem rg_fin {c : Bool} {ρ : List Addr} {H : Hp} {M : Mem} {x y : Int} {σ : L2.St} {Q : VK} (mo : MemOk S ρ H M) (p1 : Post S W (Rep S.K) σ ρ H Q (if rgOk x y = true then (if c = true then .ok (.ref M.length) (M ++ [.lst (numsD x (y - x).toNat)]) else .ok (.lst (numsD x (y - x).toNat)) M) else .bad)) : RgOk x y ∧ ∀ q, H q = none → Q (.ref q) (upd H q (.lst (rgV x y))) := by
  split at p1
  · rename_i ho
    refine ⟨rg_ok ho, fun q hq => ?_⟩
    cases c with
    | true => exact p1 (ρ ++ [q]) _ _ (Stp.alloc mo hq (rep_rg x y)) (rep_new mo)
    | false => exact p1 ρ _ _ (Stp.fresh mo hq) (rep_lst mo hq (rep_rg x y))
  · exact p1.elim
theorem qe_listRg1 (c : Bool) (hc : X.calm = true) (hg : Gl X "list") (hm : X.mg "list" = none) (hg2 : Gl X "range") (hm2 : X.mg "range" = none) (ha : QE S W X a fa) (na : starEach [a] X.env = (false, eval a X.env) :: starEach [] X.env := by rfl)
    (nb : starEach [.Call (.Name "range" p) [a] [] pos] X.env = (false, eval (.Call (.Name "range" p) [a] [] pos) X.env) :: starEach [] X.env := by rfl) : QE S W X (.Call (.Name "list" p2) [.Call (.Name "range" p) [a] [] pos] [] pos2) (fListRg1 c fa) := by
  refine PE.imp (pe_listRg hc hg hm (prg_1 hg2 hm2 ha na) nb) fun σ H Q ⟨ρ, M, σa, mo, rs, p⟩ => ?_
  refine use mo rs p fun x M1 ρ1 H1 v st1 r1 rs1 p1 => ?_
  cases x with
  | int i =>
    cases r1
    exact ⟨i, rfl, rg_fin st1.2 p1⟩
  | _ => exact False.elim p1
def MtQ (S : Sc) (r : V → List V → Hp → VK → Prop) (g : D → List D → Mem → Res D) : Prop := ∀ (W : WX) (σ : L2.St) (ρ : List Addr) (H : Hp) (M : Mem) (x : V) (d : D) (xs : List V) (ds : List D) (Q : VK), MemOk S ρ H M → Rep S.K ρ H x d → RepA S.K ρ H xs ds → Post S W (Rep S.K) σ ρ H Q (g d ds M) → r x xs H Q
def isL (M : Mem) (d : D) : Bool := (listOf M d).isSome
def fMeth (g : D → List D → Mem → Res D) (fo : F D) (fs : F (List D)) : F D := fun σ M => (fo σ M).bind fun d M1 => if isL M1 d = true then (fs σ M1).bind fun ds M2 => g d ds M2 else .bad
variable {o e : Expr} {es : List Expr} {fo : F D} {fs : F (List D)} {name : Str} {id : String} {apos cpos : Pos} {r : V → List V → Hp → VK → Prop} {g : D → List D → Mem → Res D}
theorem isL_ty {ρ : List Addr} {H : Hp} {M : Mem} {v : V} {d : D} (mo : MemOk S ρ H M) (r : Rep S.K ρ H v d) (h : isL M d = true) : tyV S.K "list" v H := by
  unfold isL at h
  obtain ⟨ds, e⟩ := Option.isSome_iff_exists.mp h
  obtain ⟨a, xs, rfl, e1, _⟩ := list_of mo r e
  exact .inl ⟨rfl, xs, SqL.of e1⟩
theorem qe_bm (hk : X.K = S.K) (pa : PlainAttrs "list") (slot : Slot "list" name id) (hty : typeOf (.builtin id) = pure (.type "method_descriptor")) (hm : MtR X id r) (hq : MtQ S r g) (ho : QE S W X o fo) (ha : QA S W X (e :: es) fs)
    (hbase : attributeBase o name X.env (eval o X.env) = eval o X.env := by rfl)
    (hfew : ((backTo cpos (starEach (e :: es) X.env)).all (fun x => !x.1) && (backToKw cpos (keywordEach [] X.env)).all (fun x => x.1.isSome)
      && decide ((e :: es).length + ([] : List Keyword).length + (if ([] : List Keyword).isEmpty then 0 else 1) < 30)) = true := by rfl)
    (hline : (apos.endLine == cpos.line) = true := by rfl) (hs : starEach (e :: es) X.env = (false, eval e X.env) :: starEach es X.env := by rfl) (hplain : (backTo cpos (starEach es X.env)).any (·.1) = false := by rfl) :
    QE S W X (.Call (.Attribute o name apos) (e :: es) [] cpos) (fMeth g fo fs) := by
  have h := pe_bm pa slot hty hm ho ha hbase hfew hline hs hplain
  rw [hk] at h
  refine PE.imp h fun σ H Q ⟨ρ, M, σa, mo, rs, p⟩ => ?_
  refine use mo rs p fun d M1 ρ1 H1 v st1 r1 rs1 p1 => ?_
  split at p1
  · rename_i hl
    refine ⟨isL_ty st1.2 r1 hl, use st1.2 rs1 p1 fun ds M2 ρ2 H2 vs st2 r2 rs2 p2 => hq _ _ _ _ _ _ _ _ _ _ st2.2 (Rep.mono st2.1 _ _ r1) r2 p2⟩
  · exact p1.elim
theorem qe_bm0 (hk : X.K = S.K) (pa : PlainAttrs "list") (slot : Slot "list" name id) (hty : typeOf (.builtin id) = pure (.type "method_descriptor")) (hm : MtR X id r) (hq : MtQ S r g) (ho : QE S W X o fo)
    (hbase : attributeBase o name X.env (eval o X.env) = eval o X.env := by rfl) (hline : (apos.endLine == cpos.line) = true := by rfl) : QE S W X (.Call (.Attribute o name apos) [] [] cpos) (fMeth g fo fNil) := by
  have h := pe_bm0 pa slot hty hm ho hbase hline
  rw [hk] at h
  refine PE.imp h fun σ H Q ⟨ρ, M, σa, mo, rs, p⟩ => ?_
  refine use mo rs p fun d M1 ρ1 H1 v st1 r1 rs1 p1 => ?_
  split at p1
  · rename_i hl
    exact ⟨isL_ty st1.2 r1 hl, hq _ _ _ _ _ _ _ _ _ _ st1.2 r1 .nil p1⟩
  · exact p1.elim
def gAppend : D → List D → Mem → Res D
  | .ref n, [d], M => (match M[n]? with | some (.lst ds) => if Nat.blt ds.length 16777216 = true then .ok .non (M.set n (.lst (ds ++ [d]))) else .bad | _ => .bad)
  | _, _, _ => .bad
theorem mq_append : MtQ S rAppend gAppend := by
  intro W σ ρ H M x d xs ds Q mo rx ra p
  unfold gAppend at p
  split at p
  · split at p
    · rename_i es hm
      split at p
      · rename_i hf
        obtain ⟨v, rfl, r⟩ := RepA.one ra
        cases rx with
        | ref f =>
          obtain ⟨ys, e, rb⟩ := mo.cell _ _ _ f hm
          refine ⟨_, ys, v, rfl, rfl, e, ?_, p ρ _ _ (Stp.put mo f hm (rb.append (.cons r .nil))) .non⟩
          rw [rb.len, sizeLine_eq]
          simpa [Nat.blt_eq] using hf
      · exact p.elim
    · exact p.elim
  · exact p.elim
def gPop : D → List D → Mem → Res D
  | .ref n, [], M => (match M[n]? with | some (.lst ds) => (match ds[ds.length - 1]? with | some d => .ok d (M.set n (.lst ds.dropLast)) | none => .bad) | _ => .bad)
  | _, _, _ => .bad
theorem mq_pop : MtQ S rPop gPop := by
  intro W σ ρ H M x d xs ds Q mo rx ra p
  unfold gPop at p
  split at p
  · split at p
    · rename_i es hm
      split at p
      · rename_i d hd
        cases ra
        cases rx with
        | ref f =>
          obtain ⟨ys, e, rb⟩ := mo.cell _ _ _ f hm
          obtain ⟨v, hv, rv⟩ := rb.at hd
          rw [← rb.len] at hv
          have sp := Stp.put mo f hm rb.dropLast
          exact ⟨_, ys, v, rfl, rfl, e, hv, p ρ _ _ sp (Rep.mono sp.1 _ _ rv)⟩
      · exact p.elim
    · exact p.elim
  · exact p.elim
end
end QX
set_option maxRecDepth 100000
set_option maxHeartbeats 2000000
namespace QX
open PySem PySem.Spec PyProof.Rows L2 HX
section
variable {X : Cx} {S : Sc} {W : WX}
section
variable {i : Nat} {y : Str} {py : Pos} {elt tg iter : Expr} {ifs : List Expr} {scope : Scope} {own : List (Str × Nat)} {pos spos : Pos} {fi : F Ita} {t : Tg} {c : F Bool} {e : F D}
theorem setLc_imp {f : F D} {tt : TE} (h : ∀ σ H Q, tOf S W (Rep S.K) f σ H Q → tt σ H Q) {E : Ends} {σ : L2.St} {H : Hp} (q : tOfS S W (sSet i f) E σ H) : tAsg tt (gName i) E σ H := h _ _ _ (asg_imp q)
theorem qs_setLc (hc : X.calm = true) (hN : X.N.Nodup) (hy : X.N[i]? = some y) (hyl : X.env.scope.names.lookup y = some .local)
    (hsw : swapsWith (.ListComp elt [⟨tg, iter, ifs, 0⟩] scope pos) (some (.Name y py)) spos.line X.env = pure true) (hi : QI S W X tg iter fi) (ok : BlkOk X.N X.env.scope scope own)
    (hg : ∀ (s : Shared) (H : Hp) (C : Addr) (cl : List (Str × Addr)) (fp : List Addr), QG S (X.blk s H scope (compEnvC scope cl C X.env) fp) tg t) (ht : ∀ (s : Shared) (H : Hp) (C : Addr) (cl : List (Str × Addr)) (fp : List Addr), QTs S W0 (X.blk s H scope (compEnvC scope cl C X.env) fp) ifs c)
    (he : ∀ (s : Shared) (H : Hp) (C : Addr) (cl : List (Str × Addr)) (fp : List Addr), QE S W0 (X.blk s H scope (compEnvC scope cl C X.env) fp) elt e) (hsl : ∀ i ∈ t.slots, i ∈ own.map (·.2) := by decide) (hs : ∀ x, foldedSetIterable iter X.env x = pure x := by intro _; rfl) :
    QS S W X (.Assign [.Name y py] (.ListComp elt [⟨tg, iter, ifs, 0⟩] scope pos) spos) (sSet i (fTrim (fCompC fi (own.map (·.2)) t c e))) :=
  PS.imp (ps_setLc hc hN hy hyl hsw hi ok hg ht he hs) fun _ _ _ h => setLc_imp (fun σ H Q ⟨ρ, M, σa, mo, rs, p⟩ => lc_imp hsl ⟨ρ, M, σa, mo, rs, Post.trim mo p⟩) h
end
def D.flat : D → Option V
  | .non => some .non
  | .bl b => some (.bl b)
  | .int i => some (.int i)
  | .str x => some (.str x)
  | _ => none
def flats : List D → Option (List V)
  | [] => some []
  | d :: ds => (match d.flat, flats ds with | some v, some vs => some (v :: vs) | _, _ => none)
def gCountT (x : D) (ds : List D) (M : Mem) : Res D := match x, ds with
  | .tup es, [y] => (match y.flat, flats es with | some v, some vs => .ok (.int ((vs.countP fun z => eqV z v : Nat) : Int)) M | _, _ => .bad)
  | _, _ => .bad
def fCountT (fo : F D) (fs : F (List D)) : F D := fun σ M => (fo σ M).bind fun d M1 => match d with | .tup es => (fs σ M1).bind fun ds M2 => gCountT (.tup es) ds M2 | _ => .bad
variable {o e : Expr} {es : List Expr} {fo : F D} {fs : F (List D)} {apos cpos : Pos}
def gTru (d : D) (M : Mem) : Res Bool := match d with
  | .non => .ok false M
  | .bl b => .ok b M
  | .int i => .ok (i != 0) M
  | d => match seqOf M d with | some ds => .ok (!ds.isEmpty) M | none => .bad
def fTru (f : F D) : F Bool := fun σ M => (f σ M).bind gTru
theorem isEmpty_rep {K : PySem.W.Frag} {ρ : List Addr} {H : Hp} {xs : List V} {ds : List D} (r : RepA K ρ H xs ds) : ds.isEmpty = xs.isEmpty := by cases r <;> rfl
theorem qt_tru {a : Expr} {fa : F D} (hk : X.K = S.K) (ha : QE S W X a fa) (he : ∀ whole, isTrue a X.env whole = (do let v ← whole; standAt a.pos; holding [v] (truthy v)) := by intro _; rfl) : QT S W X a (fTru fa) := by
  have h := pt_truth ha he
  rw [hk] at h
  refine PT.imp h fun σ H Q ⟨ρ, M, σa, mo, rs, p⟩ => ?_
  refine use mo rs p fun d M1 ρ1 H1 v st1 r1 rs1 p1 => ?_
  unfold gTru at p1
  split at p1
  · cases r1; exact ⟨false, rfl, p1 ρ1 H1 _ (Stp.refl st1.2) rfl⟩
  · cases r1; exact ⟨_, rfl, p1 ρ1 H1 _ (Stp.refl st1.2) rfl⟩
  · cases r1; exact ⟨_, rfl, p1 ρ1 H1 _ (Stp.refl st1.2) rfl⟩
  · split at p1
    · rename_i ds hs
      obtain ⟨a, xs, rfl, hq, ra⟩ := seq_of st1.2 r1 hs
      rw [isEmpty_rep ra] at p1
      rcases hq with hq | hq
      · exact ⟨_, .inl ⟨xs, hq, rfl⟩, p1 ρ1 H1 _ (Stp.refl st1.2) rfl⟩
      · exact ⟨_, .inr (.inl ⟨xs, hq, rfl⟩), p1 ρ1 H1 _ (Stp.refl st1.2) rfl⟩
    · exact p1.elim
mutual
def withinB : PyData → Bool
  | .int i => decide (-100000000000000000000000000000000000000000000000000000000000000000000000000000000000000000000000000000000000000000000000 ≤ i) && decide (i ≤ 100000000000000000000000000000000000000000000000000000000000000000000000000000000000000000000000000000000000000000000000)
  | .list ds => withinBA ds
  | .tuple ds => withinBA ds
  | .dict _ => false
  | _ => true
def withinBA : List PyData → Bool
  | [] => true
  | d :: ds => withinB d && withinBA ds
end
def okRepr (p : PyData) : Bool := withinB p && Nat.ble (wt p) 16000000 && Nat.ble p.depth 100 && !p.hasDict
def gRepr : List D → Mem → Res D
  | [d], M => (match toPy M d with | some p => if okRepr p = true then .ok (.str p.shown) M else .bad | none => .bad)
  | _, _ => .bad
end
def kidE : Expr → List Expr
  | .BoolOp _ vs _ => vs
  | .BinOp l _ r _ => [l, r]
  | .UnaryOp _ x _ => [x]
  | .Lambda _ b _ _ => [b]
  | .IfExp t b o _ => [t, b, o]
  | .ListComp e gs _ _ => e :: gs.flatMap fun g => g.iter :: g.ifs
  | .Compare l _ cs _ => l :: cs
  | .Call f as ks _ => f :: as ++ ks.map (·.value)
  | .Attribute v _ _ => [v]
  | .Subscript v s _ => [v, s]
  | .List es _ => es
  | .Tuple es _ _ => es
  | .Slice a b c _ => a.toList ++ b.toList ++ c.toList
  | .Starred v _ => [v]
  | _ => []
def kidX : Stmt → List Expr
  | .Return (some v) _ => [v]
  | .Assign _ v _ => [v]
  | .AugAssign _ _ v _ => [v]
  | .For _ it _ _ _ => [it]
  | .While t _ _ _ => [t]
  | .If t _ _ _ => [t]
  | .Expr v _ => [v]
  | .Raise (some v) _ _ => [v]
  | _ => []
def kidS : Stmt → List Stmt
  | .For _ _ b o _ => b ++ o
  | .While _ b o _ => b ++ o
  | .If _ b o _ => b ++ o
  | _ => []
def noE : Expr := .Constant .none 0 default
def noS : Stmt := .Pass default
def eAt : List Nat → Expr → Expr
  | [], e => e
  | i :: p, e => eAt p ((kidE e).getD i noE)
def sAt : List Nat → List Stmt → Stmt
  | [], _ => noS
  | [i], b => b.getD i noS
  | i :: p, b => sAt p (kidS (b.getD i noS))
def lcSc : Expr → Scope
  | .ListComp _ _ sc _ => sc
  | .Lambda _ _ sc _ => sc
  | _ => ⟨.function, [], false, false, []⟩
def lcAt (b : List Stmt) (p q : List Nat) : Scope := match q with
  | i :: q => lcSc (eAt q ((kidX (sAt p b)).getD i noE))
  | [] => ⟨.function, [], false, false, []⟩
def spG (S : Sc) (n : Nat) (m : List D → Mem → Res D) : Sp := fun vs H Q _ => vs.length = n ∧ ∃ ρ M ds, MemOk S ρ H M ∧ RepA S.K ρ H vs ds ∧ Post S W0 (Rep S.K) [] ρ H Q (m ds M)
abbrev CalGQ (S : Sc) (P : Program) (w : World) (mg : Str → Option Value) (base : Heap) (k : Nat) (x : Str) (ps : List Str) (m : List D → Mem → Res D) : Prop := CalG P w S.K mg base k x ps (spG S ps.length m)
theorem run_start {S : Sc} {N : List Str} {k : Nat} {b : FS} {vs : List V} {H : Hp} {Q : VK} {ρ : List Addr} {M : Mem} {ds : List D} (mo : MemOk S ρ H M) (ra : RepA S.K ρ H vs ds) (p : Post S W0 (Rep S.K) [] ρ H Q (runD N.length k b ds M)) :
    tOfS S W0 b { nx := fun _ H' => Q .non H', rt := Q } (L2.start N vs) H := by
  refine ⟨ρ, M, _, mo, rep_start ra, ?_⟩
  unfold runD at p
  split at p
  · cases e : b (startA N.length ds) M with
    | ok fl M1 =>
      rw [e] at p
      cases fl with
      | rt d => exact p
      | nx σ => exact fun ρ' H' _ st' _ => p ρ' H' .non st' .non
      | bk σ => exact p.elim
      | ct σ => exact p.elim
    | exc c fs σ M1 => rw [e] at p; exact fun ρ' H' _ d st' _ xr => p ρ' H' d st' xr
    | bad => rw [e] at p; exact p
  · exact p.elim
section
variable {S : Sc} {P : Program} {w : World} {mg : Str → Option Value} {base : Heap} {k : Nat} {x : Str} {ps N : List Str} {st : Stmt} {b : FS}
theorem Def.okGQ (T : HX.Def S.K mg x st ps) (sc : FnScope N ps (defScope st))
    (hb : ∀ (f : Addr) (cdv : Value) (A : Around) (outer : List Env) (s : Shared) (H : Hp) (E : XK), Ent A s H → Room k (A.deeper (envOfC x (defScope st) s.heap.objs.size f cdv)) → QSs S W0 (cxOf CX0 P w S.K mg base N x (defScope st) f cdv A outer s H E).nox (defBody st) b) : CalGQ S P w mg base (k + 1) x ps (runD N.length ps.length b) := by
  refine HX.Def.okG T sc (fun vs H Q E h => h.1) fun f cdv A outer s H vs Q E en hr h => ⟨_, hb f cdv A outer s H E en hr, ?_⟩
  obtain ⟨hl, ρ, M, ds, mo, ra, p⟩ := h
  exact run_start mo ra p
theorem Fun.okGQ {f : Addr} {fd : FuncData} (F : Fun S.K x x st f fd) (sc : FnScope N ps (defScope st))
    (hb : ∀ (cdv : Value) (A : Around) (outer : List Env) (s : Shared) (H : Hp) (E : XK), Ent A s H → Room k (A.deeper (envOfC x (defScope st) s.heap.objs.size f cdv)) → QSs S W0 (cxOf CX0 P w S.K mg base N x (defScope st) f cdv A outer s H E).nox (defBody st) b) : FnG P w S.K mg base (k + 1) f fd ps (spG S ps.length (runD N.length ps.length b)) := by
  refine HX.Fun.okG F sc (fun vs H Q E h => h.1) fun cdv A outer s H vs Q E en hr h => ⟨_, hb cdv A outer s H E en hr, ?_⟩
  obtain ⟨hl, ρ, M, ds, mo, ra, p⟩ := h
  exact run_start mo ra p
end
theorem law_sp {S : Sc} {H : Hp} {a : Addr} {ns : List Int} {m : List D → Mem → Res D} (hT : LamX.Tabs S.T H) (hS : SqL S.K H a (ns.map V.int)) (h : ∃ M, m [.scr ns] [] = .ok (.bl true) M) : spG S 1 m [.ref a] H (fun v _ => v = .bl true) fun _ _ _ => False := by
  obtain ⟨M, e⟩ := h
  refine ⟨rfl, [], [], [.scr ns], ⟨rfl, List.nodup_nil, fun n a c h => by simp at h, hT⟩, .cons (.scr ?_) .nil, ?_⟩
  · rcases hS with h | h
    · exact .inl ⟨h, by simp⟩
    · exact .inr h
  · rw [e]
    intro ρ' H' v st r
    cases r
    rfl
abbrev cLt (i j : Int) : Bool := decide (i < j)
abbrev cLe (i j : Int) : Bool := decide (i ≤ j)
abbrev cGt (i j : Int) : Bool := decide (j < i)
abbrev cGe (i j : Int) : Bool := decide (j ≤ i)
end QX
namespace QX
open PySem PySem.Spec PyProof.Rows L2 HX
theorem CalGQ.trim {S : Sc} {P : Program} {w : World} {mg : Str → Option Value} {base : Heap} {k : Nat} {x : Str} {ps : List Str} {m : List D → Mem → Res D} (c : CalGQ S P w mg base k x ps m) : CalGQ S P w mg base k x ps (fun ds M => trimR M.length (m ds M)) := by
  obtain ⟨f, fd, F, a1, a2, a3⟩ := c
  exact ⟨f, fd, ⟨fun vs H Q E h => h.1, fun A outer s H args us vs Q E en hr e0 hb rv h => F.run A outer s H args us vs Q E en hr e0 hb rv (by
    obtain ⟨hl, ρ, M, ds, mo, ra, p⟩ := h
    exact ⟨hl, ρ, M, ds, mo, ra, Post.trim mo p⟩)⟩, a1, a2, a3⟩
theorem law_tg {l : PySem.W.OpenLaw} {w : World} {S : Sc} {k n : Nat} {x : Str} {mg : Str → Option Value} {fa : Addr} {h : Heap} {fd : FuncData} {m : List D → Mem → Res D} (hT : S.T = [])
    (hb : ∀ (s : Shared) (u : Value), S.K.In s.heap → BindsTo s fd ⟨[u], []⟩ [(x, u)]) (hF : ∀ base : Heap, FnG l.prog w S.K mg base k fa fd [x] (spG S 1 m))
    (hm : ∀ ns : List Int, ns.length ≤ n → ∃ M, m [.scr ns] [] = .ok (.bl true) M) : LawTG l w S.K k n x mg fa h :=
  ⟨fd, [], spG S 1 m, fun p hp => by simp at hp, fun p hp => by simp at hp, fun p hp => by simp at hp, hb, fun H a ns hl _ hS => law_sp (by rw [hT]; exact fun p hp => by simp at hp) hS (hm ns hl), fun base _ _ _ => hF base⟩
theorem err_mk {G0 : Prop} {K : PySem.W.Frag} {h : Heap} {mg : Str → Option Value} {x : Str} {d : Addr} (X : K.In h) (G : h.Ns mainGlobals mg) (a : PySem.W.nsIn K mainGlobals x = some (some (.ref d))) (kC : PySem.W.keepIn K (.ref d) = true) (ex : PySem.W.excIn K d veTail "ValueError.__new__" = true) (sb : PySem.W.subIn K (.ref d) (.type "BaseException") = some true) (ty : PySem.W.typeIn K (.ref d) = some (.type "type"))
    (z : ∀ C, Err K mg x C → G0) : G0 := z d ⟨PySem.W.mg_of X G a, kC, ex, sb, ty⟩
end QX
set_option maxRecDepth 100000
set_option maxHeartbeats 2000000
namespace QX
open PySem PySem.Spec PyProof.Rows L2 HX
def sAsgL (f : F D) (is : List Nat) : FS := fun σ M => (f σ M).bindS σ fun d M1 => match listOf M1 d with | some ds => if ds.length == is.length then .ok (.nx (setAll σ is ds)) M1 else .bad | none => .bad
section
variable {X : Cx} {S : Sc} {W : WX} {e : Expr} {fe : F D} {pos : Pos}
theorem qs_asgL {tg : Expr} {is : List Nat} {n : Nat} (hk : X.K = S.K) (he : QE S W X e fe) (hg : PG X tg (gLst X.K n (gNames is))) (hn : n = is.length := by rfl) (hs : swapsWithSole [tg] e pos.line X.env = pure false := by rfl) (hw : swappedStores [tg] e X.env = pure none := by rfl)
    (h1 : (assignEach [tg] X.env).map (·.2) = [assign tg X.env] := by rfl) : QS S W X (.Assign [tg] e pos) (sAsgL fe is) := PS.imp (ps_asg he hg hs hw h1) fun E σ H ⟨ρ, M, σa, mo, rs, p⟩ => by
  refine useS mo rs p fun x M1 ρ1 H1 v st1 r1 rs1 p1 => ?_
  split at p1
  · rename_i ds hd
    split at p1
    · rename_i hl
      have hl' : ds.length = is.length := by simpa using hl
      obtain ⟨a, xs, rfl, e1, ra⟩ := list_of st1.2 r1 hd
      rw [hk]
      exact ⟨a, xs, rfl, SqL.of e1, by rw [ra.len, hl', hn], names_ok is xs ds _ _ ra hl' rs1 fun σ' rs' _ => p1 ρ1 H1 σ' (Stp.refl st1.2) rs'⟩
    · exact p1.elim
  · exact p1.elim
end
section
variable {S : Sc}
def gMulC : D → D → Mem → Res D
  | x, .int k, M => match listOf M x with | some a => if (thou k && Nat.ble a.length 1000) = true then .ok (.ref M.length) (M ++ [.lst (List.replicate k.toNat a).flatten]) else .bad | none => .bad
  | _, _, _ => .bad
theorem oq_mulC : OpQ S (rMulA S.K) gMulC := by
  intro W σ ρ H M x y dx dy Q mo rx ry p
  unfold gMulC at p
  split at p
  · split at p
    · rename_i a h1
      split at p
      · rename_i hm
        obtain ⟨g1, g2, g3⟩ := thou_ok hm
        cases ry
        obtain ⟨l, xs, rfl, e1, ra⟩ := list_of mo rx h1
        refine .inr (.inr ⟨l, _, xs, rfl, rfl, e1, by omega, by omega, ?_, fun q hq => p (ρ ++ [q]) _ _ (Stp.alloc mo hq (ra.rep _)) (rep_new mo)⟩)
        rw [ra.len, sizeLine_eq]
        have a0 : ∀ k : Int, k ≤ 1000 → a.length * k.toNat ≤ 1000 * 1000 := fun k hk => Nat.mul_le_mul g3 (by omega)
        have a1 := a0 _ g2
        omega
      · exact p.elim
    · exact p.elim
  · exact p.elim
end
section
variable {S : Sc}
def gIsB (neg : Bool) : D → D → Mem → Res D
  | .bl a, .bl b, M => .ok (.bl (if neg = true then !decide (a = b) else decide (a = b))) M
  | _, _, _ => .bad
@[simp] theorem gIsB_bl {neg a b : Bool} {M : Mem} : gIsB neg (.bl a) (.bl b) M = .ok (.bl (if neg = true then !decide (a = b) else decide (a = b))) M := rfl
end
@[simp] theorem ev_asgL {f : F D} {is : List Nat} {σ : Sa} {M : Mem} : sAsgL f is σ M = (f σ M).bindS σ fun d M1 => match listOf M1 d with | some ds => if ds.length == is.length then .ok (.nx (setAll σ is ds)) M1 else .bad | none => .bad := rfl
end QX
set_option maxRecDepth 100000
set_option maxHeartbeats 2000000
namespace QX
open PySem PySem.Spec PyProof.Rows L2 HX
structure Bi5 (mg : Str → Option Value) : Prop where
  abs_ : mg "abs" = none
  divmod_ : mg "divmod" = none
  any_ : mg "any" = none
section
variable {S : Sc}
def gAbs : List D → Mem → Res D
  | [.int i], M => .ok (.int (if i < 0 then -i else i)) M
  | _, _ => .bad
@[simp] theorem gAbs_int {i : Int} {M : Mem} : gAbs [.int i] M = .ok (.int (if i < 0 then -i else i)) M := rfl
end
end QX
set_option maxRecDepth 100000
set_option maxHeartbeats 2000000
namespace QX
open PySem PySem.Spec PyProof.Rows L2 HX
def mxI : List Int → Int
  | [] => 0
  | x :: xs => xs.foldl (fun a b => if b > a then b else a) x
theorem mx_fold : ∀ (xs : List Int) (x : Int), (xs.foldl (fun a b => if b > a then b else a) x ∈ x :: xs) ∧ ∀ y ∈ x :: xs, y ≤ xs.foldl (fun a b => if b > a then b else a) x
  | [], x => ⟨List.mem_cons_self, fun y h => by
      rw [List.mem_singleton.mp h]
      exact Int.le_refl _⟩
  | z :: xs, x => by
    rw [List.foldl_cons]
    obtain ⟨h1, h2⟩ := mx_fold xs (if z > x then z else x)
    refine ⟨?_, fun y hy => ?_⟩
    · rcases List.mem_cons.mp h1 with e | e
      · rw [e]
        split
        · exact List.mem_cons_of_mem _ List.mem_cons_self
        · exact List.mem_cons_self
      · exact List.mem_cons_of_mem _ (List.mem_cons_of_mem _ e)
    · have h0 := h2 (if z > x then z else x) List.mem_cons_self
      rcases List.mem_cons.mp hy with e | e
      · refine Int.le_trans ?_ h0
        rw [e]
        split <;> omega
      · rcases List.mem_cons.mp e with e | e
        · refine Int.le_trans ?_ h0
          rw [e]
          split <;> omega
        · exact h2 y (List.mem_cons_of_mem _ e)
theorem mxI_mem {ns : List Int} (h : ns ≠ []) : mxI ns ∈ ns := by
  cases ns with
  | nil => exact absurd rfl h
  | cons x xs => exact (mx_fold xs x).1
theorem mxI_le {ns : List Int} {y : Int} (h : y ∈ ns) : y ≤ mxI ns := by
  cases ns with
  | nil => cases h
  | cons x xs => exact (mx_fold xs x).2 y h
section
variable {prog : Program} {w : World} {A : Around} {E : Value → Shared → Prop} {s : Shared} {l : Addr} {xs : Array (Int × Tok)}
theorem max_intTup {Q : Value → Shared → Prop} (hh : A.handled = none) (hl : s.heap.IsTuple l (intItems xs)) (hne : 0 < xs.size)
    (h : ∀ v h' tk, (intItems xs)[argBest (fun i j => decide (numAt xs i > numAt xs j)) (xs.size - 1)]? = some v → (∀ b o, s.heap.get? b = some o → h'.get? b = some o) → Q v { s with heap := h', toks := tk }) :
    wpAny (model prog w) A (call (.builtin "max") [.ref l]) Q E s := by
  obtain ⟨o, ho, hc, n, hd⟩ := id hl
  have hne' : l ≠ s.heap.objs.size := Nat.ne_of_lt (Heap.lt_size ho)
  refine call_max_walk (wpAny_pyIter_tuple hl ?_)
  refine ⟨s.heap.objs.size, _, _, _, _, _, _, rfl, Walks.tuple (A := A.in1) hh s.heap.objs.size l hne' (intItems xs), ⟨⟨_, Heap.get?_push_size _ rfl, rfl, rfl⟩, hl.push _⟩, fun b hb => ?_, by simpa [intItems] using hne, CmpOf.ints_gt (numAt xs) (fun _ _ => intItems_at), fun v h' tk hP hk => ?_⟩
  · rcases List.mem_cons.mp hb with rfl | hb
    · exact Heap.lt_size (Heap.get?_push_size _ rfl)
    · obtain rfl := List.mem_singleton.mp hb
      exact Heap.lt_size (Heap.get?_push_of_some _ ho)
  · exact h v h' tk (by simpa [intItems] using hP) fun b o e => hk b o (fun hb => absurd (Heap.lt_size e) ((List.mem_singleton.mp hb) ▸ Nat.lt_irrefl _)) (Heap.get?_push_of_some _ e)
end
section
variable {X : Cx} {S : Sc}
def rMaxT (K : PySem.W.Frag) : List V → Hp → VK → Prop := fun vs H Q => ∃ (a : Addr) (ns : List Int), vs = [V.ref a] ∧ SqT K H a (ns.map V.int) ∧ 0 < ns.length ∧ ∀ m, m ∈ ns → (∀ y, y ∈ ns → y ≤ m) → Q (.int m) H
theorem cr_maxT (hc : X.calm = true) : CallR X (.builtin "max") (rMaxT X.K) := by
  intro pins s σ H vs us Q I r h
  obtain ⟨a, ns, rfl, hs, hne, q⟩ := h
  obtain ⟨its, rv, hl, _⟩ := I.tuple hs
  obtain ⟨u, rfl, ru⟩ := vals1 r
  cases ru
  have hi := ints_of_vals rv
  obtain ⟨xs, e⟩ := hi.allInts.items
  have hn : numsOf (intItems xs).toList = ns := by rw [← e]; exact hi.numsOf
  rw [nums_intItems] at hn
  subst hn
  rw [e] at hl
  have hsz : 0 < xs.size := by simpa using hne
  refine max_intTup (I.ok.hd hc) hl hsz fun v h' tk hv hk => ?_
  obtain ⟨t, rfl⟩ := intItems_at hv
  obtain ⟨h1, h2⟩ := argBest_gt (numAt xs) (xs.size - 1)
  refine ⟨.int _, H, I.kept hk, ⟨_, rfl⟩, q _ ?_ fun a ha => ?_⟩
  · rw [numAt_eq]; exact PySem.getD_mem (by rw [List.length_map, Array.length_toList]; omega)
  · obtain ⟨j, hj, rfl⟩ := mem_getD ha
    rw [List.length_map, Array.length_toList] at hj
    rw [← numAt_eq]; exact h2 j (by omega)
def gMx (f : List Int → Int) : List D → Mem → Res D
  | [d], M => (match seqOf M d with | some ds => (match intsOf ds with | some (n :: ns) => .ok (.int (f (n :: ns))) M | _ => .bad) | none => .bad)
  | _, _ => .bad
def rMaxA (K : PySem.W.Frag) : List V → Hp → VK → Prop := fun xs H Q => rMax K xs H Q ∨ rMaxT K xs H Q
theorem cr_maxA (hc : X.calm = true) : CallR X (.builtin "max") (rMaxA X.K) := (cr_max hc).or (cr_maxT hc)
theorem cq_max : CallQ S (rMaxA S.K) (gMx mxI) := by
  intro W σ ρ H M xs ds Q mo ra p
  unfold gMx at p
  split at p
  · split at p
    · rename_i es hl
      split at p
      · rename_i n ns hb
        obtain ⟨v, rfl, r⟩ := RepA.one ra
        obtain ⟨a, ys, rfl, e, rb⟩ := seq_of mo r hl
        rw [ints_ok es ys _ rb hb] at e
        have fin : ∀ m, m ∈ n :: ns → (∀ y, y ∈ n :: ns → y ≤ m) → Q (.int m) H := fun m h1 h2 => by
          have : m = mxI (n :: ns) := Int.le_antisymm (mxI_le h1) (h2 _ (mxI_mem (List.cons_ne_nil _ _)))
          rw [this]
          exact p ρ H _ (Stp.refl mo) (.int _)
        rcases e with e | e
        · exact .inl ⟨a, _, rfl, e, Nat.succ_pos _, fin⟩
        · exact .inr ⟨a, _, rfl, e, Nat.succ_pos _, fin⟩
      · exact p.elim
    · exact p.elim
  · exact p.elim
end
end QX
set_option maxRecDepth 100000
set_option maxHeartbeats 2000000
namespace QX
open PySem PySem.Spec PyProof.Rows L2 HX
def pk {α : Type} : List Nat → List α → List α
  | [], _ => []
  | i :: is, l => match l[i]? with | some a => a :: pk is l | none => pk is l
theorem RepA.pk {K : PySem.W.Frag} {ρ : List Addr} {H : Hp} {vs : List V} {ds : List D} (r : RepA K ρ H vs ds) : ∀ is : List Nat, RepA K ρ H (QX.pk is vs) (QX.pk is ds)
  | [] => .nil
  | i :: is => by
    unfold QX.pk
    cases e : vs[i]? with
    | some v =>
      obtain ⟨d, h1, h2⟩ := r.get e
      rw [h1]
      exact .cons h2 (RepA.pk r is)
    | none =>
      have : ds[i]? = none := by
        rw [List.getElem?_eq_none_iff] at e ⊢
        rw [← r.len]
        exact e
      rw [this]
      exact RepA.pk r is
abbrev FunDS (K : PySem.W.Frag) (x : Str) (st : Stmt) (dvs : List V) (kws : List (Str × V)) (f : Addr) (fd : FuncData) : Prop := FunD K x x (defArgs st) (defBody st) (defScope st) dvs kws f fd
def DefD (K : PySem.W.Frag) (mg : Str → Option Value) (x : Str) (st : Stmt) (dvs : List V) (kws : List (Str × V)) : Prop := ∃ (f : Addr) (fd : FuncData), FunDS K x st dvs kws f fd ∧ mg x = some (.ref f)
def CalDQ (S : Sc) (P : Program) (w : World) (mg : Str → Option Value) (base : Heap) (k : Nat) (x : Str) (st : Stmt) (dvs : List V) (kws : List (Str × V)) (ps : List Str) (m : List D → Mem → Res D) : Prop :=
  ∃ (f : Addr) (fd : FuncData), FnOk P w S.K mg base (L2.CX P w) k f fd ps (spM S ps.length m) ∧ mg x = some (.ref f) ∧ FunDS S.K x st dvs kws f fd
section
variable {S : Sc} {P : Program} {w : World} {mg : Str → Option Value} {base : Heap} {j k : Nat} {x : Str} {ps N : List Str} {st : Stmt} {b : FS} {dvs : List V} {kws : List (Str × V)} {m m' : List D → Mem → Res D}
theorem CalDQ.mono (c : CalDQ S P w mg base j x st dvs kws ps m) (h : j ≤ k) : CalDQ S P w mg base k x st dvs kws ps m := by
  obtain ⟨f, fd, F, a, d⟩ := c
  exact ⟨f, fd, F.mono h, a, d⟩
theorem CalDQ.imp (c : CalDQ S P w mg base k x st dvs kws ps m) (h : ∀ (W : WX) (ρ : List Addr) (H : Hp) (Q : VK) (vs : List V) (ds : List D) (M : Mem), MemOk S ρ H M → RepA S.K ρ H vs ds → Post S W (Rep S.K) [] ρ H Q (m' ds M) → Post S W (Rep S.K) [] ρ H Q (m ds M)) : CalDQ S P w mg base k x st dvs kws ps m' := by
  obtain ⟨f, fd, F, a1, a2⟩ := c
  exact ⟨f, fd, F.imp fun vs H Q E ⟨hl, ρ, M, ds, mo, ra, p⟩ => ⟨hl, ρ, M, ds, mo, ra, h _ _ _ _ _ _ _ mo ra p⟩, a1, a2⟩
theorem CalDQ.trim (c : CalDQ S P w mg base k x st dvs kws ps m) : CalDQ S P w mg base k x st dvs kws ps (fun ds M => trimR M.length (m ds M)) := CalDQ.imp c fun _ _ _ _ _ _ _ mo _ p => Post.trim mo p
theorem DefD.okQ (T : DefD S.K mg x st dvs kws) (sc : FnScope N ps (defScope st))
    (hb : ∀ (f : Addr) (cdv : Value) (A : Around) (outer : List Env) (s : Shared) (H : Hp) (E : XK), Room k (A.deeper (envOfC x (defScope st) s.heap.objs.size f cdv)) → Takes (cxOf (L2.CX P w) P w S.K mg base N x (defScope st) f cdv A outer s H E) (fun cls d _ H => E cls d H) →
      PassesOwn (model P w) (cxOf (L2.CX P w) P w S.K mg base N x (defScope st) f cdv A outer s H E).A (cxOf (L2.CX P w) P w S.K mg base N x (defScope st) f cdv A outer s H E).env (cxOf (L2.CX P w) P w S.K mg base N x (defScope st) f cdv A outer s H E).xe →
      QSs S (fun cls d _ H => E cls d H) (cxOf (L2.CX P w) P w S.K mg base N x (defScope st) f cdv A outer s H E) (defBody st) b) : CalDQ S P w mg base (k + 1) x st dvs kws ps (runD N.length ps.length b) := by
  obtain ⟨f, fd, F, hm⟩ := T
  refine ⟨f, fd, FunD.ok F sc (fun vs H Q E h => h.1) fun cdv A outer s H vs Q E hr h => ⟨_, hb f cdv A outer s H E hr (takes_of rfl rfl rfl rfl) (passes_of (X := cxOf (L2.CX P w) P w S.K mg base N x (defScope st) f cdv A outer s H E) rfl), ?_⟩, hm, F⟩
  obtain ⟨hl, ρ, M, ds, mo, ra, p⟩ := h
  refine ⟨ρ, M, _, mo, rep_start ra, ?_⟩
  unfold runD at p
  split at p
  · cases e : b (startA N.length ds) M with
    | ok fl M1 =>
      rw [e] at p
      cases fl with
      | rt d => exact p
      | nx σ => exact fun ρ' H' _ st' _ => p ρ' H' .non st' .non
      | bk σ => exact p.elim
      | ct σ => exact p.elim
    | exc c fs σ M1 => rw [e] at p; exact fun ρ' H' _ d st' _ xr => p ρ' H' d st' xr
    | bad => rw [e] at p; exact p
  · exact p.elim
end
section
variable {X : Cx} {S : Sc} {W : WX} {k : Nat} {x : Str} {ps ks : List Str} {m : List D → Mem → Res D} {p pos kpos : Pos} {e : Expr} {es : List Expr} {kws : List Keyword} {fs fk : F (List D)} {fe : F D} {st : Stmt} {dvs : List V} {kds : List (Str × V)} {nm : Option Str}
theorem PK.imp {es : List Keyword} {t t' : TA} (h : PK X es t) (w : ∀ σ H Q, t' σ H Q → t σ H Q) : PK X es t' := ⟨fun pos pins s σ H Q I q => h.run pos pins s σ H Q I (w σ H Q q)⟩
def fCallK (m : List D → Mem → Res D) (is : List Nat) (fs fk : F (List D)) : F D := fun σ M => (fs σ M).bind fun ds M1 => (fk σ M1).bind fun es M2 => m (pk is (ds ++ es)) M2
theorem post_use {α : Type} {R : List Addr → Hp → V → D → Prop} {σ : L2.St} {σa : Sa} {ρ : List Addr} {H : Hp} {M : Mem} {Q : VK} {f : F (List D)} {g : List D → Mem → Res D} (h : Post S W R σ ρ H Q ((f σa M).bind g)) (Q2 : List V → Hp → Prop)
    (c : ∀ ds M1 ρ1 H1 vs, f σa M = .ok ds M1 → Stp S ρ H ρ1 H1 M1 → RepA S.K ρ1 H1 vs ds → Post S W R σ ρ1 H1 Q (g ds M1) → Q2 vs H1) : Post S W (RepA S.K) σ ρ H Q2 (f σa M) := by
  cases e0 : f σa M with
  | ok ds M1 =>
    rw [e0] at h
    exact fun ρ1 H1 vs st1 r1 => c ds M1 ρ1 H1 vs e0 st1 r1 (Post.mono h st1.1)
  | exc c fs M1 => rw [e0] at h; exact h
  | bad => rw [e0] at h; exact h
theorem qe_callD {dvs' : List V} {dds : List D} (tk : Takes X W) (hk : X.K = S.K) (c : CalDQ S X.prog X.w X.mg X.base k x st dvs kds ps m) (hr : Room k X.A) (hg : Gl X x) (hd : ∀ ρ H, RepA S.K ρ H dvs' dds) (hb : ∀ f fd, FunDS S.K x st dvs kds f fd → ∃ ds, Vals dvs' ds ∧ Binds S.K fd ps ds)
    (ha : QA S W X (e :: es) fs) (hn : ∀ σ M ds M1, fs σ M = .ok ds M1 → ds.length + dds.length = ps.length) (hdb : (x == ("__debug__" : Str)) = false := by decide)
    (he : starEach (e :: es) X.env = (false, eval e X.env) :: starEach es X.env := by rfl) (hpl : (backTo pos (starEach es X.env)).any (·.1) = false := by rfl) : QE S W X (.Call (.Name x p) (e :: es) [] pos) (fCall (fun ds M => m (ds ++ dds) M) fs) := by
  obtain ⟨f, fd, F, hm, T⟩ := c
  obtain ⟨ds0, v0, b0⟩ := hb f fd T
  have kp := T.kp
  rw [← hk] at F b0 kp
  refine PE.imp (pe_callSD F hr hg hm kp b0 v0 (passAt tk) ha hdb he hpl) fun σ H Q ⟨ρ, M, σa, mo, rs, p⟩ => ⟨ρ, M, σa, mo, rs, ?_⟩
  refine post_use (α := D) p _ fun ds M1 ρ1 H1 vs e0 st1 r1 p1 => ?_
  have r2 : RepA S.K ρ1 H1 (vs ++ dvs') (ds ++ dds) := r1.append (hd ρ1 H1)
  refine ⟨?_, ρ1, M1, _, st1.2, r2, ?_⟩
  · rw [r2.len, List.length_append]
    exact hn _ _ _ _ e0
  · cases e1 : m (ds ++ dds) M1 with
    | ok d M2 => rw [e1] at p1; exact p1
    | exc c fs M2 => rw [e1] at p1; exact p1
    | bad => rw [e1] at p1; exact p1
end
theorem defD_cut {C : Prop} {K : PySem.W.Frag} {mg : Str → Option Value} {h : Heap} {x : Str} {st : Stmt} {kws : List (Str × V)} {dvs : List V} {f : Addr} {od an : Option Addr} {sl : Array (Option Value)} {oc dV kV dc pm cd ct : Value} (X : K.In h) (G : h.Ns mainGlobals mg)
    (a : PySem.W.nsIn K mainGlobals x = some (some (.ref f))) (l : K.lookup f = some ⟨oc, od, .func (PySem.W.fnOf x x (defArgs st) (defBody st) (defScope st) dV kV dc pm an cd ct), sl⟩) (c : PySem.W.codeIn K cd x = true) (k : PySem.W.keepIn K (.ref f) = true)
    (d1 : DflV K dV dvs) (d2 : KwdV K kV kws) (z : DefD K mg x st dvs kws → C) : C := z ⟨f, _, ⟨⟨_, _, _, _, _, _, _, _, _, _, rfl, l, c, d1, d2⟩, k⟩, PySem.W.mg_of X G a⟩
@[simp] theorem ev_callK {m : List D → Mem → Res D} {is : List Nat} {fs fk : F (List D)} {σ : Sa} {M : Mem} : fCallK m is fs fk σ M = (fs σ M).bind fun ds M1 => (fk σ M1).bind fun es M2 => m (pk is (ds ++ es)) M2 := rfl
end QX
namespace QX
open PySem PySem.Spec PyProof.Rows L2 HX
end QX
set_option maxRecDepth 100000
set_option maxHeartbeats 2000000
namespace QX
open PySem PySem.Spec PyProof.Rows L2 HX
structure Bi6 (mg : Str → Option Value) : Prop where
  str_ : mg "str" = none
  reversed_ : mg "reversed" = none
theorem hu65 {A : Around} {k : Nat} (hr : Room k A) : A.units + 65 < cLine := by
  have := hu150 hr
  omega
section
variable {X : Cx} {S : Sc} {W : WX} {e o : Expr} {fe fo : F D} {pos : Pos}
end
section
variable {f fo fe : F D} {g : D → D → Mem → Res D} {i j : Nat} {is : List Nat} {σ : Sa} {M : Mem} {a b : Str} {n : Int}
end
end QX
set_option maxRecDepth 100000
set_option maxHeartbeats 2000000
namespace QX
open PySem PySem.Spec PyProof.Rows L2 HX
section
variable {S : Sc}
end
end QX
set_option maxRecDepth 100000
set_option maxHeartbeats 2000000
namespace QX
open PySem PySem.Spec PyProof.Rows L2 HX
section
variable {X : Cx} {S : Sc} {W : WX}
end
end QX
set_option maxRecDepth 100000
set_option maxHeartbeats 1000000
namespace QX
open PySem PySem.Spec PyProof.Rows L2 L2H HX
section
variable {S : Sc} {ρ : List Addr} {H H1 : Hp} {M : Mem}
theorem Stp.lam (m : MemOk S ρ H M) (e : LamX.ExtN H H1) (t : LamX.Tabs S.T H1) : Stp S ρ H ρ H1 M := by
  have x : Ext ρ H ρ H1 := ⟨⟨[], by simp, by simp⟩, fun a o h _ n => e a o h n, fun a ⟨o, h, n⟩ => ⟨o, e a o h n, n⟩⟩
  refine ⟨x, m.len, m.nd, fun n a c h1 h2 => ?_, t⟩
  have ok := m.cell n a c h1 h2
  refine ok.ext x ?_
  cases c with
  | lst ds =>
    obtain ⟨xs, e1, _⟩ := ok
    rw [e1]
    exact e a _ e1 fun _ z => nomatch z
  | dic kvs =>
    obtain ⟨xs, e1, _⟩ := ok
    rw [e1]
    exact e a _ e1 fun _ z => nomatch z
theorem Stp.same (m : MemOk S ρ H M) (s : Same H H1) : Stp S ρ H ρ H1 M := Stp.lam m (LamX.ExtN.of s) (m.tab.ext s)
end
theorem FnE.imp {P : Program} {w : World} {K : PySem.W.Frag} {mg : Str → Option Value} {base : Heap} {k : Nat} {f : Addr} {fd : FuncData} {a : Str} {sp sp' : Addr → Value → Option Addr → Hp → VK → Prop} (F : FnE P w K mg base k f fd a sp) (h : ∀ ea cls d H Q, sp' ea cls d H Q → sp ea cls d H Q) : FnE P w K mg base k f fd a sp' :=
  ⟨fun A outer s H p cls d Q hr hp hz hf e0 hb hs => F.run A outer s H p cls d Q hr hp hz hf e0 hb (h _ _ _ _ _ hs)⟩
section
variable {S : Sc} {P : Program} {w : World} {mg : Str → Option Value} {base : Heap} {k : Nat} {x : Str} {ps N : List Str} {st : Stmt} {b : FS} {c : Addr}
theorem DefC.okGQ (T : DefC S.K mg x st ps c) (sc : FnScope N ps (defScope st))
    (hb : ∀ (f : Addr) (A : Around) (outer : List Env) (s : Shared) (H : Hp) (E : XK), Ent A s H → Room k (A.deeper (envOfC x (defScope st) s.heap.objs.size f (.ref c))) → QSs S W0 (cxOf CX0 P w S.K mg base N x (defScope st) f (.ref c) A outer s H E).nox (defBody st) b) : CalGQ S P w mg base (k + 1) x ps (runD N.length ps.length b) := by
  refine HX.DefC.okG T sc (fun vs H Q E h => h.1) fun f A outer s H vs Q E en hr h => ⟨_, hb f A outer s H E en hr, ?_⟩
  obtain ⟨hl, ρ, M, ds, mo, ra, p⟩ := h
  exact run_start mo ra p
end
end QX
set_option maxRecDepth 100000
set_option maxHeartbeats 1000000
namespace QX
open PySem PySem.Spec PyProof.Rows L2 HX
def sDivm (fs : F (List D)) (t : Tg) : FS := fun σ M => (fs σ M).bindS σ fun ds M1 => match ds with
  | [.int i, .int j] => if (decide (0 < j) && decide (Builtin.Int.intBits i ≤ Builtin.Int.intBits j + 4000)) = true then (match t.put (.pr [.int (i / j), .int (i % j)]) σ with | some σ1 => .ok (.nx σ1) M1 | none => .bad) else .bad
  | _ => .bad
theorem qs_divm {X : Cx} {S : Sc} {W : WX} {a b tg : Expr} {fs : F (List D)} {t : Tg} {p p2 pos : Pos} (hgl : Gl X "divmod") (hm : X.mg "divmod" = none) (ha : QA S W X [a, b] fs) (hg : QG S X tg t)
    (hs : swapsWithSole [tg] (.Call (.Name "divmod" p) [a, b] [] p2) pos.line X.env = pure false := by rfl) (hw : swappedStores [tg] (.Call (.Name "divmod" p) [a, b] [] p2) X.env = pure none := by rfl)
    (h1 : (assignEach [tg] X.env).map (·.2) = [assign tg X.env] := by rfl) (he : starEach [a, b] X.env = (false, eval a X.env) :: starEach [b] X.env := by rfl) (hpl : (backTo p2 (starEach [b] X.env)).any (·.1) = false := by rfl) :
    QS S W X (.Assign [tg] (.Call (.Name "divmod" p) [a, b] [] p2) pos) (sDivm fs t) := PS.imp (ps_asg (pe_callB call_divmodW hgl hm (by decide +kernel) ha (by decide) (by decide) he hpl) hg hs hw h1) fun E σ H ⟨ρ, M, σa, mo, rs, p⟩ => by
  refine useS mo rs p fun ds M1 ρ1 H1 vs st1 r1 rs1 p1 => ?_
  split at p1
  · rename_i i j
    split at p1
    · rename_i hc
      rw [Bool.and_eq_true, decide_eq_true_eq, decide_eq_true_eq] at hc
      cases r1 with
      | cons h1 t1 =>
        cases t1 with
        | cons h2 t2 =>
          cases t2
          cases h1
          cases h2
          refine ⟨i, j, rfl, divp_ok hc.1 hc.2, fun q hq => ?_⟩
          have sf : Stp S ρ1 H1 ρ1 (upd H1 q (.tup [.int (i / j), .int (i % j)])) M1 := Stp.fresh st1.2 hq
          split at p1
          · rename_i σ1 hp
            exact put_ok (im := .pr [.int (i / j), .int (i % j)]) (rs1.mono sf.1) ⟨q, _, rfl, SqT.of upd_same, .cons (.int _) (.cons (.int _) .nil)⟩ hp fun σ' rs' _ => p1 ρ1 _ σ' sf rs'
          · exact p1.elim
    · exact p1.elim
  · exact p1.elim
def sPar3 (i j l : Nat) (fs : F (List D)) : FS := fun σ M => (fs σ M).bindS σ fun ds M1 => match ds with
  | [a, b, c] => .ok (.nx (((σ.set i (some a)).set j (some b)).set l (some c))) M1
  | _ => .bad
theorem qs_par3 {X : Cx} {S : Sc} {W : WX} {i j l : Nat} {x y z : Str} {a b c : Expr} {fs : F (List D)} {px py pz pt pos : Pos} {kt k2 pt2} (hc : X.calm = true) (hN : X.N.Nodup) (hi : X.N[i]? = some x) (hj : X.N[j]? = some y) (hl : X.N[l]? = some z) (hij : i ≠ j) (hil : i ≠ l) (hjl : j ≠ l)
    (hx : X.env.scope.names.lookup x = some .local) (hy : X.env.scope.names.lookup y = some .local) (hz : X.env.scope.names.lookup z = some .local) (ha : QA S W X [a, b, c] fs)
    (hw : swappedStores [.Tuple [.Name x px, .Name y py, .Name z pz] kt pt] (.Tuple [a, b, c] k2 pt2) X.env = pure (some [x, y, z]))
    (hs : swapsWithSole [.Tuple [.Name x px, .Name y py, .Name z pz] kt pt] (.Tuple [a, b, c] k2 pt2) pos.line X.env = pure false := by rfl) :
    QS S W X (.Assign [.Tuple [.Name x px, .Name y py, .Name z pz] kt pt] (.Tuple [a, b, c] k2 pt2) pos) (sPar3 i j l fs) := PS.imp (ps_par3 hc hN hi hj hl hij hil hjl hx hy hz ha hw hs) fun E σ H ⟨ρ, M, σa, mo, rs, p⟩ => by
  refine useS mo rs p fun ds M1 ρ1 H1 vs st1 r1 rs1 p1 => ?_
  split at p1
  · cases r1 with
    | cons h1 t1 =>
      cases t1 with
      | cons h2 t2 =>
        cases t2 with
        | cons h3 t3 =>
          cases t3
          exact ⟨_, _, _, rfl, p1 ρ1 H1 _ (Stp.refl st1.2) (((rs1.set i h1).set j h2).set l h3)⟩
  · exact p1.elim
end QX
set_option maxRecDepth 100000
set_option maxHeartbeats 1000000
namespace QX
open PySem PySem.Spec PyProof.Rows L2 HX
end QX
set_option maxRecDepth 100000
set_option maxHeartbeats 1000000
namespace HX
open PySem PySem.Spec PyProof.Rows L2
end HX
set_option maxRecDepth 100000
set_option maxHeartbeats 1000000
namespace QX
open PySem PySem.Spec PyProof.Rows L2 HX
mutual
def nkOf : D → Option NestedKey
  | .int i => some (.num i)
  | .tup ds => (match nkA ds with | some ks => some (.tup ks) | none => none)
  | _ => none
def nkA : List D → Option (List NestedKey)
  | [] => some []
  | d :: ds => (match nkOf d, nkA ds with | some k, some ks => some (k :: ks) | _, _ => none)
end
section
variable {K : PySem.W.Frag} {ρ : List Addr} {H : Hp}
mutual
theorem nk_pure : ∀ (d : D) (k : NestedKey), nkOf d = some k → pureK k = true ∧ dK k = d
  | .int i, k, h => by rw [nkOf] at h; cases h; exact ⟨by rw [pureK], by rw [dK]⟩
  | .tup ds, k, h => by
    rw [nkOf] at h
    cases e : nkA ds with
    | none => rw [e] at h; cases h
    | some ks =>
      rw [e] at h
      cases h
      obtain ⟨a, b⟩ := nkA_pure ds ks e
      exact ⟨by rw [pureK]; exact a, by rw [dK, b]⟩
  | .non, k, h => by simp [nkOf] at h
  | .bl _, k, h => by simp [nkOf] at h
  | .str _, k, h => by simp [nkOf] at h
  | .lst _, k, h => by simp [nkOf] at h
  | .dct _ _, k, h => by simp [nkOf] at h
  | .scr _, k, h => by simp [nkOf] at h
  | .ref _, k, h => by simp [nkOf] at h
  | .adr _, k, h => by simp [nkOf] at h
theorem nkA_pure : ∀ (ds : List D) (ks : List NestedKey), nkA ds = some ks → pureA ks = true ∧ dKs ks = ds
  | [], ks, h => by rw [nkA] at h; cases h; exact ⟨by rw [pureA], by rw [dKs]⟩
  | d :: ds, ks, h => by
    rw [nkA] at h
    cases e1 : nkOf d with
    | none => rw [e1] at h; cases h
    | some k =>
      cases e2 : nkA ds with
      | none => rw [e1, e2] at h; cases h
      | some ks' =>
        rw [e1, e2] at h
        cases h
        obtain ⟨a, b⟩ := nk_pure d k e1
        obtain ⟨a2, b2⟩ := nkA_pure ds ks' e2
        exact ⟨by rw [pureA, a, a2]; rfl, by rw [dKs, b, b2]⟩
end
mutual
theorem rep_key : ∀ (k : NestedKey) (v : V), pureK k = true → Rep K ρ H v (dK k) → KeyV H k v
  | .none, v, h, _ => by simp [pureK] at h
  | .text x, v, h, _ => by simp [pureK] at h
  | .num i, v, _, r => by
    rw [dK] at r
    cases r
    rw [KeyV]
  | .tup ks, v, h, r => by
    rw [dK] at r
    cases r with
    | tup f n ra =>
      obtain ⟨o, _, e⟩ := f
      rw [KeyV]
      exact ⟨_, ⟨_, o, rfl, e⟩, rep_keys ks _ (by simpa [pureK] using h) ra⟩
theorem rep_keys : ∀ (ks : List NestedKey) (vs : List V), pureA ks = true → RepA K ρ H vs (dKs ks) → KeyVs H ks vs
  | [], vs, _, r => by
    rw [dKs] at r
    cases r
    rw [KeyVs]
  | k :: ks, vs, h, r => by
    rw [pureA, Bool.and_eq_true] at h
    rw [dKs] at r
    cases r with
    | cons r1 r2 =>
      rw [KeyVs]
      exact ⟨_, _, rfl, rep_key k _ h.1 r1, rep_keys ks _ h.2 r2⟩
end
def dGet (kvs : List (NestedKey × D)) (k : NestedKey) : Option D := (kvs.find? fun p => decide (p.1 = k)).map (·.2)
def dPut (kvs : List (NestedKey × D)) (k : NestedKey) (d : D) : List (NestedKey × D) := if (dGet kvs k).isSome = true then kvs.map (fun p => if p.1 = k then (p.1, d) else p) else kvs ++ [(k, d)]
theorem DRel.len {xs : List NE} {kvs : List (NestedKey × D)} (r : DRel K ρ H xs kvs) : xs.length = kvs.length := Paired.length r
theorem DRel.get {xs : List NE} {kvs : List (NestedKey × D)} (r : DRel K ρ H xs kvs) (k : NestedKey) : (nGet xs k = none ∧ dGet kvs k = none) ∨ ∃ v d, nGet xs k = some v ∧ dGet kvs k = some d ∧ Rep K ρ H v d := by
  induction r with
  | nil => exact .inl ⟨rfl, rfl⟩
  | @cons x p xs kvs q _ ih =>
    obtain ⟨e1, _, _, _, e5⟩ := q
    by_cases hk : x.1 = k
    · exact .inr ⟨x.2.2, p.2, by simp [nGet, List.find?_cons, hk], by simp [dGet, List.find?_cons, ← e1, hk], e5⟩
    · have h1 : nGet (x :: xs) k = nGet xs k := by simp [nGet, List.find?_cons, hk]
      have h2 : dGet (p :: kvs) k = dGet kvs k := by simp [dGet, List.find?_cons, ← e1, hk]
      rw [h1, h2]
      exact ih
theorem DRel.put {xs : List NE} {kvs : List (NestedKey × D)} (r : DRel K ρ H xs kvs) {k : NestedKey} {a : Addr} {v : V} {d : D} (p1 : pureK k = true) (p2 : k.depth ≤ 8) (p3 : Rep K ρ H (.ref a) (dK k)) (rv : Rep K ρ H v d) : DRel K ρ H (nPut xs k a v) (dPut kvs k d) := by
  have rep : DRel K ρ H (xs.map fun x => if x.1 = k then (x.1, x.2.1, v) else x) (kvs.map fun p => if p.1 = k then (p.1, d) else p) := by
    induction r with
    | nil => exact .nil
    | @cons x p xs kvs q _ ih =>
      obtain ⟨e1, e2, e3, e4, e5⟩ := q
      refine .cons ?_ ih
      dsimp only
      by_cases hk : x.1 = k
      · rw [if_pos hk, if_pos (by rw [← e1]; exact hk)]
        exact ⟨e1, e2, e3, e4, rv⟩
      · rw [if_neg hk, if_neg (by rw [← e1]; exact hk)]
        exact ⟨e1, e2, e3, e4, e5⟩
  unfold nPut dPut
  rcases r.get k with ⟨h1, h2⟩ | ⟨v', d', h1, h2, _⟩
  · rw [h1, h2]
    exact Paired.snoc r ⟨rfl, p1, p2, p3, rv⟩
  · rw [h1, h2]
    exact rep
theorem DRel.keys {xs : List NE} {kvs : List (NestedKey × D)} (r : DRel K ρ H xs kvs) : KeysOk H xs := by
  induction r with
  | nil => intro x hx; cases hx
  | @cons x p xs kvs q _ ih =>
    intro y hy
    rcases List.mem_cons.mp hy with rfl | hy
    · obtain ⟨e1, e2, e3, e4, _⟩ := q
      rw [e1]
      exact ⟨e2, e3, rep_key _ _ e2 e4⟩
    · exact ih y hy
end
section
variable {X : Cx} {S : Sc} {W : WX} {σ : L2.St} {ρ : List Addr} {H : Hp} {M : Mem}
theorem Stp.allocD (m : MemOk S ρ H M) {p : Addr} (h : H p = none) : Stp S ρ H (ρ ++ [p]) (upd H p (NdO p [])) (M ++ [.dic []]) := by
  have e : Ext ρ H (ρ ++ [p]) (upd H p (NdO p [])) := by
    refine ⟨⟨[p], rfl, fun a ha => ?_⟩, (Ext.fresh (ρ := ρ) h).keep, (Ext.fresh (ρ := ρ) h).live⟩
    rw [List.mem_singleton.mp ha]
    exact Th.none h
  refine ⟨e, ?_, ?_, fun n a c h1 h2 => ?_, m.tab.ext fun b u q => by rw [upd_ne (ne_of_none q h)]; exact q⟩
  · rw [List.length_append, List.length_append, m.len]
    rfl
  · refine List.nodup_append.mpr ⟨m.nd, by simp, ?_⟩
    intro a ha b hb
    rw [List.mem_singleton.mp hb]
    rintro rfl
    exact m.new h ha
  · by_cases hn : n < ρ.length
    · rw [List.getElem?_append_left hn] at h1
      rw [List.getElem?_append_left (by rw [← m.len]; exact hn)] at h2
      have ok := m.cell n a c h1 h2
      refine ok.ext e (upd_ne ?_)
      intro z
      exact ok.some (by rw [z]; exact h)
    · rw [List.getElem?_append_right (by omega)] at h1
      rw [List.getElem?_append_right (by rw [← m.len]; omega)] at h2
      have e0 : n - ρ.length = 0 := by
        have := (List.getElem?_eq_some_iff.mp h1).1
        simp at this
        omega
      rw [← m.len] at h2
      rw [e0] at h1 h2
      simp at h1 h2
      subst h1 h2
      exact ⟨[], upd_same, .nil⟩
theorem code_ne (a : Addr) (q : Str) (xs : List NE) : LamX.CodeO a q ≠ NdO a xs := fun z => by
  unfold LamX.CodeO NdO at z
  have f : (fun h : Heap => ∃ (oc : Obj) (vs : Array Value) (t : Tok), h.get? a = some oc ∧ oc.data = .fields vs ∧ vs[1]? = some (.str q t)) = fun h => NdAt h a xs := by
    injection z
  have g := congrFun f ⟨Array.replicate (a + 1) { cls := .none, data := .fields #[.none, .str q 0] }, {}⟩
  have e : Heap.get? ⟨Array.replicate (a + 1) { cls := .none, data := .fields #[.none, .str q 0] }, {}⟩ a = some { cls := .none, data := .fields #[.none, .str q 0] } := by
    unfold Heap.get?
    simp
  have l : ∃ (oc : Obj) (vs : Array Value) (t : Tok), Heap.get? ⟨Array.replicate (a + 1) { cls := .none, data := .fields #[.none, .str q 0] }, {}⟩ a = some oc ∧ oc.data = .fields vs ∧ vs[1]? = some (.str q t) := ⟨_, _, 0, e, rfl, rfl⟩
  have r : NdAt ⟨Array.replicate (a + 1) { cls := .none, data := .fields #[.none, .str q 0] }, {}⟩ a xs := by
    rw [← g]
    exact l
  obtain ⟨_, _, us, _, o, es, ep, ho, _, hd, _⟩ := r
  rw [e] at ho
  cases ho
  cases hd
theorem tabs_putD {T : List (Addr × Str)} {H : Hp} {a : Addr} {xs ys : List NE} (t : LamX.Tabs T H) (e : H a = some (NdO a xs)) : LamX.Tabs T (upd H a (NdO a ys)) := fun p hp => by
  obtain ⟨ps, h1, h2, h3⟩ := t p hp
  refine ⟨ps, ?_, h2, fun pos cv hc => ?_⟩
  · rw [upd_ne (fun z => by rw [z, e] at h1; cases h1)]
    exact h1
  · obtain ⟨c, e1, e2⟩ := h3 pos cv hc
    refine ⟨c, e1, ?_⟩
    rw [upd_ne (fun z => by rw [z, e] at e2; exact code_ne a p.2 xs (Option.some.inj e2).symm)]
    exact e2
theorem Stp.putD (m : MemOk S ρ H M) {n : Nat} {a : Addr} {kvs0 kvs : List (NestedKey × D)} {ys : List NE} (h : ρ[n]? = some a) (h2 : M[n]? = some (.dic kvs0)) (r : DRel S.K ρ H ys kvs) : Stp S ρ H ρ (upd H a (NdO a ys)) (M.set n (.dic kvs)) := by
  obtain ⟨xs, ey, _⟩ := m.cell n a _ h h2
  have ha : a ∈ ρ := List.mem_of_getElem? h
  have e : Ext ρ H ρ (upd H a (NdO a ys)) := by
    refine ⟨⟨[], by simp, by simp⟩, fun b u q nb _ => by rw [upd_ne (fun z => nb (by rw [z]; exact ha))]; exact q, fun b ⟨u, q, t⟩ => ?_⟩
    by_cases hb : b = a
    · exact ⟨NdO a ys, by rw [hb, upd_same], fun _ z => nomatch z⟩
    · exact ⟨u, by rw [upd_ne hb]; exact q, t⟩
  refine ⟨e, by rw [List.length_set]; exact m.len, m.nd, fun k b c h1 h3 => ?_, tabs_putD m.tab ey⟩
  by_cases hk : k = n
  · subst hk
    rw [h] at h1
    cases h1
    rw [List.getElem?_set_self (List.getElem?_eq_some_iff.mp h2).1] at h3
    cases h3
    exact ⟨ys, upd_same, DRel.mono e r⟩
  · rw [List.getElem?_set_ne (Ne.symm hk)] at h3
    have ok := m.cell k b c h1 h3
    refine ok.ext e (upd_ne ?_)
    intro z
    subst z
    exact hk ((List.getElem?_inj (List.getElem?_eq_some_iff.mp h1).1 m.nd).mp (h1.trans h.symm))
def fDNew : F D := fun _ M => .ok (.ref M.length) (M ++ [.dic []])
theorem qe_dnew {pos : Pos} : QE S W X (.Dict [] [] pos) fDNew := PE.imp pe_newN fun σ H Q ⟨ρ, M, σa, mo, rs, p⟩ => fun q hq => p (ρ ++ [q]) _ _ (Stp.allocD mo hq) (rep_new mo)
def keyOf (d : D) : Option (List NestedKey) := match nkOf d with | some (.tup ks) => if Nat.ble (NestedKey.tup ks).depth 8 = true then some ks else none | _ => none
theorem key_use {v : V} {d : D} {ks : List NestedKey} (r : Rep S.K ρ H v d) (h : keyOf d = some ks) : ∃ a, v = .ref a ∧ KeyAt H a ks ∧ pureK (.tup ks) = true ∧ (NestedKey.tup ks).depth ≤ 8 ∧ Rep S.K ρ H (.ref a) (dK (.tup ks)) := by
  unfold keyOf at h
  split at h
  · rename_i ks' e
    split at h
    · rename_i hd
      cases h
      obtain ⟨a, b⟩ := nk_pure d _ e
      rw [← b] at r
      have kv := rep_key _ _ a r
      have kv' := kv
      rw [KeyV] at kv'
      obtain ⟨xs, ⟨ad, o, rfl, ha⟩, _⟩ := kv'
      have hd' := Nat.le_of_ble_eq_true hd
      exact ⟨ad, rfl, ⟨by simpa [pureK] using a, hd', kv⟩, a, hd', r⟩
    · cases h
  · cases h
def gInN (neg : Bool) : D → D → Mem → Res D
  | d, .ref n, M => (match keyOf d, M[n]? with | some ks, some (.dic kvs) => .ok (.bl (if neg = true then !(dGet kvs (.tup ks)).isSome else (dGet kvs (.tup ks)).isSome)) M | _, _ => .bad)
  | _, _, _ => .bad
theorem oq_inN {neg : Bool} : OpQ S (rInN neg) (gInN neg) := by
  intro W σ ρ H M x y dx dy Q mo rx ry p
  unfold gInN at p
  split at p
  · split at p
    · rename_i ks kvs hk hm
      cases ry with
      | ref e =>
        obtain ⟨xs, e1, r⟩ := mo.cell _ _ _ e hm
        obtain ⟨a, rfl, ka, _⟩ := key_use rx hk
        refine ⟨_, xs, a, ks, rfl, rfl, ⟨e1, r.keys⟩, ka, ?_⟩
        have eq : (nGet xs (.tup ks)).isSome = (dGet kvs (.tup ks)).isSome := by
          rcases r.get (.tup ks) with ⟨h1, h2⟩ | ⟨v, d, h1, h2, _⟩ <;> rw [h1, h2] <;> rfl
        rw [eq]
        exact p ρ H _ (Stp.refl mo) (.bl _)
    · exact p.elim
  · exact p.elim
def gGetD : D → D → Mem → Res D
  | .ref n, d, M => (match keyOf d, M[n]? with | some ks, some (.dic kvs) => (match dGet kvs (.tup ks) with | some z => .ok z M | none => .bad) | _, _ => .bad)
  | _, _, _ => .bad
theorem oq_getD : OpQ S rGetN gGetD := by
  intro W σ ρ H M x y dx dy Q mo rx ry p
  unfold gGetD at p
  split at p
  · split at p
    · rename_i ks kvs hk hm
      split at p
      · rename_i z hz
        cases rx with
        | ref e =>
          obtain ⟨xs, e1, r⟩ := mo.cell _ _ _ e hm
          obtain ⟨a, rfl, ka, _⟩ := key_use ry hk
          rcases r.get (.tup ks) with ⟨h1, h2⟩ | ⟨v, d, h1, h2, rv⟩
          · rw [hz] at h2; cases h2
          · rw [hz] at h2
            cases h2
            exact ⟨_, xs, a, ks, v, rfl, rfl, ⟨e1, r.keys⟩, ka, h1, p ρ H _ (Stp.refl mo) rv⟩
      · exact p.elim
    · exact p.elim
  · exact p.elim
theorem qe_ixD {a b : Expr} {pos : Pos} {fa fb : F D} (hu : X.A.units + 9 < cLine) (ha : QE S W X a fa) (hb : QE S W X b fb) (hs : PlainIx b := by exact fun _ _ => rfl) : QE S W X (.Subscript a b pos) (fBin gGetD fa fb) :=
  PE.imp (pe_ix (ix_dictN hu) ha hb hs) fun _ _ _ h => bin_imp oq_getD h
def gPutD (o i v : D) (M : Mem) : Option Mem := match o with
  | .ref n => (match keyOf i, M[n]? with | some ks, some (.dic kvs) => if Nat.blt kvs.length 16777216 = true then some (M.set n (.dic (dPut kvs (.tup ks) v))) else none | _, _ => none)
  | _ => none
theorem putD_ok {M2 : Mem} {o i v : D} {vo vi vv : V} {Q : Hp → Prop} (mo : MemOk S ρ H M) (ro : Rep S.K ρ H vo o) (ri : Rep S.K ρ H vi i) (rv : Rep S.K ρ H vv v) (h : gPutD o i v M = some M2) (q : ∀ H', Stp S ρ H ρ H' M2 → Q H') : rSetN vo vi vv H Q := by
  unfold gPutD at h
  split at h
  · split at h
    · rename_i ks kvs hk hm
      split at h
      · rename_i hl
        cases h
        cases ro with
        | ref e =>
          obtain ⟨xs, e1, r⟩ := mo.cell _ _ _ e hm
          obtain ⟨a, rfl, ka, p1, p2, p3⟩ := key_use ri hk
          rw [Nat.blt_eq] at hl
          exact ⟨_, xs, a, ks, rfl, rfl, ⟨e1, r.keys⟩, ka, by rw [r.len, sizeLine_eq]; omega, q _ (Stp.putD mo e hm (r.put p1 p2 p3 rv))⟩
      · cases h
    · cases h
  · cases h
def sPutD (fo fi fv : F D) : FS := fun σ M => (fv σ M).bindS σ fun v M1 => (fo σ M1).bindS σ fun o M2 => (fi σ M2).bindS σ fun i M3 => match gPutD o i v M3 with | some M4 => .ok (.nx σ) M4 | none => .bad
theorem qs_putD {o i e : Expr} {fo fi fv : F D} {pos pos' : Pos} (hu : X.A.units + 9 < cLine) (ho : QE S W X o fo) (hi : QE S W X i fi) (he : QE S W X e fv)
    (ha : ∀ v, assign (.Subscript o i pos') X.env v = (do
      let ov ← holding [v] (eval o X.env)
      let iv ← holding [v, ov] (eval i X.env)
      standAt pos'
      holding [v, ov, iv] (setItem ov iv v)
      release [v, ov, iv] []) := by intro _; rfl) (hs : swapsWithSole [.Subscript o i pos'] e pos.line X.env = pure false := by rfl) (hw : swappedStores [.Subscript o i pos'] e X.env = pure none := by rfl)
    (h1 : (assignEach [.Subscript o i pos'] X.env).map (·.2) = [assign (.Subscript o i pos') X.env] := by rfl) : QS S W X (.Assign [.Subscript o i pos'] e pos) (sPutD fo fi fv) :=
  PS.imp (ps_asg he (pg_sub ho hi (set_dictN hu) ha) hs hw h1) fun E σ H ⟨ρ, M, σa, mo, rs, p⟩ => by
  refine useS mo rs p fun x M1 ρ1 H1 v st1 r1 rs1 p1 => useS st1.2 rs1 p1 fun x2 M2 ρ2 H2 v2 st2 r2 rs2 p2 => useS st2.2 rs2 p2 fun x3 M3 ρ3 H3 v3 st3 r3 rs3 p3 => ?_
  split at p3
  · rename_i M4 h4
    exact putD_ok st3.2 (Rep.mono st3.1 _ _ r2) r3 (Rep.mono (st2.1.trans st3.1) _ _ r1) h4 fun H' st4 => p3 ρ3 H' σ st4 (rs3.mono st4.1)
  · exact p3.elim
theorem hu9 {A : Around} {k : Nat} (hr : Room k A) : A.units + 9 < cLine := by
  have := hu150 hr
  omega
inductive Tn where
  | nm (i : Nat) | tp (ts : List Tn)
end
end QX
set_option maxRecDepth 100000
set_option maxHeartbeats 1000000
namespace HX
open PySem PySem.Spec PyProof.Rows L2
theorem zip_rel : ∀ {xs : List V} {us : List Value} {ds : List PyData}, Vals xs us → xs.length = ds.length → PySem.W.EachIs (fun (u : Value) (b : V × PyData) => RelV b.1 u) us (xs.zip ds)
  | [], _, [], .nil, _ => .nil
  | x :: xs, _ :: us, d :: ds, .cons r t, h => .cons r (zip_rel t (by simpa using h))
theorem rel_vals : ∀ {bs : List (V × PyData)} {us : List Value}, PySem.W.EachIs (fun (u : Value) (b : V × PyData) => RelV b.1 u) us bs → Vals (bs.map Prod.fst) us
  | _, _, .nil => .nil
  | _, _, .cons r t => .cons r (rel_vals t)
variable {X : Cx} {pins : List (Addr × Obj)} {σ : L2.St} {H : Hp} {s : Shared}
theorem zip_snd : ∀ {xs : List V} {ds : List PyData}, xs.length = ds.length → (xs.zip ds).map Prod.snd = ds
  | [], [], _ => rfl
  | x :: xs, d :: ds, h => by rw [List.zip_cons_cons, List.map_cons, zip_snd (by simpa using h)]
end HX
set_option maxRecDepth 100000
set_option maxHeartbeats 1000000
namespace QX
open PySem PySem.Spec PyProof.Rows L2 HX
def tupB : PyData → Bool
  | .tuple (_ :: _) => true
  | _ => false
def sortOk (ps : List PyData) : Bool := (ps.all fun a => ps.all fun b => PySem.W.alike a b) && ps.all tupB && (ps.all fun a => Nat.ble a.depth 100) && Nat.ble ps.length 1000000
def sortD (es : List D) (ps : List PyData) : List D := ((es.zip ps).mergeSort (PySem.W.dataLe false Prod.snd)).map Prod.fst
section
variable {S : Sc} {ρ : List Addr} {H : Hp}
theorem repA_len : ∀ {xs : List V} {es : List D}, RepA S.K ρ H xs es → xs.length = es.length
  | _, _, .nil => rfl
  | _, _, .cons _ t => by rw [List.length_cons, List.length_cons, repA_len t]
theorem repA_mem : ∀ {xs : List V} {es : List D} {ps : List PyData}, RepA S.K ρ H xs es → ∀ t ∈ xs.zip (es.zip ps), Rep S.K ρ H t.1 t.2.1
  | _, _, _, .nil, t, ht => by simp at ht
  | x :: xs, e :: es, [], .cons r s, t, ht => by simp at ht
  | x :: xs, e :: es, p :: ps, .cons r s, t, ht => by
    rw [List.zip_cons_cons, List.zip_cons_cons] at ht
    rcases List.mem_cons.mp ht with rfl | ht
    · exact r
    · exact repA_mem s t ht
theorem repA_maps : ∀ {T : List (V × D × PyData)}, (∀ t ∈ T, Rep S.K ρ H t.1 t.2.1) → RepA S.K ρ H (T.map fun t => t.1) (T.map fun t => t.2.1)
  | [], _ => .nil
  | t :: T, h => .cons (h t (by simp)) (repA_maps fun u hu => h u (by simp [hu]))
theorem zip_a : ∀ {xs : List V} {es : List D} {ps : List PyData}, xs.length = es.length → es.length = ps.length → (xs.zip (es.zip ps)).map (fun t => (t.1, t.2.2)) = xs.zip ps ∧ (xs.zip (es.zip ps)).map (fun t => t.2) = es.zip ps
  | [], [], [], _, _ => ⟨rfl, rfl⟩
  | x :: xs, e :: es, p :: ps, h1, h2 => by
    obtain ⟨a, b⟩ := zip_a (xs := xs) (es := es) (ps := ps) (by simpa using h1) (by simpa using h2)
    rw [List.zip_cons_cons, List.zip_cons_cons, List.map_cons, List.map_cons, a, b]
    exact ⟨rfl, rfl⟩
theorem repA_sort {xs : List V} {es : List D} {ps : List PyData} (r : RepA S.K ρ H xs es) (h : es.length = ps.length) : RepA S.K ρ H (((xs.zip ps).mergeSort (PySem.W.dataLe false Prod.snd)).map Prod.fst) (sortD es ps) := by
  obtain ⟨za, zb⟩ := zip_a (repA_len r) h
  have hm := repA_mem (ps := ps) r
  generalize xs.zip (es.zip ps) = T at za zb hm
  have e1 : (xs.zip ps).mergeSort (PySem.W.dataLe false Prod.snd) = (T.mergeSort (PySem.W.dataLe false fun t => t.2.2)).map (fun t => (t.1, t.2.2)) := by
    rw [← za]
    exact (List.map_mergeSort (f := fun t : V × D × PyData => (t.1, t.2.2)) (r := PySem.W.dataLe false fun t => t.2.2) (s := PySem.W.dataLe false Prod.snd) (fun a _ b _ => rfl)).symm
  have e2 : (es.zip ps).mergeSort (PySem.W.dataLe false Prod.snd) = (T.mergeSort (PySem.W.dataLe false fun t => t.2.2)).map (fun t => t.2) := by
    rw [← zb]
    exact (List.map_mergeSort (f := fun t : V × D × PyData => t.2) (r := PySem.W.dataLe false fun t => t.2.2) (s := PySem.W.dataLe false Prod.snd) (fun a _ b _ => rfl)).symm
  unfold sortD
  rw [e1, e2, List.map_map, List.map_map]
  exact repA_maps fun t ht => hm t (List.mem_mergeSort.mp ht)
end
def ipM : TIp := fun x y H Q => ∃ i j, x = .int i ∧ y = .int j ∧ CMulW i j ∧ Q (.int (i * j)) H
theorem ip_mul {X : Cx} : PIp X .Mult ipM := by
  intro pins s σ H x y v u Q I r1 r2 h
  obtain ⟨i, j, e1, e2, hc, q⟩ := h
  subst e1; subst e2
  obtain ⟨t, rfl⟩ := r1
  obtain ⟨t', rfl⟩ := r2
  exact imul_int ⟨.int _, H, I.tok _, ⟨_, rfl⟩, q⟩ hc.ok
def gAugM : D → D → Option D
  | .int i, .int j => if mulOk i j = true then some (.int (i * j)) else none
  | _, _ => none
theorem ipq_mul {S : Sc} : IpQ S ipM gAugM := by
  intro ρ H x y dx dy d Q rx ry h q
  unfold gAugM at h
  split at h
  · split at h
    · rename_i hm
      cases h; cases rx; cases ry
      exact ⟨_, _, rfl, rfl, (show CMulW _ _ from by unfold CMulW; simpa [mulOk, Nat.blt_eq] using hm), q _ (.int _)⟩
    · cases h
  · cases h
end QX
set_option maxRecDepth 100000
set_option maxHeartbeats 1000000
namespace HX
open PySem PySem.Spec PyProof.Rows L2 PySem.W PyProof.V PySem.Calls
section
variable {prog : Program} {w : World} {A : Around} {E : Value → Shared → Prop} {s : Shared} {d : Addr}
theorem kdl_raw (es : Array DictEntry) (ep : Nat) (lo : (d == sysModules) = false) : KdlSrc prog w "dict" d d es.size (fun i v => ∃ hi : i < es.size, v = es[i].key) (fun h => h.DictRaw d es ep) where
  type := fun _ hm => hm.typeIs
  there := fun _ hm => ⟨hm.lt_size, hm.lt_size⟩
  keep := fun _ _ hm hk => hm.at fun o e => hk d (.inl rfl) o e
  notList := by decide
  notTuple := by decide
  hint := fun _ _ _ _ hm hq => kdl_hint_dict hm.typeIs hq
  iter := fun _ _ hh hm => ⟨_, _, (fun _ _ hq => wpAny_pyIter_dict_raw lo hm hq), Walks.rawKeys hh _ d (Nat.ne_of_lt hm.lt_size) es ep, ⟨⟨_, Heap.get?_push_size _ rfl, rfl, rfl⟩, hm.push _⟩⟩
end
section
variable {prog : Program} {w : World} {A : Around} {E : Value → Shared → Prop} {s : Shared} {T : String} {r d : Addr} {n : Nat} {P : Nat → Value → Prop} {OK : Heap → Prop}
def Took (s : Shared) (P : Nat → Value → Prop) (n : Nat) (q : Result) (s' : Shared) : Prop := q = .ok (.ret (.ref s.heap.objs.size)) ∧ ∃ (h' : Heap) (tk : Nat) (acc : Array Value) (c : Nat), s' = { s with heap := h', toks := tk } ∧ (∀ b o, s.heap.get? b = some o → h'.get? b = some o) ∧ h'.get? s.heap.objs.size = some { cls := .type "list", dict := none, data := .seq acc c, slots := #[] } ∧ ItemsOf P acc n
theorem collect_new {R : List Value → Shared → Prop} (K : KdlSrc prog w T r d n P OK) (hh : A.handled = none) (hok : OK s.heap) (hn : n ≤ sizeLine)
    (h : ∀ (h' : Heap) (tk : Nat) (acc : Array Value), (∀ b o, s.heap.get? b = some o → h'.get? b = some o) → s.heap.objs.size < h'.objs.size → ItemsOf P acc n → R acc.toList { s with heap := h', toks := tk }) :
    wpAny (model prog w) A (collect (.ref r)) R E s := by
  obtain ⟨lr, ld⟩ := K.there _ hok
  have ext := kdl_extend (A := A) (s := { s with heap := s.heap.push { cls := .type "list", data := .seq ([] : List Value).toArray } }) (R := Took s P n) K hh
    (K.keep _ _ hok fun b _ o e => Heap.get?_push_of_some _ e) s.heap.objs.size (Nat.ne_of_gt lr) (Nat.ne_of_gt ld) (.ref s.heap.objs.size) 0 (Heap.get?_push_size _ rfl)
    (fun h' tk acc c hk hS hi => ⟨rfl, h', tk, acc, c, rfl, fun b o e => hk b o (Nat.ne_of_lt (Heap.lt_size e)) (Heap.get?_push_of_some _ e), hS, hi⟩) hn
  unfold collect
  refine wpAny_bind (wpAny_runValue (codeAny_builtin entry_proto_collect' ?_))
  rw [Around.under_plainId PySem.F.plain_proto_collect _]
  refine wpAny_bind (wpAny_newObj_type (wpAny_pure ⟨plainId_quiet PySem.F.plain_list_iadd _, codeAny_builtin entry_list_iadd' ?_⟩))
  rw [Around.under_plainId PySem.F.plain_list_iadd _]
  refine wpAny_mono ext (fun f s' x => ?_) fun e s' x => nomatch x.1
  cases f with
  | done f =>
    obtain ⟨e, h', tk, acc, c, rfl, hk, hS, hi⟩ := x
    cases e
    exact wpAny_bind (wpAny_load hS (wpAny_pure (h h' tk acc hk (Heap.lt_size hS) hi)))
  | again c1 =>
    refine ⟨x.1, codeAny_mono x.2 fun q s2 y => ?_⟩
    obtain ⟨rfl, h', tk, acc, c, rfl, hk, hS, hi⟩ := y
    exact wpAny_bind (wpAny_load hS (wpAny_pure (h h' tk acc hk (Heap.lt_size hS) hi)))
end
mutual
def nkPy : NestedKey → PyData
  | .num i => .int i
  | .tup ks => .tuple (nkPys ks)
  | _ => .none
def nkPys : List NestedKey → List PyData
  | [] => []
  | k :: ks => nkPy k :: nkPys ks
end
section
variable {P : Program} {w : World} {H : Hp} {h : Heap}
mutual
theorem KeyV.reads (ok : HOk P w H h) : ∀ (k : NestedKey) (v : V) (u : Value), KeyV H k v → RelV v u → Reads h u (nkPy k) []
  | .none, v, u, e, _ => by simp [KeyV] at e
  | .text x, v, u, e, _ => by simp [KeyV] at e
  | .num i, v, u, e, r => by
    rw [KeyV] at e
    subst e
    obtain ⟨t, rfl⟩ := r
    rw [nkPy]
    exact .int i t
  | .tup ks, v, u, e, r => by
    rw [KeyV] at e
    obtain ⟨xs, ⟨a, o, rfl, ha⟩, hk⟩ := e
    cases (show u = Value.ref a from r)
    obtain ⟨e1, _, its, rv, o', h1, h2, n, h3⟩ := (show ObjOk P w H h a (.frz o (.tup xs)) from ok a _ ha)
    rw [nkPy]
    exact .tuple h1 h2 h3 (KeyVs.reads ok ks xs _ hk (by simpa using rv))
theorem KeyVs.reads (ok : HOk P w H h) : ∀ (ks : List NestedKey) (vs : List V) (us : List Value), KeyVs H ks vs → Vals vs us → ReadsAll h us (nkPys ks) []
  | [], vs, us, e, r => by
    rw [KeyVs] at e
    subst e
    cases r
    rw [nkPys]
    exact .nil
  | k :: ks, vs, us, e, r => by
    rw [KeyVs] at e
    obtain ⟨v, r', rfl, e1, e2⟩ := e
    cases r with
    | cons r1 r2 =>
      rw [nkPys]
      exact .cons (KeyV.reads ok k _ _ e1 r1) (KeyVs.reads ok ks _ _ e2 r2)
end
end
def keyVs (xs : List NE) : List V := xs.map fun x => V.ref x.2.1
def keyPs (xs : List NE) : List PyData := xs.map fun x => nkPy x.1
def rSortDic (K : PySem.W.Frag) : List V → Hp → VK → Prop := fun vs H Q => ∃ (d : Addr) (xs : List NE), vs = [V.ref d] ∧ DicAt H d xs ∧ PySem.W.AllAlike (keyPs xs) ∧ PySem.W.Sortable (keyPs xs) ∧ (∀ p ∈ keyPs xs, p.depth ≤ 100) ∧
  ∀ p, H p = none → Q (.ref p) (upd H p (.lst ((((keyVs xs).zip (keyPs xs)).mergeSort (PySem.W.dataLe false Prod.snd)).map Prod.fst)))
variable {X : Cx}
theorem nrel_vals : ∀ {xs : List NE} {us : List (NestedKey × Addr × Value)}, NRel xs us → Vals (keyVs xs) (us.map fun u => Value.ref u.2.1)
  | _, _, .nil => .nil
  | x :: xs, u :: us, .cons q t => .cons (show RelV (.ref x.2.1) (.ref u.2.1) by rw [q.2.1]; rfl) (nrel_vals t)
theorem keys_reads {H : Hp} {h : Heap} (ok : HOk X.prog X.w H h) : ∀ {xs : List NE} {us : List (NestedKey × Addr × Value)}, NRel xs us → (∀ x ∈ xs, KeyV H x.1 (.ref x.2.1)) → ∀ (h' : Heap) (D : Addr), (∀ b o, h.get? b = some o → h'.get? b = some o) → PySem.W.EachIs (fun (u : Value) (b : V × PyData) => ∃ as, Reads h' u b.2 as ∧ D ∉ as) (us.map fun u => Value.ref u.2.1) ((keyVs xs).zip (keyPs xs))
  | _, _, .nil, _, h', D, _ => .nil
  | x :: xs, u :: us, .cons q t, hk, h', D, k => .cons ⟨[], PyProof.Rows.Reads.keeps k (KeyV.reads ok x.1 (.ref x.2.1) (.ref u.2.1) (hk x (by simp)) (by rw [q.2.1]; rfl)), by simp⟩ (keys_reads ok t (fun y hy => hk y (by simp [hy])) h' D k)
theorem call_sortDic (hc : X.calm = true) (hu : X.A.units + 150 < cLine) : CallR X (.builtin "sorted") (rSortDic X.K) := by
  intro pins s σ H vs us Q I r h
  obtain ⟨d, xs, rfl, hD, hal, hso, hdp, q⟩ := h
  obtain rfl := Vals.ref1 r
  obtain ⟨lo, hz, us', rel, o, es, ep, ho, hx, hdat, hes, his, hnd⟩ := DicAt.use I hD
  have hraw : s.heap.DictRaw d es ep := ⟨o, ho, hx, hdat⟩
  have hsz : es.size = us'.length := by rw [← Array.length_toList, hes, List.length_map]
  have hlen := rel.len
  have hkl : (keyVs xs).length = (keyPs xs).length := by rw [keyVs, keyPs, List.length_map, List.length_map]
  have hsnd := zip_snd hkl
  refine call_function_entry kind_sorted plain_sorted entry_sorted (args_sorted1 _) ?_
  unfold Builtin.«sorted»
  refine wpAny_bind (m := checkCount "sorted" 1 1 _) (wpAny_pure ?_)
  refine wpAny_bind (collect_new (A := X.A.in1) (kdl_raw es ep lo) (I.ok.hd hc) hraw (by omega) fun h' tk acc hk hgr hacc => ?_)
  have hl : acc.toList.length = es.size := by rw [Array.length_toList]; exact hacc.1
  have hacc' : acc.toList = us'.map fun u => Value.ref u.2.1 := by
    refine List.ext_getElem (by rw [hl, hsz, List.length_map]) fun j h1 h2 => ?_
    obtain ⟨hi, e⟩ := hacc.2 j acc.toList[j] (by rw [← Array.getElem?_toList]; exact List.getElem?_eq_getElem h1)
    rw [e, List.getElem_map]
    have hu2 : j < us'.length := by omega
    have e2 : es[j] = entryOfKey (nestedKind X.prog X.w) us'[j] := by
      have e3 : es.toList[j]? = some es[j] := by rw [Array.getElem?_toList]; exact Array.getElem?_eq_getElem hi
      rw [hes, List.getElem?_map, List.getElem?_eq_getElem hu2] at e3
      exact (Option.some.inj e3).symm
    rw [e2]
    rfl
  have r1 : PySem.W.EachIs (fun (u : Value) (b : V × PyData) => RelV b.1 u) acc.toList ((keyVs xs).zip (keyPs xs)) := by rw [hacc']; exact zip_rel (nrel_vals rel) hkl
  have r2 : ∀ (h2 : Heap) (D : Addr), (∀ b o, s.heap.get? b = some o → h2.get? b = some o) → PySem.W.EachIs (fun (u : Value) (b : V × PyData) => ∃ as, Reads h2 u b.2 as ∧ D ∉ as) acc.toList ((keyVs xs).zip (keyPs xs)) := by rw [hacc']; exact fun h2 D k => keys_reads I.hok rel (fun x hx => (hD.2 x hx).2.2) h2 D k
  refine wpAny_bind (wpAny_newList ?_ (by rw [hl]; omega))
  have hD' : (h'.push { cls := .type "list", data := .seq acc.toList.toArray }).get? h'.objs.size = some (seqObj "list" acc.toList.toArray 0) := Heap.get?_push_size _ rfl
  have kp : ∀ b o, s.heap.get? b = some o → (h'.push { cls := .type "list", data := .seq acc.toList.toArray }).get? b = some o := fun b o e => Heap.get?_push_of_some _ (hk b o e)
  have hg := list_sort_data (prog := X.prog) (w := X.w) (A := X.A.in1) (E := X.xe) (s := { s with heap := h'.push { cls := .type "list", data := .seq acc.toList.toArray }, toks := tk }) (Q := fun _ s' => EP X pins σ Q (.ref h'.objs.size) s') (β := V × PyData) (bs := (keyVs xs).zip (keyPs xs)) (enc := Prod.snd) (R := fun u b => RelV b.1 u) hD' r1 (r2 _ _ kp) (by rw [hsnd]; exact hal) (by rw [hsnd]; exact hso) (by rw [List.length_zip, ← hkl, Nat.min_self, keyVs, List.length_map]; exact hz) (fun b hb => by
    have hm : b.2 ∈ keyPs xs := by rw [← hsnd]; exact List.mem_map.mpr ⟨b, hb, rfl⟩
    have := hdp _ hm
    show X.A.units + 1 + 1 + b.2.depth < cLine
    omega) (fun out h1 h2 => by
      obtain ⟨ep', he'⟩ := PyProof.Rows.sortedHeap_at (vs := acc.toList) (out := out.toArray) hD'
      have hlt : s.heap.objs.size ≤ h'.objs.size := Nat.le_of_lt hgr
      refine ⟨.ref h'.objs.size, upd H h'.objs.size (.lst ((((keyVs xs).zip (keyPs xs)).mergeSort (PySem.W.dataLe false Prod.snd)).map Prod.fst)), I.laid (t' := tk) (fun b o e => ?_) hlt ⟨?_, out, ep', rel_vals h2, he'⟩, rfl, q _ (I.hok.fresh hlt)⟩
      · have hb := Heap.lt_size e
        refine (PyProof.Rows.sortedHeap_old ?_ ?_).trans (kp b o e)
        · exact Nat.ne_of_lt (Nat.lt_of_lt_of_le hb hlt)
        · show b < (h'.push _).objs.size
          rw [size_push']
          exact Nat.lt_succ_of_lt (Nat.lt_of_lt_of_le hb hlt)
      · rw [List.length_map, List.length_mergeSort, List.length_zip, ← hkl, Nat.min_self, keyVs, List.length_map]
        exact hz)
  refine wpAny_bind (wpAny_holding (wpAny_mono hg (fun _ s' x => ?_) fun _ _ e => e))
  exact wpAny_pure ⟨_, rfl, x⟩
end HX
set_option maxRecDepth 100000
set_option maxHeartbeats 1000000
namespace QX
open PySem PySem.Spec PyProof.Rows L2 HX
def gSortD : List D → Mem → Res D
  | [.ref n], M => (match M[n]? with | some (.dic kvs) => if sortOk (kvs.map fun p => nkPy p.1) = true then .ok (.ref M.length) (M ++ [.lst (sortD (kvs.map fun p => dK p.1) (kvs.map fun p => nkPy p.1))]) else .bad | _ => .bad)
  | _, _ => .bad
section
variable {S : Sc} {ρ : List Addr} {H : Hp}
theorem drel_rep : ∀ {xs : List NE} {kvs : List (NestedKey × D)}, DRel S.K ρ H xs kvs → RepA S.K ρ H (keyVs xs) (kvs.map fun p => dK p.1)
  | _, _, .nil => .nil
  | x :: xs, p :: kvs, .cons q t => .cons q.2.2.2.1 (drel_rep t)
theorem drel_py : ∀ {xs : List NE} {kvs : List (NestedKey × D)}, DRel S.K ρ H xs kvs → keyPs xs = kvs.map fun p => nkPy p.1
  | _, _, .nil => rfl
  | x :: xs, p :: kvs, .cons q t => by
    show nkPy x.1 :: keyPs xs = nkPy p.1 :: kvs.map fun p => nkPy p.1
    rw [drel_py t, q.1]
theorem cq_sortDic : CallQ S (rSortDic S.K) gSortD := by
  intro W σ ρ H M xs ds Q mo ra p
  unfold gSortD at p
  split at p
  · split at p
    · rename_i kvs hm
      split at p
      · rename_i ho
        obtain ⟨v, rfl, r⟩ := RepA.one ra
        cases r with
        | ref e =>
          obtain ⟨ys, e1, rr⟩ := mo.cell _ _ _ e hm
          have hpy := drel_py (S := S) rr
          unfold sortOk at ho
          simp only [Bool.and_eq_true, List.all_eq_true] at ho
          obtain ⟨⟨⟨o1, o2⟩, o3⟩, o4⟩ := ho
          have hs := repA_sort (S := S) (drel_rep rr) (show (kvs.map fun p => dK p.1).length = (kvs.map fun p => nkPy p.1).length by rw [List.length_map, List.length_map])
          refine ⟨_, ys, rfl, ⟨e1, rr.keys⟩, ?_, ?_, ?_, fun q hq => ?_⟩
          · rw [hpy]
            exact fun d hd d' hd' => o1 d hd d' hd'
          · rw [hpy]
            refine .inl fun d hd => ?_
            have := o2 d hd
            unfold tupB at this
            split at this
            · exact ⟨_, _, rfl⟩
            · cases this
          · rw [hpy]
            exact fun d hd => Nat.le_of_ble_eq_true (o3 d hd)
          · rw [hpy]
            exact p (ρ ++ [q]) _ _ (Stp.alloc mo hq hs) (rep_new mo)
      · exact p.elim
    · exact p.elim
  · exact p.elim
end
end QX
set_option maxRecDepth 100000
set_option maxHeartbeats 1000000
namespace QX
open PySem PySem.Spec PyProof.Rows L2 HX
section
variable {X : Cx} {S : Sc} {W : WX} {σ : L2.St} {ρ : List Addr} {H : Hp} {M : Mem}
end
end QX
set_option maxRecDepth 100000
set_option maxHeartbeats 2000000
namespace HX
open PySem PySem.Spec PyProof.Rows L2 PySem.W PyProof.V PySem.Calls
def tDispN (tk tv : TE) : TE := fun σ H Q => ∀ p, H p = none → tk σ (upd H p (NdO p [])) fun x H1 => tv σ H1 fun y H2 => H2 p = some (NdO p []) ∧ ∃ (a : Addr) (ks : List NestedKey), x = .ref a ∧ KeyAt H2 a ks ∧ Q (.ref p) (upd H2 p (NdO p [(.tup ks, a, y)]))
section
variable {X : Cx}
theorem pe_dispN {k v : Expr} {tk tv : TE} {pos : Pos} (hu : X.A.units + 9 < cLine) (hk : PE X k tk) (hv : PE X v tv) : PE X (.Dict [some k] [v] pos) (tDispN tk tv) := by
  refine ⟨fun pins s σ H Q I q => ?_⟩
  have hn := I.hok.fresh (Nat.le_refl s.heap.objs.size)
  have hsys : (s.heap.objs.size == sysModules) = false := beq_eq_false_iff_ne.mpr (Ne.symm (Nat.ne_of_lt I.big))
  have I1 := I.laid (a := s.heap.objs.size) (o := NdO s.heap.objs.size []) (h' := s.heap.push { cls := .type "dict", data := .dict #[] }) (t' := s.toks) (fun _ _ q => Heap.get?_push_of_some _ q) (Nat.le_refl _)
    (NdAt.ok ⟨hsys, Nat.zero_le _, [], .nil, _, #[], 0, Heap.get?_push_size _ rfl, ⟨rfl, rfl, rfl⟩, rfl, rfl, List.nodup_nil⟩)
  rw [arm_eval_Dict, zip_pairTrees [some k] [v] X.env pos rfl rfl, dictDisplay_pairs (pairTrees [some k] [v] X.env pos) (by simp [pairTrees]) (by show 1 < 17; decide)]
  refine wpAny_bind (wpAny_standAt (wpAny_bind ?_))
  refine wpAny_subDictH (knd := nestedKind X.prog X.w) (Q := fun d s' => wpAny (model X.prog X.w) X.A (pure (Value.ref d)) (EP X pins σ Q) X.xe s') (by show X.A.units + 8 < cLine; omega) (by show 1 ≤ 15; decide) ?_
  refine pairTrees_cons_walk (thn (hk.run pins _ σ _ _ I1 (q _ hn)) fun u s1 ⟨x, H1, I2, rx, q1⟩ => thn (hv.run pins s1 σ H1 _ I2 q1) fun w2 s2 ⟨y, H2, I3, ry, q2⟩ => pairTrees_nil_walk ?_)
  obtain ⟨e, a, ks, rfl, hka, q3⟩ := q2
  cases rx
  have hD : DicAt H2 s.heap.objs.size [] := ⟨e, fun x hx => by cases hx⟩
  obtain ⟨z, _, us, r, dd⟩ := hD.use I3
  cases r
  refine ⟨[(.tup ks, a, w2)], ⟨rfl, rfl, hka.use I3, True.intro⟩, dd, fun h' tk dd' hs => wpAny_pure ⟨.ref s.heap.objs.size, _, ?_, rfl, q3⟩⟩
  have hq : ∃ p, h'.get? s.heap.objs.size = some p := let ⟨p, _, _, hp, _⟩ := dd'; ⟨p, hp⟩
  exact d_write I3 (by rw [e]; exact True.intro) hs hq (NdAt.of_dict (P := X.prog) (w := X.w) z (by rw [sizeLine_eq]; show 1 ≤ 16777216; decide) (.cons ⟨rfl, rfl, ry⟩ .nil) (fun x hx => by
    rw [List.mem_singleton.mp hx]
    exact (by rw [pureK]; exact hka.1)) dd').ok
def rListDic : List V → Hp → VK → Prop := fun vs H Q => ∃ (d : Addr) (xs : List NE), vs = [V.ref d] ∧ DicAt H d xs ∧ ∀ p, H p = none → Q (.ref p) (upd H p (.lst (keyVs xs)))
theorem call_listDic (hc : X.calm = true) : CallR X (.type "list") rListDic := by
  intro pins s σ H vs us Q I r h
  obtain ⟨d, xs, rfl, hD, q⟩ := h
  obtain rfl := Vals.ref1 r
  obtain ⟨lo, hz, us', rel, o, es, ep, ho, hx, hdat, hes, his, hnd⟩ := DicAt.use I hD
  have hraw : s.heap.DictRaw d es ep := ⟨o, ho, hx, hdat⟩
  have hsz : es.size = us'.length := by rw [← Array.length_toList, hes, List.length_map]
  have hlen := rel.len
  refine PySem.W.kdl_call (HX.kdl_raw es ep lo) (I.ok.hd hc) hraw (by omega) fun h' tk acc' c' hkeep hS hacc => ?_
  have hl : acc'.toList.length = es.size := by rw [Array.length_toList]; exact hacc.1
  have hacc' : acc'.toList = us'.map fun u => Value.ref u.2.1 := by
    refine List.ext_getElem (by rw [hl, hsz, List.length_map]) fun j h1 h2 => ?_
    obtain ⟨hi, e⟩ := hacc.2 j acc'.toList[j] (by rw [← Array.getElem?_toList]; exact List.getElem?_eq_getElem h1)
    rw [e, List.getElem_map]
    have hu2 : j < us'.length := by omega
    have e2 : es[j] = entryOfKey (nestedKind X.prog X.w) us'[j] := by
      have e3 : es.toList[j]? = some es[j] := by rw [Array.getElem?_toList]; exact Array.getElem?_eq_getElem hi
      rw [hes, List.getElem?_map, List.getElem?_eq_getElem hu2] at e3
      exact (Option.some.inj e3).symm
    rw [e2]
    rfl
  refine ⟨.ref s.heap.objs.size, upd H s.heap.objs.size (.lst (keyVs xs)), I.laid hkeep (Nat.le_refl _) (show ObjOk X.prog X.w _ _ _ (.lst (keyVs xs)) from ⟨?_, acc'.toList, c', ?_, ?_⟩), rfl, q _ (I.hok.fresh (Nat.le_refl _))⟩
  · rw [keyVs, List.length_map]; exact hz
  · rw [hacc']; exact nrel_vals rel
  · rw [Array.toArray_toList]; exact hS
end
end HX
set_option maxRecDepth 100000
set_option maxHeartbeats 1000000
namespace QX
open PySem PySem.Spec PyProof.Rows L2 HX
section
variable {X : Cx} {S : Sc} {W : WX} {σ : L2.St} {ρ : List Addr} {H : Hp} {M : Mem} {e : Expr} {fe : F D}
def fDOne (fk fv : F D) : F D := fun σ M => (fk σ (M ++ [.dic []])).bind fun d M1 => (fv σ M1).bind fun v M2 => match keyOf d, M2[M.length]? with
  | some ks, some (.dic []) => .ok (.ref M.length) (M2.set M.length (.dic [(.tup ks, v)]))
  | _, _ => .bad
theorem qe_dOne {k v : Expr} {fk fv : F D} {pos : Pos} (hu : X.A.units + 9 < cLine) (hk : QE S W X k fk) (hv : QE S W X v fv) : QE S W X (.Dict [some k] [v] pos) (fDOne fk fv) := PE.imp (pe_dispN hu hk hv) fun σ H Q ⟨ρ, M, σa, mo, rs, p⟩ => fun q hq => by
  have st0 := Stp.allocD mo hq
  have p := Post.mono p st0.1
  refine use st0.2 (rs.mono st0.1) p fun d M1 ρ1 H1 x st1 r1 rs1 p1 => use st1.2 rs1 p1 fun z M2 ρ2 H2 y st2 r2 rs2 p2 => ?_
  split at p2
  · rename_i ks hks hm
    have hat : (ρ ++ [q])[M.length]? = some q := by rw [← mo.len, List.getElem?_append_right (Nat.le_refl _), Nat.sub_self]; rfl
    have hat2 := (st1.1.trans st2.1).at hat
    obtain ⟨ys, e1, rr⟩ := st2.2.cell _ _ _ hat2 hm
    cases rr
    have rk := Rep.mono st2.1 _ _ r1
    obtain ⟨a, rfl, ka, p1, p2', p3⟩ := key_use rk hks
    have st3 := Stp.putD st2.2 hat2 hm (.cons ⟨rfl, p1, p2', p3, r2⟩ .nil : DRel S.K ρ2 H2 [(.tup ks, a, y)] [(.tup ks, z)])
    exact ⟨e1, a, ks, rfl, ka, p2 ρ2 _ _ st3 (.ref (st3.1.at hat2))⟩
  · exact p2.elim
def gListD : List D → Mem → Res D
  | [.ref n], M => (match M[n]? with | some (.dic kvs) => .ok (.lst (kvs.map fun p => dK p.1)) M | _ => .bad)
  | _, _ => .bad
theorem cq_listDic : CallQ S rListDic gListD := by
  intro W σ ρ H M xs ds Q mo ra p
  unfold gListD at p
  split at p
  · split at p
    · rename_i kvs hm
      obtain ⟨v, rfl, r⟩ := RepA.one ra
      cases r with
      | ref e =>
        obtain ⟨ys, e1, rr⟩ := mo.cell _ _ _ e hm
        exact ⟨_, ys, rfl, ⟨e1, rr.keys⟩, fun q hq => p ρ _ _ (Stp.fresh mo hq) (rep_lst mo hq (drel_rep rr))⟩
    · exact p.elim
  · exact p.elim
end
theorem dfl_one {K : PySem.W.Frag} {T : Addr} {oc : Value} {od : Option Addr} {i : Int} {t : Tok} {n : Nat} {sl : Array (Option Value)} (h : K.lookup T = some ⟨oc, od, .seq #[.int i t] n, sl⟩) : DflV K (.ref T) [V.int i] := .inr ⟨by simp, T, _, [.int i t], n, rfl, h, rfl, .cons ⟨t, rfl⟩ .nil⟩
end QX
set_option maxRecDepth 100000
set_option maxHeartbeats 1000000
namespace QX
open PySem PySem.Spec PyProof.Rows L2 HX
def compL2 (t : Tg) (c : F Bool) (fi1 : F Ita) (vs1 : List Nat) (t1 : Tg) (c1 : F Bool) (e : F D) (chk : Mem → Bool) (σ : Sa) (n : Nat) : List Im → Mem → Res Unit
  | [], M => if chk M = true then .ok () M else .bad
  | im :: ims, M => if chk M = true then (match t.put im σ with
      | none => .bad
      | some σ1 => (c σ1 M).nox.bind fun b M1 => if b = true then (fi1 σ1 M1).nox.bind fun it1 M2 => (compL t1 c1 e it1.chk (wipeA σ1 vs1) n it1.items M2).bind fun _ M3 => compL2 t c fi1 vs1 t1 c1 e chk σ n ims M3
          else compL2 t c fi1 vs1 t1 c1 e chk σ n ims M1) else .bad
def fCompC2 (fi : F Ita) (vs : List Nat) (t : Tg) (c : F Bool) (fi1 : F Ita) (vs1 : List Nat) (t1 : Tg) (c1 : F Bool) (e : F D) : F D := fun σ M => (fi σ M).bind fun it M1 => (compL2 t c fi1 vs1 t1 c1 e it.chk (wipeA σ vs) M1.length it.items (M1 ++ [.lst []])).bind fun _ M2 => .ok (.ref M1.length) M2
section
variable {X : Cx} {S : Sc} {W : WX}
variable {elt tg iter tg1 iter1 : Expr} {ifs ifs1 : List Expr} {scope : Scope} {own : List (Str × Nat)} {pos : Pos} {fi fi1 : F Ita} {t t1 : Tg} {c c1 : F Bool} {e : F D} {vs1 : List Nat}
variable {i : Nat} {y : Str} {py spos : Pos}
end
section
variable {X : Cx} {S : Sc}
def rNinT (K : PySem.W.Frag) : R2 := fun x y H Q => ∃ d ds, Dp K H x d ∧ Dp K H y (.tuple ds) ∧ SeqAt.shaped d = true ∧ SeqAt.shaped (.tuple ds) = true ∧ Q (.bl (!ds.any fun z => PyData.eqv z d)) H
theorem op_ninT (hu : X.A.units + 65 < cLine) : OpR X (compareOp .NotIn) (rNinT X.K) := by
  intro pins s σ H x y v u Q I rx ry h
  obtain ⟨d, ds, hd, he, sd, se, q⟩ := h
  obtain ⟨as, r1⟩ := Dp.reads I d x v hd rx
  obtain ⟨bs, r2⟩ := Dp.reads I (.tuple ds) y u he ry
  exact SeqAt.notIn_tuple_reads r2 r1 (SeqAt.canLay_of_shaped se) (SeqAt.canLay_of_shaped sd) (room_in_shaped sd hu) ⟨.bl _, H, I, rfl, q⟩
def gInT (x y : D) (M : Mem) : Res D := match toPy M x, toPy M y with
  | some a, some (.tuple b) => if (SeqAt.shaped a && SeqAt.shaped (.tuple b)) = true then .ok (.bl (b.any fun z => PyData.eqv z a)) M else .bad
  | _, _ => .bad
def gNinT (x y : D) (M : Mem) : Res D := match toPy M x, toPy M y with
  | some a, some (.tuple b) => if (SeqAt.shaped a && SeqAt.shaped (.tuple b)) = true then .ok (.bl (!b.any fun z => PyData.eqv z a)) M else .bad
  | _, _ => .bad
theorem oq_ninT : OpQ S (rNinT S.K) gNinT := by
  intro W σ ρ H M x y dx dy Q mo rx ry p
  unfold gNinT at p
  split at p
  · rename_i a b h1 h2
    split at p
    · rename_i hs
      rw [Bool.and_eq_true] at hs
      exact ⟨a, b, toPy_dp mo rx h1, toPy_dp mo ry h2, hs.1, hs.2, p ρ H _ (Stp.refl mo) (.bl _)⟩
    · exact p.elim
  · exact p.elim
end
end QX
set_option maxRecDepth 100000
set_option maxHeartbeats 1000000
namespace QX
open PySem PySem.Spec PyProof.Rows L2 HX
section
variable {X : Cx} {S : Sc} {W : WX} {e : Expr} {fe : F D}
end
end QX
set_option maxRecDepth 100000
set_option maxHeartbeats 2000000
namespace HX
open PySem PySem.Spec PyProof.Rows L2 PySem.W PyProof.V PySem.Calls
section
variable {X : Cx}
end
end HX
set_option maxRecDepth 100000
set_option maxHeartbeats 1000000
namespace QX
open PySem PySem.Spec PyProof.Rows L2 HX
def dcompL (t : Tg) (fk fv : F D) (chk : Mem → Bool) (σ : Sa) (n : Nat) : List Im → Mem → Res Unit
  | [], M => if chk M = true then .ok () M else .bad
  | im :: ims, M => if chk M = true then (match t.put im σ with
      | none => .bad
      | some σ1 => (fk σ1 M).nox.bind fun d M1 => (fv σ1 M1).nox.bind fun z M2 => (match keyOf d, M2[n]? with
          | some ks, some (.dic kvs) => if Nat.blt kvs.length 16777216 = true then dcompL t fk fv chk σ n ims (M2.set n (.dic (dPut kvs (.tup ks) z))) else .bad
          | _, _ => .bad)) else .bad
def fDComp (fi : F Ita) (vs : List Nat) (t : Tg) (fk fv : F D) : F D := fun σ M => (fi σ M).bind fun it M1 => (dcompL t fk fv it.chk (wipeA σ vs) M1.length it.items (M1 ++ [.dic []])).bind fun _ M2 => .ok (.ref M1.length) M2
section
variable {X : Cx} {S : Sc} {W : WX}
end
end QX
set_option maxRecDepth 100000
set_option maxHeartbeats 1000000
namespace HX
open PySem PySem.Spec PyProof.Rows L2
def rLtD (K : PySem.W.Frag) : R2 := fun x y H Q => ∃ a b : PyData, Dp K H x a ∧ Dp K H y b ∧ PySem.W.alike a b = true ∧ a ≠ .none ∧ a.depth ≤ 60 ∧ Q (.bl (PySem.W.dataLt a b)) H
theorem op_ltD {X : Cx} (hu : X.A.units + 64 < cLine) : OpR X (compareOp .Lt) (rLtD X.K) := by
  intro pins s σ H x y v u Q I rx ry h
  obtain ⟨a, b, ha, hb, hal, hn, hd, q⟩ := h
  obtain ⟨as, ra⟩ := Dp.reads I a x v ha rx
  obtain ⟨bs, rb⟩ := Dp.reads I b y u hb ry
  exact PySem.W.lt_data ra rb hal hn (by omega) ⟨.bl _, H, I, rfl, q⟩
end HX
namespace QX
open PySem PySem.Spec PyProof.Rows L2 HX
def someB : PyData → Bool
  | .none => false
  | _ => true
def gLtD : D → D → Mem → Res D := fun x y M => match toPy M x, toPy M y with
  | some a, some b => if (PySem.W.alike a b && someB a && Nat.ble a.depth 60) = true then .ok (.bl (PySem.W.dataLt a b)) M else .bad
  | _, _ => .bad
theorem oq_ltD {S : Sc} : OpQ S (rLtD S.K) gLtD := by
  intro W σ ρ H M x y dx dy Q mo rx ry p
  unfold gLtD at p
  split at p
  · rename_i a b h1 h2
    split at p
    · rename_i hs
      rw [Bool.and_eq_true, Bool.and_eq_true] at hs
      exact ⟨a, b, toPy_dp mo rx h1, toPy_dp mo ry h2, hs.1.1, fun z => by rw [z] at hs; exact absurd hs.1.2 (by decide), Nat.le_of_ble_eq_true hs.2, p ρ H _ (Stp.refl mo) (.bl _)⟩
    · exact p.elim
  · exact p.elim
end QX
set_option maxRecDepth 100000
set_option maxHeartbeats 2000000
namespace HX
open PySem PySem.Spec PyProof.Rows L2 PySem.W PySem.Calls
section
variable {prog : Program} {w : World} {A : Around} {E : Value → Shared → Prop} {h : Heap} {g : Array GenState} {d : Drawn} {t : Nat} {os : OsState}
variable {nm q : Str} {C N : Addr} {bs bm : List Value} {hdct : Bool} {sn : List Str} {sub : List Value} {ab : Bool} {col : Option Bool} {dd : Option Addr} {k0 k1 k2 k3 k5 : Option Value}
end
section
variable {prog : Program} {w : World} {A : Around} {E : Value → Shared → Prop} {h : Heap} {g : Array GenState} {d : Drawn} {t : Nat} {os : OsState}
end
def tooScope : Scope := { kind := .function, names := [(PySem.Str.ofString "self", .local), (PySem.Str.ofString "many", .local), (PySem.Str.ofString "most", .local), (PySem.Str.ofString "__class__", .free), (PySem.Str.ofString "super", .globalImplicit)], isGenerator := false, isCoroutine := false, more := [] }
def TooB (body : List Stmt) : Prop := ∃ (p0 p1 p2 p3 p4 p5 p6 p7 p8 p9 q0 q1 q2 q3 r0 r1 s0 s1 s2 s3 : Pos) (fa fb : Nat), (p2.endLine == q0.line) = true ∧ body = [
  .Expr (.Call (.Attribute (.Call (.Name "super" p0) [] [] p1) "__init__" p2) [.JoinedStr [.Constant (.str "too many: ") fa p3, .FormattedValue (.Name "many" p4) (-1) none p5, .Constant (.str ", at most ") fb p6, .FormattedValue (.Name "most" p7) (-1) none p8] p9] [] q0) q1,
  .Assign [.Attribute (.Name "self" q2) "many" q3] (.Name "many" r0) r1,
  .Assign [.Attribute (.Name "self" s0) "most" s1] (.Name "most" s2) s3]
abbrev tooFn (qual : Str) (params : Arguments) (body : List Stmt) (dV kV doc pm : Value) (an : Option Addr) (cdv ct : Value) (cc : Addr) : FuncData := ksFn "__init__" qual params body tooScope dV kV doc pm an cdv ct cc
def TooI (P : Program) (K : Frag) (C fI : Addr) : Prop := ∃ (qual : Str) (params : Arguments) (body : List Stmt) (dV kV doc pm : Value) (an : Option Addr) (cda : Addr) (ct : Value) (cc : Addr) (oc : Value) (od : Option Addr) (osl : Array (Option Value)) (ar : Arg),
  K.lookup fI = some ⟨oc, od, .func (tooFn qual params body dV kV doc pm an (.ref cda) ct cc), osl⟩ ∧ codeIn K (.ref cda) qual = true ∧ (∃ (ccl : Value) (cdd : Option Addr) (vs : Array Value) (ccs : Array (Option Value)) (file : Str) (tf : Tok), K.lookup cda = some ⟨ccl, cdd, .fields vs, ccs⟩ ∧ vs[2]? = some (.str file tf) ∧ ((P.main.file : Str) == file) = true) ∧
  (∃ (cl : Value) (cld : Option Addr) (csl : Array (Option Value)), K.lookup cc = some ⟨cl, cld, .cell (some (.ref C)), csl⟩) ∧ TooB body ∧ (params.posonlyargs ++ params.args).head? = some ar ∧ ar.arg = "self" ∧
  ∀ a b c : Value, bindArgs (tooFn qual params body dV kV doc pm an (.ref cda) ct cc) ⟨[a, b, c], []⟩ = (pure [(("self" : Str), a), (("many" : Str), b), (("most" : Str), c)] : Sem (List (Str × Value)))
structure TooC (P : Program) (K : Frag) (mg : Str → Option Value) (C : Addr) : Prop where
  T : OexC K C
  gC : mg "TooMany" = some (.ref C)
  fm : findIn K (.ref C) "many" = some none
  fn : findIn K (.ref C) "most" = some none
  sp : ks_superIn K C C "__init__" = some (some (.builtin "ValueError.__init__"))
  op : nsIn K cStatics "thirdparty.any" = some none
  iv : subIn K (.ref C) (.type "ValueError") = some true
  sb : mroIn K C (.ref C) = some true
  tp : (P.main.scope.names.lookup ("super" : Str)).isSome = false
  gs : mg "super" = none
  ini : ∃ fI, findIn K (.ref C) "__init__" = some (some (.ref fI)) ∧ typeIn K (.ref fI) = some (.type "function") ∧ TooI P K C fI
section
variable {P : Program} {w : World} {K : Frag} {mg : Str → Option Value} {base : Heap} {C : Addr} {A : Around} {R : Result → Shared → Prop} {h : Heap} {g : Array GenState} {d : Drawn} {t : Nat} {os : OsState}
end
section
variable {X : Cx} {C : Addr} {e1 e2 : Expr} {p pos : Pos} {ta : TA} {k : Nat}
end
end HX
set_option maxRecDepth 100000
set_option maxHeartbeats 1000000
namespace QX
open PySem PySem.Spec PyProof.Rows L2 L2H HX
structure XMany (K : PySem.W.Frag) (C : Nat → Addr) (CM : Addr) : Prop where
  ef : EF K C (C 20) 20
  xf : XfC K (C 20)
  f1 : PySem.W.findIn K (.ref (C 20)) "many" = some none
  f2 : PySem.W.findIn K (.ref (C 20)) "most" = some none
  xm : PySem.W.exmOne K (.ref (C 20)) (.ref CM) = some true
end QX
set_option maxRecDepth 100000
set_option maxHeartbeats 2000000
namespace HX
open PySem PySem.Spec PyProof.Rows L2 PySem.W
end HX
set_option maxRecDepth 100000
set_option maxHeartbeats 1000000
namespace QX
open PySem PySem.Spec PyProof PyProof.Rows L2 HX
section
variable {X : Cx} {pins : List (Addr × Obj)} {σ : L2.St} {H : Hp} {s : Shared} {ρ : List Addr}
end
section
variable {S : Sc}
end
end QX
set_option maxRecDepth 100000
set_option maxHeartbeats 1000000
namespace QX
open PySem PySem.Spec PyProof.Rows L2 HX
def Wf (M : Mem) : Prop := ∀ c ∈ M, Cell.und M.length c = true
mutual
theorem und_mono {n m : Nat} (h : n ≤ m) : ∀ d : D, d.und n = true → d.und m = true
  | .non, _ => rfl
  | .bl _, _ => rfl
  | .int _, _ => rfl
  | .str _, _ => rfl
  | .tup ds, e => by simp only [D.und] at e ⊢; exact undA_mono h ds e
  | .lst ds, e => by simp only [D.und] at e ⊢; exact undA_mono h ds e
  | .dct _ ds, e => by simp only [D.und] at e ⊢; exact undA_mono h ds e
  | .scr _, _ => rfl
  | .ref k, e => by simp only [D.und, Nat.blt_eq] at e ⊢; omega
  | .adr _, _ => rfl
theorem undA_mono {n m : Nat} (h : n ≤ m) : ∀ ds : List D, D.undA n ds = true → D.undA m ds = true
  | [], _ => rfl
  | d :: ds, e => by
    simp only [D.undA, Bool.and_eq_true] at e ⊢
    exact ⟨und_mono h d e.1, undA_mono h ds e.2⟩
end
theorem cund_mono {n m : Nat} (h : n ≤ m) {c : Cell} (e : Cell.und n c = true) : Cell.und m c = true := by
  cases c with
  | lst ds => exact undA_mono h ds e
  | dic kvs => exact undA_mono h _ e
theorem undA_iff {n : Nat} : ∀ {ds : List D}, D.undA n ds = true ↔ ∀ d ∈ ds, d.und n = true
  | [] => by simp [D.undA]
  | d :: ds => by simp only [D.undA, Bool.and_eq_true, undA_iff (ds := ds), List.mem_cons, forall_eq_or_imp]
theorem Wf.nil : Wf [] := fun c h => by simp at h
theorem Wf.push {M : Mem} {c : Cell} (h : Wf M) (hc : Cell.und (M.length + 1) c = true) : Wf (M ++ [c]) := by
  intro x hx
  rw [List.length_append, List.length_singleton]
  rcases List.mem_append.mp hx with z | z
  · exact cund_mono (Nat.le_succ _) (h x z)
  · rw [List.mem_singleton.mp z]; exact hc
theorem Wf.set {M : Mem} {c : Cell} {p : Nat} (h : Wf M) (hc : Cell.und M.length c = true) : Wf (M.set p c) := by
  intro x hx
  rw [List.length_set]
  rcases List.mem_or_eq_of_mem_set hx with z | z
  · exact h x z
  · rw [z]; exact hc
theorem closed_app {M g : Mem} {n : Nat} (hn : M.length = n) (h : Wf M) : closed n (M ++ g) = true := by
  unfold closed
  rw [← hn, List.take_left, List.all_eq_true]
  exact h
theorem res_und {k n : Nat} {M : Mem} {d : D} (h : d.und n = true) : D.res k n M d = some d := by
  cases k <;> simp only [D.res, h, if_true]
theorem resL_und {k n : Nat} {M : Mem} : ∀ {ds : List D}, D.undA n ds = true → resL (D.res k n M) ds = some ds
  | [], _ => rfl
  | d :: ds, h => by
    simp only [D.undA, Bool.and_eq_true] at h
    simp only [resL, res_und h.1, resL_und h.2]
theorem trim_app {M g : Mem} {n : Nat} {d : D} (hn : M.length = n) (h : Wf M) (hd : d.und n = true) : trimR n (.ok d (M ++ g)) = .ok d M := by
  unfold trimR
  by_cases hg : g = []
  · subst hg
    rw [List.append_nil]
    dsimp only
    rw [hn, if_pos (by simp)]
  · have hl : 0 < g.length := List.length_pos_iff.mpr hg
    have hb : Nat.ble (M ++ g).length n = false := by
      rw [List.length_append, hn]
      cases e : Nat.ble (n + g.length) n with
      | false => rfl
      | true => have := Nat.le_of_ble_eq_true e; omega
    simp only [hb, Bool.false_eq_true, if_false, res_und hd, closed_app hn h, if_true]
    rw [← hn, List.take_left]
theorem trim_id {M : Mem} {n : Nat} {d : D} (hn : M.length = n) : trimR n (.ok d M) = .ok d M := by
  unfold trimR
  dsimp only
  rw [hn, if_pos (by simp)]
theorem trim_ref {M g : Mem} {n : Nat} {ds : List D} (hn : M.length = n) (h : Wf M) (hd : D.undA n ds = true) : trimR n (.ok (.ref n) (M ++ .lst ds :: g)) = .ok (.lst ds) M := by
  unfold trimR
  have hb : Nat.ble (M ++ Cell.lst ds :: g).length n = false := by
    rw [List.length_append, hn, List.length_cons]
    cases e : Nat.ble (n + (g.length + 1)) n with
    | false => rfl
    | true => have := Nat.le_of_ble_eq_true e; omega
  have hu : D.und n (.ref n) = false := by
    simp only [D.und]
    cases e : Nat.blt n n with
    | false => rfl
    | true => rw [Nat.blt_eq] at e; omega
  have hm : (M ++ Cell.lst ds :: g)[n]? = some (.lst ds) := by
    rw [List.getElem?_append_right (by omega), hn, Nat.sub_self]
    rfl
  have hr : D.res 5 n (M ++ Cell.lst ds :: g) (.ref n) = some (.lst ds) := by
    rw [D.res, hu]
    simp only [Bool.false_eq_true, if_false]
    rw [hm]
    simp only [resL_und hd, Option.map_some]
  simp only [hb, Bool.false_eq_true, if_false, hr, closed_app hn h, if_true]
  rw [← hn, List.take_left]
theorem comp_loop {t : Tg} {c : F Bool} {e : F D} {chk : Mem → Bool} {σ : Sa} {n : Nat} (Iv : Nat → List D → Mem → Prop) : ∀ (items : List Im) (i : Nat) (acc : List D) (M : Mem), acc.length + items.length ≤ 1000000 →
    (∀ j acc M im, items[j - i]? = some im → i ≤ j → Iv j acc M → chk M = true ∧ ∃ σ1, t.put im σ = some σ1 ∧ ((∃ M1, c σ1 M = .ok false M1 ∧ Iv (j + 1) acc M1) ∨ ∃ M1 d M2, c σ1 M = .ok true M1 ∧ e σ1 M1 = .ok d M2 ∧ M2[n]? = some (.lst acc) ∧ Iv (j + 1) (acc ++ [d]) (M2.set n (.lst (acc ++ [d]))))) →
    (∀ acc M, Iv (i + items.length) acc M → chk M = true) → Iv i acc M → ∃ acc' M', compL t c e chk σ n items M = .ok () M' ∧ Iv (i + items.length) acc' M' ∧ acc'.length ≤ acc.length + items.length
  | [], i, acc, M, _, _, hf, h0 => ⟨acc, M, by unfold compL; rw [if_pos (hf acc M h0)], h0, by simp⟩
  | im :: ims, i, acc, M, hl, hs, hf, h0 => by
    obtain ⟨hc, σ1, h1, h2⟩ := hs i acc M im (by rw [Nat.sub_self]; rfl) (Nat.le_refl _) h0
    have e0 : i + (im :: ims).length = (i + 1) + ims.length := by rw [List.length_cons]; omega
    have step : ∀ j acc M im', ims[j - (i + 1)]? = some im' → i + 1 ≤ j → Iv j acc M → chk M = true ∧ ∃ σ1, t.put im' σ = some σ1 ∧ ((∃ M1, c σ1 M = .ok false M1 ∧ Iv (j + 1) acc M1) ∨ ∃ M1 d M2, c σ1 M = .ok true M1 ∧ e σ1 M1 = .ok d M2 ∧ M2[n]? = some (.lst acc) ∧ Iv (j + 1) (acc ++ [d]) (M2.set n (.lst (acc ++ [d])))) := by
      intro j acc M im' hj hij
      refine hs j acc M im' ?_ (by omega)
      rw [show j - i = (j - (i + 1)) + 1 by omega, List.getElem?_cons_succ]
      exact hj
    rw [e0]
    rw [List.length_cons] at hl
    rcases h2 with ⟨M1, g1, g2⟩ | ⟨M1, d, M2, g1, g2, g3, g4⟩
    · obtain ⟨acc', M', a1, a2, a3⟩ := comp_loop Iv ims (i + 1) acc M1 (by omega) step (fun acc M h => hf acc M (by rw [e0]; exact h)) g2
      refine ⟨acc', M', ?_, a2, by rw [List.length_cons]; omega⟩
      unfold compL
      rw [if_pos hc, h1]
      simp only [g1, Res.nox, Res.bind, Bool.false_eq_true, if_false]
      exact a1
    · obtain ⟨acc', M', a1, a2, a3⟩ := comp_loop Iv ims (i + 1) (acc ++ [d]) (M2.set n (.lst (acc ++ [d]))) (by rw [List.length_append, List.length_singleton]; omega) step (fun acc M h => hf acc M (by rw [e0]; exact h)) g4
      rw [List.length_append, List.length_singleton] at a3
      refine ⟨acc', M', ?_, a2, by rw [List.length_cons]; omega⟩
      unfold compL
      rw [if_pos hc, h1]
      have hb : Nat.blt acc.length 16777216 = true := by rw [Nat.blt_eq]; omega
      simp only [g1, g2, g3, hb, Res.nox, Res.bind, if_true]
      exact a1
theorem comp_pure {fi : F Ita} {vs : List Nat} {t : Tg} {e : F D} {σ : Sa} {M : Mem} {it : Ita} (f : Im → D) (hi : fi σ M = .ok it M) (hc : ∀ M', it.chk M' = true) (hw : Wf M) (hl : it.items.length ≤ 1000000)
    (he : ∀ im ∈ it.items, (f im).und M.length = true ∧ ∃ σ1, t.put im (wipeA σ vs) = some σ1 ∧ ∀ M', Wf M' → M.length < M'.length → e σ1 M' = .ok (f im) M') : fTrim (fCompC fi vs t fYes e) σ M = .ok (.lst (it.items.map f)) M := by
  unfold fTrim fCompC
  rw [hi]
  dsimp only [Res.bind]
  have step : ∀ j acc M2 im, it.items[j - 0]? = some im → 0 ≤ j → (acc = (it.items.take j).map f ∧ M2 = M ++ [.lst acc]) → it.chk M2 = true ∧ ∃ σ1, t.put im (wipeA σ vs) = some σ1 ∧ ((∃ M1, fYes σ1 M2 = .ok false M1 ∧ (acc = (it.items.take (j + 1)).map f ∧ M1 = M ++ [.lst acc])) ∨ ∃ M1 d M3, fYes σ1 M2 = .ok true M1 ∧ e σ1 M1 = .ok d M3 ∧ M3[M.length]? = some (.lst acc) ∧ (acc ++ [d] = (it.items.take (j + 1)).map f ∧ M3.set M.length (.lst (acc ++ [d])) = M ++ [.lst (acc ++ [d])])) := by
    intro j acc M2 im hj _ ⟨ha, hM⟩
    subst hM
    rw [Nat.sub_zero] at hj
    have him := List.mem_of_getElem? hj
    obtain ⟨hu, σ1, hp, hev⟩ := he im him
    have hacc : D.undA M.length acc = true := by
      rw [ha, undA_iff]
      intro d hd
      obtain ⟨im', him', rfl⟩ := List.mem_map.mp hd
      exact (he im' (List.mem_of_mem_take him')).1
    refine ⟨hc _, σ1, hp, .inr ⟨_, f im, _, rfl, hev _ (hw.push (undA_mono (Nat.le_succ _) _ hacc)) (by simp), ?_, ?_, ?_⟩⟩
    · rw [List.getElem?_append_right (Nat.le_refl _), Nat.sub_self]; rfl
    · rw [ha, List.take_add_one, hj, List.map_append]; rfl
    · rw [List.set_append_right _ _ (Nat.le_refl _), Nat.sub_self]; rfl
  obtain ⟨acc', M', h1, ⟨h2, h3⟩, _⟩ := comp_loop (t := t) (c := fYes) (e := e) (chk := it.chk) (σ := wipeA σ vs) (n := M.length) (fun j acc M2 => acc = (it.items.take j).map f ∧ M2 = M ++ [.lst acc]) it.items 0 [] (M ++ [.lst []]) (by simpa using hl) step (fun acc M2 _ => hc M2) ⟨by simp, rfl⟩
  subst h3
  rw [h1]
  dsimp only
  rw [Nat.zero_add, List.take_length] at h2
  rw [h2]
  refine trim_ref (g := []) rfl hw ?_
  rw [undA_iff]
  intro d hd
  obtain ⟨im, him, rfl⟩ := List.mem_map.mp hd
  exact (he im him).1
theorem for_loop {t : Tg} {b : FS} {chk : Mem → Bool} {n : Nat} (Iv : Nat → Sa → Mem → Prop) : ∀ (items : List Im) (i : Nat) (σ : Sa) (M : Mem),
    (∀ j σ M im, items[j - i]? = some im → i ≤ j → Iv j σ M → chk M = true ∧ ∃ σ1, t.put im σ = some σ1 ∧ ∃ σ2 M2, (b σ1 M = .ok (.nx σ2) M2 ∨ b σ1 M = .ok (.ct σ2) M2) ∧ Iv (j + 1) (gc n σ2 M2).1 (gc n σ2 M2).2) →
    (∀ σ M, Iv (i + items.length) σ M → chk M = true) → Iv i σ M → ∃ σ' M', forL t b chk n items σ M = .ok (.nx σ') M' ∧ Iv (i + items.length) σ' M'
  | [], i, σ, M, _, hf, h0 => ⟨σ, M, by unfold forL; rw [if_pos (hf σ M h0)], h0⟩
  | im :: ims, i, σ, M, hs, hf, h0 => by
    obtain ⟨hc, σ1, h1, σ2, M2, h2, h3⟩ := hs i σ M im (by rw [Nat.sub_self]; rfl) (Nat.le_refl _) h0
    have e0 : i + (im :: ims).length = (i + 1) + ims.length := by rw [List.length_cons]; omega
    obtain ⟨σ', M', a1, a2⟩ := for_loop Iv ims (i + 1) _ _ (fun j σ M im' hj hij => hs j σ M im' (by
      rw [show j - i = (j - (i + 1)) + 1 by omega, List.getElem?_cons_succ]
      exact hj) (by omega)) (fun σ M h => hf σ M (by rw [e0]; exact h)) h3
    refine ⟨σ', M', ?_, by rw [e0]; exact a2⟩
    unfold forL
    rw [if_pos hc, h1]
    dsimp only
    rcases h2 with h2 | h2 <;> (rw [h2]; exact a1)
theorem gc_same {n : Nat} {σ : Sa} {M : Mem} (h : M.length = n) : gc n σ M = (σ, M) := by
  unfold gc
  rw [h]
  simp
theorem gc_app {n : Nat} {σ : Sa} {M g : Mem} (h : M.length = n) (hw : Wf M) (hg : g ≠ []) : gc n σ (M ++ g) = (σ.map (keepS n), M) := by
  unfold gc
  have hl : 0 < g.length := List.length_pos_iff.mpr hg
  have hb : Nat.ble (M ++ g).length n = false := by
    rw [List.length_append, h]
    cases e : Nat.ble (n + g.length) n with
    | false => rfl
    | true => have := Nat.le_of_ble_eq_true e; omega
  simp only [hb, Bool.false_eq_true, if_false, closed_app h hw, if_true]
  rw [← h, List.take_left]
end QX
set_option maxRecDepth 100000
set_option maxHeartbeats 1000000
namespace QX
open PySem
/- has_parts -/
def b_has_parts : FS :=
  (sRet (fAnd (fCall (gIsi .tuple) (fCons (fVar 0) (fCons (fC (.adr (.ty "tuple"))) fNil))) (fChain (gCmp cLe) (gCmp cLe) (fVar 1) (fCall gLen (fCons (fVar 0) fNil)) (fVar 2))))
def m_has_parts : List D → Mem → Res D := runT 3 3 b_has_parts
/- is_whole -/
def b_is_whole : FS :=
  (sRet (fAnd (fCall (gIsi .int) (fCons (fVar 0) (fCons (fC (.adr (.ty "int"))) fNil))) (fNot (fCall (gIsi .bool) (fCons (fVar 0) (fCons (fC (.adr (.ty "bool"))) fNil))))))
def m_is_whole : List D → Mem → Res D := runT 1 1 b_is_whole
/- is_within -/
def b_is_within : FS :=
  (sRet (fAnd (fCall m_is_whole (fCons (fVar 0) fNil)) (fChain (gCmp cLe) (gCmp cLe) (fVar 1) (fVar 0) (fVar 2))))
def m_is_within : List D → Mem → Res D := runT 3 3 b_is_within
/- is_step -/
def b_is_step : FS :=
  (sRet (fAnd (fCall m_has_parts (fCons (fVar 0) (fCons (fC (.int 0)) (fCons (fC (.int 3)) fNil)))) (fCall gAll (fCons (fTrim (fCompC (fIter (fVar 0)) [2] (.name 2) fYes (fCall m_is_within (fCons (fVar 2) (fCons (fC (.int 0)) (fCons (fBin gSub (fVar 1) (fC (.int 1))) fNil)))))) fNil))))
def m_is_step : List D → Mem → Res D := runT 3 2 b_is_step
/- is_wheel -/
def b_is_wheel : FS :=
  (sRet (fAnd (fCall m_has_parts (fCons (fVar 0) (fCons (fC (.int 1)) (fCons (fC (.int 4)) fNil)))) (fCall gAll (fCons (fTrim (fCompC (fIter (fVar 0)) [2] (.name 2) fYes (fCall m_is_step (fCons (fVar 2) (fCons (fVar 1) fNil))))) fNil))))
def m_is_wheel : List D → Mem → Res D := runT 3 2 b_is_wheel
/- is_board -/
def b_is_board : FS :=
  (sSeq (sIf (fNotT (fTest (fCall m_has_parts (fCons (fVar 0) (fCons (fC (.int 2)) (fCons (fC (.int 2)) fNil))))))
  (sRet (fC (.bl false)))
  sNext)
  (sSeq (sAsg (fVar 0) (.tup [1, 2]))
  (sSeq (sIf (fOrT (fNotT (fTest (fCall m_has_parts (fCons (fVar 1) (fCons (fC (.int 1)) (fCons (fC (.int 6)) fNil)))))) (fNotT (fTest (fCall m_is_within (fCons (fVar 2) (fCons (fC (.int 0)) (fCons (fC (.int 4)) fNil)))))))
  (sRet (fC (.bl false)))
  sNext)
  (sSeq (sSet 3 (fBin gAdd (fCall gLen (fCons (fVar 1) fNil)) (fVar 2)))
  (sRet (fCall gAll (fCons (fTrim (fCompC (fIter (fVar 1)) [4] (.name 4) fYes (fCall m_is_wheel (fCons (fVar 4) (fCons (fVar 3) fNil))))) fNil)))))))
def m_is_board : List D → Mem → Res D := runT 5 1 b_is_board
/- need_board -/
def b_need_board : FS :=
  (sIf (fNotT (fTest (fCall m_is_board (fCons (fVar 0) fNil))))
  (sRaise 0)
  sNext)
def m_need_board : List D → Mem → Res D := runT 1 1 b_need_board
/- is_wheel_number -/
def b_is_wheel_number : FS :=
  (sRet (fCall m_is_within (fCons (fVar 1) (fCons (fC (.int 0)) (fCons (fBin gSub (fCall gLen (fCons (fBin gIx (fVar 0) (fC (.int 0))) fNil)) (fC (.int 1))) fNil)))))
def m_is_wheel_number : List D → Mem → Res D := runT 2 2 b_is_wheel_number
/- _law_cell_at -/
def b_law_cell_at_e50a56 : FS :=
  (sSeq (sIf (fTest (fBin (gCmp cLt) (fVar 1) (fCall gLen (fCons (fVar 0) fNil))))
  (sRet (fBin gIx (fVar 0) (fVar 1)))
  sNext)
  (sRet (fC (.int 0))))
def m_law_cell_at_e50a56 : List D → Mem → Res D := runT 2 2 b_law_cell_at_e50a56
/- _law_pen -/
def b_law_pen_579b16 : FS :=
  (sRet (fNew (fCons (fCall gMax2 (fCons (fC (.int 0)) (fCons (fBin gSub (fVar 0) (fBin gPow (fC (.int 10)) (fC (.int 18)))) fNil))) (fCons (fBin gMod (fVar 0) (fC (.int 1000000007))) (fCons (fC (.int 0)) fNil)))))
def m_law_pen_579b16 : List D → Mem → Res D := runD 1 1 b_law_pen_579b16
/- _law_draw -/
def b_law_draw_321cf4 : FS :=
  (sSeq (sIf (fTest (fBin (gCmp cGt) (fBin gIx (fVar 0) (fC (.int 0))) (fC (.int 0))))
  (sSeq (sSet 2 (fBin gMod (fBin gIx (fVar 0) (fC (.int 0))) (fVar 1)))
  (sSeq (sSetIx (fVar 0) (fC (.int 0)) (fBin gFdiv (fBin gIx (fVar 0) (fC (.int 0))) (fVar 1)))
  (sRet (fVar 2))))
  sNext)
  (sSeq (sSetIx (fVar 0) (fC (.int 2)) (fBin gAdd (fBin gIx (fVar 0) (fC (.int 2))) (fC (.int 1))))
  (sSeq (sSet 3 (fBin gMod (fBin gMul (fBin gAdd (fBin gIx (fVar 0) (fC (.int 1))) (fBin gMul (fC (.int 17)) (fBin gIx (fVar 0) (fC (.int 2))))) (fBin gAdd (fC (.int 69621)) (fBin gMul (fC (.int 2)) (fBin gIx (fVar 0) (fC (.int 2)))))) (fC (.int 2147483647))))
  (sSeq (sSet 3 (fBin gMod (fBin gAdd (fBin gAdd (fBin gMul (fVar 3) (fVar 3)) (fBin gMul (fC (.int 40503)) (fBin gIx (fVar 0) (fC (.int 2))))) (fC (.int 5))) (fC (.int 2147483629))))
  (sRet (fBin gMod (fBin gFdiv (fBin gMod (fBin gMul (fVar 3) (fC (.int 48271))) (fC (.int 2147483647))) (fC (.int 32))) (fVar 1)))))))
def m_law_draw_321cf4 : List D → Mem → Res D := runT 4 2 b_law_draw_321cf4
/- _law_any_board -/
/- need_few -/
/- renumbered -/
/- are_links -/
/- ends_of_first -/
/- ends_of_second -/
/- joined -/
end QX
set_option maxRecDepth 100000
set_option maxHeartbeats 1000000
namespace QX
open PySem
/- is_stand -/
def b_is_stand : FS :=
  (sSeq (sExpr (fCall m_need_board (fCons (fVar 0) fNil)))
  (sSeq (sSet 2 (fBin gIx (fVar 0) (fC (.int 0))))
  (sSeq (sIf (fNotT (fTest (fCall m_has_parts (fCons (fVar 1) (fCons (fCall gLen (fCons (fVar 2) fNil)) (fCons (fCall gLen (fCons (fVar 2) fNil)) fNil))))))
  (sRet (fC (.bl false)))
  sNext)
  (sRet (fCall gAll (fCons (fTrim (fCompC (fIt gZip2 (fCons (fVar 1) (fCons (fVar 2) fNil))) [3, 4] (.tup [3, 4]) fYes (fCall m_is_within (fCons (fVar 3) (fCons (fC (.int 0)) (fCons (fBin gSub (fCall gLen (fCons (fVar 4) fNil)) (fC (.int 1))) fNil)))))) fNil))))))
def m_is_stand : List D → Mem → Res D := runT 5 2 b_is_stand
/- are_marbles -/
def b_are_marbles : FS :=
  (sRet (fAnd (fCall m_has_parts (fCons (fVar 0) (fCons (fVar 1) (fCons (fVar 1) fNil)))) (fCall gAll (fCons (fTrim (fCompC (fIter (fVar 0)) [2] (.name 2) fYes (fAnd (fCall m_is_whole (fCons (fVar 2) fNil)) (fBin (gCmp cGe) (fVar 2) (fC (.int 0)))))) fNil))))
def m_are_marbles : List D → Mem → Res D := runT 3 2 b_are_marbles
/- is_moment -/
/- need_moment -/
/- loosened -/
def b_loosened : FS :=
  (sSeq (sAsg (fVar 0) (.tup [1, 2, 3]))
  (sRet (fTup (fCons (fCall gListC (fCons (fVar 1) fNil)) (fCons (fCall gListC (fCons (fVar 2) fNil)) (fCons (fCall gListC (fCons (fVar 3) fNil)) fNil))))))
def m_loosened : List D → Mem → Res D := runD 4 1 b_loosened
/- fastened -/
def b_fastened : FS :=
  (sRet (fTup (fCons (fCall gTuple (fCons (fVar 0) fNil)) (fCons (fCall gTuple (fCons (fVar 1) fNil)) (fCons (fCall gTuple (fCons (fVar 2) fNil)) fNil)))))
def m_fastened : List D → Mem → Res D := runT 3 3 b_fastened
/- handle_marble -/
def b_handle_marble : FS :=
  (sSeq (sSet 3 (fBin gIx (fVar 0) (fC (.int 0))))
  (sSeq (sAsg (fVar 1) (.tup [4, 5, 6]))
  (sSeq (sSet 7 (fBin gIx (fVar 4) (fVar 2)))
  (sSeq (sAugIx (fVar 5) (fVar 2) (fC (.int 1)) (gAug true))
  (sSeq (sFor (fIter (fBin gIx (fBin gIx (fVar 3) (fVar 2)) (fVar 7))) (.name 8)
  (sIf (fTest (fBin (gCmp cLt) (fVar 8) (fCall gLen (fCons (fVar 3) fNil))))
  (sAugIx (fVar 5) (fVar 8) (fC (.int 1)) (gAug false))
  (sAugIx (fVar 6) (fBin gSub (fVar 8) (fCall gLen (fCons (fVar 3) fNil))) (fC (.int 1)) (gAug false))))
  (sSetIx (fVar 4) (fVar 2) (fBin gMod (fBin gAdd (fVar 7) (fC (.int 1))) (fCall gLen (fCons (fBin gIx (fVar 3) (fVar 2)) fNil)))))))))
def m_handle_marble : List D → Mem → Res D := runT 9 3 b_handle_marble
/- is_row -/
/- need_row -/
/- walked -/
/- first_wrong -/
/- behind -/
/- _law_pick -/
/- _law_board -/
/- _law_moment -/
/- _law_handle -/
/- _law_ready -/
/- _law_let_row -/
end QX
set_option maxRecDepth 100000
set_option maxHeartbeats 1000000
namespace QX
open PySem
/- with_nought -/
def b_with_nought : FS :=
  (sRet (fTrim (fCompC (fIt gZip2 (fCons (fVar 0) (fCons (fVar 1) fNil))) [4, 5] (.tup [4, 5]) fYes (fBin gFdiv (fBin gSub (fBin gMul (fBin gIx (fVar 1) (fVar 2)) (fVar 4)) (fBin gMul (fBin gIx (fVar 0) (fVar 2)) (fVar 5))) (fVar 3)))))
def m_with_nought : List D → Mem → Res D := runT 6 4 b_with_nought
/- solved -/
def b_solved : FS :=
  (sSeq (sSet 1 (fCall gLen (fCons (fVar 0) fNil)))
  (sSeq (sSet 2 (fTrim (fCompC (fIt gEnum (fCons (fVar 0) fNil)) [4, 6] (.tup [4, 6]) fYes (fBin gAdd (fVar 6) (fTrim (fCompC (fIt gRange1 (fCons (fVar 1) fNil)) [7] (.name 7) fYes (fIf (fTest (fBin (gEq false) (fVar 7) (fVar 4))) (fC (.int 1)) (fC (.int 0)))))))))
  (sSeq (sSet 3 (fC (.int 1)))
  (sSeq (sFor (fIt gRange1 (fCons (fVar 1) fNil)) (.name 4)
  (sSeq (sSet 5 (fBin gIx (fVar 2) (fVar 4)))
  (sSeq (sIf (fTest (fBin (gCmp cLe) (fBin gIx (fVar 5) (fVar 4)) (fC (.int 0))))
  (sRet (fC .non))
  sNext)
  (sSeq (sSet 2 (fTrim (fCompC (fIt gEnum (fCons (fVar 2) fNil)) [7, 6] (.tup [7, 6]) fYes (fIf (fTest (fBin (gEq false) (fVar 7) (fVar 4))) (fVar 5) (fCall m_with_nought (fCons (fVar 6) (fCons (fVar 5) (fCons (fVar 4) (fCons (fVar 3) fNil)))))))))
  (sSet 3 (fBin gIx (fVar 5) (fVar 4)))))))
  (sRet (fTup (fCons (fVar 3) (fCons (fTrim (fCompC (fIter (fVar 2)) [6] (.name 6) fYes (fSl (fVar 6) (fPart (fVar 1)) fNoPart))) fNil))))))))
def m_solved : List D → Mem → Res D := runT 8 1 b_solved
/- turn_ends -/
def b_turn_ends : FS :=
  (sSeq (sAsg (fVar 0) (.tup [1, 2]))
  (sSeq (sSet 3 (fNew fNil))
  (sSeq (sFor (fIter (fVar 1)) (.name 4)
  (sSeq (sSet 5 (fBin gMulC (fLst (fCons (fC (.int 0)) fNil)) (fBin gAdd (fCall gLen (fCons (fVar 1) fNil)) (fVar 2))))
  (sSeq (sFor (fIter (fVar 4)) (.name 6)
  (sFor (fIter (fVar 6)) (.name 7)
  (sAugIx (fVar 5) (fVar 7) (fC (.int 1)) (gAug false))))
  (sExpr (fMeth gAppend (fVar 3) (fCons (fVar 5) fNil))))))
  (sRet (fVar 3)))))
def m_turn_ends : List D → Mem → Res D := runT 8 1 b_turn_ends
/- turn_table -/
def b_turn_table : FS :=
  (sSeq (sSet 2 (fBin gIx (fVar 0) (fC (.int 0))))
  (sSeq (sSet 3 (fCall m_turn_ends (fCons (fVar 0) fNil)))
  (sRet (fTrim (fCompC (fIter (fVar 1)) [4] (.name 4) fYes (fTrim (fCompC (fIter (fVar 1)) [5] (.name 5) fYes (fBin gSub (fIf (fTest (fBin (gEq false) (fVar 4) (fVar 5))) (fCall gLen (fCons (fBin gIx (fVar 2) (fVar 4)) fNil)) (fC (.int 0))) (fBin gIx (fBin gIx (fVar 3) (fVar 4)) (fVar 5))))))))))
def m_turn_table : List D → Mem → Res D := runT 6 2 b_turn_table
/- solved_board -/
def b_solved_board : FS :=
  (sRet (fCall m_solved (fCons (fCall m_turn_table (fCons (fVar 0) (fCons (fListRg1 false (fCall gLen (fCons (fBin gIx (fVar 0) (fC (.int 0))) fNil))) fNil))) fNil)))
def m_solved_board : List D → Mem → Res D := runT 1 1 b_solved_board
/- need_drain -/
def b_need_drain : FS :=
  (sSeq (sExpr (fCall m_need_board (fCons (fVar 0) fNil)))
  (sIf (fTest (fBin (gIsN false) (fCall m_solved_board (fCons (fVar 0) fNil)) (fC .non)))
  (sRaise 6)
  sNext))
def m_need_drain : List D → Mem → Res D := runT 1 1 b_need_drain
/- share_tops -/
/- greatest_common -/
/- lowered -/
/- shares -/
/- need_stand -/
def b_need_stand : FS :=
  (sIf (fNotT (fTest (fCall m_is_stand (fCons (fVar 0) (fCons (fVar 1) fNil)))))
  (sRaise 1)
  sNext)
def m_need_stand : List D → Mem → Res D := runT 2 2 b_need_stand
/- owed_top -/
/- owed -/
/- _law_least -/
/- _law_plus -/
/- _law_times -/
end QX
set_option maxRecDepth 100000
set_option maxHeartbeats 1000000
namespace QX
open PySem
/- step_text -/
/- wheel_text -/
/- board_text -/
/- is_number_text -/
/- read_cups -/
/- read_step -/
/- read_wheel -/
/- read_board -/
/- is_let -/
/- counts_of -/
/- rests -/
/- need_wheel -/
def b_need_wheel : FS :=
  (sIf (fNotT (fTest (fCall m_is_wheel_number (fCons (fVar 0) (fCons (fVar 1) fNil)))))
  (sRaise 3)
  sNext)
def m_need_wheel : List D → Mem → Res D := runT 2 2 b_need_wheel
/- handled -/
end QX
set_option maxRecDepth 100000
set_option maxHeartbeats 1000000
namespace QX
open PySem
/- _law_led_on -/
/- _law_sends -/
/- _law_table -/
/- _law_number -/
/- _law_drains -/
/- _law_is_quick -/
/- _law_step -/
/- _law_board -/
/- _law_rest -/
/- _law_one -/
end QX
set_option maxRecDepth 100000
set_option maxHeartbeats 1000000
namespace QX
open PySem
/- _law_mixed -/
/- _law_ends -/
/- _law_table -/
/- _law_falls -/
/- _law_without -/
/- _law_drained -/
/- _law_board -/
/- _law_stand -/
/- _law_moment -/
/- _law_handled -/
/- handle_beat -/
/- need_hands -/
/- rows_of -/
/- _law_rows -/
end QX
set_option maxRecDepth 100000
set_option maxHeartbeats 1000000
namespace QX
open PySem
/- first_reached -/
def b_first_reached : FS :=
  (sSeq (sFor (fIter (fVar 1)) (.name 2)
  (sIf (fTest (fCall gAll (fCons (fTrim (fCompC (fIt gZip2 (fCons (fVar 0) (fCons (fVar 2) fNil))) [3, 4] (.tup [3, 4]) fYes (fBin (gCmp cGe) (fVar 3) (fVar 4)))) fNil)))
  (sRet (fVar 2))
  sNext))
  (sRet (fC .non)))
def m_first_reached : List D → Mem → Res D := runT 5 2 b_first_reached
/- turn_on -/
def b_turn_on : FS :=
  (sSeq (sSet 5 (fBin gIx (fVar 0) (fC (.int 0))))
  (sSeq (sAsg (fVar 2) (.tup [6, 7, 8]))
  (sSeq (sDivm (fCons (fVar 4) (fCons (fCall gLen (fCons (fBin gIx (fVar 5) (fVar 3)) fNil)) fNil)) (.tup [9, 10]))
  (sSeq (sIf (fTest (fBin (gCmp cGt) (fVar 9) (fC (.int 0))))
  (sSeq (sAugIx (fVar 7) (fVar 3) (fBin gMul (fVar 9) (fCall gLen (fCons (fBin gIx (fVar 5) (fVar 3)) fNil))) (gAug true))
  (sFor (fIt gEnum (fCons (fBin gIx (fVar 1) (fVar 3)) fNil)) (.tup [11, 12])
  (sIf (fTest (fBin (gCmp cLt) (fVar 11) (fCall gLen (fCons (fVar 5) fNil))))
  (sAugIx (fVar 7) (fVar 11) (fBin gMul (fVar 9) (fVar 12)) (gAug false))
  (sAugIx (fVar 8) (fBin gSub (fVar 11) (fCall gLen (fCons (fVar 5) fNil))) (fBin gMul (fVar 9) (fVar 12)) (gAug false)))))
  sNext)
  (sFor (fIt gRange1 (fCons (fVar 10) fNil)) (.name 13)
  (sExpr (fCall m_handle_marble (fCons (fVar 0) (fCons (fVar 2) (fCons (fVar 3) fNil))))))))))
def m_turn_on : List D → Mem → Res D := runT 14 5 b_turn_on
/- gone_down -/
def b_gone_down (fu : Nat) : FS :=
  (sSeq (sSet 3 (fCall m_turn_ends (fCons (fVar 0) fNil)))
  (sSeq (sAsg (fCall m_loosened (fCons (fVar 1) fNil)) (.tup [4, 5, 6]))
  (sSeq (sSet 7 (fBin gMulC (fLst (fCons (fC (.int 0)) fNil)) (fCall gLen (fCons (fVar 5) fNil))))
  (sSeq (sWhile fu (fAndT (fTest (fBin (gCmp cGt) (fCall (gMx mxI) (fCons (fVar 5) fNil)) (fC (.int 0)))) (fTest (fBin (gIsN false) (fCall m_first_reached (fCons (fVar 7) (fCons (fVar 2) fNil))) (fC .non))))
  (sFor (fIt gRange1 (fCons (fCall gLen (fCons (fBin gIx (fVar 0) (fC (.int 0))) fNil)) fNil)) (.name 8)
  (sSeq (sSet 9 (fBin gIx (fVar 5) (fVar 8)))
  (sSeq (sExpr (fCall m_turn_on (fCons (fVar 0) (fCons (fVar 3) (fCons (fTup (fCons (fVar 4) (fCons (fVar 5) (fCons (fVar 6) fNil)))) (fCons (fVar 8) (fCons (fVar 9) fNil)))))))
  (sAugIx (fVar 7) (fVar 8) (fVar 9) (gAug false))))))
  (sRet (fTup (fCons (fCall gTuple (fCons (fVar 7) fNil)) (fCons (fCall m_fastened (fCons (fVar 4) (fCons (fVar 5) (fCons (fVar 6) fNil)))) fNil))))))))
def m_gone_down (fu : Nat) : List D → Mem → Res D := runT 10 3 (b_gone_down fu)
/- are_drops -/
def b_are_drops : FS :=
  (sRet (fAnd (fCall m_are_marbles (fCons (fVar 1) (fCons (fCall gLen (fCons (fBin gIx (fVar 0) (fC (.int 0))) fNil)) fNil))) (fBin (gCmp cLe) (fCall (gMx mxI) (fCons (fVar 1) fNil)) (fVar 2))))
def m_are_drops : List D → Mem → Res D := runT 3 3 b_are_drops
/- dropped -/
def b_dropped (fu : Nat) : FS :=
  (sSeq (sExpr (fCall m_need_drain (fCons (fVar 0) fNil)))
  (sSeq (sExpr (fCall m_need_stand (fCons (fVar 0) (fCons (fVar 1) fNil))))
  (sSeq (sIf (fNotT (fTest (fCall m_are_drops (fCons (fVar 0) (fCons (fVar 2) (fCons (fC (.int 20)) fNil))))))
  (sRaise 7)
  sNext)
  (sSeq (sAsg (fCall (m_gone_down fu) (fCons (fVar 0) (fCons (fTup (fCons (fVar 1) (fCons (fVar 2) (fCons (fBin gMul (fTup (fCons (fC (.int 0)) fNil)) (fBin gIx (fVar 0) (fC (.int 1)))) fNil)))) (fCons (fLst fNil) fNil)))) (.tup [3, 4]))
  (sRet (fTup (fCons (fBin gIx (fVar 4) (fC (.int 0))) (fCons (fVar 3) (fCons (fBin gIx (fVar 4) (fC (.int 2))) fNil)))))))))
def m_dropped (fu : Nat) : List D → Mem → Res D := runT 5 3 (b_dropped fu)
end QX
set_option maxRecDepth 100000
set_option maxHeartbeats 1000000
namespace QX
open PySem
/- _law_both -/
def b_law_both_c530d4 : FS :=
  (sRet (fCall gTuple (fCons (fTrim (fCompC (fIt gZip2 (fCons (fVar 0) (fCons (fVar 1) fNil))) [2, 3] (.tup [2, 3]) fYes (fBin gAdd (fVar 2) (fVar 3)))) fNil)))
def m_law_both_c530d4 : List D → Mem → Res D := runT 4 2 b_law_both_c530d4
/- _law_parts -/
/- law -/
end QX
set_option maxRecDepth 100000
set_option maxHeartbeats 1000000
namespace QX
open PySem
/- begun -/
def b_begun : FS :=
  (sSeq (sAsg (fVar 0) (.tup [3, 4]))
  (sSeq (sSet 5 (fBin gIx (fVar 1) (fVar 2)))
  (sSeq (sSet 6 (fBin gAdd (fBin gAdd (fSl (fVar 1) fNoPart (fPart (fVar 2))) (fTup (fCons (fBin gMod (fBin gAdd (fVar 5) (fC (.int 1))) (fCall gLen (fCons (fBin gIx (fVar 3) (fVar 2)) fNil))) fNil))) (fSl (fVar 1) (fPart (fBin gAdd (fVar 2) (fC (.int 1)))) fNoPart)))
  (sRet (fLst (fCons (fTup (fCons (fVar 1) (fCons (fVar 2) fNil))) (fCons (fVar 6) (fCons (fBin gMul (fTup (fCons (fC (.int 0)) fNil)) (fVar 4)) (fCons (fBin gIx (fBin gIx (fVar 3) (fVar 2)) (fVar 5)) fNil)))))))))
def m_begun : List D → Mem → Res D := runT 7 3 b_begun
/- one_more -/
def b_one_more : FS :=
  (sRet (fBin gAdd (fBin gAdd (fSl (fVar 0) fNoPart (fPart (fVar 1))) (fTup (fCons (fBin gAdd (fBin gIx (fVar 0) (fVar 1)) (fC (.int 1))) fNil))) (fSl (fVar 0) (fPart (fBin gAdd (fVar 1) (fC (.int 1)))) fNoPart)))
def m_one_more : List D → Mem → Res D := runT 2 2 b_one_more
/- fall -/
def b_fall (fu : Nat) : FS :=
  (sSeq (sSet 4 (fIf (fTest (fBin (gInN false) (fTup (fCons (fVar 2) (fCons (fVar 3) fNil))) (fVar 1))) (fNew fNil) (fNew (fCons (fCall m_begun (fCons (fVar 0) (fCons (fVar 2) (fCons (fVar 3) fNil)))) fNil))))
  (sSeq (sWhile fu (fTru (fVar 4))
  (sSeq (sAsgL (fBin gIx (fVar 4) (fUn gNeg (fC (.int 1)))) [5, 6, 7, 8])
  (sIf (fTest (fBin (gEq false) (fVar 8) (fTup fNil)))
  (sSeq (sPutD (fVar 1) (fVar 5) (fTup (fCons (fVar 6) (fCons (fVar 7) fNil))))
  (sExpr (fMeth gPop (fVar 4) fNil)))
  (sIf (fTest (fBin (gCmp cGe) (fBin gIx (fVar 8) (fC (.int 0))) (fCall gLen (fCons (fVar 2) fNil))))
  (sSetIx (fVar 4) (fUn gNeg (fC (.int 1))) (fLst (fCons (fVar 5) (fCons (fVar 6) (fCons (fCall m_one_more (fCons (fVar 7) (fCons (fBin gSub (fBin gIx (fVar 8) (fC (.int 0))) (fCall gLen (fCons (fVar 2) fNil))) fNil))) (fCons (fSl (fVar 8) (fPart (fC (.int 1))) fNoPart) fNil))))))
  (sIf (fTest (fBin (gInN false) (fTup (fCons (fVar 6) (fCons (fBin gIx (fVar 8) (fC (.int 0))) fNil))) (fVar 1)))
  (sSeq (sAsg (fBin gGetD (fVar 1) (fTup (fCons (fVar 6) (fCons (fBin gIx (fVar 8) (fC (.int 0))) fNil)))) (.tup [9, 10]))
  (sSetIx (fVar 4) (fUn gNeg (fC (.int 1))) (fLst (fCons (fVar 5) (fCons (fVar 9) (fCons (fCall m_law_both_c530d4 (fCons (fVar 7) (fCons (fVar 10) fNil))) (fCons (fSl (fVar 8) (fPart (fC (.int 1))) fNoPart) fNil)))))))
  (sExpr (fMeth gAppend (fVar 4) (fCons (fCall m_begun (fCons (fVar 0) (fCons (fVar 6) (fCons (fBin gIx (fVar 8) (fC (.int 0))) fNil)))) fNil))))))))
  (sRet (fBin gGetD (fVar 1) (fTup (fCons (fVar 2) (fCons (fVar 3) fNil)))))))
def m_fall (fu : Nat) : List D → Mem → Res D := runT 11 4 (b_fall fu)
/- path_of -/
def b_path_of (fu : Nat) : FS :=
  (sSeq (sSet 4 fDNew)
  (sSeq (sSet 5 (fNew fNil))
  (sSeq (sWhile fu (fTest (fBin (gInN true) (fVar 2) (fVar 4)))
  (sSeq (sPutD (fVar 4) (fVar 2) (fCall gLen (fCons (fVar 5) fNil)))
  (sSeq (sExpr (fMeth gAppend (fVar 5) (fCons (fVar 2) fNil)))
  (sSet 2 (fBin gIx (fCall (m_fall fu) (fCons (fVar 0) (fCons (fVar 1) (fCons (fVar 2) (fCons (fVar 3) fNil))))) (fC (.int 0)))))))
  (sRet (fTup (fCons (fVar 5) (fCons (fBin gGetD (fVar 4) (fVar 2)) fNil)))))))
def m_path_of (fu : Nat) : List D → Mem → Res D := runT 6 4 (b_path_of fu)
/- cups_along -/
def b_cups_along (fu : Nat) : FS :=
  (sSeq (sSet 4 (fBin gMul (fTup (fCons (fC (.int 0)) fNil)) (fBin gIx (fVar 0) (fC (.int 1)))))
  (sSeq (sFor (fIter (fVar 2)) (.name 5)
  (sSet 4 (fCall m_law_both_c530d4 (fCons (fVar 4) (fCons (fBin gIx (fCall (m_fall fu) (fCons (fVar 0) (fCons (fVar 1) (fCons (fVar 5) (fCons (fVar 3) fNil))))) (fC (.int 1))) fNil)))))
  (sRet (fVar 4))))
def m_cups_along (fu : Nat) : List D → Mem → Res D := runT 6 4 (b_cups_along fu)
/- far_fall -/
def b_far_fall (fu : Nat) : FS :=
  (sSeq (sAsg (fCall (m_path_of fu) (fCons (fVar 0) (fCons (fVar 1) (fCons (fVar 2) (fCons (fVar 3) fNil))))) (.tup [5, 6]))
  (sSeq (sIf (fTest (fBin (gCmp cLt) (fVar 4) (fVar 6)))
  (sRet (fTup (fCons (fBin gIx (fVar 5) (fVar 4)) (fCons (fCall (m_cups_along fu) (fCons (fVar 0) (fCons (fVar 1) (fCons (fSl (fVar 5) fNoPart (fPart (fVar 4))) (fCons (fVar 3) fNil))))) fNil))))
  sNext)
  (sSeq (sDivm (fCons (fBin gSub (fVar 4) (fVar 6)) (fCons (fBin gSub (fCall gLen (fCons (fVar 5) fNil)) (fVar 6)) fNil)) (.tup [7, 8]))
  (sSeq (sSet 9 (fCall (m_cups_along fu) (fCons (fVar 0) (fCons (fVar 1) (fCons (fSl (fVar 5) fNoPart (fPart (fBin gAdd (fVar 6) (fVar 8)))) (fCons (fVar 3) fNil))))))
  (sSeq (sSet 10 (fCall (m_cups_along fu) (fCons (fVar 0) (fCons (fVar 1) (fCons (fSl (fVar 5) (fPart (fVar 6)) fNoPart) (fCons (fVar 3) fNil))))))
  (sRet (fTup (fCons (fBin gIx (fVar 5) (fBin gAdd (fVar 6) (fVar 8))) (fCons (fCall gTuple (fCons (fTrim (fCompC (fIt gZip2 (fCons (fVar 9) (fCons (fVar 10) fNil))) [11, 12] (.tup [11, 12]) fYes (fBin gAdd (fVar 11) (fBin gMul (fVar 7) (fVar 12))))) fNil)) fNil)))))))))
def m_far_fall (fu : Nat) : List D → Mem → Res D := runT 13 5 (b_far_fall fu)
end QX
set_option maxRecDepth 100000
set_option maxHeartbeats 1000000
namespace QX
open PySem
/- _law_line -/
/- round_of -/
def b_round_of (fu : Nat) : FS :=
  (sSeq (sExpr (fCall m_need_drain (fCons (fVar 0) fNil)))
  (sSeq (sExpr (fCall m_need_stand (fCons (fVar 0) (fCons (fVar 1) fNil))))
  (sSeq (sExpr (fCall m_need_wheel (fCons (fVar 0) (fCons (fVar 2) fNil))))
  (sSeq (sAsg (fCall (m_path_of fu) (fCons (fVar 0) (fCons fDNew (fCons (fVar 1) (fCons (fVar 2) fNil))))) (.tup [3, 4]))
  (sRet (fTup (fCons (fVar 4) (fCons (fBin gSub (fCall gLen (fCons (fVar 3) fNil)) (fVar 4)) fNil))))))))
def m_round_of (fu : Nat) : List D → Mem → Res D := runT 5 3 (b_round_of fu)
/- law -/
end QX
set_option maxRecDepth 100000
set_option maxHeartbeats 1000000
namespace QX
open PySem
/- _law_far -/
/- led_far -/
def b_led_far (fu : Nat) : FS :=
  (sSeq (sExpr (fCall m_need_drain (fCons (fVar 0) fNil)))
  (sSeq (sExpr (fCall m_need_stand (fCons (fVar 0) (fCons (fVar 1) fNil))))
  (sSeq (sExpr (fCall m_need_wheel (fCons (fVar 0) (fCons (fVar 2) fNil))))
  (sSeq (sIf (fNotT (fTest (fCall m_is_within (fCons (fVar 3) (fCons (fC (.int 0)) (fCons (fC (.int 1000000000000)) fNil))))))
  (sRaise 9)
  sNext)
  (sRet (fCall (m_far_fall fu) (fCons (fVar 0) (fCons fDNew (fCons (fVar 1) (fCons (fVar 2) (fCons (fVar 3) fNil)))))))))))
def m_led_far (fu : Nat) : List D → Mem → Res D := runT 4 4 (b_led_far fu)
/- _law_by_drops -/
/- law -/
end QX
set_option maxRecDepth 100000
set_option maxHeartbeats 1000000
namespace QX
open PySem
/- _law_board -/
/- _law_teller -/
/- _law_word -/
/- _law_handled -/
/- _law_rested -/
/- _law_drop -/
/- _law_told -/
/- are_mouths -/
/- need_teller -/
/- is_word -/
/- need_word -/
/- gains_of -/
/- told -/
/- law -/
end QX
set_option maxRecDepth 100000
set_option maxHeartbeats 1000000
namespace QX
open PySem
/- stands_in_all -/
def b_stands_in_all : FS :=
  (sSeq (sSet 1 (fC (.int 1)))
  (sSeq (sFor (fIter (fBin gIx (fVar 0) (fC (.int 0)))) (.name 2)
  (sAug 1 gAugM (fCall gLen (fCons (fVar 2) fNil))))
  (sRet (fVar 1))))
def m_stands_in_all : List D → Mem → Res D := runT 3 1 b_stands_in_all
/- need_few_stands -/
def b_need_few_stands : FS :=
  (sSeq (sSet 2 (fCall m_stands_in_all (fCons (fVar 0) fNil)))
  (sIf (fTest (fBin (gCmp cGt) (fVar 2) (fVar 1)))
  sNever
  sNext))
def m_need_few_stands : List D → Mem → Res D := runT 3 2 b_need_few_stands
/- need_two_tellers -/
/- pair_fall -/
/- parted -/
/- _law_parted -/
/- _law_otherwise -/
end QX
set_option maxRecDepth 100000
set_option maxHeartbeats 1000000
namespace QX
open PySem
/- is_rising -/
def b_is_rising : FS :=
  (sRet (fCall gAll (fCons (fTrim (fCompC (fIt gZip2 (fCons (fVar 0) (fCons (fSl (fVar 0) (fPart (fC (.int 1))) fNoPart) fNil))) [1, 2] (.tup [1, 2]) fYes (fBin gLtD (fVar 1) (fVar 2)))) fNil)))
def m_is_rising : List D → Mem → Res D := runT 3 1 b_is_rising
/- is_pair -/
/- keep_alike -/
/- shows_parted -/
/- _law_pair_right -/
/- law -/
end QX
set_option maxRecDepth 100000
set_option maxHeartbeats 1000000
namespace QX
open PySem
/- _law_plan -/
/- come_to -/
def b_come_to (fu : Nat) : FS :=
  (sSeq (sSet 3 (fDOne (fVar 2) (fC (.bl true))))
  (sSeq (sSet 4 (fNew (fCons (fVar 2) fNil)))
  (sSeq (sWhile fu (fTru (fVar 4))
  (sSeq (sSet 5 (fMeth gPop (fVar 4) fNil))
  (sFor (fIt gRange1 (fCons (fCall gLen (fCons (fBin gIx (fVar 0) (fC (.int 0))) fNil)) fNil)) (.name 6)
  (sSeq (sSet 7 (fBin gIx (fCall (m_fall fu) (fCons (fVar 0) (fCons (fVar 1) (fCons (fVar 5) (fCons (fVar 6) fNil))))) (fC (.int 0))))
  (sIf (fTest (fBin (gInN true) (fVar 7) (fVar 3)))
  (sSeq (sPutD (fVar 3) (fVar 7) (fC (.bl true)))
  (sExpr (fMeth gAppend (fVar 4) (fCons (fVar 7) fNil))))
  sNext)))))
  (sRet (fCall gTuple (fCons (fCall gSortD (fCons (fVar 3) fNil)) fNil))))))
def m_come_to (fu : Nat) : List D → Mem → Res D := runT 8 3 (b_come_to fu)
/- again_stands -/
def b_again_stands (fu : Nat) : FS :=
  (sSeq (sSet 2 (fBin gMul (fTup (fCons (fC (.int 0)) fNil)) (fCall gLen (fCons (fBin gIx (fVar 0) (fC (.int 0))) fNil))))
  (sSeq (sFor (fIt gRange1 (fCons (fCall m_stands_in_all (fCons (fVar 0) fNil)) fNil)) (.name 3)
  (sFor (fIt gRange1 (fCons (fCall gLen (fCons (fBin gIx (fVar 0) (fC (.int 0))) fNil)) fNil)) (.name 4)
  (sSet 2 (fBin gIx (fCall (m_fall fu) (fCons (fVar 0) (fCons (fVar 1) (fCons (fVar 2) (fCons (fVar 4) fNil))))) (fC (.int 0))))))
  (sRet (fCall (m_come_to fu) (fCons (fVar 0) (fCons (fVar 1) (fCons (fVar 2) fNil)))))))
def m_again_stands (fu : Nat) : List D → Mem → Res D := runT 5 2 (b_again_stands fu)
/- all_again -/
def b_all_again (fu : Nat) : FS :=
  (sSeq (sExpr (fCall m_need_drain (fCons (fVar 0) fNil)))
  (sSeq (sExpr (fCall (fun ds M => m_need_few_stands (ds ++ [.int 600]) M) (fCons (fVar 0) fNil)))
  (sRet (fCall (m_again_stands fu) (fCons (fVar 0) (fCons fDNew fNil))))))
def m_all_again (fu : Nat) : List D → Mem → Res D := runT 1 1 (b_all_again fu)
/- need_two_stands -/
def b_need_two_stands : FS :=
  (sSeq (sExpr (fCall m_need_drain (fCons (fVar 0) fNil)))
  (sSeq (sExpr (fCall m_need_stand (fCons (fVar 0) (fCons (fVar 1) fNil))))
  (sSeq (sExpr (fCall m_need_stand (fCons (fVar 0) (fCons (fVar 2) fNil))))
  (sExpr (fCall (fun ds M => m_need_few_stands (ds ++ [.int 600]) M) (fCons (fVar 0) fNil))))))
def m_need_two_stands : List D → Mem → Res D := runT 3 3 b_need_two_stands
/- next_ways -/
def b_next_ways (fu : Nat) : FS :=
  (sSeq (sSet 4 fDNew)
  (sSeq (sFor (fIter (fVar 3)) (.name 5)
  (sFor (fIt gRange1 (fCons (fCall gLen (fCons (fBin gIx (fVar 0) (fC (.int 0))) fNil)) fNil)) (.name 6)
  (sSeq (sSet 7 (fBin gIx (fCall (m_fall fu) (fCons (fVar 0) (fCons (fVar 1) (fCons (fVar 5) (fCons (fVar 6) fNil))))) (fC (.int 0))))
  (sSeq (sSet 8 (fCall m_one_more (fCons (fBin gGetD (fVar 2) (fVar 5)) (fCons (fVar 6) fNil))))
  (sIf (fAndT (fTest (fBin (gInN true) (fVar 7) (fVar 2))) (fOrT (fTest (fBin (gInN true) (fVar 7) (fVar 4))) (fTest (fBin gLtD (fVar 8) (fBin gGetD (fVar 4) (fVar 7))))))
  (sPutD (fVar 4) (fVar 7) (fVar 8))
  sNext)))))
  (sRet (fVar 4))))
def m_next_ways (fu : Nat) : List D → Mem → Res D := runD 9 4 (b_next_ways fu)
/- least_drops -/
def b_least_drops (fu : Nat) : FS :=
  (sSeq (sExpr (fCall m_need_two_stands (fCons (fVar 0) (fCons (fVar 1) (fCons (fVar 2) fNil)))))
  (sSeq (sSet 3 fDNew)
  (sSeq (sSet 4 (fDOne (fVar 1) (fBin gMul (fTup (fCons (fC (.int 0)) fNil)) (fCall gLen (fCons (fVar 1) fNil)))))
  (sSeq (sSet 5 (fLst (fCons (fVar 1) fNil)))
  (sSeq (sWhile fu (fAndT (fTru (fVar 5)) (fTest (fBin (gInN true) (fVar 2) (fVar 4))))
  (sSeq (sSet 6 (fCall (m_next_ways fu) (fCons (fVar 0) (fCons (fVar 3) (fCons (fVar 4) (fCons (fVar 5) fNil))))))
  (sSeq (sSet 5 (fCall gListD (fCons (fVar 6) fNil)))
  (sFor (fIter (fVar 5)) (.name 7)
  (sPutD (fVar 4) (fVar 7) (fBin gGetD (fVar 6) (fVar 7)))))))
  (sSeq (sIf (fTest (fBin (gInN false) (fVar 2) (fVar 4)))
  (sRet (fTup (fCons (fC (.str "drops")) (fCons (fBin gGetD (fVar 4) (fVar 2)) fNil))))
  sNext)
  (sRet (fTup (fCons (fC (.str "closed")) (fCons (fCall gTuple (fCons (fCall gSortD (fCons (fVar 4) fNil)) fNil)) fNil))))))))))
def m_least_drops (fu : Nat) : List D → Mem → Res D := runT 8 3 (b_least_drops fu)
/- how_many -/
def b_how_many : FS :=
  (sSeq (sExpr (fCall m_need_drain (fCons (fVar 0) fNil)))
  (sRet (fBin gIx (fCall m_solved_board (fCons (fVar 0) fNil)) (fC (.int 0)))))
def m_how_many : List D → Mem → Res D := runT 1 1 b_how_many
/- back -/
def b_back (fu : Nat) : FS :=
  (sSeq (sExpr (fCall m_need_drain (fCons (fVar 0) fNil)))
  (sSeq (sExpr (fCall m_need_stand (fCons (fVar 0) (fCons (fVar 1) fNil))))
  (sSeq (sExpr (fCall m_need_wheel (fCons (fVar 0) (fCons (fVar 2) fNil))))
  (sSeq (sExpr (fCall (fun ds M => m_need_few_stands (ds ++ [.int 600]) M) (fCons (fVar 0) fNil)))
  (sSeq (sSet 3 fDNew)
  (sSeq (sIf (fTest (fBin gNinT (fVar 1) (fCall (m_again_stands fu) (fCons (fVar 0) (fCons (fVar 3) fNil)))))
  (sRaise 8)
  sNext)
  (sRet (fBin gIx (fBin gIx (fCall (m_path_of fu) (fCons (fVar 0) (fCons (fVar 3) (fCons (fVar 1) (fCons (fVar 2) fNil))))) (fC (.int 0))) (fUn gNeg (fC (.int 1)))))))))))
def m_back (fu : Nat) : List D → Mem → Res D := runT 4 3 (b_back fu)
/- lead_to -/
def b_lead_to (fu : Nat) : FS :=
  (sSeq (sIf (fNotT (fTest (fCall m_are_drops (fCons (fVar 0) (fCons (fVar 3) (fCons (fC (.int 1000000000000)) fNil))))))
  (sRet (fC (.bl false)))
  sNext)
  (sSeq (sSet 4 fDNew)
  (sSeq (sSet 5 (fVar 1))
  (sSeq (sFor (fIt gEnum (fCons (fVar 3) fNil)) (.tup [6, 7])
  (sSet 5 (fBin gIx (fCall (m_far_fall fu) (fCons (fVar 0) (fCons (fVar 4) (fCons (fVar 5) (fCons (fVar 6) (fCons (fVar 7) fNil)))))) (fC (.int 0)))))
  (sRet (fBin (gEq false) (fVar 5) (fVar 2)))))))
def m_lead_to (fu : Nat) : List D → Mem → Res D := runT 8 4 (b_lead_to fu)
/- keep_apart -/
def b_keep_apart (fu : Nat) : FS :=
  (sSeq (sIf (fOrT (fNotT (fTest (fCall (gIsi .tuple) (fCons (fVar 3) (fCons (fC (.adr (.ty "tuple"))) fNil))))) (fNotT (fTest (fCall gAll (fCons (fTrim (fCompC (fIter (fVar 3)) [6] (.name 6) fYes (fCall m_is_stand (fCons (fVar 0) (fCons (fVar 6) fNil))))) fNil)))))
  (sRet (fC (.bl false)))
  sNext)
  (sSeq (sIf (fOrT (fNotT (fTest (fCall m_is_rising (fCons (fVar 3) fNil)))) (fOrT (fTest (fBin gNinT (fVar 1) (fVar 3))) (fTest (fBin gInT (fVar 2) (fVar 3)))))
  (sRet (fC (.bl false)))
  sNext)
  (sSeq (sSet 4 fDNew)
  (sSeq (sSet 5 (fDComp (fIter (fVar 3)) [6] (.name 6) (fVar 6) (fC (.bl true))))
  (sRet (fCall gAll (fCons (fTrim (fCompC2 (fIter (fVar 3)) [6, 7] (.name 6) fYes (fIt gRange1 (fCons (fCall gLen (fCons (fVar 6) fNil)) fNil)) [7] (.name 7) fYes (fBin (gInN false) (fBin gIx (fCall (m_fall fu) (fCons (fVar 0) (fCons (fVar 4) (fCons (fVar 6) (fCons (fVar 7) fNil))))) (fC (.int 0))) (fVar 5)))) fNil)))))))
def m_keep_apart (fu : Nat) : List D → Mem → Res D := runT 8 4 (b_keep_apart fu)
/- shows_drops -/
def b_shows_drops (fu : Nat) : FS :=
  (sSeq (sExpr (fCall m_need_two_stands (fCons (fVar 0) (fCons (fVar 1) (fCons (fVar 2) fNil)))))
  (sSeq (sIf (fNotT (fTest (fCall m_has_parts (fCons (fVar 3) (fCons (fC (.int 2)) (fCons (fC (.int 2)) fNil))))))
  (sRet (fC (.bl false)))
  sNext)
  (sSeq (sAsg (fVar 3) (.tup [4, 5]))
  (sSeq (sIf (fTest (fBin (gEq false) (fVar 4) (fC (.str "drops"))))
  (sRet (fCall (m_lead_to fu) (fCons (fVar 0) (fCons (fVar 1) (fCons (fVar 2) (fCons (fVar 5) fNil))))))
  sNext)
  (sSeq (sIf (fTest (fBin (gEq false) (fVar 4) (fC (.str "closed"))))
  (sRet (fCall (m_keep_apart fu) (fCons (fVar 0) (fCons (fVar 1) (fCons (fVar 2) (fCons (fVar 5) fNil))))))
  sNext)
  (sRet (fC (.bl false))))))))
def m_shows_drops (fu : Nat) : List D → Mem → Res D := runT 6 4 (b_shows_drops fu)
/- is_again -/
def b_is_again (fu : Nat) : FS :=
  (sSeq (sExpr (fCall m_need_drain (fCons (fVar 0) fNil)))
  (sSeq (sExpr (fCall m_need_stand (fCons (fVar 0) (fCons (fVar 1) fNil))))
  (sSeq (sExpr (fCall (fun ds M => m_need_few_stands (ds ++ [.int 600]) M) (fCons (fVar 0) fNil)))
  (sRet (fBin gInT (fVar 1) (fCall (m_again_stands fu) (fCons (fVar 0) (fCons fDNew fNil))))))))
def m_is_again (fu : Nat) : List D → Mem → Res D := runT 2 2 (b_is_again fu)
/- _law_right -/
/- law -/
end QX
set_option maxRecDepth 100000
set_option maxHeartbeats 1000000
namespace QX
open PySem
/- _law_heap_right -/
def b_law_heap_right_7e4e6a (fu : Nat) : FS :=
  (sSeq (sPar3 1 2 3 (fCons (fBin gAdd (fC (.int 1)) (fCall m_law_draw_321cf4 (fCons (fVar 0) (fCons (fC (.int 4)) fNil)))) (fCons (fCall m_law_draw_321cf4 (fCons (fVar 0) (fCons (fBin gPow (fC (.int 10)) (fC (.int 12))) fNil))) (fCons (fCall m_law_draw_321cf4 (fCons (fVar 0) (fCons (fC (.int 4)) fNil))) fNil))))
  (sSeq (sPar 4 3 (fCons (fTup (fCons (fTup (fCons (fBin gAdd (fBin gMul (fTup (fCons (fTup fNil) fNil)) (fBin gSub (fVar 1) (fC (.int 1)))) (fTup (fCons (fTup (fCons (fC (.int 1)) (fCons (fC (.int 1)) fNil))) fNil))) fNil)) (fCons (fC (.int 1)) fNil))) (fCons (fBin gMod (fVar 3) (fVar 1)) fNil)))
  (sSeq (sIf (fOrT (fTest (fBin (gEq true) (fCall (m_all_again fu) (fCons (fVar 4) fNil)) (fCall gTuple (fCons (fTrim (fCompC (fIt gRange1 (fCons (fVar 1) fNil)) [5] (.name 5) fYes (fTup (fCons (fVar 5) fNil)))) fNil)))) (fTest (fBin (gEq true) (fCall m_how_many (fCons (fVar 4) fNil)) (fVar 1))))
  (sRet (fC (.bl false)))
  sNext)
  (sSeq (sIf (fTest (fBin (gEq true) (fCall (m_led_far fu) (fCons (fVar 4) (fCons (fTup (fCons (fVar 3) fNil)) (fCons (fC (.int 0)) (fCons (fVar 2) fNil))))) (fTup (fCons (fTup (fCons (fBin gMod (fBin gAdd (fVar 3) (fVar 2)) (fVar 1)) fNil)) (fCons (fTup (fCons (fBin gMul (fC (.int 2)) (fBin gFdiv (fBin gAdd (fVar 3) (fVar 2)) (fVar 1))) fNil)) fNil)))))
  (sRet (fC (.bl false)))
  sNext)
  (sSeq (sIf (fOrT (fTest (fBin (gEq true) (fCall (m_round_of fu) (fCons (fVar 4) (fCons (fTup (fCons (fVar 3) fNil)) (fCons (fC (.int 0)) fNil)))) (fTup (fCons (fC (.int 0)) (fCons (fVar 1) fNil))))) (fTest (fBin (gEq true) (fCall (m_back fu) (fCons (fVar 4) (fCons (fTup (fCons (fC (.int 0)) fNil)) (fCons (fC (.int 0)) fNil)))) (fTup (fCons (fBin gSub (fVar 1) (fC (.int 1))) fNil)))))
  (sRet (fC (.bl false)))
  sNext)
  (sRet (fBin (gEq false) (fCall (m_least_drops fu) (fCons (fVar 4) (fCons (fTup (fCons (fVar 3) fNil)) (fCons (fTup (fCons (fC (.int 0)) fNil)) fNil)))) (fTup (fCons (fC (.str "drops")) (fCons (fTup (fCons (fBin gMod (fBin gSub (fVar 1) (fVar 3)) (fVar 1)) fNil)) fNil))))))))))
def m_law_heap_right_7e4e6a (fu : Nat) : List D → Mem → Res D := runT 6 1 (b_law_heap_right_7e4e6a fu)
/- _law_by_turns_right -/
def b_law_by_turns_right_47bbe0 (fu : Nat) : FS :=
  (sSeq (sPar3 1 2 3 (fCons (fTup (fCons (fTup (fCons (fTup (fCons (fTup (fCons (fC (.int 1)) fNil)) (fCons (fTup (fCons (fC (.int 2)) fNil)) fNil))) fNil)) (fCons (fC (.int 2)) fNil))) (fCons (fCall m_law_draw_321cf4 (fCons (fVar 0) (fCons (fC (.int 21)) fNil))) (fCons (fCall m_law_draw_321cf4 (fCons (fVar 0) (fCons (fC (.int 2)) fNil))) fNil))))
  (sSeq (sSet 4 (fBin gFdiv (fBin gSub (fBin gAdd (fVar 2) (fC (.int 1))) (fVar 3)) (fC (.int 2))))
  (sRet (fBin (gEq false) (fCall (m_dropped fu) (fCons (fVar 1) (fCons (fTup (fCons (fVar 3) fNil)) (fCons (fTup (fCons (fVar 2) fNil)) fNil)))) (fTup (fCons (fTup (fCons (fBin gMod (fBin gAdd (fVar 3) (fVar 2)) (fC (.int 2))) fNil)) (fCons (fTup (fCons (fVar 2) fNil)) (fCons (fTup (fCons (fVar 4) (fCons (fBin gSub (fVar 2) (fVar 4)) fNil))) fNil))))))))
def m_law_by_turns_right_47bbe0 (fu : Nat) : List D → Mem → Res D := runT 5 1 (b_law_by_turns_right_47bbe0 fu)
/- _law_double_right -/
def b_law_double_right_e7521f (fu : Nat) : FS :=
  (sSeq (sPar 1 2 (fCons (fTup (fCons (fTup (fCons (fTup (fCons (fTup (fCons (fC (.int 1)) (fCons (fC (.int 1)) fNil))) fNil)) (fCons (fTup (fCons (fTup fNil) (fCons (fTup fNil) (fCons (fTup (fCons (fC (.int 2)) fNil)) fNil)))) fNil))) (fCons (fC (.int 1)) fNil))) (fCons (fCall m_law_draw_321cf4 (fCons (fVar 0) (fCons (fC (.int 21)) fNil))) fNil)))
  (sSeq (sIf (fTest (fBin (gEq true) (fCall (m_dropped fu) (fCons (fVar 1) (fCons (fTup (fCons (fC (.int 0)) (fCons (fC (.int 0)) fNil))) (fCons (fTup (fCons (fVar 2) (fCons (fC (.int 0)) fNil))) fNil)))) (fTup (fCons (fTup (fCons (fC (.int 0)) (fCons (fBin gMod (fBin gMul (fC (.int 2)) (fVar 2)) (fC (.int 3))) fNil))) (fCons (fTup (fCons (fVar 2) (fCons (fBin gMul (fC (.int 2)) (fVar 2)) fNil))) (fCons (fTup (fCons (fBin gFdiv (fBin gMul (fC (.int 2)) (fVar 2)) (fC (.int 3))) fNil)) fNil))))))
  (sRet (fC (.bl false)))
  sNext)
  (sSeq (sIf (fOrT (fTest (fBin (gEq true) (fCall m_how_many (fCons (fVar 1) fNil)) (fC (.int 3)))) (fTest (fBin (gEq true) (fCall (m_all_again fu) (fCons (fVar 1) fNil)) (fTup (fCons (fTup (fCons (fC (.int 0)) (fCons (fC (.int 0)) fNil))) (fCons (fTup (fCons (fC (.int 0)) (fCons (fC (.int 1)) fNil))) (fCons (fTup (fCons (fC (.int 0)) (fCons (fC (.int 2)) fNil))) fNil)))))))
  (sRet (fC (.bl false)))
  sNext)
  (sSeq (sIf (fTest (fBin (gEq true) (fCall (m_back fu) (fCons (fVar 1) (fCons (fTup (fCons (fC (.int 0)) (fCons (fC (.int 1)) fNil))) (fCons (fC (.int 0)) fNil)))) (fTup (fCons (fC (.int 0)) (fCons (fC (.int 2)) fNil)))))
  (sRet (fC (.bl false)))
  sNext)
  (sRet (fAnd (fBin (gEq false) (fCall (m_least_drops fu) (fCons (fVar 1) (fCons (fTup (fCons (fC (.int 0)) (fCons (fC (.int 0)) fNil))) (fCons (fTup (fCons (fC (.int 0)) (fCons (fC (.int 2)) fNil))) fNil)))) (fTup (fCons (fC (.str "drops")) (fCons (fTup (fCons (fC (.int 1)) (fCons (fC (.int 0)) fNil))) fNil)))) (fBin (gEq false) (fCall (m_round_of fu) (fCons (fVar 1) (fCons (fTup (fCons (fC (.int 0)) (fCons (fC (.int 0)) fNil))) (fCons (fC (.int 0)) fNil)))) (fTup (fCons (fC (.int 0)) (fCons (fC (.int 3)) fNil))))))))))
def m_law_double_right_e7521f (fu : Nat) : List D → Mem → Res D := runT 3 1 (b_law_double_right_e7521f fu)
/- _law_itself_right -/
def b_law_itself_right_050651 (fu : Nat) : FS :=
  (sSeq (sPar 1 2 (fCons (fTup (fCons (fTup (fCons (fTup (fCons (fTup (fCons (fC (.int 0)) fNil)) (fCons (fTup (fCons (fC (.int 1)) fNil)) fNil))) fNil)) (fCons (fC (.int 1)) fNil))) (fCons (fCall m_law_draw_321cf4 (fCons (fVar 0) (fCons (fC (.int 20)) fNil))) fNil)))
  (sSeq (sIf (fOrT (fTest (fBin (gEq true) (fCall (m_dropped fu) (fCons (fVar 1) (fCons (fTup (fCons (fC (.int 0)) fNil)) (fCons (fTup (fCons (fVar 2) fNil)) fNil)))) (fTup (fCons (fTup (fCons (fC (.int 0)) fNil)) (fCons (fTup (fCons (fBin gMul (fC (.int 2)) (fVar 2)) fNil)) (fCons (fTup (fCons (fVar 2) fNil)) fNil)))))) (fTest (fBin (gEq true) (fCall m_how_many (fCons (fVar 1) fNil)) (fC (.int 1)))))
  (sRet (fC (.bl false)))
  sNext)
  (sSeq (sIf (fTest (fBin (gEq true) (fCall (m_dropped fu) (fCons (fVar 1) (fCons (fTup (fCons (fC (.int 1)) fNil)) (fCons (fTup (fCons (fBin gAdd (fVar 2) (fC (.int 1))) fNil)) fNil)))) (fTup (fCons (fTup (fCons (fC (.int 0)) fNil)) (fCons (fTup (fCons (fBin gAdd (fBin gMul (fC (.int 2)) (fVar 2)) (fC (.int 1))) fNil)) (fCons (fTup (fCons (fBin gAdd (fVar 2) (fC (.int 1))) fNil)) fNil))))))
  (sRet (fC (.bl false)))
  sNext)
  (sSeq (sIf (fTest (fBin (gEq true) (fCall (m_all_again fu) (fCons (fVar 1) fNil)) (fTup (fCons (fTup (fCons (fC (.int 0)) fNil)) fNil))))
  (sRet (fC (.bl false)))
  sNext)
  (sSeq (sIf (fOrT (fTest (fBin (gEq true) (fCall (m_round_of fu) (fCons (fVar 1) (fCons (fTup (fCons (fC (.int 1)) fNil)) (fCons (fC (.int 0)) fNil)))) (fTup (fCons (fC (.int 1)) (fCons (fC (.int 1)) fNil))))) (fTest (fBin (gEq true) (fCall (m_least_drops fu) (fCons (fVar 1) (fCons (fTup (fCons (fC (.int 0)) fNil)) (fCons (fTup (fCons (fC (.int 1)) fNil)) fNil)))) (fTup (fCons (fC (.str "closed")) (fCons (fTup (fCons (fTup (fCons (fC (.int 0)) fNil)) fNil)) fNil))))))
  (sRet (fC (.bl false)))
  sNext)
  (sSeq (sIf (fTest (fBin (gEq true) (fCall (m_least_drops fu) (fCons (fVar 1) (fCons (fTup (fCons (fC (.int 1)) fNil)) (fCons (fTup (fCons (fC (.int 1)) fNil)) fNil)))) (fTup (fCons (fC (.str "drops")) (fCons (fTup (fCons (fC (.int 0)) fNil)) fNil)))))
  (sRet (fC (.bl false)))
  sNext)
  (sRet (fBin (gEq false) (fCall (m_least_drops fu) (fCons (fVar 1) (fCons (fTup (fCons (fC (.int 1)) fNil)) (fCons (fTup (fCons (fC (.int 0)) fNil)) fNil)))) (fTup (fCons (fC (.str "drops")) (fCons (fTup (fCons (fC (.int 1)) fNil)) fNil)))))))))))
def m_law_itself_right_050651 (fu : Nat) : List D → Mem → Res D := runT 3 1 (b_law_itself_right_050651 fu)
/- _law_two_right -/
def b_law_two_right_14dad7 (fu : Nat) : FS :=
  (sSeq (sPar 1 2 (fCons (fTup (fCons (fTup (fCons (fTup (fCons (fTup (fCons (fC (.int 1)) fNil)) (fCons (fTup (fCons (fC (.int 2)) fNil)) fNil))) (fCons (fTup (fCons (fTup fNil) (fCons (fTup (fCons (fC (.int 3)) (fCons (fC (.int 3)) fNil))) fNil))) fNil))) (fCons (fC (.int 2)) fNil))) (fCons (fCall m_law_draw_321cf4 (fCons (fVar 0) (fCons (fC (.int 5)) fNil))) fNil)))
  (sSeq (sAsg (fCall (m_dropped fu) (fCons (fVar 1) (fCons (fTup (fCons (fC (.int 0)) (fCons (fC (.int 0)) fNil))) (fCons (fTup (fCons (fBin gMul (fC (.int 4)) (fVar 2)) (fCons (fC (.int 0)) fNil))) fNil)))) (.tup [3, 4, 5]))
  (sSeq (sIf (fTest (fBin (gEq true) (fTup (fCons (fVar 3) (fCons (fVar 4) (fCons (fVar 5) fNil)))) (fTup (fCons (fTup (fCons (fC (.int 0)) (fCons (fC (.int 0)) fNil))) (fCons (fTup (fCons (fBin gMul (fC (.int 4)) (fVar 2)) (fCons (fBin gMul (fC (.int 2)) (fVar 2)) fNil))) (fCons (fTup (fCons (fBin gMul (fC (.int 2)) (fVar 2)) (fCons (fBin gMul (fC (.int 2)) (fVar 2)) fNil))) fNil))))))
  (sRet (fC (.bl false)))
  sNext)
  (sSeq (sIf (fOrT (fTest (fBin (gEq true) (fCall m_how_many (fCons (fVar 1) fNil)) (fC (.int 4)))) (fOrT (fTest (fBin (gEq true) (fCall (m_round_of fu) (fCons (fVar 1) (fCons (fTup (fCons (fC (.int 0)) (fCons (fC (.int 0)) fNil))) (fCons (fC (.int 0)) fNil)))) (fTup (fCons (fC (.int 0)) (fCons (fC (.int 4)) fNil))))) (fTest (fBin (gEq true) (fCall (m_round_of fu) (fCons (fVar 1) (fCons (fTup (fCons (fC (.int 1)) (fCons (fC (.int 0)) fNil))) (fCons (fC (.int 1)) fNil)))) (fTup (fCons (fC (.int 0)) (fCons (fC (.int 2)) fNil)))))))
  (sRet (fC (.bl false)))
  sNext)
  (sRet (fAnd (fBin (gEq false) (fCall (m_least_drops fu) (fCons (fVar 1) (fCons (fTup (fCons (fC (.int 0)) (fCons (fC (.int 0)) fNil))) (fCons (fTup (fCons (fC (.int 1)) (fCons (fC (.int 0)) fNil))) fNil)))) (fTup (fCons (fC (.str "drops")) (fCons (fTup (fCons (fC (.int 1)) (fCons (fC (.int 1)) fNil))) fNil)))) (fBin (gEq false) (fCall (m_back fu) (fCons (fVar 1) (fCons (fTup (fCons (fC (.int 1)) (fCons (fC (.int 1)) fNil))) (fCons (fC (.int 0)) fNil)))) (fTup (fCons (fC (.int 0)) (fCons (fC (.int 0)) fNil))))))))))
def m_law_two_right_14dad7 (fu : Nat) : List D → Mem → Res D := runT 6 1 (b_law_two_right_14dad7 fu)
/- law -/
def b_law_d1ab57 (fu : Nat) : FS :=
  (sSeq (sFor (fIt gRange1 (fCons (fCall gMax2 (fCons (fC (.int 1)) (fCons (fCall gMin2 (fCons (fCall gLen (fCons (fVar 0) fNil)) (fCons (fC (.int 4)) fNil))) fNil))) fNil)) (.name 1)
  (sSeq (sSet 2 (fCall m_law_pen_579b16 (fCons (fCall m_law_cell_at_e50a56 (fCons (fVar 0) (fCons (fVar 1) fNil))) fNil)))
  (sFor (fIt gRange1 (fCons (fC (.int 3)) fNil)) (.name 3)
  (sSeq (sIf (fOrT (fNotT (fTest (fCall (m_law_heap_right_7e4e6a fu) (fCons (fVar 2) fNil)))) (fOrT (fNotT (fTest (fCall (m_law_by_turns_right_47bbe0 fu) (fCons (fVar 2) fNil)))) (fNotT (fTest (fCall (m_law_double_right_e7521f fu) (fCons (fVar 2) fNil))))))
  (sRet (fC (.bl false)))
  sNext)
  (sIf (fOrT (fNotT (fTest (fCall (m_law_itself_right_050651 fu) (fCons (fVar 2) fNil)))) (fNotT (fTest (fCall (m_law_two_right_14dad7 fu) (fCons (fVar 2) fNil)))))
  (sRet (fC (.bl false)))
  sNext)))))
  (sRet (fC (.bl true))))
def m_law_d1ab57 (fu : Nat) : List D → Mem → Res D := runD 4 1 (b_law_d1ab57 fu)
end QX
set_option maxRecDepth 100000
set_option maxHeartbeats 1000000
namespace Q38
open PySem PySem.Spec PyProof.Rows L2 HX QX
def topS (i : Nat) : Stmt := PySem.Challenge.pw_marblefall_k38_boards_by_hand.main.body.getD i (.Pass ⟨0, 0, 0, 0⟩)
abbrev s__law_pen : Stmt := topS 70
theorem sc__law_pen : FnScope ["_law_cell"] ["_law_cell"] (defScope s__law_pen) := ⟨rfl, rfl, rfl, by decide +kernel, rfl, by decide +kernel, by decide +kernel⟩
abbrev s__law_cell_at : Stmt := topS 69
theorem sc__law_cell_at : FnScope ["_law_script", "_law_k"] ["_law_script", "_law_k"] (defScope s__law_cell_at) := ⟨rfl, rfl, rfl, by decide +kernel, rfl, by decide +kernel, by decide +kernel⟩
abbrev s__law_draw : Stmt := topS 71
theorem sc__law_draw : FnScope ["_law_pen_here", "_law_many", "_law_digit", "_law_stir"] ["_law_pen_here", "_law_many"] (defScope s__law_draw) := ⟨rfl, rfl, rfl, by decide +kernel, rfl, by decide +kernel, by decide +kernel⟩
abbrev s_has_parts : Stmt := topS 17
theorem sc_has_parts : FnScope ["thing", "least", "most"] ["thing", "least", "most"] (defScope s_has_parts) := ⟨rfl, rfl, rfl, by decide +kernel, rfl, by decide +kernel, by decide +kernel⟩
abbrev s_is_whole : Stmt := topS 15
theorem sc_is_whole : FnScope ["thing"] ["thing"] (defScope s_is_whole) := ⟨rfl, rfl, rfl, by decide +kernel, rfl, by decide +kernel, by decide +kernel⟩
abbrev s_is_within : Stmt := topS 16
theorem sc_is_within : FnScope ["thing", "least", "most"] ["thing", "least", "most"] (defScope s_is_within) := ⟨rfl, rfl, rfl, by decide +kernel, rfl, by decide +kernel, by decide +kernel⟩
abbrev s_is_step : Stmt := topS 18
theorem sc_is_step : FnScope ["thing", "ends", "end"] ["thing", "ends"] (defScope s_is_step) := ⟨rfl, rfl, rfl, by decide +kernel, rfl, by decide +kernel, by decide +kernel⟩
abbrev s_is_wheel : Stmt := topS 19
theorem sc_is_wheel : FnScope ["thing", "ends", "step"] ["thing", "ends"] (defScope s_is_wheel) := ⟨rfl, rfl, rfl, by decide +kernel, rfl, by decide +kernel, by decide +kernel⟩
abbrev s_is_board : Stmt := topS 20
theorem sc_is_board : FnScope ["thing", "wheels", "cups", "ends", "wheel"] ["thing"] (defScope s_is_board) := ⟨rfl, rfl, rfl, by decide +kernel, rfl, by decide +kernel, by decide +kernel⟩
abbrev s_need_board : Stmt := topS 21
theorem sc_need_board : FnScope ["thing"] ["thing"] (defScope s_need_board) := ⟨rfl, rfl, rfl, by decide +kernel, rfl, by decide +kernel, by decide +kernel⟩
abbrev s_with_nought : Stmt := topS 30
theorem sc_with_nought : FnScope ["line", "other", "place", "number", "one", "less"] ["line", "other", "place", "number"] (defScope s_with_nought) := ⟨rfl, rfl, rfl, by decide +kernel, rfl, by decide +kernel, by decide +kernel⟩
abbrev s_solved : Stmt := topS 31
theorem sc_solved : FnScope ["table", "size", "lines", "number", "place", "own", "line", "at"] ["table"] (defScope s_solved) := ⟨rfl, rfl, rfl, by decide +kernel, rfl, by decide +kernel, by decide +kernel⟩
abbrev s_turn_ends : Stmt := topS 28
theorem sc_turn_ends : FnScope ["board", "wheels", "cups", "found", "steps", "line", "step", "end"] ["board"] (defScope s_turn_ends) := ⟨rfl, rfl, rfl, by decide +kernel, rfl, by decide +kernel, by decide +kernel⟩
abbrev s_turn_table : Stmt := topS 29
theorem sc_turn_table : FnScope ["board", "group", "wheels", "ends", "wheel", "end"] ["board", "group"] (defScope s_turn_table) := ⟨rfl, rfl, rfl, by decide +kernel, rfl, by decide +kernel, by decide +kernel⟩
abbrev s_solved_board : Stmt := topS 32
theorem sc_solved_board : FnScope ["board"] ["board"] (defScope s_solved_board) := ⟨rfl, rfl, rfl, by decide +kernel, rfl, by decide +kernel, by decide +kernel⟩
abbrev s_need_drain : Stmt := topS 34
theorem sc_need_drain : FnScope ["board"] ["board"] (defScope s_need_drain) := ⟨rfl, rfl, rfl, by decide +kernel, rfl, by decide +kernel, by decide +kernel⟩
abbrev s_is_stand : Stmt := topS 22
theorem sc_is_stand : FnScope ["board", "thing", "wheels", "step", "wheel"] ["board", "thing"] (defScope s_is_stand) := ⟨rfl, rfl, rfl, by decide +kernel, rfl, by decide +kernel, by decide +kernel⟩
abbrev s_need_stand : Stmt := topS 23
theorem sc_need_stand : FnScope ["board", "thing"] ["board", "thing"] (defScope s_need_stand) := ⟨rfl, rfl, rfl, by decide +kernel, rfl, by decide +kernel, by decide +kernel⟩
abbrev s_is_wheel_number : Stmt := topS 25
theorem sc_is_wheel_number : FnScope ["board", "thing"] ["board", "thing"] (defScope s_is_wheel_number) := ⟨rfl, rfl, rfl, by decide +kernel, rfl, by decide +kernel, by decide +kernel⟩
abbrev s_need_wheel : Stmt := topS 26
theorem sc_need_wheel : FnScope ["board", "thing"] ["board", "thing"] (defScope s_need_wheel) := ⟨rfl, rfl, rfl, by decide +kernel, rfl, by decide +kernel, by decide +kernel⟩
abbrev s_begun : Stmt := topS 51
theorem sc_begun : FnScope ["board", "stand", "wheel", "wheels", "cups", "step", "turned"] ["board", "stand", "wheel"] (defScope s_begun) := ⟨rfl, rfl, rfl, by decide +kernel, rfl, by decide +kernel, by decide +kernel⟩
abbrev s_one_more : Stmt := topS 53
theorem sc_one_more : FnScope ["numbers", "place"] ["numbers", "place"] (defScope s_one_more) := ⟨rfl, rfl, rfl, by decide +kernel, rfl, by decide +kernel, by decide +kernel⟩
abbrev s_together : Stmt := topS 52
theorem sc_together : FnScope ["some", "others", "one", "other"] ["some", "others"] (defScope s_together) := ⟨rfl, rfl, rfl, by decide +kernel, rfl, by decide +kernel, by decide +kernel⟩
abbrev s_fall : Stmt := topS 54
theorem sc_fall : FnScope ["board", "known", "stand", "wheel", "drops", "place", "now", "cups", "ends", "then", "gains"] ["board", "known", "stand", "wheel"] (defScope s_fall) := ⟨rfl, rfl, rfl, by decide +kernel, rfl, by decide +kernel, by decide +kernel⟩
abbrev s_path_of : Stmt := topS 55
theorem sc_path_of : FnScope ["board", "known", "stand", "wheel", "places", "stands"] ["board", "known", "stand", "wheel"] (defScope s_path_of) := ⟨rfl, rfl, rfl, by decide +kernel, rfl, by decide +kernel, by decide +kernel⟩
abbrev s_cups_along : Stmt := topS 56
theorem sc_cups_along : FnScope ["board", "known", "stands", "wheel", "cups", "stand"] ["board", "known", "stands", "wheel"] (defScope s_cups_along) := ⟨rfl, rfl, rfl, by decide +kernel, rfl, by decide +kernel, by decide +kernel⟩
abbrev s_far_fall : Stmt := topS 57
theorem sc_far_fall : FnScope ["board", "known", "stand", "wheel", "many", "stands", "ahead", "rounds", "more", "once", "each", "one", "other"] ["board", "known", "stand", "wheel", "many"] (defScope s_far_fall) := ⟨rfl, rfl, rfl, by decide +kernel, rfl, by decide +kernel, by decide +kernel⟩
abbrev s_led_far : Stmt := topS 64
theorem sc_led_far : FnScope ["board", "stand", "wheel", "many"] ["board", "stand", "wheel", "many"] (defScope s_led_far) := ⟨rfl, rfl, rfl, by decide +kernel, rfl, by decide +kernel, by decide +kernel⟩
abbrev s_stands_in_all : Stmt := topS 47
theorem sc_stands_in_all : FnScope ["board", "many", "steps"] ["board"] (defScope s_stands_in_all) := ⟨rfl, rfl, rfl, by decide +kernel, rfl, by decide +kernel, by decide +kernel⟩
abbrev s_need_few_stands : Stmt := topS 48
theorem sc_need_few_stands : FnScope ["board", "most", "many"] ["board", "most"] (defScope s_need_few_stands) := ⟨rfl, rfl, rfl, by decide +kernel, rfl, by decide +kernel, by decide +kernel⟩
abbrev s_need_two_stands : Stmt := topS 65
theorem sc_need_two_stands : FnScope ["board", "stand", "other"] ["board", "stand", "other"] (defScope s_need_two_stands) := ⟨rfl, rfl, rfl, by decide +kernel, rfl, by decide +kernel, by decide +kernel⟩
abbrev s_next_ways : Stmt := topS 66
theorem sc_next_ways : FnScope ["board", "known", "ways", "fresh", "found", "stand", "wheel", "then", "drops"] ["board", "known", "ways", "fresh"] (defScope s_next_ways) := ⟨rfl, rfl, rfl, by decide +kernel, rfl, by decide +kernel, by decide +kernel⟩
abbrev s_least_drops : Stmt := topS 67
theorem sc_least_drops : FnScope ["board", "stand", "other", "known", "ways", "fresh", "found", "then"] ["board", "stand", "other"] (defScope s_least_drops) := ⟨rfl, rfl, rfl, by decide +kernel, rfl, by decide +kernel, by decide +kernel⟩
abbrev s_come_to : Stmt := topS 58
theorem sc_come_to : FnScope ["board", "known", "stand", "found", "fresh", "now", "wheel", "then"] ["board", "known", "stand"] (defScope s_come_to) := ⟨rfl, rfl, rfl, by decide +kernel, rfl, by decide +kernel, by decide +kernel⟩
abbrev s_again_stands : Stmt := topS 59
theorem sc_again_stands : FnScope ["board", "known", "stand", "lap", "wheel"] ["board", "known"] (defScope s_again_stands) := ⟨rfl, rfl, rfl, by decide +kernel, rfl, by decide +kernel, by decide +kernel⟩
abbrev s_all_again : Stmt := topS 60
theorem sc_all_again : FnScope ["board"] ["board"] (defScope s_all_again) := ⟨rfl, rfl, rfl, by decide +kernel, rfl, by decide +kernel, by decide +kernel⟩
abbrev s_how_many : Stmt := topS 61
theorem sc_how_many : FnScope ["board"] ["board"] (defScope s_how_many) := ⟨rfl, rfl, rfl, by decide +kernel, rfl, by decide +kernel, by decide +kernel⟩
abbrev s_round_of : Stmt := topS 63
theorem sc_round_of : FnScope ["board", "stand", "wheel", "stands", "ahead"] ["board", "stand", "wheel"] (defScope s_round_of) := ⟨rfl, rfl, rfl, by decide +kernel, rfl, by decide +kernel, by decide +kernel⟩
abbrev s_back : Stmt := topS 62
theorem sc_back : FnScope ["board", "stand", "wheel", "known"] ["board", "stand", "wheel"] (defScope s_back) := ⟨rfl, rfl, rfl, by decide +kernel, rfl, by decide +kernel, by decide +kernel⟩
abbrev s__law_heap_right : Stmt := topS 72
theorem sc__law_heap_right : FnScope ["_law_pen_here", "_law_many", "_law_far", "_law_at", "_law_board", "_law_one"] ["_law_pen_here"] (defScope s__law_heap_right) := ⟨rfl, rfl, rfl, by decide +kernel, rfl, by decide +kernel, by decide +kernel⟩
abbrev s_loosened : Stmt := topS 36
theorem sc_loosened : FnScope ["moment", "stand", "waiting", "held"] ["moment"] (defScope s_loosened) := ⟨rfl, rfl, rfl, by decide +kernel, rfl, by decide +kernel, by decide +kernel⟩
abbrev s_fastened : Stmt := topS 37
theorem sc_fastened : FnScope ["stand", "waiting", "held"] ["stand", "waiting", "held"] (defScope s_fastened) := ⟨rfl, rfl, rfl, by decide +kernel, rfl, by decide +kernel, by decide +kernel⟩
abbrev s_first_reached : Stmt := topS 41
theorem sc_first_reached : FnScope ["counts", "nevers", "needed", "count", "need"] ["counts", "nevers"] (defScope s_first_reached) := ⟨rfl, rfl, rfl, by decide +kernel, rfl, by decide +kernel, by decide +kernel⟩
abbrev s_handle_marble : Stmt := topS 38
theorem sc_handle_marble : FnScope ["board", "parts", "wheel", "wheels", "stand", "waiting", "held", "step", "end"] ["board", "parts", "wheel"] (defScope s_handle_marble) := ⟨rfl, rfl, rfl, by decide +kernel, rfl, by decide +kernel, by decide +kernel⟩
abbrev s_turn_on : Stmt := topS 40
theorem sc_turn_on : FnScope ["board", "ends", "parts", "wheel", "many", "wheels", "stand", "waiting", "held", "turns", "single", "end", "times", "place"] ["board", "ends", "parts", "wheel", "many"] (defScope s_turn_on) := ⟨rfl, rfl, rfl, by decide +kernel, rfl, by decide +kernel, by decide +kernel⟩
abbrev s_gone_down : Stmt := topS 42
theorem sc_gone_down : FnScope ["board", "moment", "nevers", "ends", "stand", "waiting", "held", "counts", "wheel", "many"] ["board", "moment", "nevers"] (defScope s_gone_down) := ⟨rfl, rfl, rfl, by decide +kernel, rfl, by decide +kernel, by decide +kernel⟩
abbrev s_are_marbles : Stmt := topS 24
theorem sc_are_marbles : FnScope ["thing", "places", "many"] ["thing", "places"] (defScope s_are_marbles) := ⟨rfl, rfl, rfl, by decide +kernel, rfl, by decide +kernel, by decide +kernel⟩
abbrev s_are_drops : Stmt := topS 49
theorem sc_are_drops : FnScope ["board", "thing", "most"] ["board", "thing", "most"] (defScope s_are_drops) := ⟨rfl, rfl, rfl, by decide +kernel, rfl, by decide +kernel, by decide +kernel⟩
abbrev s_dropped : Stmt := topS 50
theorem sc_dropped : FnScope ["board", "stand", "drops", "counts", "last"] ["board", "stand", "drops"] (defScope s_dropped) := ⟨rfl, rfl, rfl, by decide +kernel, rfl, by decide +kernel, by decide +kernel⟩
abbrev s__law_by_turns_right : Stmt := topS 73
theorem sc__law_by_turns_right : FnScope ["_law_pen_here", "_law_board", "_law_many", "_law_at", "_law_first"] ["_law_pen_here"] (defScope s__law_by_turns_right) := ⟨rfl, rfl, rfl, by decide +kernel, rfl, by decide +kernel, by decide +kernel⟩
abbrev s__law_double_right : Stmt := topS 74
theorem sc__law_double_right : FnScope ["_law_pen_here", "_law_board", "_law_many"] ["_law_pen_here"] (defScope s__law_double_right) := ⟨rfl, rfl, rfl, by decide +kernel, rfl, by decide +kernel, by decide +kernel⟩
abbrev s__law_itself_right : Stmt := topS 75
theorem sc__law_itself_right : FnScope ["_law_pen_here", "_law_board", "_law_many"] ["_law_pen_here"] (defScope s__law_itself_right) := ⟨rfl, rfl, rfl, by decide +kernel, rfl, by decide +kernel, by decide +kernel⟩
abbrev s__law_two_right : Stmt := topS 76
theorem sc__law_two_right : FnScope ["_law_pen_here", "_law_board", "_law_many", "_law_stand", "_law_counts", "_law_cups"] ["_law_pen_here"] (defScope s__law_two_right) := ⟨rfl, rfl, rfl, by decide +kernel, rfl, by decide +kernel, by decide +kernel⟩
abbrev s_law : Stmt := topS 77
theorem sc_law : FnScope ["_law_script", "_law_k", "_law_pen_here", "_law_turn"] ["_law_script"] (defScope s_law) := ⟨rfl, rfl, rfl, by decide +kernel, rfl, by decide +kernel, by decide +kernel⟩
theorem eb_need_few_stands_1 {K : PySem.W.Frag} : ∀ f fd, FunDS K "need_few_stands" s_need_few_stands [V.int 600] [] f fd → ∃ ds, Vals [V.int 600] ds ∧ Binds K fd ["board", "most"] ds := fun f fd F => FunD.binds1 F 1 0 (by simp) rfl (fun T kV doc pm an cdv ct us its h1 h2 => match us, its, h1, h2 with | [_], [_], _, _ => ⟨_, rfl, rfl⟩)
section
variable {S : Sc} {P : Program} {w : World} {mg : Str → Option Value} {base : Heap} {k : Nat}
theorem ok__law_pen (T : HX.Def S.K mg "_law_pen" s__law_pen ["_law_cell"]) (B : Bi mg) : CalQ S P w mg base (k + 1) "_law_pen" ["_law_cell"] m_law_pen_579b16 :=
  (Def.okQ T sc__law_pen (fun f cdv A outer s H E hr tk hp =>
  (qss_one (qs_ret (qe_new (qa_cons (qe_callB (S := S) (call_max2 rfl) cq_max2 rfl B.max_ (by decide +kernel) (qa_cons qe_int (qa_cons (qe_bin (S := S) op_sub oq_sub (qe_var (pv 0)) (qe_bin (S := S) op_pow oq_pow qe_int qe_int)) qa_nil))) (qa_cons (qe_bin (S := S) op_mod oq_mod (qe_var (pv 0)) qe_int) (qa_cons qe_int qa_nil))))))))
theorem ok__law_cell_at (T : HX.Def S.K mg "_law_cell_at" s__law_cell_at ["_law_script", "_law_k"]) (B : Bi mg) : CalQ S P w mg base (k + 1) "_law_cell_at" ["_law_script", "_law_k"] m_law_cell_at_e50a56 :=
  CalQ.trim (Def.okQ T sc__law_cell_at (fun f cdv A outer s H E hr tk hp =>
  (qss_cons (qs_if (qt_cmp (S := S) op_lt (oq_cmp cLt) (qe_var (pv 1)) (qe_callB (S := S) call_lenA cq_len rfl B.len_ (by decide +kernel) (qa_cons (qe_var (pv 0)) qa_nil)) (nomark _))
  (qss_one (qs_ret (qe_ix rfl (qe_var (pv 0)) (qe_var (pv 1)))))
  qss_nil)
  (qss_one (qs_ret qe_int)))))
theorem ok__law_draw (T : HX.Def S.K mg "_law_draw" s__law_draw ["_law_pen_here", "_law_many"])  : CalQ S P w mg base (k + 1) "_law_draw" ["_law_pen_here", "_law_many"] m_law_draw_321cf4 :=
  CalQ.trim (Def.okQ T sc__law_draw (fun f cdv A outer s H E hr tk hp =>
  (qss_cons (qs_if (qt_cmp (S := S) op_gt (oq_cmp cGt) (qe_ix rfl (qe_var (pv 0)) qe_int) qe_int (nomark _))
  (qss_cons (qs_set (i := 2) sc__law_draw.nd rfl (Or.inl rfl) (qe_bin (S := S) op_mod oq_mod (qe_ix rfl (qe_var (pv 0)) qe_int) (qe_var (pv 1))))
  (qss_cons (qs_setIx (qe_var (pv 0)) qe_int (qe_bin (S := S) op_fdivW oq_fdiv (qe_ix rfl (qe_var (pv 0)) qe_int) (qe_var (pv 1))))
  (qss_one (qs_ret (qe_var (pv 2))))))
  qss_nil)
  (qss_cons (qs_setIx (qe_var (pv 0)) qe_int (qe_bin (S := S) op_addA oq_add (qe_ix rfl (qe_var (pv 0)) qe_int) qe_int))
  (qss_cons (qs_set (i := 3) sc__law_draw.nd rfl (Or.inl rfl) (qe_bin (S := S) op_mod oq_mod (qe_bin (S := S) op_mulA oq_mul (qe_bin (S := S) op_addA oq_add (qe_ix rfl (qe_var (pv 0)) qe_int) (qe_bin (S := S) op_mulA oq_mul qe_int (qe_ix rfl (qe_var (pv 0)) qe_int))) (qe_bin (S := S) op_addA oq_add qe_int (qe_bin (S := S) op_mulA oq_mul qe_int (qe_ix rfl (qe_var (pv 0)) qe_int)))) qe_int))
  (qss_cons (qs_set (i := 3) sc__law_draw.nd rfl (Or.inl rfl) (qe_bin (S := S) op_mod oq_mod (qe_bin (S := S) op_addA oq_add (qe_bin (S := S) op_addA oq_add (qe_bin (S := S) op_mulA oq_mul (qe_var (pv 3)) (qe_var (pv 3))) (qe_bin (S := S) op_mulA oq_mul qe_int (qe_ix rfl (qe_var (pv 0)) qe_int))) qe_int) qe_int))
  (qss_one (qs_ret (qe_bin (S := S) op_mod oq_mod (qe_bin (S := S) op_fdivW oq_fdiv (qe_bin (S := S) op_mod oq_mod (qe_bin (S := S) op_mulA oq_mul (qe_var (pv 3)) qe_int) qe_int) qe_int) (qe_var (pv 1)))))))))))
theorem ok_has_parts (T : HX.Def S.K mg "has_parts" s_has_parts ["thing", "least", "most"]) (B : Bi mg) : CalQ S P w mg base (k + 1) "has_parts" ["thing", "least", "most"] m_has_parts :=
  CalQ.trim (Def.okQ T sc_has_parts (fun f cdv A outer s H E hr tk hp =>
  (qss_one (qs_ret (qe_and (qe_callB (S := S) call_isi (cq_isi .tuple (by decide)) rfl B.isinstance_ (by decide +kernel) (qa_cons (qe_var (pv 0)) (qa_cons (qe_adr (pe_bltn (v := .ty "tuple") (u := .type "tuple") rfl B.tuple_ (by decide +kernel) rfl)) qa_nil))) (qe_one (qe_chain op_le op_le (flat_cmp cLe) (oq_cmp cLe) (oq_cmp cLe) (qe_var (pv 1)) (qe_callB (S := S) call_lenA cq_len rfl B.len_ (by decide +kernel) (qa_cons (qe_var (pv 0)) qa_nil)) (qe_var (pv 2)))))))))
theorem ok_is_whole (T : HX.Def S.K mg "is_whole" s_is_whole ["thing"]) (B : Bi mg) : CalQ S P w mg base (k + 1) "is_whole" ["thing"] m_is_whole :=
  CalQ.trim (Def.okQ T sc_is_whole (fun f cdv A outer s H E hr tk hp =>
  (qss_one (qs_ret (qe_and (qe_callB (S := S) call_isi (cq_isi .int (by decide)) rfl B.isinstance_ (by decide +kernel) (qa_cons (qe_var (pv 0)) (qa_cons (qe_adr (pe_bltn (v := .ty "int") (u := .type "int") rfl B.int_ (by decide +kernel) rfl)) qa_nil))) (qe_one (qe_not (qe_callB (S := S) call_isi (cq_isi .bool (by decide)) rfl B.isinstance_ (by decide +kernel) (qa_cons (qe_var (pv 0)) (qa_cons (qe_adr (pe_bltn (v := .ty "bool") (u := .type "bool") rfl B.bool_ (by decide +kernel) rfl)) qa_nil))))))))))
theorem ok_is_within (T : HX.Def S.K mg "is_within" s_is_within ["thing", "least", "most"]) (c_is_whole : CalQ S P w mg base k "is_whole" ["thing"] m_is_whole) : CalQ S P w mg base (k + 1) "is_within" ["thing", "least", "most"] m_is_within :=
  CalQ.trim (Def.okQ T sc_is_within (fun f cdv A outer s H E hr tk hp =>
  (qss_one (qs_ret (qe_and (qe_call tk rfl c_is_whole hr rfl (qa_cons (qe_var (pv 0)) qa_nil) (len_cons len_nil)) (qe_one (qe_chain op_le op_le (flat_cmp cLe) (oq_cmp cLe) (oq_cmp cLe) (qe_var (pv 1)) (qe_var (pv 0)) (qe_var (pv 2)))))))))
theorem ok_is_step {t_MOST_ENDS : Tok} (T : HX.Def S.K mg "is_step" s_is_step ["thing", "ends"]) (B : Bi mg) (g_MOST_ENDS : mg "MOST_ENDS" = some (.int 3 t_MOST_ENDS)) (c_is_within : CalQ S P w mg base k "is_within" ["thing", "least", "most"] m_is_within) (c_has_parts : CalQ S P w mg base k "has_parts" ["thing", "least", "most"] m_has_parts) : CalQ S P w mg base (k + 1) "is_step" ["thing", "ends"] m_is_step :=
  CalQ.trim (Def.okQ T sc_is_step (fun f cdv A outer s H E hr tk hp =>
  (qss_one (qs_ret (qe_and (qe_call tk rfl c_has_parts hr rfl (qa_cons (qe_var (pv 0)) (qa_cons qe_int (qa_cons (qe_gint (x := "MOST_ENDS") (pe_gint rfl g_MOST_ENDS)) qa_nil))) (len_cons (len_cons (len_cons len_nil)))) (qe_one (qe_callB (S := S) (cr_all rfl) cq_all rfl B.all_ (by decide +kernel) (qa_cons (qe_lc (own := [("end", 2)]) (t := (.name 2)) rfl sc_is_step.nd (qi_seq rfl (qe_var (pv 0))) (blkOk_by (N := ["thing", "ends", "end"]) (sc := (defScope s_is_step)) (by decide +kernel)) (fun _ _ _ _ _ => (pg_name (i := 2) sc_is_step.nd rfl (Or.inl rfl))) (fun _ _ _ _ _ => qts_nil) (fun _ _ _ _ _ => (qe_call LamX.takes0 rfl c_is_within hr rfl (qa_cons (qe_var (pv 2)) (qa_cons qe_int (qa_cons (qe_bin (S := S) op_sub oq_sub (qe_var (pv 1)) qe_int) qa_nil))) (len_cons (len_cons (len_cons len_nil)))))) qa_nil))))))))
theorem ok_is_wheel {t_MOST_STEPS : Tok} (T : HX.Def S.K mg "is_wheel" s_is_wheel ["thing", "ends"]) (B : Bi mg) (g_MOST_STEPS : mg "MOST_STEPS" = some (.int 4 t_MOST_STEPS)) (c_is_step : CalQ S P w mg base k "is_step" ["thing", "ends"] m_is_step) (c_has_parts : CalQ S P w mg base k "has_parts" ["thing", "least", "most"] m_has_parts) : CalQ S P w mg base (k + 1) "is_wheel" ["thing", "ends"] m_is_wheel :=
  CalQ.trim (Def.okQ T sc_is_wheel (fun f cdv A outer s H E hr tk hp =>
  (qss_one (qs_ret (qe_and (qe_call tk rfl c_has_parts hr rfl (qa_cons (qe_var (pv 0)) (qa_cons qe_int (qa_cons (qe_gint (x := "MOST_STEPS") (pe_gint rfl g_MOST_STEPS)) qa_nil))) (len_cons (len_cons (len_cons len_nil)))) (qe_one (qe_callB (S := S) (cr_all rfl) cq_all rfl B.all_ (by decide +kernel) (qa_cons (qe_lc (own := [("step", 2)]) (t := (.name 2)) rfl sc_is_wheel.nd (qi_seq rfl (qe_var (pv 0))) (blkOk_by (N := ["thing", "ends", "step"]) (sc := (defScope s_is_wheel)) (by decide +kernel)) (fun _ _ _ _ _ => (pg_name (i := 2) sc_is_wheel.nd rfl (Or.inl rfl))) (fun _ _ _ _ _ => qts_nil) (fun _ _ _ _ _ => (qe_call LamX.takes0 rfl c_is_step hr rfl (qa_cons (qe_var (pv 2)) (qa_cons (qe_var (pv 1)) qa_nil)) (len_cons (len_cons len_nil))))) qa_nil))))))))
theorem ok_is_board {t_MOST_CUPS : Tok} {t_MOST_WHEELS : Tok} (T : HX.Def S.K mg "is_board" s_is_board ["thing"]) (B : Bi mg) (g_MOST_CUPS : mg "MOST_CUPS" = some (.int 4 t_MOST_CUPS)) (g_MOST_WHEELS : mg "MOST_WHEELS" = some (.int 6 t_MOST_WHEELS)) (c_is_wheel : CalQ S P w mg base k "is_wheel" ["thing", "ends"] m_is_wheel) (c_is_within : CalQ S P w mg base k "is_within" ["thing", "least", "most"] m_is_within) (c_has_parts : CalQ S P w mg base k "has_parts" ["thing", "least", "most"] m_has_parts) : CalQ S P w mg base (k + 1) "is_board" ["thing"] m_is_board :=
  CalQ.trim (Def.okQ T sc_is_board (fun f cdv A outer s H E hr tk hp =>
  (qss_cons (qs_if (qt_not (qt_val (qe_call tk rfl c_has_parts hr rfl (qa_cons (qe_var (pv 0)) (qa_cons qe_int (qa_cons qe_int qa_nil))) (len_cons (len_cons (len_cons len_nil))))))
  (qss_one (qs_ret qe_bl))
  qss_nil)
  (qss_cons (qs_asg (t := (.tup [1, 2])) (qe_var (pv 0)) (pg_tup rfl (pgs_cons (pg_name (i := 1) sc_is_board.nd rfl (Or.inl rfl)) (pgs_cons (pg_name (i := 2) sc_is_board.nd rfl (Or.inl rfl)) pgs_nil))))
  (qss_cons (qs_if (qt_pw (qw_or (qt_not (qt_val (qe_call tk rfl c_has_parts hr rfl (qa_cons (qe_var (pv 1)) (qa_cons qe_int (qa_cons (qe_gint (x := "MOST_WHEELS") (pe_gint rfl g_MOST_WHEELS)) qa_nil))) (len_cons (len_cons (len_cons len_nil)))))) (qw_or1 (qt_not (qt_val (qe_call tk rfl c_is_within hr rfl (qa_cons (qe_var (pv 2)) (qa_cons qe_int (qa_cons (qe_gint (x := "MOST_CUPS") (pe_gint rfl g_MOST_CUPS)) qa_nil))) (len_cons (len_cons (len_cons len_nil)))))))))
  (qss_one (qs_ret qe_bl))
  qss_nil)
  (qss_cons (qs_set (i := 3) sc_is_board.nd rfl (Or.inr rfl) (qe_bin (S := S) op_addA oq_add (qe_callB (S := S) call_lenA cq_len rfl B.len_ (by decide +kernel) (qa_cons (qe_var (pv 1)) qa_nil)) (qe_var (pv 2))))
  (qss_one (qs_ret (qe_callB (S := S) (cr_all rfl) cq_all rfl B.all_ (by decide +kernel) (qa_cons (qe_lc (own := [("wheel", 4)]) (t := (.name 4)) rfl sc_is_board.nd (qi_seq rfl (qe_var (pv 1))) (blkOk_by (N := ["thing", "wheels", "cups", "ends", "wheel"]) (sc := (defScope s_is_board)) (by decide +kernel)) (fun _ _ _ _ _ => (pg_name (i := 4) sc_is_board.nd rfl (Or.inl rfl))) (fun _ _ _ _ _ => qts_nil) (fun _ _ _ _ _ => (qe_call LamX.takes0 rfl c_is_wheel hr rfl (qa_cons (qe_var (pv 4)) (qa_cons (qe_var (pv 3)) qa_nil)) (len_cons (len_cons len_nil))))) qa_nil))))))))))
theorem ok_need_board (T : HX.Def S.K mg "need_board" s_need_board ["thing"]) (R_NoBoard : Err S.K mg "NoBoard" (S.C 0)) (c_is_board : CalQ S P w mg base k "is_board" ["thing"] m_is_board) : CalQ S P w mg base (k + 1) "need_board" ["thing"] m_need_board :=
  CalQ.trim (Def.okQ T sc_need_board (fun f cdv A outer s H E hr tk hp =>
  (qss_one (qs_if (qt_not (qt_val (qe_call tk rfl c_is_board hr rfl (qa_cons (qe_var (pv 0)) qa_nil) (len_cons len_nil))))
  (qss_one (qs_err (n := 0) R_NoBoard tk))
  qss_nil))))
theorem ok_with_nought (T : HX.Def S.K mg "with_nought" s_with_nought ["line", "other", "place", "number"]) (B2 : Bi2 mg) : CalQ S P w mg base (k + 1) "with_nought" ["line", "other", "place", "number"] m_with_nought :=
  CalQ.trim (Def.okQ T sc_with_nought (fun f cdv A outer s H E hr tk hp =>
  (qss_one (qs_ret (qe_lc (own := [("one", 4), ("less", 5)]) (t := (.tup [4, 5])) rfl sc_with_nought.nd (qi_zip2 rfl rfl B2.zip_ (qa_cons (qe_var (pv 0)) (qa_cons (qe_var (pv 1)) qa_nil))) (blkOk_by (N := ["line", "other", "place", "number", "one", "less"]) (sc := (defScope s_with_nought)) (by decide +kernel)) (fun _ _ _ _ _ => (pg_tup rfl (pgs_cons (pg_name (i := 4) sc_with_nought.nd rfl (Or.inl rfl)) (pgs_cons (pg_name (i := 5) sc_with_nought.nd rfl (Or.inl rfl)) pgs_nil)))) (fun _ _ _ _ _ => qts_nil) (fun _ _ _ _ _ => (qe_bin (S := S) op_fdivW oq_fdiv (qe_bin (S := S) op_sub oq_sub (qe_bin (S := S) op_mulA oq_mul (qe_ix rfl (qe_var (pv 1)) (qe_var (pv 2))) (qe_var (pv 4))) (qe_bin (S := S) op_mulA oq_mul (qe_ix rfl (qe_var (pv 0)) (qe_var (pv 2))) (qe_var (pv 5)))) (qe_var (pv 3)))))))))
theorem ok_solved (T : HX.Def S.K mg "solved" s_solved ["table"]) (B : Bi mg) (B2 : Bi2 mg) (c_with_nought : CalQ S P w mg base k "with_nought" ["line", "other", "place", "number"] m_with_nought) : CalQ S P w mg base (k + 1) "solved" ["table"] m_solved :=
  CalQ.trim (Def.okQ T sc_solved (fun f cdv A outer s H E hr tk hp =>
  (qss_cons (qs_set (i := 1) sc_solved.nd rfl (Or.inr rfl) (qe_callB (S := S) call_lenA cq_len rfl B.len_ (by decide +kernel) (qa_cons (qe_var (pv 0)) qa_nil)))
  (qss_cons (qs_setLc (i := 2) (own := [("place", 4), ("line", 6)]) (t := (.tup [4, 6])) rfl sc_solved.nd rfl rfl (sw_true rfl rfl rfl (by decide +kernel)) (qi_enum rfl rfl B2.enumerate_ (qa_cons (qe_var (pv 0)) qa_nil)) (blkOk_by (N := ["table", "size", "lines", "number", "place", "own", "line", "at"]) (sc := (defScope s_solved)) (by decide +kernel)) (fun _ _ _ _ _ => (pg_tup rfl (pgs_cons (pg_name (i := 4) sc_solved.nd rfl (Or.inr rfl)) (pgs_cons (pg_name (i := 6) sc_solved.nd rfl (Or.inl rfl)) pgs_nil)))) (fun _ _ _ _ _ => qts_nil) (fun _ _ _ _ _ => (qe_bin (S := S) op_addA oq_add (qe_var (pv 6)) (qe_lc (own := [("at", 7)]) (t := (.name 7)) rfl sc_solved.nd (qi_range1 rfl B.range_ (qa_cons (qe_var (pv 1)) qa_nil)) (blkOk_by (N := ["table", "size", "lines", "number", "place", "own", "line", "at"]) (sc := (relabelS (lcAt (defBody s_solved) [1] [0]) (defScope s_solved))) (by decide +kernel)) (fun _ _ _ _ _ => (pg_name (i := 7) sc_solved.nd rfl (Or.inl rfl))) (fun _ _ _ _ _ => qts_nil) (fun _ _ _ _ _ => (qe_if (qt_cmp (S := S) (op_eqD (hu64 hr)) oq_eq (qe_var (pv 7)) (qe_var (pv 4)) (nomark _)) qe_int qe_int))))))
  (qss_cons (qs_set (i := 3) sc_solved.nd rfl (Or.inr rfl) qe_int)
  (qss_cons (qs_for (t := (.name 4)) hp rfl (qi_range1 rfl B.range_ (qa_cons (qe_var (pv 1)) qa_nil)) (pg_name (i := 4) sc_solved.nd rfl (Or.inr rfl))
  (qss_cons (qs_set (i := 5) sc_solved.nd rfl (Or.inr rfl) (qe_ix rfl (qe_var (pv 2)) (qe_var (pv 4))))
  (qss_cons (qs_if (qt_cmp (S := S) op_le (oq_cmp cLe) (qe_ix rfl (qe_var (pv 5)) (qe_var (pv 4))) qe_int (nomark _))
  (qss_one (qs_ret qe_non))
  qss_nil)
  (qss_cons (qs_setLc (i := 2) (own := [("at", 7), ("line", 6)]) (t := (.tup [7, 6])) rfl sc_solved.nd rfl rfl (sw_true rfl rfl rfl (by decide +kernel)) (qi_enum rfl rfl B2.enumerate_ (qa_cons (qe_var (pv 2)) qa_nil)) (blkOk_by (N := ["table", "size", "lines", "number", "place", "own", "line", "at"]) (sc := (defScope s_solved)) (by decide +kernel)) (fun _ _ _ _ _ => (pg_tup rfl (pgs_cons (pg_name (i := 7) sc_solved.nd rfl (Or.inl rfl)) (pgs_cons (pg_name (i := 6) sc_solved.nd rfl (Or.inl rfl)) pgs_nil)))) (fun _ _ _ _ _ => qts_nil) (fun _ _ _ _ _ => (qe_if (qt_cmp (S := S) (op_eqD (hu64 hr)) oq_eq (qe_var (pv 7)) (qe_var (pv 4)) (nomark _)) (qe_var (pv 5)) (qe_call LamX.takes0 rfl c_with_nought hr rfl (qa_cons (qe_var (pv 6)) (qa_cons (qe_var (pv 5)) (qa_cons (qe_var (pv 4)) (qa_cons (qe_var (pv 3)) qa_nil)))) (len_cons (len_cons (len_cons (len_cons len_nil))))))))
  (qss_one (qs_set (i := 3) sc_solved.nd rfl (Or.inr rfl) (qe_ix rfl (qe_var (pv 5)) (qe_var (pv 4)))))))))
  (qss_one (qs_ret (qe_tup (qa_cons (qe_var (pv 3)) (qa_cons (qe_lc (own := [("line", 6)]) (t := (.name 6)) rfl sc_solved.nd (qi_seq rfl (qe_var (pv 2))) (blkOk_by (N := ["table", "size", "lines", "number", "place", "own", "line", "at"]) (sc := (defScope s_solved)) (by decide +kernel)) (fun _ _ _ _ _ => (pg_name (i := 6) sc_solved.nd rfl (Or.inl rfl))) (fun _ _ _ _ _ => qts_nil) (fun _ _ _ _ _ => (qe_sl rfl (qe_var (pv 6)) (qo_some (qe_var (pv 1))) qo_none))) qa_nil)))))))))))
theorem ok_turn_ends (T : HX.Def S.K mg "turn_ends" s_turn_ends ["board"]) (B : Bi mg) : CalQ S P w mg base (k + 1) "turn_ends" ["board"] m_turn_ends :=
  CalQ.trim (Def.okQ T sc_turn_ends (fun f cdv A outer s H E hr tk hp =>
  (qss_cons (qs_asg (t := (.tup [1, 2])) (qe_var (pv 0)) (pg_tup rfl (pgs_cons (pg_name (i := 1) sc_turn_ends.nd rfl (Or.inl rfl)) (pgs_cons (pg_name (i := 2) sc_turn_ends.nd rfl (Or.inl rfl)) pgs_nil))))
  (qss_cons (qs_set (i := 3) sc_turn_ends.nd rfl (Or.inl rfl) (qe_new qa_nil))
  (qss_cons (qs_for (t := (.name 4)) hp rfl (qi_seq rfl (qe_var (pv 1))) (pg_name (i := 4) sc_turn_ends.nd rfl (Or.inl rfl))
  (qss_cons (qs_set (i := 5) sc_turn_ends.nd rfl (Or.inl rfl) (qe_bin (S := S) op_mulA oq_mulC (qe_lst (qa_cons qe_int qa_nil)) (qe_bin (S := S) op_addA oq_add (qe_callB (S := S) call_lenA cq_len rfl B.len_ (by decide +kernel) (qa_cons (qe_var (pv 1)) qa_nil)) (qe_var (pv 2)))))
  (qss_cons (qs_for (t := (.name 6)) hp rfl (qi_seq rfl (qe_var (pv 4))) (pg_name (i := 6) sc_turn_ends.nd rfl (Or.inl rfl))
  (qss_one (qs_for (t := (.name 7)) hp rfl (qi_seq rfl (qe_var (pv 6))) (pg_name (i := 7) sc_turn_ends.nd rfl (Or.inl rfl))
  (qss_one (qs_augIx (S := S) rfl (qe_var (pv 5)) (qe_var (pv 7)) qe_int ip_add ipq_add)))))
  (qss_one (qs_expr (qe_bm (S := S) rfl PySem.F.plainAttrs_list PySem.F.slot_list_append PySem.F.type_list_append mt_append mq_append (qe_var (pv 3)) (qa_cons (qe_var (pv 5)) qa_nil)))))))
  (qss_one (qs_ret (qe_var (pv 3)))))))))
theorem ok_turn_table (T : HX.Def S.K mg "turn_table" s_turn_table ["board", "group"]) (B : Bi mg) (c_turn_ends : CalQ S P w mg base k "turn_ends" ["board"] m_turn_ends) : CalQ S P w mg base (k + 1) "turn_table" ["board", "group"] m_turn_table :=
  CalQ.trim (Def.okQ T sc_turn_table (fun f cdv A outer s H E hr tk hp =>
  (qss_cons (qs_set (i := 2) sc_turn_table.nd rfl (Or.inr rfl) (qe_ix rfl (qe_var (pv 0)) qe_int))
  (qss_cons (qs_set (i := 3) sc_turn_table.nd rfl (Or.inr rfl) (qe_call tk rfl c_turn_ends hr rfl (qa_cons (qe_var (pv 0)) qa_nil) (len_cons len_nil)))
  (qss_one (qs_ret (qe_lc (own := [("wheel", 4)]) (t := (.name 4)) rfl sc_turn_table.nd (qi_seq rfl (qe_var (pv 1))) (blkOk_by (N := ["board", "group", "wheels", "ends", "wheel", "end"]) (sc := (defScope s_turn_table)) (by decide +kernel)) (fun _ _ _ _ _ => (pg_name (i := 4) sc_turn_table.nd rfl (Or.inr rfl))) (fun _ _ _ _ _ => qts_nil) (fun _ _ _ _ _ => (qe_lc (own := [("end", 5)]) (t := (.name 5)) rfl sc_turn_table.nd (qi_seq rfl (qe_var (pv 1))) (blkOk_by (N := ["board", "group", "wheels", "ends", "wheel", "end"]) (sc := (relabelS (lcAt (defBody s_turn_table) [2] [0]) (defScope s_turn_table))) (by decide +kernel)) (fun _ _ _ _ _ => (pg_name (i := 5) sc_turn_table.nd rfl (Or.inl rfl))) (fun _ _ _ _ _ => qts_nil) (fun _ _ _ _ _ => (qe_bin (S := S) op_sub oq_sub (qe_if (qt_cmp (S := S) (op_eqD (hu64 hr)) oq_eq (qe_var (pv 4)) (qe_var (pv 5)) (nomark _)) (qe_callB (S := S) call_lenA cq_len rfl B.len_ (by decide +kernel) (qa_cons (qe_ix rfl (qe_var (pv 2)) (qe_var (pv 4))) qa_nil)) qe_int) (qe_ix rfl (qe_ix rfl (qe_var (pv 3)) (qe_var (pv 4))) (qe_var (pv 5))))))))))))))
theorem ok_solved_board (T : HX.Def S.K mg "solved_board" s_solved_board ["board"]) (B : Bi mg) (c_solved : CalQ S P w mg base k "solved" ["table"] m_solved) (c_turn_table : CalQ S P w mg base k "turn_table" ["board", "group"] m_turn_table) : CalQ S P w mg base (k + 1) "solved_board" ["board"] m_solved_board :=
  CalQ.trim (Def.okQ T sc_solved_board (fun f cdv A outer s H E hr tk hp =>
  (qss_one (qs_ret (qe_call tk rfl c_solved hr rfl (qa_cons (qe_call tk rfl c_turn_table hr rfl (qa_cons (qe_var (pv 0)) (qa_cons (qe_listRg1 false rfl rfl B.list_ rfl B.range_ (qe_callB (S := S) call_lenA cq_len rfl B.len_ (by decide +kernel) (qa_cons (qe_ix rfl (qe_var (pv 0)) qe_int) qa_nil))) qa_nil)) (len_cons (len_cons len_nil))) qa_nil) (len_cons len_nil))))))
theorem ok_need_drain (T : HX.Def S.K mg "need_drain" s_need_drain ["board"]) (R_NoDrain : Err S.K mg "NoDrain" (S.C 6)) (c_solved_board : CalQ S P w mg base k "solved_board" ["board"] m_solved_board) (c_need_board : CalQ S P w mg base k "need_board" ["thing"] m_need_board) : CalQ S P w mg base (k + 1) "need_drain" ["board"] m_need_drain :=
  CalQ.trim (Def.okQ T sc_need_drain (fun f cdv A outer s H E hr tk hp =>
  (qss_cons (qs_expr (qe_call tk rfl c_need_board hr rfl (qa_cons (qe_var (pv 0)) qa_nil) (len_cons len_nil)))
  (qss_one (qs_if (qt_cmp (S := S) op_isN oq_isN (qe_call tk rfl c_solved_board hr rfl (qa_cons (qe_var (pv 0)) qa_nil) (len_cons len_nil)) qe_non (nomark _))
  (qss_one (qs_err (n := 6) R_NoDrain tk))
  qss_nil)))))
theorem ok_is_stand (T : HX.Def S.K mg "is_stand" s_is_stand ["board", "thing"]) (B : Bi mg) (B2 : Bi2 mg) (c_is_within : CalQ S P w mg base k "is_within" ["thing", "least", "most"] m_is_within) (c_has_parts : CalQ S P w mg base k "has_parts" ["thing", "least", "most"] m_has_parts) (c_need_board : CalQ S P w mg base k "need_board" ["thing"] m_need_board) : CalQ S P w mg base (k + 1) "is_stand" ["board", "thing"] m_is_stand :=
  CalQ.trim (Def.okQ T sc_is_stand (fun f cdv A outer s H E hr tk hp =>
  (qss_cons (qs_expr (qe_call tk rfl c_need_board hr rfl (qa_cons (qe_var (pv 0)) qa_nil) (len_cons len_nil)))
  (qss_cons (qs_set (i := 2) sc_is_stand.nd rfl (Or.inl rfl) (qe_ix rfl (qe_var (pv 0)) qe_int))
  (qss_cons (qs_if (qt_not (qt_val (qe_call tk rfl c_has_parts hr rfl (qa_cons (qe_var (pv 1)) (qa_cons (qe_callB (S := S) call_lenA cq_len rfl B.len_ (by decide +kernel) (qa_cons (qe_var (pv 2)) qa_nil)) (qa_cons (qe_callB (S := S) call_lenA cq_len rfl B.len_ (by decide +kernel) (qa_cons (qe_var (pv 2)) qa_nil)) qa_nil))) (len_cons (len_cons (len_cons len_nil))))))
  (qss_one (qs_ret qe_bl))
  qss_nil)
  (qss_one (qs_ret (qe_callB (S := S) (cr_all rfl) cq_all rfl B.all_ (by decide +kernel) (qa_cons (qe_lc (own := [("step", 3), ("wheel", 4)]) (t := (.tup [3, 4])) rfl sc_is_stand.nd (qi_zip2 rfl rfl B2.zip_ (qa_cons (qe_var (pv 1)) (qa_cons (qe_var (pv 2)) qa_nil))) (blkOk_by (N := ["board", "thing", "wheels", "step", "wheel"]) (sc := (defScope s_is_stand)) (by decide +kernel)) (fun _ _ _ _ _ => (pg_tup rfl (pgs_cons (pg_name (i := 3) sc_is_stand.nd rfl (Or.inl rfl)) (pgs_cons (pg_name (i := 4) sc_is_stand.nd rfl (Or.inl rfl)) pgs_nil)))) (fun _ _ _ _ _ => qts_nil) (fun _ _ _ _ _ => (qe_call LamX.takes0 rfl c_is_within hr rfl (qa_cons (qe_var (pv 3)) (qa_cons qe_int (qa_cons (qe_bin (S := S) op_sub oq_sub (qe_callB (S := S) call_lenA cq_len rfl B.len_ (by decide +kernel) (qa_cons (qe_var (pv 4)) qa_nil)) qe_int) qa_nil))) (len_cons (len_cons (len_cons len_nil)))))) qa_nil)))))))))
theorem ok_need_stand (T : HX.Def S.K mg "need_stand" s_need_stand ["board", "thing"]) (R_NoStand : Err S.K mg "NoStand" (S.C 1)) (c_is_stand : CalQ S P w mg base k "is_stand" ["board", "thing"] m_is_stand) : CalQ S P w mg base (k + 1) "need_stand" ["board", "thing"] m_need_stand :=
  CalQ.trim (Def.okQ T sc_need_stand (fun f cdv A outer s H E hr tk hp =>
  (qss_one (qs_if (qt_not (qt_val (qe_call tk rfl c_is_stand hr rfl (qa_cons (qe_var (pv 0)) (qa_cons (qe_var (pv 1)) qa_nil)) (len_cons (len_cons len_nil)))))
  (qss_one (qs_err (n := 1) R_NoStand tk))
  qss_nil))))
theorem ok_is_wheel_number (T : HX.Def S.K mg "is_wheel_number" s_is_wheel_number ["board", "thing"]) (B : Bi mg) (c_is_within : CalQ S P w mg base k "is_within" ["thing", "least", "most"] m_is_within) : CalQ S P w mg base (k + 1) "is_wheel_number" ["board", "thing"] m_is_wheel_number :=
  CalQ.trim (Def.okQ T sc_is_wheel_number (fun f cdv A outer s H E hr tk hp =>
  (qss_one (qs_ret (qe_call tk rfl c_is_within hr rfl (qa_cons (qe_var (pv 1)) (qa_cons qe_int (qa_cons (qe_bin (S := S) op_sub oq_sub (qe_callB (S := S) call_lenA cq_len rfl B.len_ (by decide +kernel) (qa_cons (qe_ix rfl (qe_var (pv 0)) qe_int) qa_nil)) qe_int) qa_nil))) (len_cons (len_cons (len_cons len_nil))))))))
theorem ok_need_wheel (T : HX.Def S.K mg "need_wheel" s_need_wheel ["board", "thing"]) (R_NoWheel : Err S.K mg "NoWheel" (S.C 3)) (c_is_wheel_number : CalQ S P w mg base k "is_wheel_number" ["board", "thing"] m_is_wheel_number) : CalQ S P w mg base (k + 1) "need_wheel" ["board", "thing"] m_need_wheel :=
  CalQ.trim (Def.okQ T sc_need_wheel (fun f cdv A outer s H E hr tk hp =>
  (qss_one (qs_if (qt_not (qt_val (qe_call tk rfl c_is_wheel_number hr rfl (qa_cons (qe_var (pv 0)) (qa_cons (qe_var (pv 1)) qa_nil)) (len_cons (len_cons len_nil)))))
  (qss_one (qs_err (n := 3) R_NoWheel tk))
  qss_nil))))
theorem ok_begun (T : HX.Def S.K mg "begun" s_begun ["board", "stand", "wheel"]) (B : Bi mg) : CalQ S P w mg base (k + 1) "begun" ["board", "stand", "wheel"] m_begun :=
  CalQ.trim (Def.okQ T sc_begun (fun f cdv A outer s H E hr tk hp =>
  (qss_cons (qs_asg (t := (.tup [3, 4])) (qe_var (pv 0)) (pg_tup rfl (pgs_cons (pg_name (i := 3) sc_begun.nd rfl (Or.inl rfl)) (pgs_cons (pg_name (i := 4) sc_begun.nd rfl (Or.inl rfl)) pgs_nil))))
  (qss_cons (qs_set (i := 5) sc_begun.nd rfl (Or.inl rfl) (qe_ix rfl (qe_var (pv 1)) (qe_var (pv 2))))
  (qss_cons (qs_set (i := 6) sc_begun.nd rfl (Or.inl rfl) (qe_bin (S := S) op_addA oq_add (qe_bin (S := S) op_addA oq_add (qe_sl rfl (qe_var (pv 1)) qo_none (qo_some (qe_var (pv 2)))) (qe_tup (qa_cons (qe_bin (S := S) op_mod oq_mod (qe_bin (S := S) op_addA oq_add (qe_var (pv 5)) qe_int) (qe_callB (S := S) call_lenA cq_len rfl B.len_ (by decide +kernel) (qa_cons (qe_ix rfl (qe_var (pv 3)) (qe_var (pv 2))) qa_nil))) qa_nil))) (qe_sl rfl (qe_var (pv 1)) (qo_some (qe_bin (S := S) op_addA oq_add (qe_var (pv 2)) qe_int)) qo_none)))
  (qss_one (qs_ret (qe_lst (qa_cons (qe_tup (qa_cons (qe_var (pv 1)) (qa_cons (qe_var (pv 2)) qa_nil))) (qa_cons (qe_var (pv 6)) (qa_cons (qe_bin (S := S) op_mulA oq_mul (qe_tup (qa_cons qe_int qa_nil)) (qe_var (pv 4))) (qa_cons (qe_ix rfl (qe_ix rfl (qe_var (pv 3)) (qe_var (pv 2))) (qe_var (pv 5))) qa_nil))))))))))))
theorem ok_one_more (T : HX.Def S.K mg "one_more" s_one_more ["numbers", "place"])  : CalQ S P w mg base (k + 1) "one_more" ["numbers", "place"] m_one_more :=
  CalQ.trim (Def.okQ T sc_one_more (fun f cdv A outer s H E hr tk hp =>
  (qss_one (qs_ret (qe_bin (S := S) op_addA oq_add (qe_bin (S := S) op_addA oq_add (qe_sl rfl (qe_var (pv 0)) qo_none (qo_some (qe_var (pv 1)))) (qe_tup (qa_cons (qe_bin (S := S) op_addA oq_add (qe_ix rfl (qe_var (pv 0)) (qe_var (pv 1))) qe_int) qa_nil))) (qe_sl rfl (qe_var (pv 0)) (qo_some (qe_bin (S := S) op_addA oq_add (qe_var (pv 1)) qe_int)) qo_none))))))
theorem ok_together (T : HX.Def S.K mg "together" s_together ["some", "others"]) (B : Bi mg) (B2 : Bi2 mg) : CalQ S P w mg base (k + 1) "together" ["some", "others"] m_law_both_c530d4 :=
  CalQ.trim (Def.okQ T sc_together (fun f cdv A outer s H E hr tk hp =>
  (qss_one (qs_ret (qe_callTy (S := S) call_tupleA cq_tuple rfl B.tuple_ (by decide +kernel) (qa_cons (qe_lc (own := [("one", 2), ("other", 3)]) (t := (.tup [2, 3])) rfl sc_together.nd (qi_zip2 rfl rfl B2.zip_ (qa_cons (qe_var (pv 0)) (qa_cons (qe_var (pv 1)) qa_nil))) (blkOk_by (N := ["some", "others", "one", "other"]) (sc := (defScope s_together)) (by decide +kernel)) (fun _ _ _ _ _ => (pg_tup rfl (pgs_cons (pg_name (i := 2) sc_together.nd rfl (Or.inl rfl)) (pgs_cons (pg_name (i := 3) sc_together.nd rfl (Or.inl rfl)) pgs_nil)))) (fun _ _ _ _ _ => qts_nil) (fun _ _ _ _ _ => (qe_bin (S := S) op_addA oq_add (qe_var (pv 2)) (qe_var (pv 3))))) qa_nil))))))
theorem ok_fall {fu : Nat} (T : HX.Def S.K mg "fall" s_fall ["board", "known", "stand", "wheel"]) (B : Bi mg) (c_one_more : CalQ S P w mg base k "one_more" ["numbers", "place"] m_one_more) (c_together : CalQ S P w mg base k "together" ["some", "others"] m_law_both_c530d4) (c_begun : CalQ S P w mg base k "begun" ["board", "stand", "wheel"] m_begun) : CalQ S P w mg base (k + 1) "fall" ["board", "known", "stand", "wheel"] (m_fall fu) :=
  CalQ.trim (Def.okQ T sc_fall (fun f cdv A outer s H E hr tk hp =>
  (qss_cons (qs_set (i := 4) sc_fall.nd rfl (Or.inl rfl) (qe_if (qt_cmp (S := S) (op_inN (hu9 hr)) oq_inN (qe_tup (qa_cons (qe_var (pv 2)) (qa_cons (qe_var (pv 3)) qa_nil))) (qe_var (pv 1)) rfl) (qe_new qa_nil) (qe_new (qa_cons (qe_call tk rfl c_begun hr rfl (qa_cons (qe_var (pv 0)) (qa_cons (qe_var (pv 2)) (qa_cons (qe_var (pv 3)) qa_nil))) (len_cons (len_cons (len_cons len_nil)))) qa_nil))))
  (qss_cons (qs_while fu hp (qt_tru rfl (qe_var (pv 4)))
  (qss_cons (qs_asgL (is := [5, 6, 7, 8]) rfl (qe_ix rfl (qe_var (pv 4)) (qe_neg qe_int)) (pg_lst rfl (pgs_cons (pg_name (i := 5) sc_fall.nd rfl (Or.inl rfl)) (pgs_cons (pg_name (i := 6) sc_fall.nd rfl (Or.inl rfl)) (pgs_cons (pg_name (i := 7) sc_fall.nd rfl (Or.inl rfl)) (pgs_cons (pg_name (i := 8) sc_fall.nd rfl (Or.inl rfl)) pgs_nil))))))
  (qss_one (qs_if (qt_cmp (S := S) (op_eqD (hu64 hr)) oq_eq (qe_var (pv 8)) (qe_tup qa_nil) (nomark _))
  (qss_cons (qs_putD (hu9 hr) (qe_var (pv 1)) (qe_var (pv 5)) (qe_tup (qa_cons (qe_var (pv 6)) (qa_cons (qe_var (pv 7)) qa_nil))))
  (qss_one (qs_expr (qe_bm0 (S := S) rfl PySem.F.plainAttrs_list PySem.F.slot_list_pop PySem.F.type_list_pop mt_pop mq_pop (qe_var (pv 4))))))
  (qss_one (qs_if (qt_cmp (S := S) op_ge (oq_cmp cGe) (qe_ix rfl (qe_var (pv 8)) qe_int) (qe_callB (S := S) call_lenA cq_len rfl B.len_ (by decide +kernel) (qa_cons (qe_var (pv 2)) qa_nil)) (nomark _))
  (qss_one (qs_setIx (qe_var (pv 4)) (qe_neg qe_int) (qe_lst (qa_cons (qe_var (pv 5)) (qa_cons (qe_var (pv 6)) (qa_cons (qe_call tk rfl c_one_more hr rfl (qa_cons (qe_var (pv 7)) (qa_cons (qe_bin (S := S) op_sub oq_sub (qe_ix rfl (qe_var (pv 8)) qe_int) (qe_callB (S := S) call_lenA cq_len rfl B.len_ (by decide +kernel) (qa_cons (qe_var (pv 2)) qa_nil))) qa_nil)) (len_cons (len_cons len_nil))) (qa_cons (qe_sl rfl (qe_var (pv 8)) (qo_some qe_int) qo_none) qa_nil)))))))
  (qss_one (qs_if (qt_cmp (S := S) (op_inN (hu9 hr)) oq_inN (qe_tup (qa_cons (qe_var (pv 6)) (qa_cons (qe_ix rfl (qe_var (pv 8)) qe_int) qa_nil))) (qe_var (pv 1)) rfl)
  (qss_cons (qs_asg (t := (.tup [9, 10])) (qe_ixD (hu9 hr) (qe_var (pv 1)) (qe_tup (qa_cons (qe_var (pv 6)) (qa_cons (qe_ix rfl (qe_var (pv 8)) qe_int) qa_nil)))) (pg_tup rfl (pgs_cons (pg_name (i := 9) sc_fall.nd rfl (Or.inl rfl)) (pgs_cons (pg_name (i := 10) sc_fall.nd rfl (Or.inl rfl)) pgs_nil))))
  (qss_one (qs_setIx (qe_var (pv 4)) (qe_neg qe_int) (qe_lst (qa_cons (qe_var (pv 5)) (qa_cons (qe_var (pv 9)) (qa_cons (qe_call tk rfl c_together hr rfl (qa_cons (qe_var (pv 7)) (qa_cons (qe_var (pv 10)) qa_nil)) (len_cons (len_cons len_nil))) (qa_cons (qe_sl rfl (qe_var (pv 8)) (qo_some qe_int) qo_none) qa_nil))))))))
  (qss_one (qs_expr (qe_bm (S := S) rfl PySem.F.plainAttrs_list PySem.F.slot_list_append PySem.F.type_list_append mt_append mq_append (qe_var (pv 4)) (qa_cons (qe_call tk rfl c_begun hr rfl (qa_cons (qe_var (pv 0)) (qa_cons (qe_var (pv 6)) (qa_cons (qe_ix rfl (qe_var (pv 8)) qe_int) qa_nil))) (len_cons (len_cons (len_cons len_nil)))) qa_nil))))))))))))
  (qss_one (qs_ret (qe_ixD (hu9 hr) (qe_var (pv 1)) (qe_tup (qa_cons (qe_var (pv 2)) (qa_cons (qe_var (pv 3)) qa_nil))))))))))
theorem ok_path_of {fu : Nat} (T : HX.Def S.K mg "path_of" s_path_of ["board", "known", "stand", "wheel"]) (B : Bi mg) (c_fall : CalQ S P w mg base k "fall" ["board", "known", "stand", "wheel"] (m_fall fu)) : CalQ S P w mg base (k + 1) "path_of" ["board", "known", "stand", "wheel"] (m_path_of fu) :=
  CalQ.trim (Def.okQ T sc_path_of (fun f cdv A outer s H E hr tk hp =>
  (qss_cons (qs_set (i := 4) sc_path_of.nd rfl (Or.inl rfl) qe_dnew)
  (qss_cons (qs_set (i := 5) sc_path_of.nd rfl (Or.inl rfl) (qe_new qa_nil))
  (qss_cons (qs_while fu hp (qt_cmp (S := S) (op_ninN (hu9 hr)) oq_inN (qe_var (pv 2)) (qe_var (pv 4)) rfl)
  (qss_cons (qs_putD (hu9 hr) (qe_var (pv 4)) (qe_var (pv 2)) (qe_callB (S := S) call_lenA cq_len rfl B.len_ (by decide +kernel) (qa_cons (qe_var (pv 5)) qa_nil)))
  (qss_cons (qs_expr (qe_bm (S := S) rfl PySem.F.plainAttrs_list PySem.F.slot_list_append PySem.F.type_list_append mt_append mq_append (qe_var (pv 5)) (qa_cons (qe_var (pv 2)) qa_nil)))
  (qss_one (qs_set (i := 2) sc_path_of.nd rfl (Or.inl rfl) (qe_ix rfl (qe_call tk rfl c_fall hr rfl (qa_cons (qe_var (pv 0)) (qa_cons (qe_var (pv 1)) (qa_cons (qe_var (pv 2)) (qa_cons (qe_var (pv 3)) qa_nil)))) (len_cons (len_cons (len_cons (len_cons len_nil))))) qe_int))))))
  (qss_one (qs_ret (qe_tup (qa_cons (qe_var (pv 5)) (qa_cons (qe_ixD (hu9 hr) (qe_var (pv 4)) (qe_var (pv 2))) qa_nil))))))))))
theorem ok_cups_along {fu : Nat} (T : HX.Def S.K mg "cups_along" s_cups_along ["board", "known", "stands", "wheel"]) (c_together : CalQ S P w mg base k "together" ["some", "others"] m_law_both_c530d4) (c_fall : CalQ S P w mg base k "fall" ["board", "known", "stand", "wheel"] (m_fall fu)) : CalQ S P w mg base (k + 1) "cups_along" ["board", "known", "stands", "wheel"] (m_cups_along fu) :=
  CalQ.trim (Def.okQ T sc_cups_along (fun f cdv A outer s H E hr tk hp =>
  (qss_cons (qs_set (i := 4) sc_cups_along.nd rfl (Or.inl rfl) (qe_bin (S := S) op_mulA oq_mul (qe_tup (qa_cons qe_int qa_nil)) (qe_ix rfl (qe_var (pv 0)) qe_int)))
  (qss_cons (qs_for (t := (.name 5)) hp rfl (qi_seq rfl (qe_var (pv 2))) (pg_name (i := 5) sc_cups_along.nd rfl (Or.inl rfl))
  (qss_one (qs_set (i := 4) sc_cups_along.nd rfl (Or.inl rfl) (qe_call tk rfl c_together hr rfl (qa_cons (qe_var (pv 4)) (qa_cons (qe_ix rfl (qe_call tk rfl c_fall hr rfl (qa_cons (qe_var (pv 0)) (qa_cons (qe_var (pv 1)) (qa_cons (qe_var (pv 5)) (qa_cons (qe_var (pv 3)) qa_nil)))) (len_cons (len_cons (len_cons (len_cons len_nil))))) qe_int) qa_nil)) (len_cons (len_cons len_nil))))))
  (qss_one (qs_ret (qe_var (pv 4))))))))
theorem ok_far_fall {fu : Nat} (T : HX.Def S.K mg "far_fall" s_far_fall ["board", "known", "stand", "wheel", "many"]) (B : Bi mg) (B2 : Bi2 mg) (B5 : Bi5 mg) (c_cups_along : CalQ S P w mg base k "cups_along" ["board", "known", "stands", "wheel"] (m_cups_along fu)) (c_path_of : CalQ S P w mg base k "path_of" ["board", "known", "stand", "wheel"] (m_path_of fu)) : CalQ S P w mg base (k + 1) "far_fall" ["board", "known", "stand", "wheel", "many"] (m_far_fall fu) :=
  CalQ.trim (Def.okQ T sc_far_fall (fun f cdv A outer s H E hr tk hp =>
  (qss_cons (qs_asg (t := (.tup [5, 6])) (qe_call tk rfl c_path_of hr rfl (qa_cons (qe_var (pv 0)) (qa_cons (qe_var (pv 1)) (qa_cons (qe_var (pv 2)) (qa_cons (qe_var (pv 3)) qa_nil)))) (len_cons (len_cons (len_cons (len_cons len_nil))))) (pg_tup rfl (pgs_cons (pg_name (i := 5) sc_far_fall.nd rfl (Or.inl rfl)) (pgs_cons (pg_name (i := 6) sc_far_fall.nd rfl (Or.inl rfl)) pgs_nil))))
  (qss_cons (qs_if (qt_cmp (S := S) op_lt (oq_cmp cLt) (qe_var (pv 4)) (qe_var (pv 6)) (nomark _))
  (qss_one (qs_ret (qe_tup (qa_cons (qe_ix rfl (qe_var (pv 5)) (qe_var (pv 4))) (qa_cons (qe_call tk rfl c_cups_along hr rfl (qa_cons (qe_var (pv 0)) (qa_cons (qe_var (pv 1)) (qa_cons (qe_sl rfl (qe_var (pv 5)) qo_none (qo_some (qe_var (pv 4)))) (qa_cons (qe_var (pv 3)) qa_nil)))) (len_cons (len_cons (len_cons (len_cons len_nil))))) qa_nil)))))
  qss_nil)
  (qss_cons (qs_divm (t := (.tup [7, 8])) rfl B5.divmod_ (qa_cons (qe_bin (S := S) op_sub oq_sub (qe_var (pv 4)) (qe_var (pv 6))) (qa_cons (qe_bin (S := S) op_sub oq_sub (qe_callB (S := S) call_lenA cq_len rfl B.len_ (by decide +kernel) (qa_cons (qe_var (pv 5)) qa_nil)) (qe_var (pv 6))) qa_nil)) (pg_tup rfl (pgs_cons (pg_name (i := 7) sc_far_fall.nd rfl (Or.inr rfl)) (pgs_cons (pg_name (i := 8) sc_far_fall.nd rfl (Or.inl rfl)) pgs_nil))))
  (qss_cons (qs_set (i := 9) sc_far_fall.nd rfl (Or.inl rfl) (qe_call tk rfl c_cups_along hr rfl (qa_cons (qe_var (pv 0)) (qa_cons (qe_var (pv 1)) (qa_cons (qe_sl rfl (qe_var (pv 5)) qo_none (qo_some (qe_bin (S := S) op_addA oq_add (qe_var (pv 6)) (qe_var (pv 8))))) (qa_cons (qe_var (pv 3)) qa_nil)))) (len_cons (len_cons (len_cons (len_cons len_nil))))))
  (qss_cons (qs_set (i := 10) sc_far_fall.nd rfl (Or.inl rfl) (qe_call tk rfl c_cups_along hr rfl (qa_cons (qe_var (pv 0)) (qa_cons (qe_var (pv 1)) (qa_cons (qe_sl rfl (qe_var (pv 5)) (qo_some (qe_var (pv 6))) qo_none) (qa_cons (qe_var (pv 3)) qa_nil)))) (len_cons (len_cons (len_cons (len_cons len_nil))))))
  (qss_one (qs_ret (qe_tup (qa_cons (qe_ix rfl (qe_var (pv 5)) (qe_bin (S := S) op_addA oq_add (qe_var (pv 6)) (qe_var (pv 8)))) (qa_cons (qe_callTy (S := S) call_tupleA cq_tuple rfl B.tuple_ (by decide +kernel) (qa_cons (qe_lc (own := [("one", 11), ("other", 12)]) (t := (.tup [11, 12])) rfl sc_far_fall.nd (qi_zip2 rfl rfl B2.zip_ (qa_cons (qe_var (pv 9)) (qa_cons (qe_var (pv 10)) qa_nil))) (blkOk_by (N := ["board", "known", "stand", "wheel", "many", "stands", "ahead", "rounds", "more", "once", "each", "one", "other"]) (sc := (defScope s_far_fall)) (by decide +kernel)) (fun _ _ _ _ _ => (pg_tup rfl (pgs_cons (pg_name (i := 11) sc_far_fall.nd rfl (Or.inl rfl)) (pgs_cons (pg_name (i := 12) sc_far_fall.nd rfl (Or.inl rfl)) pgs_nil)))) (fun _ _ _ _ _ => qts_nil) (fun _ _ _ _ _ => (qe_bin (S := S) op_addA oq_add (qe_var (pv 11)) (qe_bin (S := S) op_mulA oq_mul (qe_var (pv 7)) (qe_var (pv 12)))))) qa_nil)) qa_nil))))))))))))
theorem ok_led_far {t_MOST_FAR : Tok} {fu : Nat} (T : HX.Def S.K mg "led_far" s_led_far ["board", "stand", "wheel", "many"]) (g_MOST_FAR : mg "MOST_FAR" = some (.int 1000000000000 t_MOST_FAR)) (R_NoNumber : Err S.K mg "NoNumber" (S.C 9)) (c_far_fall : CalQ S P w mg base k "far_fall" ["board", "known", "stand", "wheel", "many"] (m_far_fall fu)) (c_is_within : CalQ S P w mg base k "is_within" ["thing", "least", "most"] m_is_within) (c_need_wheel : CalQ S P w mg base k "need_wheel" ["board", "thing"] m_need_wheel) (c_need_stand : CalQ S P w mg base k "need_stand" ["board", "thing"] m_need_stand) (c_need_drain : CalQ S P w mg base k "need_drain" ["board"] m_need_drain) : CalQ S P w mg base (k + 1) "led_far" ["board", "stand", "wheel", "many"] (m_led_far fu) :=
  CalQ.trim (Def.okQ T sc_led_far (fun f cdv A outer s H E hr tk hp =>
  (qss_cons (qs_expr (qe_call tk rfl c_need_drain hr rfl (qa_cons (qe_var (pv 0)) qa_nil) (len_cons len_nil)))
  (qss_cons (qs_expr (qe_call tk rfl c_need_stand hr rfl (qa_cons (qe_var (pv 0)) (qa_cons (qe_var (pv 1)) qa_nil)) (len_cons (len_cons len_nil))))
  (qss_cons (qs_expr (qe_call tk rfl c_need_wheel hr rfl (qa_cons (qe_var (pv 0)) (qa_cons (qe_var (pv 2)) qa_nil)) (len_cons (len_cons len_nil))))
  (qss_cons (qs_if (qt_not (qt_val (qe_call tk rfl c_is_within hr rfl (qa_cons (qe_var (pv 3)) (qa_cons qe_int (qa_cons (qe_gint (x := "MOST_FAR") (pe_gint rfl g_MOST_FAR)) qa_nil))) (len_cons (len_cons (len_cons len_nil))))))
  (qss_one (qs_err (n := 9) R_NoNumber tk))
  qss_nil)
  (qss_one (qs_ret (qe_call tk rfl c_far_fall hr rfl (qa_cons (qe_var (pv 0)) (qa_cons qe_dnew (qa_cons (qe_var (pv 1)) (qa_cons (qe_var (pv 2)) (qa_cons (qe_var (pv 3)) qa_nil))))) (len_cons (len_cons (len_cons (len_cons (len_cons len_nil))))))))))))))
theorem ok_stands_in_all (T : HX.Def S.K mg "stands_in_all" s_stands_in_all ["board"]) (B : Bi mg) : CalQ S P w mg base (k + 1) "stands_in_all" ["board"] m_stands_in_all :=
  CalQ.trim (Def.okQ T sc_stands_in_all (fun f cdv A outer s H E hr tk hp =>
  (qss_cons (qs_set (i := 1) sc_stands_in_all.nd rfl (Or.inl rfl) qe_int)
  (qss_cons (qs_for (t := (.name 2)) hp rfl (qi_seq rfl (qe_ix rfl (qe_var (pv 0)) qe_int)) (pg_name (i := 2) sc_stands_in_all.nd rfl (Or.inl rfl))
  (qss_one (qs_aug (S := S) (i := 1) sc_stands_in_all.nd rfl (Or.inl rfl) (qe_callB (S := S) call_lenA cq_len rfl B.len_ (by decide +kernel) (qa_cons (qe_var (pv 2)) qa_nil)) ip_mul ipq_mul)))
  (qss_one (qs_ret (qe_var (pv 1))))))))
theorem ok_need_few_stands (T : DefD S.K mg "need_few_stands" s_need_few_stands [V.int 600] []) (c_stands_in_all : CalQ S P w mg base k "stands_in_all" ["board"] m_stands_in_all) : CalDQ S P w mg base (k + 1) "need_few_stands" s_need_few_stands [V.int 600] [] ["board", "most"] m_need_few_stands :=
  CalDQ.trim (DefD.okQ T sc_need_few_stands (fun f cdv A outer s H E hr tk hp =>
  (qss_cons (qs_set (i := 2) sc_need_few_stands.nd rfl (Or.inl rfl) (qe_call tk rfl c_stands_in_all hr rfl (qa_cons (qe_var (pv 0)) qa_nil) (len_cons len_nil)))
  (qss_one (qs_if (qt_cmp (S := S) op_gt (oq_cmp cGt) (qe_var (pv 2)) (qe_var (pv 1)) (nomark _))
  (qss_one qs_never)
  qss_nil)))))
theorem ok_need_two_stands (T : HX.Def S.K mg "need_two_stands" s_need_two_stands ["board", "stand", "other"]) (c_need_few_stands : CalDQ S P w mg base k "need_few_stands" s_need_few_stands [V.int 600] [] ["board", "most"] m_need_few_stands) (c_need_stand : CalQ S P w mg base k "need_stand" ["board", "thing"] m_need_stand) (c_need_drain : CalQ S P w mg base k "need_drain" ["board"] m_need_drain) : CalQ S P w mg base (k + 1) "need_two_stands" ["board", "stand", "other"] m_need_two_stands :=
  CalQ.trim (Def.okQ T sc_need_two_stands (fun f cdv A outer s H E hr tk hp =>
  (qss_cons (qs_expr (qe_call tk rfl c_need_drain hr rfl (qa_cons (qe_var (pv 0)) qa_nil) (len_cons len_nil)))
  (qss_cons (qs_expr (qe_call tk rfl c_need_stand hr rfl (qa_cons (qe_var (pv 0)) (qa_cons (qe_var (pv 1)) qa_nil)) (len_cons (len_cons len_nil))))
  (qss_cons (qs_expr (qe_call tk rfl c_need_stand hr rfl (qa_cons (qe_var (pv 0)) (qa_cons (qe_var (pv 2)) qa_nil)) (len_cons (len_cons len_nil))))
  (qss_one (qs_expr (qe_callD (dvs' := [V.int 600]) (dds := [.int 600]) tk rfl c_need_few_stands hr rfl (fun _ _ => (.cons (.int _) .nil)) eb_need_few_stands_1 (qa_cons (qe_var (pv 0)) qa_nil) (fun σ M ds M1 h => by rw [(len_cons len_nil) σ M ds M1 h]; rfl)))))))))
theorem ok_next_ways {fu : Nat} (T : HX.Def S.K mg "next_ways" s_next_ways ["board", "known", "ways", "fresh"]) (B : Bi mg) (c_one_more : CalQ S P w mg base k "one_more" ["numbers", "place"] m_one_more) (c_fall : CalQ S P w mg base k "fall" ["board", "known", "stand", "wheel"] (m_fall fu)) : CalQ S P w mg base (k + 1) "next_ways" ["board", "known", "ways", "fresh"] (m_next_ways fu) :=
  (Def.okQ T sc_next_ways (fun f cdv A outer s H E hr tk hp =>
  (qss_cons (qs_set (i := 4) sc_next_ways.nd rfl (Or.inl rfl) qe_dnew)
  (qss_cons (qs_for (t := (.name 5)) hp rfl (qi_seq rfl (qe_var (pv 3))) (pg_name (i := 5) sc_next_ways.nd rfl (Or.inl rfl))
  (qss_one (qs_for (t := (.name 6)) hp rfl (qi_range1 rfl B.range_ (qa_cons (qe_callB (S := S) call_lenA cq_len rfl B.len_ (by decide +kernel) (qa_cons (qe_ix rfl (qe_var (pv 0)) qe_int) qa_nil)) qa_nil)) (pg_name (i := 6) sc_next_ways.nd rfl (Or.inl rfl))
  (qss_cons (qs_set (i := 7) sc_next_ways.nd rfl (Or.inl rfl) (qe_ix rfl (qe_call tk rfl c_fall hr rfl (qa_cons (qe_var (pv 0)) (qa_cons (qe_var (pv 1)) (qa_cons (qe_var (pv 5)) (qa_cons (qe_var (pv 6)) qa_nil)))) (len_cons (len_cons (len_cons (len_cons len_nil))))) qe_int))
  (qss_cons (qs_set (i := 8) sc_next_ways.nd rfl (Or.inl rfl) (qe_call tk rfl c_one_more hr rfl (qa_cons (qe_ixD (hu9 hr) (qe_var (pv 2)) (qe_var (pv 5))) (qa_cons (qe_var (pv 6)) qa_nil)) (len_cons (len_cons len_nil))))
  (qss_one (qs_if (qt_pw (qw_and (qt_cmp (S := S) (op_ninN (hu9 hr)) oq_inN (qe_var (pv 7)) (qe_var (pv 2)) rfl) (qw_and1 (qt_pw (qw_or (qt_cmp (S := S) (op_ninN (hu9 hr)) oq_inN (qe_var (pv 7)) (qe_var (pv 4)) rfl) (qw_or1 (qt_cmp (S := S) (op_ltD (hu64 hr)) oq_ltD (qe_var (pv 8)) (qe_ixD (hu9 hr) (qe_var (pv 4)) (qe_var (pv 7))) (nomark _))))))))
  (qss_one (qs_putD (hu9 hr) (qe_var (pv 4)) (qe_var (pv 7)) (qe_var (pv 8))))
  qss_nil)))))))
  (qss_one (qs_ret (qe_var (pv 4))))))))
theorem ok_least_drops {fu : Nat} (T : HX.Def S.K mg "least_drops" s_least_drops ["board", "stand", "other"]) (B : Bi mg) (B3 : Bi3 mg) (c_next_ways : CalQ S P w mg base k "next_ways" ["board", "known", "ways", "fresh"] (m_next_ways fu)) (c_need_two_stands : CalQ S P w mg base k "need_two_stands" ["board", "stand", "other"] m_need_two_stands) : CalQ S P w mg base (k + 1) "least_drops" ["board", "stand", "other"] (m_least_drops fu) :=
  CalQ.trim (Def.okQ T sc_least_drops (fun f cdv A outer s H E hr tk hp =>
  (qss_cons (qs_expr (qe_call tk rfl c_need_two_stands hr rfl (qa_cons (qe_var (pv 0)) (qa_cons (qe_var (pv 1)) (qa_cons (qe_var (pv 2)) qa_nil))) (len_cons (len_cons (len_cons len_nil)))))
  (qss_cons (qs_set (i := 3) sc_least_drops.nd rfl (Or.inl rfl) qe_dnew)
  (qss_cons (qs_set (i := 4) sc_least_drops.nd rfl (Or.inl rfl) (qe_dOne (hu9 hr) (qe_var (pv 1)) (qe_bin (S := S) op_mulA oq_mul (qe_tup (qa_cons qe_int qa_nil)) (qe_callB (S := S) call_lenA cq_len rfl B.len_ (by decide +kernel) (qa_cons (qe_var (pv 1)) qa_nil)))))
  (qss_cons (qs_set (i := 5) sc_least_drops.nd rfl (Or.inl rfl) (qe_lst (qa_cons (qe_var (pv 1)) qa_nil)))
  (qss_cons (qs_while fu hp (qt_pw (qw_and (qt_tru rfl (qe_var (pv 5))) (qw_and1 (qt_cmp (S := S) (op_ninN (hu9 hr)) oq_inN (qe_var (pv 2)) (qe_var (pv 4)) rfl))))
  (qss_cons (qs_set (i := 6) sc_least_drops.nd rfl (Or.inl rfl) (qe_call tk rfl c_next_ways hr rfl (qa_cons (qe_var (pv 0)) (qa_cons (qe_var (pv 3)) (qa_cons (qe_var (pv 4)) (qa_cons (qe_var (pv 5)) qa_nil)))) (len_cons (len_cons (len_cons (len_cons len_nil))))))
  (qss_cons (qs_set (i := 5) sc_least_drops.nd rfl (Or.inl rfl) (qe_callTy (S := S) (call_listDic rfl) cq_listDic rfl B.list_ (by decide +kernel) (qa_cons (qe_var (pv 6)) qa_nil)))
  (qss_one (qs_for (t := (.name 7)) hp rfl (qi_seq rfl (qe_var (pv 5))) (pg_name (i := 7) sc_least_drops.nd rfl (Or.inl rfl))
  (qss_one (qs_putD (hu9 hr) (qe_var (pv 4)) (qe_var (pv 7)) (qe_ixD (hu9 hr) (qe_var (pv 6)) (qe_var (pv 7))))))))))
  (qss_cons (qs_if (qt_cmp (S := S) (op_inN (hu9 hr)) oq_inN (qe_var (pv 2)) (qe_var (pv 4)) rfl)
  (qss_one (qs_ret (qe_tup (qa_cons qe_str (qa_cons (qe_ixD (hu9 hr) (qe_var (pv 4)) (qe_var (pv 2))) qa_nil)))))
  qss_nil)
  (qss_one (qs_ret (qe_tup (qa_cons qe_str (qa_cons (qe_callTy (S := S) call_tupleA cq_tuple rfl B.tuple_ (by decide +kernel) (qa_cons (qe_callB (S := S) (call_sortDic rfl (hu150 hr)) cq_sortDic rfl B3.sorted_ (by decide +kernel) (qa_cons (qe_var (pv 4)) qa_nil)) qa_nil)) qa_nil)))))))))))))
theorem ok_come_to {fu : Nat} (T : HX.Def S.K mg "come_to" s_come_to ["board", "known", "stand"]) (B : Bi mg) (B3 : Bi3 mg) (c_fall : CalQ S P w mg base k "fall" ["board", "known", "stand", "wheel"] (m_fall fu)) : CalQ S P w mg base (k + 1) "come_to" ["board", "known", "stand"] (m_come_to fu) :=
  CalQ.trim (Def.okQ T sc_come_to (fun f cdv A outer s H E hr tk hp =>
  (qss_cons (qs_set (i := 3) sc_come_to.nd rfl (Or.inl rfl) (qe_dOne (hu9 hr) (qe_var (pv 2)) qe_bl))
  (qss_cons (qs_set (i := 4) sc_come_to.nd rfl (Or.inl rfl) (qe_new (qa_cons (qe_var (pv 2)) qa_nil)))
  (qss_cons (qs_while fu hp (qt_tru rfl (qe_var (pv 4)))
  (qss_cons (qs_set (i := 5) sc_come_to.nd rfl (Or.inl rfl) (qe_bm0 (S := S) rfl PySem.F.plainAttrs_list PySem.F.slot_list_pop PySem.F.type_list_pop mt_pop mq_pop (qe_var (pv 4))))
  (qss_one (qs_for (t := (.name 6)) hp rfl (qi_range1 rfl B.range_ (qa_cons (qe_callB (S := S) call_lenA cq_len rfl B.len_ (by decide +kernel) (qa_cons (qe_ix rfl (qe_var (pv 0)) qe_int) qa_nil)) qa_nil)) (pg_name (i := 6) sc_come_to.nd rfl (Or.inl rfl))
  (qss_cons (qs_set (i := 7) sc_come_to.nd rfl (Or.inl rfl) (qe_ix rfl (qe_call tk rfl c_fall hr rfl (qa_cons (qe_var (pv 0)) (qa_cons (qe_var (pv 1)) (qa_cons (qe_var (pv 5)) (qa_cons (qe_var (pv 6)) qa_nil)))) (len_cons (len_cons (len_cons (len_cons len_nil))))) qe_int))
  (qss_one (qs_if (qt_cmp (S := S) (op_ninN (hu9 hr)) oq_inN (qe_var (pv 7)) (qe_var (pv 3)) rfl)
  (qss_cons (qs_putD (hu9 hr) (qe_var (pv 3)) (qe_var (pv 7)) qe_bl)
  (qss_one (qs_expr (qe_bm (S := S) rfl PySem.F.plainAttrs_list PySem.F.slot_list_append PySem.F.type_list_append mt_append mq_append (qe_var (pv 4)) (qa_cons (qe_var (pv 7)) qa_nil)))))
  qss_nil)))))))
  (qss_one (qs_ret (qe_callTy (S := S) call_tupleA cq_tuple rfl B.tuple_ (by decide +kernel) (qa_cons (qe_callB (S := S) (call_sortDic rfl (hu150 hr)) cq_sortDic rfl B3.sorted_ (by decide +kernel) (qa_cons (qe_var (pv 3)) qa_nil)) qa_nil)))))))))
theorem ok_again_stands {fu : Nat} (T : HX.Def S.K mg "again_stands" s_again_stands ["board", "known"]) (B : Bi mg) (c_come_to : CalQ S P w mg base k "come_to" ["board", "known", "stand"] (m_come_to fu)) (c_stands_in_all : CalQ S P w mg base k "stands_in_all" ["board"] m_stands_in_all) (c_fall : CalQ S P w mg base k "fall" ["board", "known", "stand", "wheel"] (m_fall fu)) : CalQ S P w mg base (k + 1) "again_stands" ["board", "known"] (m_again_stands fu) :=
  CalQ.trim (Def.okQ T sc_again_stands (fun f cdv A outer s H E hr tk hp =>
  (qss_cons (qs_set (i := 2) sc_again_stands.nd rfl (Or.inl rfl) (qe_bin (S := S) op_mulA oq_mul (qe_tup (qa_cons qe_int qa_nil)) (qe_callB (S := S) call_lenA cq_len rfl B.len_ (by decide +kernel) (qa_cons (qe_ix rfl (qe_var (pv 0)) qe_int) qa_nil))))
  (qss_cons (qs_for (t := (.name 3)) hp rfl (qi_range1 rfl B.range_ (qa_cons (qe_call tk rfl c_stands_in_all hr rfl (qa_cons (qe_var (pv 0)) qa_nil) (len_cons len_nil)) qa_nil)) (pg_name (i := 3) sc_again_stands.nd rfl (Or.inl rfl))
  (qss_one (qs_for (t := (.name 4)) hp rfl (qi_range1 rfl B.range_ (qa_cons (qe_callB (S := S) call_lenA cq_len rfl B.len_ (by decide +kernel) (qa_cons (qe_ix rfl (qe_var (pv 0)) qe_int) qa_nil)) qa_nil)) (pg_name (i := 4) sc_again_stands.nd rfl (Or.inl rfl))
  (qss_one (qs_set (i := 2) sc_again_stands.nd rfl (Or.inl rfl) (qe_ix rfl (qe_call tk rfl c_fall hr rfl (qa_cons (qe_var (pv 0)) (qa_cons (qe_var (pv 1)) (qa_cons (qe_var (pv 2)) (qa_cons (qe_var (pv 4)) qa_nil)))) (len_cons (len_cons (len_cons (len_cons len_nil))))) qe_int))))))
  (qss_one (qs_ret (qe_call tk rfl c_come_to hr rfl (qa_cons (qe_var (pv 0)) (qa_cons (qe_var (pv 1)) (qa_cons (qe_var (pv 2)) qa_nil))) (len_cons (len_cons (len_cons len_nil))))))))))
theorem ok_all_again {fu : Nat} (T : HX.Def S.K mg "all_again" s_all_again ["board"]) (c_again_stands : CalQ S P w mg base k "again_stands" ["board", "known"] (m_again_stands fu)) (c_need_few_stands : CalDQ S P w mg base k "need_few_stands" s_need_few_stands [V.int 600] [] ["board", "most"] m_need_few_stands) (c_need_drain : CalQ S P w mg base k "need_drain" ["board"] m_need_drain) : CalQ S P w mg base (k + 1) "all_again" ["board"] (m_all_again fu) :=
  CalQ.trim (Def.okQ T sc_all_again (fun f cdv A outer s H E hr tk hp =>
  (qss_cons (qs_expr (qe_call tk rfl c_need_drain hr rfl (qa_cons (qe_var (pv 0)) qa_nil) (len_cons len_nil)))
  (qss_cons (qs_expr (qe_callD (dvs' := [V.int 600]) (dds := [.int 600]) tk rfl c_need_few_stands hr rfl (fun _ _ => (.cons (.int _) .nil)) eb_need_few_stands_1 (qa_cons (qe_var (pv 0)) qa_nil) (fun σ M ds M1 h => by rw [(len_cons len_nil) σ M ds M1 h]; rfl)))
  (qss_one (qs_ret (qe_call tk rfl c_again_stands hr rfl (qa_cons (qe_var (pv 0)) (qa_cons qe_dnew qa_nil)) (len_cons (len_cons len_nil)))))))))
theorem ok_how_many (T : HX.Def S.K mg "how_many" s_how_many ["board"]) (c_solved_board : CalQ S P w mg base k "solved_board" ["board"] m_solved_board) (c_need_drain : CalQ S P w mg base k "need_drain" ["board"] m_need_drain) : CalQ S P w mg base (k + 1) "how_many" ["board"] m_how_many :=
  CalQ.trim (Def.okQ T sc_how_many (fun f cdv A outer s H E hr tk hp =>
  (qss_cons (qs_expr (qe_call tk rfl c_need_drain hr rfl (qa_cons (qe_var (pv 0)) qa_nil) (len_cons len_nil)))
  (qss_one (qs_ret (qe_ix rfl (qe_call tk rfl c_solved_board hr rfl (qa_cons (qe_var (pv 0)) qa_nil) (len_cons len_nil)) qe_int))))))
theorem ok_round_of {fu : Nat} (T : HX.Def S.K mg "round_of" s_round_of ["board", "stand", "wheel"]) (B : Bi mg) (c_path_of : CalQ S P w mg base k "path_of" ["board", "known", "stand", "wheel"] (m_path_of fu)) (c_need_wheel : CalQ S P w mg base k "need_wheel" ["board", "thing"] m_need_wheel) (c_need_stand : CalQ S P w mg base k "need_stand" ["board", "thing"] m_need_stand) (c_need_drain : CalQ S P w mg base k "need_drain" ["board"] m_need_drain) : CalQ S P w mg base (k + 1) "round_of" ["board", "stand", "wheel"] (m_round_of fu) :=
  CalQ.trim (Def.okQ T sc_round_of (fun f cdv A outer s H E hr tk hp =>
  (qss_cons (qs_expr (qe_call tk rfl c_need_drain hr rfl (qa_cons (qe_var (pv 0)) qa_nil) (len_cons len_nil)))
  (qss_cons (qs_expr (qe_call tk rfl c_need_stand hr rfl (qa_cons (qe_var (pv 0)) (qa_cons (qe_var (pv 1)) qa_nil)) (len_cons (len_cons len_nil))))
  (qss_cons (qs_expr (qe_call tk rfl c_need_wheel hr rfl (qa_cons (qe_var (pv 0)) (qa_cons (qe_var (pv 2)) qa_nil)) (len_cons (len_cons len_nil))))
  (qss_cons (qs_asg (t := (.tup [3, 4])) (qe_call tk rfl c_path_of hr rfl (qa_cons (qe_var (pv 0)) (qa_cons qe_dnew (qa_cons (qe_var (pv 1)) (qa_cons (qe_var (pv 2)) qa_nil)))) (len_cons (len_cons (len_cons (len_cons len_nil))))) (pg_tup rfl (pgs_cons (pg_name (i := 3) sc_round_of.nd rfl (Or.inl rfl)) (pgs_cons (pg_name (i := 4) sc_round_of.nd rfl (Or.inl rfl)) pgs_nil))))
  (qss_one (qs_ret (qe_tup (qa_cons (qe_var (pv 4)) (qa_cons (qe_bin (S := S) op_sub oq_sub (qe_callB (S := S) call_lenA cq_len rfl B.len_ (by decide +kernel) (qa_cons (qe_var (pv 3)) qa_nil)) (qe_var (pv 4))) qa_nil)))))))))))
theorem ok_back {fu : Nat} (T : HX.Def S.K mg "back" s_back ["board", "stand", "wheel"]) (R_NoAgain : Err S.K mg "NoAgain" (S.C 8)) (c_path_of : CalQ S P w mg base k "path_of" ["board", "known", "stand", "wheel"] (m_path_of fu)) (c_again_stands : CalQ S P w mg base k "again_stands" ["board", "known"] (m_again_stands fu)) (c_need_few_stands : CalDQ S P w mg base k "need_few_stands" s_need_few_stands [V.int 600] [] ["board", "most"] m_need_few_stands) (c_need_wheel : CalQ S P w mg base k "need_wheel" ["board", "thing"] m_need_wheel) (c_need_stand : CalQ S P w mg base k "need_stand" ["board", "thing"] m_need_stand) (c_need_drain : CalQ S P w mg base k "need_drain" ["board"] m_need_drain) : CalQ S P w mg base (k + 1) "back" ["board", "stand", "wheel"] (m_back fu) :=
  CalQ.trim (Def.okQ T sc_back (fun f cdv A outer s H E hr tk hp =>
  (qss_cons (qs_expr (qe_call tk rfl c_need_drain hr rfl (qa_cons (qe_var (pv 0)) qa_nil) (len_cons len_nil)))
  (qss_cons (qs_expr (qe_call tk rfl c_need_stand hr rfl (qa_cons (qe_var (pv 0)) (qa_cons (qe_var (pv 1)) qa_nil)) (len_cons (len_cons len_nil))))
  (qss_cons (qs_expr (qe_call tk rfl c_need_wheel hr rfl (qa_cons (qe_var (pv 0)) (qa_cons (qe_var (pv 2)) qa_nil)) (len_cons (len_cons len_nil))))
  (qss_cons (qs_expr (qe_callD (dvs' := [V.int 600]) (dds := [.int 600]) tk rfl c_need_few_stands hr rfl (fun _ _ => (.cons (.int _) .nil)) eb_need_few_stands_1 (qa_cons (qe_var (pv 0)) qa_nil) (fun σ M ds M1 h => by rw [(len_cons len_nil) σ M ds M1 h]; rfl)))
  (qss_cons (qs_set (i := 3) sc_back.nd rfl (Or.inl rfl) qe_dnew)
  (qss_cons (qs_if (qt_cmp (S := S) (op_ninT (hu65 hr)) oq_ninT (qe_var (pv 1)) (qe_call tk rfl c_again_stands hr rfl (qa_cons (qe_var (pv 0)) (qa_cons (qe_var (pv 3)) qa_nil)) (len_cons (len_cons len_nil))) rfl)
  (qss_one (qs_err (n := 8) R_NoAgain tk))
  qss_nil)
  (qss_one (qs_ret (qe_ix rfl (qe_ix rfl (qe_call tk rfl c_path_of hr rfl (qa_cons (qe_var (pv 0)) (qa_cons (qe_var (pv 3)) (qa_cons (qe_var (pv 1)) (qa_cons (qe_var (pv 2)) qa_nil)))) (len_cons (len_cons (len_cons (len_cons len_nil))))) qe_int) (qe_neg qe_int))))))))))))
theorem ok__law_heap_right {fu : Nat} (T : HX.Def S.K mg "_law_heap_right" s__law_heap_right ["_law_pen_here"]) (B : Bi mg) (c_least_drops : CalQ S P w mg base k "least_drops" ["board", "stand", "other"] (m_least_drops fu)) (c_back : CalQ S P w mg base k "back" ["board", "stand", "wheel"] (m_back fu)) (c_round_of : CalQ S P w mg base k "round_of" ["board", "stand", "wheel"] (m_round_of fu)) (c_led_far : CalQ S P w mg base k "led_far" ["board", "stand", "wheel", "many"] (m_led_far fu)) (c_how_many : CalQ S P w mg base k "how_many" ["board"] m_how_many) (c_all_again : CalQ S P w mg base k "all_again" ["board"] (m_all_again fu)) (c__law_draw : CalQ S P w mg base k "_law_draw" ["_law_pen_here", "_law_many"] m_law_draw_321cf4) : CalQ S P w mg base (k + 1) "_law_heap_right" ["_law_pen_here"] (m_law_heap_right_7e4e6a fu) :=
  CalQ.trim (Def.okQ T sc__law_heap_right (fun f cdv A outer s H E hr tk hp =>
  (qss_cons (qs_par3 (i := 1) (j := 2) (l := 3) (by rfl) sc__law_heap_right.nd rfl rfl rfl (by decide) (by decide) (by decide) rfl rfl rfl (qa_cons (qe_bin (S := S) op_addA oq_add qe_int (qe_call tk rfl c__law_draw hr rfl (qa_cons (qe_var (pv 0)) (qa_cons qe_int qa_nil)) (len_cons (len_cons len_nil)))) (qa_cons (qe_call tk rfl c__law_draw hr rfl (qa_cons (qe_var (pv 0)) (qa_cons (qe_bin (S := S) op_pow oq_pow qe_int qe_int) qa_nil)) (len_cons (len_cons len_nil))) (qa_cons (qe_call tk rfl c__law_draw hr rfl (qa_cons (qe_var (pv 0)) (qa_cons qe_int qa_nil)) (len_cons (len_cons len_nil))) qa_nil))) (by rfl))
  (qss_cons (qs_par (i := 4) (j := 3) (by rfl) sc__law_heap_right.nd rfl rfl (by decide) rfl rfl (qa_cons (qe_tup (qa_cons (qe_tup (qa_cons (qe_bin (S := S) op_addA oq_add (qe_bin (S := S) op_mulA oq_mul (qe_tup (qa_cons (qe_tup qa_nil) qa_nil)) (qe_bin (S := S) op_sub oq_sub (qe_var (pv 1)) qe_int)) (qe_tup (qa_cons (qe_tup (qa_cons qe_int (qa_cons qe_int qa_nil))) qa_nil))) qa_nil)) (qa_cons qe_int qa_nil))) (qa_cons (qe_bin (S := S) op_mod oq_mod (qe_var (pv 3)) (qe_var (pv 1))) qa_nil)) (by rfl))
  (qss_cons (qs_if (qt_pw (qw_or (qt_cmp (S := S) (op_neD (hu64 hr)) oq_ne (qe_call tk rfl c_all_again hr rfl (qa_cons (qe_var (pv 4)) qa_nil) (len_cons len_nil)) (qe_callTy (S := S) call_tupleA cq_tuple rfl B.tuple_ (by decide +kernel) (qa_cons (qe_lc (own := [("_law_one", 5)]) (t := (.name 5)) rfl sc__law_heap_right.nd (qi_range1 rfl B.range_ (qa_cons (qe_var (pv 1)) qa_nil)) (blkOk_by (N := ["_law_pen_here", "_law_many", "_law_far", "_law_at", "_law_board", "_law_one"]) (sc := (defScope s__law_heap_right)) (by decide +kernel)) (fun _ _ _ _ _ => (pg_name (i := 5) sc__law_heap_right.nd rfl (Or.inl rfl))) (fun _ _ _ _ _ => qts_nil) (fun _ _ _ _ _ => (qe_tup (qa_cons (qe_var (pv 5)) qa_nil)))) qa_nil)) (nomark _)) (qw_or1 (qt_cmp (S := S) (op_neD (hu64 hr)) oq_ne (qe_call tk rfl c_how_many hr rfl (qa_cons (qe_var (pv 4)) qa_nil) (len_cons len_nil)) (qe_var (pv 1)) (nomark _)))))
  (qss_one (qs_ret qe_bl))
  qss_nil)
  (qss_cons (qs_if (qt_cmp (S := S) (op_neD (hu64 hr)) oq_ne (qe_call tk rfl c_led_far hr rfl (qa_cons (qe_var (pv 4)) (qa_cons (qe_tup (qa_cons (qe_var (pv 3)) qa_nil)) (qa_cons qe_int (qa_cons (qe_var (pv 2)) qa_nil)))) (len_cons (len_cons (len_cons (len_cons len_nil))))) (qe_tup (qa_cons (qe_tup (qa_cons (qe_bin (S := S) op_mod oq_mod (qe_bin (S := S) op_addA oq_add (qe_var (pv 3)) (qe_var (pv 2))) (qe_var (pv 1))) qa_nil)) (qa_cons (qe_tup (qa_cons (qe_bin (S := S) op_mulA oq_mul qe_int (qe_bin (S := S) op_fdivW oq_fdiv (qe_bin (S := S) op_addA oq_add (qe_var (pv 3)) (qe_var (pv 2))) (qe_var (pv 1)))) qa_nil)) qa_nil))) (nomark _))
  (qss_one (qs_ret qe_bl))
  qss_nil)
  (qss_cons (qs_if (qt_pw (qw_or (qt_cmp (S := S) (op_neD (hu64 hr)) oq_ne (qe_call tk rfl c_round_of hr rfl (qa_cons (qe_var (pv 4)) (qa_cons (qe_tup (qa_cons (qe_var (pv 3)) qa_nil)) (qa_cons qe_int qa_nil))) (len_cons (len_cons (len_cons len_nil)))) (qe_tup (qa_cons qe_int (qa_cons (qe_var (pv 1)) qa_nil))) (nomark _)) (qw_or1 (qt_cmp (S := S) (op_neD (hu64 hr)) oq_ne (qe_call tk rfl c_back hr rfl (qa_cons (qe_var (pv 4)) (qa_cons (qe_tup (qa_cons qe_int qa_nil)) (qa_cons qe_int qa_nil))) (len_cons (len_cons (len_cons len_nil)))) (qe_tup (qa_cons (qe_bin (S := S) op_sub oq_sub (qe_var (pv 1)) qe_int) qa_nil)) (nomark _)))))
  (qss_one (qs_ret qe_bl))
  qss_nil)
  (qss_one (qs_ret (qe_cmp (S := S) (op_eqD (hu64 hr)) oq_eq (qe_call tk rfl c_least_drops hr rfl (qa_cons (qe_var (pv 4)) (qa_cons (qe_tup (qa_cons (qe_var (pv 3)) qa_nil)) (qa_cons (qe_tup (qa_cons qe_int qa_nil)) qa_nil))) (len_cons (len_cons (len_cons len_nil)))) (qe_tup (qa_cons qe_str (qa_cons (qe_tup (qa_cons (qe_bin (S := S) op_mod oq_mod (qe_bin (S := S) op_sub oq_sub (qe_var (pv 1)) (qe_var (pv 3))) (qe_var (pv 1))) qa_nil)) qa_nil))) (nomark _)))))))))))
theorem ok_loosened (T : HX.Def S.K mg "loosened" s_loosened ["moment"]) (B : Bi mg) : CalQ S P w mg base (k + 1) "loosened" ["moment"] m_loosened :=
  (Def.okQ T sc_loosened (fun f cdv A outer s H E hr tk hp =>
  (qss_cons (qs_asg (t := (.tup [1, 2, 3])) (qe_var (pv 0)) (pg_tup rfl (pgs_cons (pg_name (i := 1) sc_loosened.nd rfl (Or.inl rfl)) (pgs_cons (pg_name (i := 2) sc_loosened.nd rfl (Or.inl rfl)) (pgs_cons (pg_name (i := 3) sc_loosened.nd rfl (Or.inl rfl)) pgs_nil)))))
  (qss_one (qs_ret (qe_tup (qa_cons (qe_callTy (S := S) call_listA cq_listC rfl B.list_ (by decide +kernel) (qa_cons (qe_var (pv 1)) qa_nil)) (qa_cons (qe_callTy (S := S) call_listA cq_listC rfl B.list_ (by decide +kernel) (qa_cons (qe_var (pv 2)) qa_nil)) (qa_cons (qe_callTy (S := S) call_listA cq_listC rfl B.list_ (by decide +kernel) (qa_cons (qe_var (pv 3)) qa_nil)) qa_nil)))))))))
theorem ok_fastened (T : HX.Def S.K mg "fastened" s_fastened ["stand", "waiting", "held"]) (B : Bi mg) : CalQ S P w mg base (k + 1) "fastened" ["stand", "waiting", "held"] m_fastened :=
  CalQ.trim (Def.okQ T sc_fastened (fun f cdv A outer s H E hr tk hp =>
  (qss_one (qs_ret (qe_tup (qa_cons (qe_callTy (S := S) call_tupleA cq_tuple rfl B.tuple_ (by decide +kernel) (qa_cons (qe_var (pv 0)) qa_nil)) (qa_cons (qe_callTy (S := S) call_tupleA cq_tuple rfl B.tuple_ (by decide +kernel) (qa_cons (qe_var (pv 1)) qa_nil)) (qa_cons (qe_callTy (S := S) call_tupleA cq_tuple rfl B.tuple_ (by decide +kernel) (qa_cons (qe_var (pv 2)) qa_nil)) qa_nil))))))))
theorem ok_first_reached (T : HX.Def S.K mg "first_reached" s_first_reached ["counts", "nevers"]) (B : Bi mg) (B2 : Bi2 mg) : CalQ S P w mg base (k + 1) "first_reached" ["counts", "nevers"] m_first_reached :=
  CalQ.trim (Def.okQ T sc_first_reached (fun f cdv A outer s H E hr tk hp =>
  (qss_cons (qs_for (t := (.name 2)) hp rfl (qi_seq rfl (qe_var (pv 1))) (pg_name (i := 2) sc_first_reached.nd rfl (Or.inl rfl))
  (qss_one (qs_if (qt_val (qe_callB (S := S) (cr_all rfl) cq_all rfl B.all_ (by decide +kernel) (qa_cons (qe_lc (own := [("count", 3), ("need", 4)]) (t := (.tup [3, 4])) rfl sc_first_reached.nd (qi_zip2 rfl rfl B2.zip_ (qa_cons (qe_var (pv 0)) (qa_cons (qe_var (pv 2)) qa_nil))) (blkOk_by (N := ["counts", "nevers", "needed", "count", "need"]) (sc := (defScope s_first_reached)) (by decide +kernel)) (fun _ _ _ _ _ => (pg_tup rfl (pgs_cons (pg_name (i := 3) sc_first_reached.nd rfl (Or.inl rfl)) (pgs_cons (pg_name (i := 4) sc_first_reached.nd rfl (Or.inl rfl)) pgs_nil)))) (fun _ _ _ _ _ => qts_nil) (fun _ _ _ _ _ => (qe_cmp (S := S) op_ge (oq_cmp cGe) (qe_var (pv 3)) (qe_var (pv 4)) (nomark _)))) qa_nil)))
  (qss_one (qs_ret (qe_var (pv 2))))
  qss_nil)))
  (qss_one (qs_ret qe_non)))))
theorem ok_handle_marble (T : HX.Def S.K mg "handle_marble" s_handle_marble ["board", "parts", "wheel"]) (B : Bi mg) : CalQ S P w mg base (k + 1) "handle_marble" ["board", "parts", "wheel"] m_handle_marble :=
  CalQ.trim (Def.okQ T sc_handle_marble (fun f cdv A outer s H E hr tk hp =>
  (qss_cons (qs_set (i := 3) sc_handle_marble.nd rfl (Or.inl rfl) (qe_ix rfl (qe_var (pv 0)) qe_int))
  (qss_cons (qs_asg (t := (.tup [4, 5, 6])) (qe_var (pv 1)) (pg_tup rfl (pgs_cons (pg_name (i := 4) sc_handle_marble.nd rfl (Or.inl rfl)) (pgs_cons (pg_name (i := 5) sc_handle_marble.nd rfl (Or.inl rfl)) (pgs_cons (pg_name (i := 6) sc_handle_marble.nd rfl (Or.inl rfl)) pgs_nil)))))
  (qss_cons (qs_set (i := 7) sc_handle_marble.nd rfl (Or.inl rfl) (qe_ix rfl (qe_var (pv 4)) (qe_var (pv 2))))
  (qss_cons (qs_augIx (S := S) rfl (qe_var (pv 5)) (qe_var (pv 2)) qe_int ip_sub ipq_sub)
  (qss_cons (qs_for (t := (.name 8)) hp rfl (qi_seq rfl (qe_ix rfl (qe_ix rfl (qe_var (pv 3)) (qe_var (pv 2))) (qe_var (pv 7)))) (pg_name (i := 8) sc_handle_marble.nd rfl (Or.inl rfl))
  (qss_one (qs_if (qt_cmp (S := S) op_lt (oq_cmp cLt) (qe_var (pv 8)) (qe_callB (S := S) call_lenA cq_len rfl B.len_ (by decide +kernel) (qa_cons (qe_var (pv 3)) qa_nil)) (nomark _))
  (qss_one (qs_augIx (S := S) rfl (qe_var (pv 5)) (qe_var (pv 8)) qe_int ip_add ipq_add))
  (qss_one (qs_augIx (S := S) rfl (qe_var (pv 6)) (qe_bin (S := S) op_sub oq_sub (qe_var (pv 8)) (qe_callB (S := S) call_lenA cq_len rfl B.len_ (by decide +kernel) (qa_cons (qe_var (pv 3)) qa_nil))) qe_int ip_add ipq_add)))))
  (qss_one (qs_setIx (qe_var (pv 4)) (qe_var (pv 2)) (qe_bin (S := S) op_mod oq_mod (qe_bin (S := S) op_addA oq_add (qe_var (pv 7)) qe_int) (qe_callB (S := S) call_lenA cq_len rfl B.len_ (by decide +kernel) (qa_cons (qe_ix rfl (qe_var (pv 3)) (qe_var (pv 2))) qa_nil))))))))))))
theorem ok_turn_on (T : HX.Def S.K mg "turn_on" s_turn_on ["board", "ends", "parts", "wheel", "many"]) (B : Bi mg) (B2 : Bi2 mg) (B5 : Bi5 mg) (c_handle_marble : CalQ S P w mg base k "handle_marble" ["board", "parts", "wheel"] m_handle_marble) : CalQ S P w mg base (k + 1) "turn_on" ["board", "ends", "parts", "wheel", "many"] m_turn_on :=
  CalQ.trim (Def.okQ T sc_turn_on (fun f cdv A outer s H E hr tk hp =>
  (qss_cons (qs_set (i := 5) sc_turn_on.nd rfl (Or.inl rfl) (qe_ix rfl (qe_var (pv 0)) qe_int))
  (qss_cons (qs_asg (t := (.tup [6, 7, 8])) (qe_var (pv 2)) (pg_tup rfl (pgs_cons (pg_name (i := 6) sc_turn_on.nd rfl (Or.inl rfl)) (pgs_cons (pg_name (i := 7) sc_turn_on.nd rfl (Or.inl rfl)) (pgs_cons (pg_name (i := 8) sc_turn_on.nd rfl (Or.inl rfl)) pgs_nil)))))
  (qss_cons (qs_divm (t := (.tup [9, 10])) rfl B5.divmod_ (qa_cons (qe_var (pv 4)) (qa_cons (qe_callB (S := S) call_lenA cq_len rfl B.len_ (by decide +kernel) (qa_cons (qe_ix rfl (qe_var (pv 5)) (qe_var (pv 3))) qa_nil)) qa_nil)) (pg_tup rfl (pgs_cons (pg_name (i := 9) sc_turn_on.nd rfl (Or.inl rfl)) (pgs_cons (pg_name (i := 10) sc_turn_on.nd rfl (Or.inl rfl)) pgs_nil))))
  (qss_cons (qs_if (qt_cmp (S := S) op_gt (oq_cmp cGt) (qe_var (pv 9)) qe_int (nomark _))
  (qss_cons (qs_augIx (S := S) rfl (qe_var (pv 7)) (qe_var (pv 3)) (qe_bin (S := S) op_mulA oq_mul (qe_var (pv 9)) (qe_callB (S := S) call_lenA cq_len rfl B.len_ (by decide +kernel) (qa_cons (qe_ix rfl (qe_var (pv 5)) (qe_var (pv 3))) qa_nil))) ip_sub ipq_sub)
  (qss_one (qs_for (t := (.tup [11, 12])) hp rfl (qi_enum rfl rfl B2.enumerate_ (qa_cons (qe_ix rfl (qe_var (pv 1)) (qe_var (pv 3))) qa_nil)) (pg_tup rfl (pgs_cons (pg_name (i := 11) sc_turn_on.nd rfl (Or.inl rfl)) (pgs_cons (pg_name (i := 12) sc_turn_on.nd rfl (Or.inl rfl)) pgs_nil)))
  (qss_one (qs_if (qt_cmp (S := S) op_lt (oq_cmp cLt) (qe_var (pv 11)) (qe_callB (S := S) call_lenA cq_len rfl B.len_ (by decide +kernel) (qa_cons (qe_var (pv 5)) qa_nil)) (nomark _))
  (qss_one (qs_augIx (S := S) rfl (qe_var (pv 7)) (qe_var (pv 11)) (qe_bin (S := S) op_mulA oq_mul (qe_var (pv 9)) (qe_var (pv 12))) ip_add ipq_add))
  (qss_one (qs_augIx (S := S) rfl (qe_var (pv 8)) (qe_bin (S := S) op_sub oq_sub (qe_var (pv 11)) (qe_callB (S := S) call_lenA cq_len rfl B.len_ (by decide +kernel) (qa_cons (qe_var (pv 5)) qa_nil))) (qe_bin (S := S) op_mulA oq_mul (qe_var (pv 9)) (qe_var (pv 12))) ip_add ipq_add)))))))
  qss_nil)
  (qss_one (qs_for (t := (.name 13)) hp rfl (qi_range1 rfl B.range_ (qa_cons (qe_var (pv 10)) qa_nil)) (pg_name (i := 13) sc_turn_on.nd rfl (Or.inl rfl))
  (qss_one (qs_expr (qe_call tk rfl c_handle_marble hr rfl (qa_cons (qe_var (pv 0)) (qa_cons (qe_var (pv 2)) (qa_cons (qe_var (pv 3)) qa_nil))) (len_cons (len_cons (len_cons len_nil))))))))))))))
theorem ok_gone_down {fu : Nat} (T : HX.Def S.K mg "gone_down" s_gone_down ["board", "moment", "nevers"]) (B : Bi mg) (c_fastened : CalQ S P w mg base k "fastened" ["stand", "waiting", "held"] m_fastened) (c_first_reached : CalQ S P w mg base k "first_reached" ["counts", "nevers"] m_first_reached) (c_turn_on : CalQ S P w mg base k "turn_on" ["board", "ends", "parts", "wheel", "many"] m_turn_on) (c_loosened : CalQ S P w mg base k "loosened" ["moment"] m_loosened) (c_turn_ends : CalQ S P w mg base k "turn_ends" ["board"] m_turn_ends) : CalQ S P w mg base (k + 1) "gone_down" ["board", "moment", "nevers"] (m_gone_down fu) :=
  CalQ.trim (Def.okQ T sc_gone_down (fun f cdv A outer s H E hr tk hp =>
  (qss_cons (qs_set (i := 3) sc_gone_down.nd rfl (Or.inl rfl) (qe_call tk rfl c_turn_ends hr rfl (qa_cons (qe_var (pv 0)) qa_nil) (len_cons len_nil)))
  (qss_cons (qs_asg (t := (.tup [4, 5, 6])) (qe_call tk rfl c_loosened hr rfl (qa_cons (qe_var (pv 1)) qa_nil) (len_cons len_nil)) (pg_tup rfl (pgs_cons (pg_name (i := 4) sc_gone_down.nd rfl (Or.inl rfl)) (pgs_cons (pg_name (i := 5) sc_gone_down.nd rfl (Or.inl rfl)) (pgs_cons (pg_name (i := 6) sc_gone_down.nd rfl (Or.inl rfl)) pgs_nil)))))
  (qss_cons (qs_set (i := 7) sc_gone_down.nd rfl (Or.inl rfl) (qe_bin (S := S) op_mulA oq_mulC (qe_lst (qa_cons qe_int qa_nil)) (qe_callB (S := S) call_lenA cq_len rfl B.len_ (by decide +kernel) (qa_cons (qe_var (pv 5)) qa_nil))))
  (qss_cons (qs_while fu hp (qt_pw (qw_and (qt_cmp (S := S) op_gt (oq_cmp cGt) (qe_callB (S := S) (cr_maxA rfl) cq_max rfl B.max_ (by decide +kernel) (qa_cons (qe_var (pv 5)) qa_nil)) qe_int (nomark _)) (qw_and1 (qt_cmp (S := S) op_isN oq_isN (qe_call tk rfl c_first_reached hr rfl (qa_cons (qe_var (pv 7)) (qa_cons (qe_var (pv 2)) qa_nil)) (len_cons (len_cons len_nil))) qe_non (nomark _)))))
  (qss_one (qs_for (t := (.name 8)) hp rfl (qi_range1 rfl B.range_ (qa_cons (qe_callB (S := S) call_lenA cq_len rfl B.len_ (by decide +kernel) (qa_cons (qe_ix rfl (qe_var (pv 0)) qe_int) qa_nil)) qa_nil)) (pg_name (i := 8) sc_gone_down.nd rfl (Or.inl rfl))
  (qss_cons (qs_set (i := 9) sc_gone_down.nd rfl (Or.inl rfl) (qe_ix rfl (qe_var (pv 5)) (qe_var (pv 8))))
  (qss_cons (qs_expr (qe_call tk rfl c_turn_on hr rfl (qa_cons (qe_var (pv 0)) (qa_cons (qe_var (pv 3)) (qa_cons (qe_tup (qa_cons (qe_var (pv 4)) (qa_cons (qe_var (pv 5)) (qa_cons (qe_var (pv 6)) qa_nil)))) (qa_cons (qe_var (pv 8)) (qa_cons (qe_var (pv 9)) qa_nil))))) (len_cons (len_cons (len_cons (len_cons (len_cons len_nil)))))))
  (qss_one (qs_augIx (S := S) rfl (qe_var (pv 7)) (qe_var (pv 8)) (qe_var (pv 9)) ip_add ipq_add)))))))
  (qss_one (qs_ret (qe_tup (qa_cons (qe_callTy (S := S) call_tupleA cq_tuple rfl B.tuple_ (by decide +kernel) (qa_cons (qe_var (pv 7)) qa_nil)) (qa_cons (qe_call tk rfl c_fastened hr rfl (qa_cons (qe_var (pv 4)) (qa_cons (qe_var (pv 5)) (qa_cons (qe_var (pv 6)) qa_nil))) (len_cons (len_cons (len_cons len_nil)))) qa_nil)))))))))))
theorem ok_are_marbles (T : HX.Def S.K mg "are_marbles" s_are_marbles ["thing", "places"]) (B : Bi mg) (c_is_whole : CalQ S P w mg base k "is_whole" ["thing"] m_is_whole) (c_has_parts : CalQ S P w mg base k "has_parts" ["thing", "least", "most"] m_has_parts) : CalQ S P w mg base (k + 1) "are_marbles" ["thing", "places"] m_are_marbles :=
  CalQ.trim (Def.okQ T sc_are_marbles (fun f cdv A outer s H E hr tk hp =>
  (qss_one (qs_ret (qe_and (qe_call tk rfl c_has_parts hr rfl (qa_cons (qe_var (pv 0)) (qa_cons (qe_var (pv 1)) (qa_cons (qe_var (pv 1)) qa_nil))) (len_cons (len_cons (len_cons len_nil)))) (qe_one (qe_callB (S := S) (cr_all rfl) cq_all rfl B.all_ (by decide +kernel) (qa_cons (qe_lc (own := [("many", 2)]) (t := (.name 2)) rfl sc_are_marbles.nd (qi_seq rfl (qe_var (pv 0))) (blkOk_by (N := ["thing", "places", "many"]) (sc := (defScope s_are_marbles)) (by decide +kernel)) (fun _ _ _ _ _ => (pg_name (i := 2) sc_are_marbles.nd rfl (Or.inl rfl))) (fun _ _ _ _ _ => qts_nil) (fun _ _ _ _ _ => (qe_and (qe_call LamX.takes0 rfl c_is_whole hr rfl (qa_cons (qe_var (pv 2)) qa_nil) (len_cons len_nil)) (qe_one (qe_cmp (S := S) op_ge (oq_cmp cGe) (qe_var (pv 2)) qe_int (nomark _)))))) qa_nil))))))))
theorem ok_are_drops (T : HX.Def S.K mg "are_drops" s_are_drops ["board", "thing", "most"]) (B : Bi mg) (c_are_marbles : CalQ S P w mg base k "are_marbles" ["thing", "places"] m_are_marbles) : CalQ S P w mg base (k + 1) "are_drops" ["board", "thing", "most"] m_are_drops :=
  CalQ.trim (Def.okQ T sc_are_drops (fun f cdv A outer s H E hr tk hp =>
  (qss_one (qs_ret (qe_and (qe_call tk rfl c_are_marbles hr rfl (qa_cons (qe_var (pv 1)) (qa_cons (qe_callB (S := S) call_lenA cq_len rfl B.len_ (by decide +kernel) (qa_cons (qe_ix rfl (qe_var (pv 0)) qe_int) qa_nil)) qa_nil)) (len_cons (len_cons len_nil))) (qe_one (qe_cmp (S := S) op_le (oq_cmp cLe) (qe_callB (S := S) (cr_maxA rfl) cq_max rfl B.max_ (by decide +kernel) (qa_cons (qe_var (pv 1)) qa_nil)) (qe_var (pv 2)) (nomark _))))))))
theorem ok_dropped {t_MOST_DROPPED : Tok} {fu : Nat} (T : HX.Def S.K mg "dropped" s_dropped ["board", "stand", "drops"]) (g_MOST_DROPPED : mg "MOST_DROPPED" = some (.int 20 t_MOST_DROPPED)) (R_NoDrops : Err S.K mg "NoDrops" (S.C 7)) (c_gone_down : CalQ S P w mg base k "gone_down" ["board", "moment", "nevers"] (m_gone_down fu)) (c_are_drops : CalQ S P w mg base k "are_drops" ["board", "thing", "most"] m_are_drops) (c_need_stand : CalQ S P w mg base k "need_stand" ["board", "thing"] m_need_stand) (c_need_drain : CalQ S P w mg base k "need_drain" ["board"] m_need_drain) : CalQ S P w mg base (k + 1) "dropped" ["board", "stand", "drops"] (m_dropped fu) :=
  CalQ.trim (Def.okQ T sc_dropped (fun f cdv A outer s H E hr tk hp =>
  (qss_cons (qs_expr (qe_call tk rfl c_need_drain hr rfl (qa_cons (qe_var (pv 0)) qa_nil) (len_cons len_nil)))
  (qss_cons (qs_expr (qe_call tk rfl c_need_stand hr rfl (qa_cons (qe_var (pv 0)) (qa_cons (qe_var (pv 1)) qa_nil)) (len_cons (len_cons len_nil))))
  (qss_cons (qs_if (qt_not (qt_val (qe_call tk rfl c_are_drops hr rfl (qa_cons (qe_var (pv 0)) (qa_cons (qe_var (pv 2)) (qa_cons (qe_gint (x := "MOST_DROPPED") (pe_gint rfl g_MOST_DROPPED)) qa_nil))) (len_cons (len_cons (len_cons len_nil))))))
  (qss_one (qs_err (n := 7) R_NoDrops tk))
  qss_nil)
  (qss_cons (qs_asg (t := (.tup [3, 4])) (qe_call tk rfl c_gone_down hr rfl (qa_cons (qe_var (pv 0)) (qa_cons (qe_tup (qa_cons (qe_var (pv 1)) (qa_cons (qe_var (pv 2)) (qa_cons (qe_bin (S := S) op_mulA oq_mul (qe_tup (qa_cons qe_int qa_nil)) (qe_ix rfl (qe_var (pv 0)) qe_int)) qa_nil)))) (qa_cons (qe_lst qa_nil) qa_nil))) (len_cons (len_cons (len_cons len_nil)))) (pg_tup rfl (pgs_cons (pg_name (i := 3) sc_dropped.nd rfl (Or.inl rfl)) (pgs_cons (pg_name (i := 4) sc_dropped.nd rfl (Or.inl rfl)) pgs_nil))))
  (qss_one (qs_ret (qe_tup (qa_cons (qe_ix rfl (qe_var (pv 4)) qe_int) (qa_cons (qe_var (pv 3)) (qa_cons (qe_ix rfl (qe_var (pv 4)) qe_int) qa_nil))))))))))))
theorem ok__law_by_turns_right {fu : Nat} (T : HX.Def S.K mg "_law_by_turns_right" s__law_by_turns_right ["_law_pen_here"]) (c_dropped : CalQ S P w mg base k "dropped" ["board", "stand", "drops"] (m_dropped fu)) (c__law_draw : CalQ S P w mg base k "_law_draw" ["_law_pen_here", "_law_many"] m_law_draw_321cf4) : CalQ S P w mg base (k + 1) "_law_by_turns_right" ["_law_pen_here"] (m_law_by_turns_right_47bbe0 fu) :=
  CalQ.trim (Def.okQ T sc__law_by_turns_right (fun f cdv A outer s H E hr tk hp =>
  (qss_cons (qs_par3 (i := 1) (j := 2) (l := 3) (by rfl) sc__law_by_turns_right.nd rfl rfl rfl (by decide) (by decide) (by decide) rfl rfl rfl (qa_cons (qe_tup (qa_cons (qe_tup (qa_cons (qe_tup (qa_cons (qe_tup (qa_cons qe_int qa_nil)) (qa_cons (qe_tup (qa_cons qe_int qa_nil)) qa_nil))) qa_nil)) (qa_cons qe_int qa_nil))) (qa_cons (qe_call tk rfl c__law_draw hr rfl (qa_cons (qe_var (pv 0)) (qa_cons qe_int qa_nil)) (len_cons (len_cons len_nil))) (qa_cons (qe_call tk rfl c__law_draw hr rfl (qa_cons (qe_var (pv 0)) (qa_cons qe_int qa_nil)) (len_cons (len_cons len_nil))) qa_nil))) (by rfl))
  (qss_cons (qs_set (i := 4) sc__law_by_turns_right.nd rfl (Or.inl rfl) (qe_bin (S := S) op_fdivW oq_fdiv (qe_bin (S := S) op_sub oq_sub (qe_bin (S := S) op_addA oq_add (qe_var (pv 2)) qe_int) (qe_var (pv 3))) qe_int))
  (qss_one (qs_ret (qe_cmp (S := S) (op_eqD (hu64 hr)) oq_eq (qe_call tk rfl c_dropped hr rfl (qa_cons (qe_var (pv 1)) (qa_cons (qe_tup (qa_cons (qe_var (pv 3)) qa_nil)) (qa_cons (qe_tup (qa_cons (qe_var (pv 2)) qa_nil)) qa_nil))) (len_cons (len_cons (len_cons len_nil)))) (qe_tup (qa_cons (qe_tup (qa_cons (qe_bin (S := S) op_mod oq_mod (qe_bin (S := S) op_addA oq_add (qe_var (pv 3)) (qe_var (pv 2))) qe_int) qa_nil)) (qa_cons (qe_tup (qa_cons (qe_var (pv 2)) qa_nil)) (qa_cons (qe_tup (qa_cons (qe_var (pv 4)) (qa_cons (qe_bin (S := S) op_sub oq_sub (qe_var (pv 2)) (qe_var (pv 4))) qa_nil))) qa_nil)))) (nomark _))))))))
theorem ok__law_double_right {fu : Nat} (T : HX.Def S.K mg "_law_double_right" s__law_double_right ["_law_pen_here"]) (c_round_of : CalQ S P w mg base k "round_of" ["board", "stand", "wheel"] (m_round_of fu)) (c_least_drops : CalQ S P w mg base k "least_drops" ["board", "stand", "other"] (m_least_drops fu)) (c_back : CalQ S P w mg base k "back" ["board", "stand", "wheel"] (m_back fu)) (c_all_again : CalQ S P w mg base k "all_again" ["board"] (m_all_again fu)) (c_how_many : CalQ S P w mg base k "how_many" ["board"] m_how_many) (c_dropped : CalQ S P w mg base k "dropped" ["board", "stand", "drops"] (m_dropped fu)) (c__law_draw : CalQ S P w mg base k "_law_draw" ["_law_pen_here", "_law_many"] m_law_draw_321cf4) : CalQ S P w mg base (k + 1) "_law_double_right" ["_law_pen_here"] (m_law_double_right_e7521f fu) :=
  CalQ.trim (Def.okQ T sc__law_double_right (fun f cdv A outer s H E hr tk hp =>
  (qss_cons (qs_par (i := 1) (j := 2) (by rfl) sc__law_double_right.nd rfl rfl (by decide) rfl rfl (qa_cons (qe_tup (qa_cons (qe_tup (qa_cons (qe_tup (qa_cons (qe_tup (qa_cons qe_int (qa_cons qe_int qa_nil))) qa_nil)) (qa_cons (qe_tup (qa_cons (qe_tup qa_nil) (qa_cons (qe_tup qa_nil) (qa_cons (qe_tup (qa_cons qe_int qa_nil)) qa_nil)))) qa_nil))) (qa_cons qe_int qa_nil))) (qa_cons (qe_call tk rfl c__law_draw hr rfl (qa_cons (qe_var (pv 0)) (qa_cons qe_int qa_nil)) (len_cons (len_cons len_nil))) qa_nil)) (by rfl))
  (qss_cons (qs_if (qt_cmp (S := S) (op_neD (hu64 hr)) oq_ne (qe_call tk rfl c_dropped hr rfl (qa_cons (qe_var (pv 1)) (qa_cons (qe_tup (qa_cons qe_int (qa_cons qe_int qa_nil))) (qa_cons (qe_tup (qa_cons (qe_var (pv 2)) (qa_cons qe_int qa_nil))) qa_nil))) (len_cons (len_cons (len_cons len_nil)))) (qe_tup (qa_cons (qe_tup (qa_cons qe_int (qa_cons (qe_bin (S := S) op_mod oq_mod (qe_bin (S := S) op_mulA oq_mul qe_int (qe_var (pv 2))) qe_int) qa_nil))) (qa_cons (qe_tup (qa_cons (qe_var (pv 2)) (qa_cons (qe_bin (S := S) op_mulA oq_mul qe_int (qe_var (pv 2))) qa_nil))) (qa_cons (qe_tup (qa_cons (qe_bin (S := S) op_fdivW oq_fdiv (qe_bin (S := S) op_mulA oq_mul qe_int (qe_var (pv 2))) qe_int) qa_nil)) qa_nil)))) (nomark _))
  (qss_one (qs_ret qe_bl))
  qss_nil)
  (qss_cons (qs_if (qt_pw (qw_or (qt_cmp (S := S) (op_neD (hu64 hr)) oq_ne (qe_call tk rfl c_how_many hr rfl (qa_cons (qe_var (pv 1)) qa_nil) (len_cons len_nil)) qe_int (nomark _)) (qw_or1 (qt_cmp (S := S) (op_neD (hu64 hr)) oq_ne (qe_call tk rfl c_all_again hr rfl (qa_cons (qe_var (pv 1)) qa_nil) (len_cons len_nil)) (qe_tup (qa_cons (qe_tup (qa_cons qe_int (qa_cons qe_int qa_nil))) (qa_cons (qe_tup (qa_cons qe_int (qa_cons qe_int qa_nil))) (qa_cons (qe_tup (qa_cons qe_int (qa_cons qe_int qa_nil))) qa_nil)))) (nomark _)))))
  (qss_one (qs_ret qe_bl))
  qss_nil)
  (qss_cons (qs_if (qt_cmp (S := S) (op_neD (hu64 hr)) oq_ne (qe_call tk rfl c_back hr rfl (qa_cons (qe_var (pv 1)) (qa_cons (qe_tup (qa_cons qe_int (qa_cons qe_int qa_nil))) (qa_cons qe_int qa_nil))) (len_cons (len_cons (len_cons len_nil)))) (qe_tup (qa_cons qe_int (qa_cons qe_int qa_nil))) (nomark _))
  (qss_one (qs_ret qe_bl))
  qss_nil)
  (qss_one (qs_ret (qe_and (qe_cmp (S := S) (op_eqD (hu64 hr)) oq_eq (qe_call tk rfl c_least_drops hr rfl (qa_cons (qe_var (pv 1)) (qa_cons (qe_tup (qa_cons qe_int (qa_cons qe_int qa_nil))) (qa_cons (qe_tup (qa_cons qe_int (qa_cons qe_int qa_nil))) qa_nil))) (len_cons (len_cons (len_cons len_nil)))) (qe_tup (qa_cons qe_str (qa_cons (qe_tup (qa_cons qe_int (qa_cons qe_int qa_nil))) qa_nil))) (nomark _)) (qe_one (qe_cmp (S := S) (op_eqD (hu64 hr)) oq_eq (qe_call tk rfl c_round_of hr rfl (qa_cons (qe_var (pv 1)) (qa_cons (qe_tup (qa_cons qe_int (qa_cons qe_int qa_nil))) (qa_cons qe_int qa_nil))) (len_cons (len_cons (len_cons len_nil)))) (qe_tup (qa_cons qe_int (qa_cons qe_int qa_nil))) (nomark _))))))))))))
theorem ok__law_itself_right {fu : Nat} (T : HX.Def S.K mg "_law_itself_right" s__law_itself_right ["_law_pen_here"]) (c_least_drops : CalQ S P w mg base k "least_drops" ["board", "stand", "other"] (m_least_drops fu)) (c_round_of : CalQ S P w mg base k "round_of" ["board", "stand", "wheel"] (m_round_of fu)) (c_all_again : CalQ S P w mg base k "all_again" ["board"] (m_all_again fu)) (c_dropped : CalQ S P w mg base k "dropped" ["board", "stand", "drops"] (m_dropped fu)) (c_how_many : CalQ S P w mg base k "how_many" ["board"] m_how_many) (c__law_draw : CalQ S P w mg base k "_law_draw" ["_law_pen_here", "_law_many"] m_law_draw_321cf4) : CalQ S P w mg base (k + 1) "_law_itself_right" ["_law_pen_here"] (m_law_itself_right_050651 fu) :=
  CalQ.trim (Def.okQ T sc__law_itself_right (fun f cdv A outer s H E hr tk hp =>
  (qss_cons (qs_par (i := 1) (j := 2) (by rfl) sc__law_itself_right.nd rfl rfl (by decide) rfl rfl (qa_cons (qe_tup (qa_cons (qe_tup (qa_cons (qe_tup (qa_cons (qe_tup (qa_cons qe_int qa_nil)) (qa_cons (qe_tup (qa_cons qe_int qa_nil)) qa_nil))) qa_nil)) (qa_cons qe_int qa_nil))) (qa_cons (qe_call tk rfl c__law_draw hr rfl (qa_cons (qe_var (pv 0)) (qa_cons qe_int qa_nil)) (len_cons (len_cons len_nil))) qa_nil)) (by rfl))
  (qss_cons (qs_if (qt_pw (qw_or (qt_cmp (S := S) (op_neD (hu64 hr)) oq_ne (qe_call tk rfl c_dropped hr rfl (qa_cons (qe_var (pv 1)) (qa_cons (qe_tup (qa_cons qe_int qa_nil)) (qa_cons (qe_tup (qa_cons (qe_var (pv 2)) qa_nil)) qa_nil))) (len_cons (len_cons (len_cons len_nil)))) (qe_tup (qa_cons (qe_tup (qa_cons qe_int qa_nil)) (qa_cons (qe_tup (qa_cons (qe_bin (S := S) op_mulA oq_mul qe_int (qe_var (pv 2))) qa_nil)) (qa_cons (qe_tup (qa_cons (qe_var (pv 2)) qa_nil)) qa_nil)))) (nomark _)) (qw_or1 (qt_cmp (S := S) (op_neD (hu64 hr)) oq_ne (qe_call tk rfl c_how_many hr rfl (qa_cons (qe_var (pv 1)) qa_nil) (len_cons len_nil)) qe_int (nomark _)))))
  (qss_one (qs_ret qe_bl))
  qss_nil)
  (qss_cons (qs_if (qt_cmp (S := S) (op_neD (hu64 hr)) oq_ne (qe_call tk rfl c_dropped hr rfl (qa_cons (qe_var (pv 1)) (qa_cons (qe_tup (qa_cons qe_int qa_nil)) (qa_cons (qe_tup (qa_cons (qe_bin (S := S) op_addA oq_add (qe_var (pv 2)) qe_int) qa_nil)) qa_nil))) (len_cons (len_cons (len_cons len_nil)))) (qe_tup (qa_cons (qe_tup (qa_cons qe_int qa_nil)) (qa_cons (qe_tup (qa_cons (qe_bin (S := S) op_addA oq_add (qe_bin (S := S) op_mulA oq_mul qe_int (qe_var (pv 2))) qe_int) qa_nil)) (qa_cons (qe_tup (qa_cons (qe_bin (S := S) op_addA oq_add (qe_var (pv 2)) qe_int) qa_nil)) qa_nil)))) (nomark _))
  (qss_one (qs_ret qe_bl))
  qss_nil)
  (qss_cons (qs_if (qt_cmp (S := S) (op_neD (hu64 hr)) oq_ne (qe_call tk rfl c_all_again hr rfl (qa_cons (qe_var (pv 1)) qa_nil) (len_cons len_nil)) (qe_tup (qa_cons (qe_tup (qa_cons qe_int qa_nil)) qa_nil)) (nomark _))
  (qss_one (qs_ret qe_bl))
  qss_nil)
  (qss_cons (qs_if (qt_pw (qw_or (qt_cmp (S := S) (op_neD (hu64 hr)) oq_ne (qe_call tk rfl c_round_of hr rfl (qa_cons (qe_var (pv 1)) (qa_cons (qe_tup (qa_cons qe_int qa_nil)) (qa_cons qe_int qa_nil))) (len_cons (len_cons (len_cons len_nil)))) (qe_tup (qa_cons qe_int (qa_cons qe_int qa_nil))) (nomark _)) (qw_or1 (qt_cmp (S := S) (op_neD (hu64 hr)) oq_ne (qe_call tk rfl c_least_drops hr rfl (qa_cons (qe_var (pv 1)) (qa_cons (qe_tup (qa_cons qe_int qa_nil)) (qa_cons (qe_tup (qa_cons qe_int qa_nil)) qa_nil))) (len_cons (len_cons (len_cons len_nil)))) (qe_tup (qa_cons qe_str (qa_cons (qe_tup (qa_cons (qe_tup (qa_cons qe_int qa_nil)) qa_nil)) qa_nil))) (nomark _)))))
  (qss_one (qs_ret qe_bl))
  qss_nil)
  (qss_cons (qs_if (qt_cmp (S := S) (op_neD (hu64 hr)) oq_ne (qe_call tk rfl c_least_drops hr rfl (qa_cons (qe_var (pv 1)) (qa_cons (qe_tup (qa_cons qe_int qa_nil)) (qa_cons (qe_tup (qa_cons qe_int qa_nil)) qa_nil))) (len_cons (len_cons (len_cons len_nil)))) (qe_tup (qa_cons qe_str (qa_cons (qe_tup (qa_cons qe_int qa_nil)) qa_nil))) (nomark _))
  (qss_one (qs_ret qe_bl))
  qss_nil)
  (qss_one (qs_ret (qe_cmp (S := S) (op_eqD (hu64 hr)) oq_eq (qe_call tk rfl c_least_drops hr rfl (qa_cons (qe_var (pv 1)) (qa_cons (qe_tup (qa_cons qe_int qa_nil)) (qa_cons (qe_tup (qa_cons qe_int qa_nil)) qa_nil))) (len_cons (len_cons (len_cons len_nil)))) (qe_tup (qa_cons qe_str (qa_cons (qe_tup (qa_cons qe_int qa_nil)) qa_nil))) (nomark _))))))))))))
theorem ok__law_two_right {fu : Nat} (T : HX.Def S.K mg "_law_two_right" s__law_two_right ["_law_pen_here"]) (c_back : CalQ S P w mg base k "back" ["board", "stand", "wheel"] (m_back fu)) (c_least_drops : CalQ S P w mg base k "least_drops" ["board", "stand", "other"] (m_least_drops fu)) (c_round_of : CalQ S P w mg base k "round_of" ["board", "stand", "wheel"] (m_round_of fu)) (c_how_many : CalQ S P w mg base k "how_many" ["board"] m_how_many) (c_dropped : CalQ S P w mg base k "dropped" ["board", "stand", "drops"] (m_dropped fu)) (c__law_draw : CalQ S P w mg base k "_law_draw" ["_law_pen_here", "_law_many"] m_law_draw_321cf4) : CalQ S P w mg base (k + 1) "_law_two_right" ["_law_pen_here"] (m_law_two_right_14dad7 fu) :=
  CalQ.trim (Def.okQ T sc__law_two_right (fun f cdv A outer s H E hr tk hp =>
  (qss_cons (qs_par (i := 1) (j := 2) (by rfl) sc__law_two_right.nd rfl rfl (by decide) rfl rfl (qa_cons (qe_tup (qa_cons (qe_tup (qa_cons (qe_tup (qa_cons (qe_tup (qa_cons qe_int qa_nil)) (qa_cons (qe_tup (qa_cons qe_int qa_nil)) qa_nil))) (qa_cons (qe_tup (qa_cons (qe_tup qa_nil) (qa_cons (qe_tup (qa_cons qe_int (qa_cons qe_int qa_nil))) qa_nil))) qa_nil))) (qa_cons qe_int qa_nil))) (qa_cons (qe_call tk rfl c__law_draw hr rfl (qa_cons (qe_var (pv 0)) (qa_cons qe_int qa_nil)) (len_cons (len_cons len_nil))) qa_nil)) (by rfl))
  (qss_cons (qs_asg (t := (.tup [3, 4, 5])) (qe_call tk rfl c_dropped hr rfl (qa_cons (qe_var (pv 1)) (qa_cons (qe_tup (qa_cons qe_int (qa_cons qe_int qa_nil))) (qa_cons (qe_tup (qa_cons (qe_bin (S := S) op_mulA oq_mul qe_int (qe_var (pv 2))) (qa_cons qe_int qa_nil))) qa_nil))) (len_cons (len_cons (len_cons len_nil)))) (pg_tup rfl (pgs_cons (pg_name (i := 3) sc__law_two_right.nd rfl (Or.inl rfl)) (pgs_cons (pg_name (i := 4) sc__law_two_right.nd rfl (Or.inl rfl)) (pgs_cons (pg_name (i := 5) sc__law_two_right.nd rfl (Or.inl rfl)) pgs_nil)))))
  (qss_cons (qs_if (qt_cmp (S := S) (op_neD (hu64 hr)) oq_ne (qe_tup (qa_cons (qe_var (pv 3)) (qa_cons (qe_var (pv 4)) (qa_cons (qe_var (pv 5)) qa_nil)))) (qe_tup (qa_cons (qe_tup (qa_cons qe_int (qa_cons qe_int qa_nil))) (qa_cons (qe_tup (qa_cons (qe_bin (S := S) op_mulA oq_mul qe_int (qe_var (pv 2))) (qa_cons (qe_bin (S := S) op_mulA oq_mul qe_int (qe_var (pv 2))) qa_nil))) (qa_cons (qe_tup (qa_cons (qe_bin (S := S) op_mulA oq_mul qe_int (qe_var (pv 2))) (qa_cons (qe_bin (S := S) op_mulA oq_mul qe_int (qe_var (pv 2))) qa_nil))) qa_nil)))) (nomark _))
  (qss_one (qs_ret qe_bl))
  qss_nil)
  (qss_cons (qs_if (qt_pw (qw_or (qt_cmp (S := S) (op_neD (hu64 hr)) oq_ne (qe_call tk rfl c_how_many hr rfl (qa_cons (qe_var (pv 1)) qa_nil) (len_cons len_nil)) qe_int (nomark _)) (qw_or (qt_cmp (S := S) (op_neD (hu64 hr)) oq_ne (qe_call tk rfl c_round_of hr rfl (qa_cons (qe_var (pv 1)) (qa_cons (qe_tup (qa_cons qe_int (qa_cons qe_int qa_nil))) (qa_cons qe_int qa_nil))) (len_cons (len_cons (len_cons len_nil)))) (qe_tup (qa_cons qe_int (qa_cons qe_int qa_nil))) (nomark _)) (qw_or1 (qt_cmp (S := S) (op_neD (hu64 hr)) oq_ne (qe_call tk rfl c_round_of hr rfl (qa_cons (qe_var (pv 1)) (qa_cons (qe_tup (qa_cons qe_int (qa_cons qe_int qa_nil))) (qa_cons qe_int qa_nil))) (len_cons (len_cons (len_cons len_nil)))) (qe_tup (qa_cons qe_int (qa_cons qe_int qa_nil))) (nomark _))))))
  (qss_one (qs_ret qe_bl))
  qss_nil)
  (qss_one (qs_ret (qe_and (qe_cmp (S := S) (op_eqD (hu64 hr)) oq_eq (qe_call tk rfl c_least_drops hr rfl (qa_cons (qe_var (pv 1)) (qa_cons (qe_tup (qa_cons qe_int (qa_cons qe_int qa_nil))) (qa_cons (qe_tup (qa_cons qe_int (qa_cons qe_int qa_nil))) qa_nil))) (len_cons (len_cons (len_cons len_nil)))) (qe_tup (qa_cons qe_str (qa_cons (qe_tup (qa_cons qe_int (qa_cons qe_int qa_nil))) qa_nil))) (nomark _)) (qe_one (qe_cmp (S := S) (op_eqD (hu64 hr)) oq_eq (qe_call tk rfl c_back hr rfl (qa_cons (qe_var (pv 1)) (qa_cons (qe_tup (qa_cons qe_int (qa_cons qe_int qa_nil))) (qa_cons qe_int qa_nil))) (len_cons (len_cons (len_cons len_nil)))) (qe_tup (qa_cons qe_int (qa_cons qe_int qa_nil))) (nomark _))))))))))))
theorem ok_law {fu : Nat} {f : Addr} {fd : FuncData} (F : Fun S.K "law" "law" s_law f fd) (B : Bi mg) (c__law_two_right : CalQ S P w mg base k "_law_two_right" ["_law_pen_here"] (m_law_two_right_14dad7 fu)) (c__law_itself_right : CalQ S P w mg base k "_law_itself_right" ["_law_pen_here"] (m_law_itself_right_050651 fu)) (c__law_double_right : CalQ S P w mg base k "_law_double_right" ["_law_pen_here"] (m_law_double_right_e7521f fu)) (c__law_by_turns_right : CalQ S P w mg base k "_law_by_turns_right" ["_law_pen_here"] (m_law_by_turns_right_47bbe0 fu)) (c__law_heap_right : CalQ S P w mg base k "_law_heap_right" ["_law_pen_here"] (m_law_heap_right_7e4e6a fu)) (c__law_pen : CalQ S P w mg base k "_law_pen" ["_law_cell"] m_law_pen_579b16) (c__law_cell_at : CalQ S P w mg base k "_law_cell_at" ["_law_script", "_law_k"] m_law_cell_at_e50a56) : FnG P w S.K mg base (k + 1) f fd ["_law_script"] (spG S 1 (m_law_d1ab57 fu)) :=
  Fun.okGQ F sc_law (fun cdv A outer s H E en hr =>
  (qss_cons (qs_for (t := (.name 1)) PassesOwn.never rfl (qi_range1 rfl B.range_ (qa_cons (qe_callB (S := S) (call_max2 rfl) cq_max2 rfl B.max_ (by decide +kernel) (qa_cons qe_int (qa_cons (qe_callB (S := S) (call_min2 rfl) cq_min2 rfl B.min_ (by decide +kernel) (qa_cons (qe_callB (S := S) call_lenA cq_len rfl B.len_ (by decide +kernel) (qa_cons (qe_var (pv 0)) qa_nil)) (qa_cons qe_int qa_nil))) qa_nil))) qa_nil)) (pg_name (i := 1) sc_law.nd rfl (Or.inl rfl))
  (qss_cons (qs_set (i := 2) sc_law.nd rfl (Or.inl rfl) (qe_call LamX.takes0 rfl c__law_pen hr rfl (qa_cons (qe_call LamX.takes0 rfl c__law_cell_at hr rfl (qa_cons (qe_var (pv 0)) (qa_cons (qe_var (pv 1)) qa_nil)) (len_cons (len_cons len_nil))) qa_nil) (len_cons len_nil)))
  (qss_one (qs_for (t := (.name 3)) PassesOwn.never rfl (qi_range1 rfl B.range_ (qa_cons qe_int qa_nil)) (pg_name (i := 3) sc_law.nd rfl (Or.inl rfl))
  (qss_cons (qs_if (qt_pw (qw_or (qt_not (qt_val (qe_call LamX.takes0 rfl c__law_heap_right hr rfl (qa_cons (qe_var (pv 2)) qa_nil) (len_cons len_nil)))) (qw_or (qt_not (qt_val (qe_call LamX.takes0 rfl c__law_by_turns_right hr rfl (qa_cons (qe_var (pv 2)) qa_nil) (len_cons len_nil)))) (qw_or1 (qt_not (qt_val (qe_call LamX.takes0 rfl c__law_double_right hr rfl (qa_cons (qe_var (pv 2)) qa_nil) (len_cons len_nil))))))))
  (qss_one (qs_ret qe_bl))
  qss_nil)
  (qss_one (qs_if (qt_pw (qw_or (qt_not (qt_val (qe_call LamX.takes0 rfl c__law_itself_right hr rfl (qa_cons (qe_var (pv 2)) qa_nil) (len_cons len_nil)))) (qw_or1 (qt_not (qt_val (qe_call LamX.takes0 rfl c__law_two_right hr rfl (qa_cons (qe_var (pv 2)) qa_nil) (len_cons len_nil)))))))
  (qss_one (qs_ret qe_bl))
  qss_nil)))))))
  (qss_one (qs_ret qe_bl))))
theorem law_all {t_MOST_WHEELS : Tok} {t_MOST_CUPS : Tok} {t_MOST_STEPS : Tok} {t_MOST_ENDS : Tok} {t_MOST_DROPPED : Tok} {t_MOST_FAR : Tok} {fu : Nat} {f : Addr} {fd : FuncData} (F : Fun S.K "law" "law" s_law f fd)  (B : Bi mg) (B2 : Bi2 mg) (B3 : Bi3 mg) (B5 : Bi5 mg) (g_MOST_WHEELS : mg "MOST_WHEELS" = some (.int 6 t_MOST_WHEELS)) (g_MOST_CUPS : mg "MOST_CUPS" = some (.int 4 t_MOST_CUPS)) (g_MOST_STEPS : mg "MOST_STEPS" = some (.int 4 t_MOST_STEPS)) (g_MOST_ENDS : mg "MOST_ENDS" = some (.int 3 t_MOST_ENDS)) (g_MOST_DROPPED : mg "MOST_DROPPED" = some (.int 20 t_MOST_DROPPED)) (g_MOST_FAR : mg "MOST_FAR" = some (.int 1000000000000 t_MOST_FAR)) (R_NoBoard : Err S.K mg "NoBoard" (S.C 0)) (R_NoStand : Err S.K mg "NoStand" (S.C 1)) (R_NoWheel : Err S.K mg "NoWheel" (S.C 3)) (R_NoDrain : Err S.K mg "NoDrain" (S.C 6)) (R_NoDrops : Err S.K mg "NoDrops" (S.C 7)) (R_NoAgain : Err S.K mg "NoAgain" (S.C 8)) (R_NoNumber : Err S.K mg "NoNumber" (S.C 9))
    (d__law_pen : HX.Def S.K mg "_law_pen" s__law_pen ["_law_cell"]) (d__law_cell_at : HX.Def S.K mg "_law_cell_at" s__law_cell_at ["_law_script", "_law_k"]) (d__law_draw : HX.Def S.K mg "_law_draw" s__law_draw ["_law_pen_here", "_law_many"]) (d_has_parts : HX.Def S.K mg "has_parts" s_has_parts ["thing", "least", "most"]) (d_is_whole : HX.Def S.K mg "is_whole" s_is_whole ["thing"]) (d_is_within : HX.Def S.K mg "is_within" s_is_within ["thing", "least", "most"]) (d_is_step : HX.Def S.K mg "is_step" s_is_step ["thing", "ends"]) (d_is_wheel : HX.Def S.K mg "is_wheel" s_is_wheel ["thing", "ends"]) (d_is_board : HX.Def S.K mg "is_board" s_is_board ["thing"]) (d_need_board : HX.Def S.K mg "need_board" s_need_board ["thing"]) (d_with_nought : HX.Def S.K mg "with_nought" s_with_nought ["line", "other", "place", "number"]) (d_solved : HX.Def S.K mg "solved" s_solved ["table"]) (d_turn_ends : HX.Def S.K mg "turn_ends" s_turn_ends ["board"]) (d_turn_table : HX.Def S.K mg "turn_table" s_turn_table ["board", "group"]) (d_solved_board : HX.Def S.K mg "solved_board" s_solved_board ["board"]) (d_need_drain : HX.Def S.K mg "need_drain" s_need_drain ["board"]) (d_is_stand : HX.Def S.K mg "is_stand" s_is_stand ["board", "thing"]) (d_need_stand : HX.Def S.K mg "need_stand" s_need_stand ["board", "thing"]) (d_is_wheel_number : HX.Def S.K mg "is_wheel_number" s_is_wheel_number ["board", "thing"]) (d_need_wheel : HX.Def S.K mg "need_wheel" s_need_wheel ["board", "thing"]) (d_begun : HX.Def S.K mg "begun" s_begun ["board", "stand", "wheel"]) (d_one_more : HX.Def S.K mg "one_more" s_one_more ["numbers", "place"]) (d_together : HX.Def S.K mg "together" s_together ["some", "others"]) (d_fall : HX.Def S.K mg "fall" s_fall ["board", "known", "stand", "wheel"]) (d_path_of : HX.Def S.K mg "path_of" s_path_of ["board", "known", "stand", "wheel"]) (d_cups_along : HX.Def S.K mg "cups_along" s_cups_along ["board", "known", "stands", "wheel"]) (d_far_fall : HX.Def S.K mg "far_fall" s_far_fall ["board", "known", "stand", "wheel", "many"]) (d_led_far : HX.Def S.K mg "led_far" s_led_far ["board", "stand", "wheel", "many"]) (d_stands_in_all : HX.Def S.K mg "stands_in_all" s_stands_in_all ["board"]) (d_need_few_stands : DefD S.K mg "need_few_stands" s_need_few_stands [V.int 600] []) (d_need_two_stands : HX.Def S.K mg "need_two_stands" s_need_two_stands ["board", "stand", "other"]) (d_next_ways : HX.Def S.K mg "next_ways" s_next_ways ["board", "known", "ways", "fresh"]) (d_least_drops : HX.Def S.K mg "least_drops" s_least_drops ["board", "stand", "other"]) (d_come_to : HX.Def S.K mg "come_to" s_come_to ["board", "known", "stand"]) (d_again_stands : HX.Def S.K mg "again_stands" s_again_stands ["board", "known"]) (d_all_again : HX.Def S.K mg "all_again" s_all_again ["board"]) (d_how_many : HX.Def S.K mg "how_many" s_how_many ["board"]) (d_round_of : HX.Def S.K mg "round_of" s_round_of ["board", "stand", "wheel"]) (d_back : HX.Def S.K mg "back" s_back ["board", "stand", "wheel"]) (d__law_heap_right : HX.Def S.K mg "_law_heap_right" s__law_heap_right ["_law_pen_here"]) (d_loosened : HX.Def S.K mg "loosened" s_loosened ["moment"]) (d_fastened : HX.Def S.K mg "fastened" s_fastened ["stand", "waiting", "held"]) (d_first_reached : HX.Def S.K mg "first_reached" s_first_reached ["counts", "nevers"]) (d_handle_marble : HX.Def S.K mg "handle_marble" s_handle_marble ["board", "parts", "wheel"]) (d_turn_on : HX.Def S.K mg "turn_on" s_turn_on ["board", "ends", "parts", "wheel", "many"]) (d_gone_down : HX.Def S.K mg "gone_down" s_gone_down ["board", "moment", "nevers"]) (d_are_marbles : HX.Def S.K mg "are_marbles" s_are_marbles ["thing", "places"]) (d_are_drops : HX.Def S.K mg "are_drops" s_are_drops ["board", "thing", "most"]) (d_dropped : HX.Def S.K mg "dropped" s_dropped ["board", "stand", "drops"]) (d__law_by_turns_right : HX.Def S.K mg "_law_by_turns_right" s__law_by_turns_right ["_law_pen_here"]) (d__law_double_right : HX.Def S.K mg "_law_double_right" s__law_double_right ["_law_pen_here"]) (d__law_itself_right : HX.Def S.K mg "_law_itself_right" s__law_itself_right ["_law_pen_here"]) (d__law_two_right : HX.Def S.K mg "_law_two_right" s__law_two_right ["_law_pen_here"]) : FnG P w S.K mg base 12 f fd ["_law_script"] (spG S 1 (m_law_d1ab57 fu)) := by
  have c__law_pen := ok__law_pen (S := S) (P := P) (w := w) (base := base) (k := 0) d__law_pen B
  have c__law_cell_at := ok__law_cell_at (S := S) (P := P) (w := w) (base := base) (k := 0) d__law_cell_at B
  have c__law_draw := ok__law_draw (S := S) (P := P) (w := w) (base := base) (k := 0) d__law_draw 
  have c_has_parts := ok_has_parts (S := S) (P := P) (w := w) (base := base) (k := 0) d_has_parts B
  have c_is_whole := ok_is_whole (S := S) (P := P) (w := w) (base := base) (k := 0) d_is_whole B
  have c_is_within := ok_is_within (S := S) (P := P) (w := w) (base := base) (k := 1) d_is_within c_is_whole
  have c_is_step := ok_is_step (S := S) (P := P) (w := w) (base := base) (k := 2) d_is_step B g_MOST_ENDS c_is_within (c_has_parts.mono (by decide))
  have c_is_wheel := ok_is_wheel (S := S) (P := P) (w := w) (base := base) (k := 3) d_is_wheel B g_MOST_STEPS c_is_step (c_has_parts.mono (by decide))
  have c_is_board := ok_is_board (S := S) (P := P) (w := w) (base := base) (k := 4) d_is_board B g_MOST_CUPS g_MOST_WHEELS c_is_wheel (c_is_within.mono (by decide)) (c_has_parts.mono (by decide))
  have c_need_board := ok_need_board (S := S) (P := P) (w := w) (base := base) (k := 5) d_need_board R_NoBoard c_is_board
  have c_with_nought := ok_with_nought (S := S) (P := P) (w := w) (base := base) (k := 0) d_with_nought B2
  have c_solved := ok_solved (S := S) (P := P) (w := w) (base := base) (k := 1) d_solved B B2 c_with_nought
  have c_turn_ends := ok_turn_ends (S := S) (P := P) (w := w) (base := base) (k := 0) d_turn_ends B
  have c_turn_table := ok_turn_table (S := S) (P := P) (w := w) (base := base) (k := 1) d_turn_table B c_turn_ends
  have c_solved_board := ok_solved_board (S := S) (P := P) (w := w) (base := base) (k := 2) d_solved_board B c_solved c_turn_table
  have c_need_drain := ok_need_drain (S := S) (P := P) (w := w) (base := base) (k := 6) d_need_drain R_NoDrain (c_solved_board.mono (by decide)) c_need_board
  have c_is_stand := ok_is_stand (S := S) (P := P) (w := w) (base := base) (k := 6) d_is_stand B B2 (c_is_within.mono (by decide)) (c_has_parts.mono (by decide)) c_need_board
  have c_need_stand := ok_need_stand (S := S) (P := P) (w := w) (base := base) (k := 7) d_need_stand R_NoStand c_is_stand
  have c_is_wheel_number := ok_is_wheel_number (S := S) (P := P) (w := w) (base := base) (k := 2) d_is_wheel_number B c_is_within
  have c_need_wheel := ok_need_wheel (S := S) (P := P) (w := w) (base := base) (k := 3) d_need_wheel R_NoWheel c_is_wheel_number
  have c_begun := ok_begun (S := S) (P := P) (w := w) (base := base) (k := 0) d_begun B
  have c_one_more := ok_one_more (S := S) (P := P) (w := w) (base := base) (k := 0) d_one_more 
  have c_together := ok_together (S := S) (P := P) (w := w) (base := base) (k := 0) d_together B B2
  have c_fall := ok_fall (S := S) (P := P) (w := w) (base := base) (k := 1) (fu := fu) d_fall B c_one_more c_together c_begun
  have c_path_of := ok_path_of (S := S) (P := P) (w := w) (base := base) (k := 2) (fu := fu) d_path_of B c_fall
  have c_cups_along := ok_cups_along (S := S) (P := P) (w := w) (base := base) (k := 2) (fu := fu) d_cups_along (c_together.mono (by decide)) c_fall
  have c_far_fall := ok_far_fall (S := S) (P := P) (w := w) (base := base) (k := 3) (fu := fu) d_far_fall B B2 B5 c_cups_along c_path_of
  have c_led_far := ok_led_far (S := S) (P := P) (w := w) (base := base) (k := 8) (fu := fu) d_led_far g_MOST_FAR R_NoNumber (c_far_fall.mono (by decide)) (c_is_within.mono (by decide)) (c_need_wheel.mono (by decide)) c_need_stand (c_need_drain.mono (by decide))
  have c_stands_in_all := ok_stands_in_all (S := S) (P := P) (w := w) (base := base) (k := 0) d_stands_in_all B
  have c_need_few_stands := ok_need_few_stands (S := S) (P := P) (w := w) (base := base) (k := 1) d_need_few_stands c_stands_in_all
  have c_need_two_stands := ok_need_two_stands (S := S) (P := P) (w := w) (base := base) (k := 8) d_need_two_stands (c_need_few_stands.mono (by decide)) c_need_stand (c_need_drain.mono (by decide))
  have c_next_ways := ok_next_ways (S := S) (P := P) (w := w) (base := base) (k := 2) (fu := fu) d_next_ways B (c_one_more.mono (by decide)) c_fall
  have c_least_drops := ok_least_drops (S := S) (P := P) (w := w) (base := base) (k := 9) (fu := fu) d_least_drops B B3 (c_next_ways.mono (by decide)) c_need_two_stands
  have c_come_to := ok_come_to (S := S) (P := P) (w := w) (base := base) (k := 2) (fu := fu) d_come_to B B3 c_fall
  have c_again_stands := ok_again_stands (S := S) (P := P) (w := w) (base := base) (k := 3) (fu := fu) d_again_stands B c_come_to (c_stands_in_all.mono (by decide)) (c_fall.mono (by decide))
  have c_all_again := ok_all_again (S := S) (P := P) (w := w) (base := base) (k := 7) (fu := fu) d_all_again (c_again_stands.mono (by decide)) (c_need_few_stands.mono (by decide)) c_need_drain
  have c_how_many := ok_how_many (S := S) (P := P) (w := w) (base := base) (k := 7) d_how_many (c_solved_board.mono (by decide)) c_need_drain
  have c_round_of := ok_round_of (S := S) (P := P) (w := w) (base := base) (k := 8) (fu := fu) d_round_of B (c_path_of.mono (by decide)) (c_need_wheel.mono (by decide)) c_need_stand (c_need_drain.mono (by decide))
  have c_back := ok_back (S := S) (P := P) (w := w) (base := base) (k := 8) (fu := fu) d_back R_NoAgain (c_path_of.mono (by decide)) (c_again_stands.mono (by decide)) (c_need_few_stands.mono (by decide)) (c_need_wheel.mono (by decide)) c_need_stand (c_need_drain.mono (by decide))
  have c__law_heap_right := ok__law_heap_right (S := S) (P := P) (w := w) (base := base) (k := 10) (fu := fu) d__law_heap_right B c_least_drops (c_back.mono (by decide)) (c_round_of.mono (by decide)) (c_led_far.mono (by decide)) (c_how_many.mono (by decide)) (c_all_again.mono (by decide)) (c__law_draw.mono (by decide))
  have c_loosened := ok_loosened (S := S) (P := P) (w := w) (base := base) (k := 0) d_loosened B
  have c_fastened := ok_fastened (S := S) (P := P) (w := w) (base := base) (k := 0) d_fastened B
  have c_first_reached := ok_first_reached (S := S) (P := P) (w := w) (base := base) (k := 0) d_first_reached B B2
  have c_handle_marble := ok_handle_marble (S := S) (P := P) (w := w) (base := base) (k := 0) d_handle_marble B
  have c_turn_on := ok_turn_on (S := S) (P := P) (w := w) (base := base) (k := 1) d_turn_on B B2 B5 c_handle_marble
  have c_gone_down := ok_gone_down (S := S) (P := P) (w := w) (base := base) (k := 2) (fu := fu) d_gone_down B (c_fastened.mono (by decide)) (c_first_reached.mono (by decide)) c_turn_on (c_loosened.mono (by decide)) (c_turn_ends.mono (by decide))
  have c_are_marbles := ok_are_marbles (S := S) (P := P) (w := w) (base := base) (k := 1) d_are_marbles B c_is_whole c_has_parts
  have c_are_drops := ok_are_drops (S := S) (P := P) (w := w) (base := base) (k := 2) d_are_drops B c_are_marbles
  have c_dropped := ok_dropped (S := S) (P := P) (w := w) (base := base) (k := 8) (fu := fu) d_dropped g_MOST_DROPPED R_NoDrops (c_gone_down.mono (by decide)) (c_are_drops.mono (by decide)) c_need_stand (c_need_drain.mono (by decide))
  have c__law_by_turns_right := ok__law_by_turns_right (S := S) (P := P) (w := w) (base := base) (k := 9) (fu := fu) d__law_by_turns_right c_dropped (c__law_draw.mono (by decide))
  have c__law_double_right := ok__law_double_right (S := S) (P := P) (w := w) (base := base) (k := 10) (fu := fu) d__law_double_right (c_round_of.mono (by decide)) c_least_drops (c_back.mono (by decide)) (c_all_again.mono (by decide)) (c_how_many.mono (by decide)) (c_dropped.mono (by decide)) (c__law_draw.mono (by decide))
  have c__law_itself_right := ok__law_itself_right (S := S) (P := P) (w := w) (base := base) (k := 10) (fu := fu) d__law_itself_right c_least_drops (c_round_of.mono (by decide)) (c_all_again.mono (by decide)) (c_dropped.mono (by decide)) (c_how_many.mono (by decide)) (c__law_draw.mono (by decide))
  have c__law_two_right := ok__law_two_right (S := S) (P := P) (w := w) (base := base) (k := 10) (fu := fu) d__law_two_right (c_back.mono (by decide)) c_least_drops (c_round_of.mono (by decide)) (c_how_many.mono (by decide)) (c_dropped.mono (by decide)) (c__law_draw.mono (by decide))
  exact ok_law (S := S) (P := P) (w := w) (base := base) (k := 11) (fu := fu) F B c__law_two_right c__law_itself_right c__law_double_right (c__law_by_turns_right.mono (by decide)) c__law_heap_right (c__law_pen.mono (by decide)) (c__law_cell_at.mono (by decide))
end
end Q38
set_option maxRecDepth 100000
set_option maxHeartbeats 1000000
namespace QX
open PySem PySem.Spec PyProof PyProof.Rows L2 HX
def H380 (fu : Nat) : FS := (sPar3 1 2 3 (fCons (fBin gAdd (fC (.int 1)) (fCall m_law_draw_321cf4 (fCons (fVar 0) (fCons (fC (.int 4)) fNil)))) (fCons (fCall m_law_draw_321cf4 (fCons (fVar 0) (fCons (fBin gPow (fC (.int 10)) (fC (.int 12))) fNil))) (fCons (fCall m_law_draw_321cf4 (fCons (fVar 0) (fCons (fC (.int 4)) fNil))) fNil))))
def H381 (fu : Nat) : FS := (sPar 4 3 (fCons (fTup (fCons (fTup (fCons (fBin gAdd (fBin gMul (fTup (fCons (fTup fNil) fNil)) (fBin gSub (fVar 1) (fC (.int 1)))) (fTup (fCons (fTup (fCons (fC (.int 1)) (fCons (fC (.int 1)) fNil))) fNil))) fNil)) (fCons (fC (.int 1)) fNil))) (fCons (fBin gMod (fVar 3) (fVar 1)) fNil)))
def H382 (fu : Nat) : FS := (sIf (fOrT (fTest (fBin (gEq true) (fCall (m_all_again fu) (fCons (fVar 4) fNil)) (fCall gTuple (fCons (fTrim (fCompC (fIt gRange1 (fCons (fVar 1) fNil)) [5] (.name 5) fYes (fTup (fCons (fVar 5) fNil)))) fNil)))) (fTest (fBin (gEq true) (fCall m_how_many (fCons (fVar 4) fNil)) (fVar 1)))) (sRet (fC (.bl false))) sNext)
def H383 (fu : Nat) : FS := (sIf (fTest (fBin (gEq true) (fCall (m_led_far fu) (fCons (fVar 4) (fCons (fTup (fCons (fVar 3) fNil)) (fCons (fC (.int 0)) (fCons (fVar 2) fNil))))) (fTup (fCons (fTup (fCons (fBin gMod (fBin gAdd (fVar 3) (fVar 2)) (fVar 1)) fNil)) (fCons (fTup (fCons (fBin gMul (fC (.int 2)) (fBin gFdiv (fBin gAdd (fVar 3) (fVar 2)) (fVar 1))) fNil)) fNil))))) (sRet (fC (.bl false))) sNext)
def H384 (fu : Nat) : FS := (sIf (fOrT (fTest (fBin (gEq true) (fCall (m_round_of fu) (fCons (fVar 4) (fCons (fTup (fCons (fVar 3) fNil)) (fCons (fC (.int 0)) fNil)))) (fTup (fCons (fC (.int 0)) (fCons (fVar 1) fNil))))) (fTest (fBin (gEq true) (fCall (m_back fu) (fCons (fVar 4) (fCons (fTup (fCons (fC (.int 0)) fNil)) (fCons (fC (.int 0)) fNil)))) (fTup (fCons (fBin gSub (fVar 1) (fC (.int 1))) fNil))))) (sRet (fC (.bl false))) sNext)
def H385 (fu : Nat) : FS := (sRet (fBin (gEq false) (fCall (m_least_drops fu) (fCons (fVar 4) (fCons (fTup (fCons (fVar 3) fNil)) (fCons (fTup (fCons (fC (.int 0)) fNil)) fNil)))) (fTup (fCons (fC (.str "drops")) (fCons (fTup (fCons (fBin gMod (fBin gSub (fVar 1) (fVar 3)) (fVar 1)) fNil)) fNil)))))
theorem H38_body {fu : Nat} : b_law_heap_right_7e4e6a fu = (sSeq (H380 fu) (sSeq (H381 fu) (sSeq (H382 fu) (sSeq (H383 fu) (sSeq (H384 fu) (H385 fu)))))) := rfl
def Y380 (fu : Nat) : FS := (sPar3 1 2 3 (fCons (fTup (fCons (fTup (fCons (fTup (fCons (fTup (fCons (fC (.int 1)) fNil)) (fCons (fTup (fCons (fC (.int 2)) fNil)) fNil))) fNil)) (fCons (fC (.int 2)) fNil))) (fCons (fCall m_law_draw_321cf4 (fCons (fVar 0) (fCons (fC (.int 21)) fNil))) (fCons (fCall m_law_draw_321cf4 (fCons (fVar 0) (fCons (fC (.int 2)) fNil))) fNil))))
def Y381 (fu : Nat) : FS := (sSet 4 (fBin gFdiv (fBin gSub (fBin gAdd (fVar 2) (fC (.int 1))) (fVar 3)) (fC (.int 2))))
def Y382 (fu : Nat) : FS := (sRet (fBin (gEq false) (fCall (m_dropped fu) (fCons (fVar 1) (fCons (fTup (fCons (fVar 3) fNil)) (fCons (fTup (fCons (fVar 2) fNil)) fNil)))) (fTup (fCons (fTup (fCons (fBin gMod (fBin gAdd (fVar 3) (fVar 2)) (fC (.int 2))) fNil)) (fCons (fTup (fCons (fVar 2) fNil)) (fCons (fTup (fCons (fVar 4) (fCons (fBin gSub (fVar 2) (fVar 4)) fNil))) fNil))))))
theorem Y38_body {fu : Nat} : b_law_by_turns_right_47bbe0 fu = (sSeq (Y380 fu) (sSeq (Y381 fu) (Y382 fu))) := rfl
def D380 (fu : Nat) : FS := (sPar 1 2 (fCons (fTup (fCons (fTup (fCons (fTup (fCons (fTup (fCons (fC (.int 1)) (fCons (fC (.int 1)) fNil))) fNil)) (fCons (fTup (fCons (fTup fNil) (fCons (fTup fNil) (fCons (fTup (fCons (fC (.int 2)) fNil)) fNil)))) fNil))) (fCons (fC (.int 1)) fNil))) (fCons (fCall m_law_draw_321cf4 (fCons (fVar 0) (fCons (fC (.int 21)) fNil))) fNil)))
def D381 (fu : Nat) : FS := (sIf (fTest (fBin (gEq true) (fCall (m_dropped fu) (fCons (fVar 1) (fCons (fTup (fCons (fC (.int 0)) (fCons (fC (.int 0)) fNil))) (fCons (fTup (fCons (fVar 2) (fCons (fC (.int 0)) fNil))) fNil)))) (fTup (fCons (fTup (fCons (fC (.int 0)) (fCons (fBin gMod (fBin gMul (fC (.int 2)) (fVar 2)) (fC (.int 3))) fNil))) (fCons (fTup (fCons (fVar 2) (fCons (fBin gMul (fC (.int 2)) (fVar 2)) fNil))) (fCons (fTup (fCons (fBin gFdiv (fBin gMul (fC (.int 2)) (fVar 2)) (fC (.int 3))) fNil)) fNil)))))) (sRet (fC (.bl false))) sNext)
def D382 (fu : Nat) : FS := (sIf (fOrT (fTest (fBin (gEq true) (fCall m_how_many (fCons (fVar 1) fNil)) (fC (.int 3)))) (fTest (fBin (gEq true) (fCall (m_all_again fu) (fCons (fVar 1) fNil)) (fTup (fCons (fTup (fCons (fC (.int 0)) (fCons (fC (.int 0)) fNil))) (fCons (fTup (fCons (fC (.int 0)) (fCons (fC (.int 1)) fNil))) (fCons (fTup (fCons (fC (.int 0)) (fCons (fC (.int 2)) fNil))) fNil))))))) (sRet (fC (.bl false))) sNext)
def D383 (fu : Nat) : FS := (sIf (fTest (fBin (gEq true) (fCall (m_back fu) (fCons (fVar 1) (fCons (fTup (fCons (fC (.int 0)) (fCons (fC (.int 1)) fNil))) (fCons (fC (.int 0)) fNil)))) (fTup (fCons (fC (.int 0)) (fCons (fC (.int 2)) fNil))))) (sRet (fC (.bl false))) sNext)
def D384 (fu : Nat) : FS := (sRet (fAnd (fBin (gEq false) (fCall (m_least_drops fu) (fCons (fVar 1) (fCons (fTup (fCons (fC (.int 0)) (fCons (fC (.int 0)) fNil))) (fCons (fTup (fCons (fC (.int 0)) (fCons (fC (.int 2)) fNil))) fNil)))) (fTup (fCons (fC (.str "drops")) (fCons (fTup (fCons (fC (.int 1)) (fCons (fC (.int 0)) fNil))) fNil)))) (fBin (gEq false) (fCall (m_round_of fu) (fCons (fVar 1) (fCons (fTup (fCons (fC (.int 0)) (fCons (fC (.int 0)) fNil))) (fCons (fC (.int 0)) fNil)))) (fTup (fCons (fC (.int 0)) (fCons (fC (.int 3)) fNil))))))
theorem D38_body {fu : Nat} : b_law_double_right_e7521f fu = (sSeq (D380 fu) (sSeq (D381 fu) (sSeq (D382 fu) (sSeq (D383 fu) (D384 fu))))) := rfl
def I380 (fu : Nat) : FS := (sPar 1 2 (fCons (fTup (fCons (fTup (fCons (fTup (fCons (fTup (fCons (fC (.int 0)) fNil)) (fCons (fTup (fCons (fC (.int 1)) fNil)) fNil))) fNil)) (fCons (fC (.int 1)) fNil))) (fCons (fCall m_law_draw_321cf4 (fCons (fVar 0) (fCons (fC (.int 20)) fNil))) fNil)))
def I381 (fu : Nat) : FS := (sIf (fOrT (fTest (fBin (gEq true) (fCall (m_dropped fu) (fCons (fVar 1) (fCons (fTup (fCons (fC (.int 0)) fNil)) (fCons (fTup (fCons (fVar 2) fNil)) fNil)))) (fTup (fCons (fTup (fCons (fC (.int 0)) fNil)) (fCons (fTup (fCons (fBin gMul (fC (.int 2)) (fVar 2)) fNil)) (fCons (fTup (fCons (fVar 2) fNil)) fNil)))))) (fTest (fBin (gEq true) (fCall m_how_many (fCons (fVar 1) fNil)) (fC (.int 1))))) (sRet (fC (.bl false))) sNext)
def I382 (fu : Nat) : FS := (sIf (fTest (fBin (gEq true) (fCall (m_dropped fu) (fCons (fVar 1) (fCons (fTup (fCons (fC (.int 1)) fNil)) (fCons (fTup (fCons (fBin gAdd (fVar 2) (fC (.int 1))) fNil)) fNil)))) (fTup (fCons (fTup (fCons (fC (.int 0)) fNil)) (fCons (fTup (fCons (fBin gAdd (fBin gMul (fC (.int 2)) (fVar 2)) (fC (.int 1))) fNil)) (fCons (fTup (fCons (fBin gAdd (fVar 2) (fC (.int 1))) fNil)) fNil)))))) (sRet (fC (.bl false))) sNext)
def I383 (fu : Nat) : FS := (sIf (fTest (fBin (gEq true) (fCall (m_all_again fu) (fCons (fVar 1) fNil)) (fTup (fCons (fTup (fCons (fC (.int 0)) fNil)) fNil)))) (sRet (fC (.bl false))) sNext)
def I384 (fu : Nat) : FS := (sIf (fOrT (fTest (fBin (gEq true) (fCall (m_round_of fu) (fCons (fVar 1) (fCons (fTup (fCons (fC (.int 1)) fNil)) (fCons (fC (.int 0)) fNil)))) (fTup (fCons (fC (.int 1)) (fCons (fC (.int 1)) fNil))))) (fTest (fBin (gEq true) (fCall (m_least_drops fu) (fCons (fVar 1) (fCons (fTup (fCons (fC (.int 0)) fNil)) (fCons (fTup (fCons (fC (.int 1)) fNil)) fNil)))) (fTup (fCons (fC (.str "closed")) (fCons (fTup (fCons (fTup (fCons (fC (.int 0)) fNil)) fNil)) fNil)))))) (sRet (fC (.bl false))) sNext)
def I385 (fu : Nat) : FS := (sIf (fTest (fBin (gEq true) (fCall (m_least_drops fu) (fCons (fVar 1) (fCons (fTup (fCons (fC (.int 1)) fNil)) (fCons (fTup (fCons (fC (.int 1)) fNil)) fNil)))) (fTup (fCons (fC (.str "drops")) (fCons (fTup (fCons (fC (.int 0)) fNil)) fNil))))) (sRet (fC (.bl false))) sNext)
def I386 (fu : Nat) : FS := (sRet (fBin (gEq false) (fCall (m_least_drops fu) (fCons (fVar 1) (fCons (fTup (fCons (fC (.int 1)) fNil)) (fCons (fTup (fCons (fC (.int 0)) fNil)) fNil)))) (fTup (fCons (fC (.str "drops")) (fCons (fTup (fCons (fC (.int 1)) fNil)) fNil)))))
theorem I38_body {fu : Nat} : b_law_itself_right_050651 fu = (sSeq (I380 fu) (sSeq (I381 fu) (sSeq (I382 fu) (sSeq (I383 fu) (sSeq (I384 fu) (sSeq (I385 fu) (I386 fu))))))) := rfl
def W380 (fu : Nat) : FS := (sPar 1 2 (fCons (fTup (fCons (fTup (fCons (fTup (fCons (fTup (fCons (fC (.int 1)) fNil)) (fCons (fTup (fCons (fC (.int 2)) fNil)) fNil))) (fCons (fTup (fCons (fTup fNil) (fCons (fTup (fCons (fC (.int 3)) (fCons (fC (.int 3)) fNil))) fNil))) fNil))) (fCons (fC (.int 2)) fNil))) (fCons (fCall m_law_draw_321cf4 (fCons (fVar 0) (fCons (fC (.int 5)) fNil))) fNil)))
def W381 (fu : Nat) : FS := (sAsg (fCall (m_dropped fu) (fCons (fVar 1) (fCons (fTup (fCons (fC (.int 0)) (fCons (fC (.int 0)) fNil))) (fCons (fTup (fCons (fBin gMul (fC (.int 4)) (fVar 2)) (fCons (fC (.int 0)) fNil))) fNil)))) (.tup [3, 4, 5]))
def W382 (fu : Nat) : FS := (sIf (fTest (fBin (gEq true) (fTup (fCons (fVar 3) (fCons (fVar 4) (fCons (fVar 5) fNil)))) (fTup (fCons (fTup (fCons (fC (.int 0)) (fCons (fC (.int 0)) fNil))) (fCons (fTup (fCons (fBin gMul (fC (.int 4)) (fVar 2)) (fCons (fBin gMul (fC (.int 2)) (fVar 2)) fNil))) (fCons (fTup (fCons (fBin gMul (fC (.int 2)) (fVar 2)) (fCons (fBin gMul (fC (.int 2)) (fVar 2)) fNil))) fNil)))))) (sRet (fC (.bl false))) sNext)
def W383 (fu : Nat) : FS := (sIf (fOrT (fTest (fBin (gEq true) (fCall m_how_many (fCons (fVar 1) fNil)) (fC (.int 4)))) (fOrT (fTest (fBin (gEq true) (fCall (m_round_of fu) (fCons (fVar 1) (fCons (fTup (fCons (fC (.int 0)) (fCons (fC (.int 0)) fNil))) (fCons (fC (.int 0)) fNil)))) (fTup (fCons (fC (.int 0)) (fCons (fC (.int 4)) fNil))))) (fTest (fBin (gEq true) (fCall (m_round_of fu) (fCons (fVar 1) (fCons (fTup (fCons (fC (.int 1)) (fCons (fC (.int 0)) fNil))) (fCons (fC (.int 1)) fNil)))) (fTup (fCons (fC (.int 0)) (fCons (fC (.int 2)) fNil))))))) (sRet (fC (.bl false))) sNext)
def W384 (fu : Nat) : FS := (sRet (fAnd (fBin (gEq false) (fCall (m_least_drops fu) (fCons (fVar 1) (fCons (fTup (fCons (fC (.int 0)) (fCons (fC (.int 0)) fNil))) (fCons (fTup (fCons (fC (.int 1)) (fCons (fC (.int 0)) fNil))) fNil)))) (fTup (fCons (fC (.str "drops")) (fCons (fTup (fCons (fC (.int 1)) (fCons (fC (.int 1)) fNil))) fNil)))) (fBin (gEq false) (fCall (m_back fu) (fCons (fVar 1) (fCons (fTup (fCons (fC (.int 1)) (fCons (fC (.int 1)) fNil))) (fCons (fC (.int 0)) fNil)))) (fTup (fCons (fC (.int 0)) (fCons (fC (.int 0)) fNil))))))
theorem W38_body {fu : Nat} : b_law_two_right_14dad7 fu = (sSeq (W380 fu) (sSeq (W381 fu) (sSeq (W382 fu) (sSeq (W383 fu) (W384 fu))))) := rfl
def L380_it (fu : Nat) : F Ita := (fIt gRange1 (fCons (fCall gMax2 (fCons (fC (.int 1)) (fCons (fCall gMin2 (fCons (fCall gLen (fCons (fVar 0) fNil)) (fCons (fC (.int 4)) fNil))) fNil))) fNil))
def L380_0 (fu : Nat) : FS := (sSet 2 (fCall m_law_pen_579b16 (fCons (fCall m_law_cell_at_e50a56 (fCons (fVar 0) (fCons (fVar 1) fNil))) fNil)))
def L380_1_it (fu : Nat) : F Ita := (fIt gRange1 (fCons (fC (.int 3)) fNil))
def L380_1_0 (fu : Nat) : FS := (sIf (fOrT (fNotT (fTest (fCall (m_law_heap_right_7e4e6a fu) (fCons (fVar 2) fNil)))) (fOrT (fNotT (fTest (fCall (m_law_by_turns_right_47bbe0 fu) (fCons (fVar 2) fNil)))) (fNotT (fTest (fCall (m_law_double_right_e7521f fu) (fCons (fVar 2) fNil)))))) (sRet (fC (.bl false))) sNext)
def L380_1_1 (fu : Nat) : FS := (sIf (fOrT (fNotT (fTest (fCall (m_law_itself_right_050651 fu) (fCons (fVar 2) fNil)))) (fNotT (fTest (fCall (m_law_two_right_14dad7 fu) (fCons (fVar 2) fNil))))) (sRet (fC (.bl false))) sNext)
def L380_1_b (fu : Nat) : FS := (sSeq (L380_1_0 fu) (L380_1_1 fu))
def L380_1 (fu : Nat) : FS := sFor (L380_1_it fu) (.name 3) (L380_1_b fu)
def L380_b (fu : Nat) : FS := (sSeq (L380_0 fu) (L380_1 fu))
def L380 (fu : Nat) : FS := sFor (L380_it fu) (.name 1) (L380_b fu)
def L381 (fu : Nat) : FS := (sRet (fC (.bl true)))
theorem L38_body {fu : Nat} : b_law_d1ab57 fu = (sSeq (L380 fu) (L381 fu)) := rfl
abbrev pen1 (x y z : Int) : Mem := [.lst [.int x, .int y, .int z]]
end QX
set_option maxRecDepth 100000
set_option maxHeartbeats 1000000
namespace QX
open PySem PySem.Spec PyProof.Rows L2 HX
section
variable {α β : Type} {σ : Sa} {M : Mem} {fa fb fc : F D} {ga gb : F Bool} {fs : F (List D)} {g g' : D → D → Mem → Res D} {s1 s2 : FS}
@[simp] theorem bind_ok {x : α} {k : α → Mem → Res β} : (Res.ok x M).bind k = k x M := rfl
@[simp] theorem bind_exc {c : Nat} {f : List (Str × D)} {k : α → Mem → Res β} : (Res.exc c f M : Res α).bind k = .exc c f M := rfl
@[simp] theorem bind_bad {k : α → Mem → Res β} : (Res.bad : Res α).bind k = .bad := rfl
@[simp] theorem bindS_ok {x : α} {k : α → Mem → RS} : (Res.ok x M).bindS σ k = k x M := rfl
@[simp] theorem bindS_exc {c : Nat} {f : List (Str × D)} {k : α → Mem → RS} : (Res.exc c f M : Res α).bindS σ k = .exc c f σ M := rfl
@[simp] theorem bindS_bad {k : α → Mem → RS} : (Res.bad : Res α).bindS σ k = .bad := rfl
@[simp] theorem ev_var {i : Nat} : fVar i σ M = match σ[i]? with | some (some d) => .ok d M | _ => .bad := rfl
@[simp] theorem ev_c {d : D} : fC d σ M = .ok d M := rfl
@[simp] theorem ev_bin : fBin g fa fb σ M = (fa σ M).bind fun x M1 => (fb σ M1).bind fun y M2 => g x y M2 := rfl
@[simp] theorem ev_test : fTest fa σ M = (fa σ M).bind fun d M1 => match d with | .bl b => .ok b M1 | _ => .bad := rfl
@[simp] theorem ev_chain : fChain g g' fa fb fc σ M = (fa σ M).bind fun x M1 => (fb σ M1).bind fun y M2 => (g x y M2).bind fun z M3 => match z with | .bl true => (fc σ M3).bind fun w M4 => g' y w M4 | .bl false => .ok (.bl false) M3 | _ => .bad := rfl
@[simp] theorem ev_andT : fAndT ga gb σ M = (ga σ M).bind fun c M1 => if c = true then gb σ M1 else .ok false M1 := rfl
@[simp] theorem ev_orT : fOrT ga gb σ M = (ga σ M).bind fun c M1 => if c = true then .ok true M1 else gb σ M1 := rfl
@[simp] theorem ev_notT : fNotT ga σ M = (ga σ M).bind fun c M1 => .ok (!c) M1 := rfl
@[simp] theorem ev_and : fAnd fa fb σ M = (fa σ M).bind fun x M1 => match x with | .bl true => fb σ M1 | .bl false => .ok (.bl false) M1 | _ => .bad := rfl
@[simp] theorem ev_or : fOr fa fb σ M = (fa σ M).bind fun x M1 => match x with | .bl true => .ok (.bl true) M1 | .bl false => fb σ M1 | _ => .bad := rfl
@[simp] theorem ev_not : fNot fa σ M = (fa σ M).bind fun x M1 => match x with | .bl b => .ok (.bl (!b)) M1 | _ => .bad := rfl
@[simp] theorem ev_if : fIf ga fa fb σ M = (ga σ M).bind fun c M1 => if c = true then fa σ M1 else fb σ M1 := rfl
@[simp] theorem ev_nil : fNil σ M = .ok [] M := rfl
@[simp] theorem ev_cons : fCons fa fs σ M = (fa σ M).bind fun x M1 => (fs σ M1).bind fun xs M2 => .ok (x :: xs) M2 := rfl
@[simp] theorem ev_tup : fTup fs σ M = (fs σ M).bind fun ds M1 => if few ds.length = true then .ok (.tup ds) M1 else .bad := rfl
@[simp] theorem ev_lst : fLst fs σ M = (fs σ M).bind fun ds M1 => if few ds.length = true then .ok (.lst ds) M1 else .bad := rfl
@[simp] theorem ev_new : fNew fs σ M = (fs σ M).bind fun ds M1 => if few ds.length = true then .ok (.ref M1.length) (M1 ++ [.lst ds]) else .bad := rfl
@[simp] theorem ev_nopart : fNoPart σ M = .ok none M := rfl
@[simp] theorem ev_part : fPart fa σ M = (fa σ M).bind fun d M1 => match d with | .int i => .ok (some i) M1 | _ => .bad := rfl
@[simp] theorem ev_sl {fl fh : F (Option Int)} : fSl fa fl fh σ M = (fa σ M).bind fun d M1 => (fl σ M1).bind fun l M2 => (fh σ M2).bind fun h M3 => gSl d l h M3 := rfl
@[simp] theorem ev_iter : fIter fa σ M = (fa σ M).bind gIter := rfl
@[simp] theorem ev_it {q : List D → Mem → Res Ita} : fIt q fs σ M = (fs σ M).bind q := rfl
@[simp] theorem ev_call {m : List D → Mem → Res D} : fCall m fs σ M = (fs σ M).bind m := rfl
@[simp] theorem ev_un {q : D → Mem → Res D} : fUn q fa σ M = (fa σ M).bind q := rfl
@[simp] theorem ev_meth {q : D → List D → Mem → Res D} : fMeth q fa fs σ M = (fa σ M).bind fun d M1 => if isL M1 d = true then (fs σ M1).bind fun ds M2 => q d ds M2 else .bad := rfl
@[simp] theorem ev_countT : fCountT fa fs σ M = (fa σ M).bind fun d M1 => match d with | .tup es => (fs σ M1).bind fun ds M2 => gCountT (.tup es) ds M2 | _ => .bad := rfl
@[simp] theorem ev_tru : fTru fa σ M = (fa σ M).bind gTru := rfl
@[simp] theorem ev_next : sNext σ M = .ok (.nx σ) M := rfl
@[simp] theorem ev_ret : sRet fa σ M = (fa σ M).bindS σ fun d M1 => .ok (.rt d) M1 := rfl
@[simp] theorem ev_retN : sRetN σ M = .ok (.rt .non) M := rfl
@[simp] theorem ev_expr : sExpr fa σ M = (fa σ M).bindS σ fun _ M1 => .ok (.nx σ) M1 := rfl
@[simp] theorem ev_set {i : Nat} : sSet i fa σ M = (fa σ M).bindS σ fun d M1 => .ok (.nx (σ.set i (some d))) M1 := rfl
@[simp] theorem ev_asg {t : Tg} : sAsg fa t σ M = (fa σ M).bindS σ fun d M1 => match t.put (.d d) σ with | some σ1 => .ok (.nx σ1) M1 | none => .bad := rfl
@[simp] theorem ev_par {i j : Nat} : sPar i j fs σ M = (fs σ M).bindS σ fun ds M1 => match ds with | [a, b] => .ok (.nx ((σ.set i (some a)).set j (some b))) M1 | _ => .bad := rfl
@[simp] theorem ev_sif : sIf ga s1 s2 σ M = (ga σ M).bindS σ fun c M1 => if c = true then s1 σ M1 else s2 σ M1 := rfl
@[simp] theorem ev_seq : sSeq s1 s2 σ M = match s1 σ M with | .ok (.nx σ1) M1 => s2 σ1 M1 | r => r := rfl
@[simp] theorem ev_break : sBreak σ M = .ok (.bk σ) M := rfl
@[simp] theorem ev_cont : sCont σ M = .ok (.ct σ) M := rfl
@[simp] theorem ev_raise {c : Nat} : sRaise c σ M = .exc c [] σ M := rfl
@[simp] theorem ev_never : sNever σ M = .bad := rfl
@[simp] theorem ev_for {fi : F Ita} {t : Tg} : sFor fi t s1 σ M = (fi σ M).bindS σ fun it M1 => forL t s1 it.chk M1.length it.items σ M1 := rfl
@[simp] theorem ev_setIx : sSetIx fa fb fc σ M = (fc σ M).bindS σ fun v M1 => (fa σ M1).bindS σ fun o M2 => (fb σ M2).bindS σ fun i M3 => match gSetIx o i v M3 with | some M4 => .ok (.nx σ) M4 | none => .bad := rfl
@[simp] theorem ev_aug {i : Nat} {q : D → D → Option D} : sAug i q fa σ M = (fVar i σ M).bindS σ fun x M0 => (fa σ M0).bindS σ fun y M1 => match q x y with | some z => .ok (.nx (σ.set i (some z))) M1 | none => .bad := rfl
@[simp] theorem ev_augIx {q : D → D → Option D} : sAugIx fa fb fc q σ M = (fa σ M).bindS σ fun o M1 => (fb σ M1).bindS σ fun i M2 => match gGetN o i M2 with
  | some x => (fc σ M2).bindS σ fun y M3 => (match q x y with | some z => (match gSetIx o i z M3 with | some M4 => .ok (.nx σ) M4 | none => .bad) | none => .bad)
  | none => .bad := rfl
@[simp] theorem ev_listRg {c : Bool} : fListRg c fa fb σ M = (fa σ M).bind fun x M1 => (fb σ M1).bind fun y M2 => match x, y with
  | .int a, .int b => if rgOk a b = true then (if c = true then .ok (.ref M2.length) (M2 ++ [.lst (numsD a (b - a).toNat)]) else .ok (.lst (numsD a (b - a).toNat)) M2) else .bad
  | _, _ => .bad := rfl
@[simp] theorem ev_listRg1 {c : Bool} : fListRg1 c fb σ M = (fb σ M).bind fun y M2 => match y with
  | .int b => if rgOk 0 b = true then (if c = true then .ok (.ref M2.length) (M2 ++ [.lst (numsD 0 (b - 0).toNat)]) else .ok (.lst (numsD 0 (b - 0).toNat)) M2) else .bad
  | _ => .bad := rfl
end
section
variable {M : Mem} {ds es : List D} {i j : Int} {n : Nat} {a b : Str} {p q : Bool}
@[simp] theorem seqOf_tup : seqOf M (.tup ds) = some ds := rfl
@[simp] theorem seqOf_lst : seqOf M (.lst ds) = some ds := rfl
@[simp] theorem seqOf_scr {ns : List Int} : seqOf M (.scr ns) = some (ns.map .int) := rfl
@[simp] theorem seqOf_ref : seqOf M (.ref n) = match M[n]? with | some (.lst ds) => some ds | _ => none := rfl
@[simp] theorem listOf_lst : listOf M (.lst ds) = some ds := rfl
@[simp] theorem listOf_ref : listOf M (.ref n) = match M[n]? with | some (.lst ds) => some ds | _ => none := rfl
@[simp] theorem listOf_tup : listOf M (.tup ds) = none := rfl
@[simp] theorem isL_lst : isL M (.lst ds) = true := rfl
@[simp] theorem isL_ref : isL M (.ref n) = (match M[n]? with | some (.lst ds) => some ds | _ => none : Option (List D)).isSome := rfl
@[simp] theorem gIx_tup : gIx (.tup ds) (.int i) M = match atI ds i with | some d => .ok d M | none => .bad := rfl
@[simp] theorem gIx_lst : gIx (.lst ds) (.int i) M = match atI ds i with | some d => .ok d M | none => .bad := rfl
@[simp] theorem gIx_scr {ns : List Int} : gIx (.scr ns) (.int i) M = match atI (ns.map D.int) i with | some d => .ok d M | none => .bad := rfl
theorem gIx_ref (h : M[n]? = some (.lst ds)) : gIx (.ref n) (.int i) M = match atI ds i with | some d => .ok d M | none => .bad := by
  have e : seqOf M (.ref n) = some ds := by rw [seqOf_ref, h]
  show (match seqOf M (.ref n) with | some ds => (match atI ds i with | some d => Res.ok d M | none => Res.bad) | none => Res.bad) = _
  rw [e]
@[simp] theorem gAdd_int : gAdd (.int i) (.int j) M = .ok (.int (i + j)) M := rfl
@[simp] theorem gAdd_tup : gAdd (.tup ds) (.tup es) M = if few (ds.length + es.length) = true then .ok (.tup (ds ++ es)) M else .bad := rfl
@[simp] theorem gAdd_lst : gAdd (.lst ds) (.lst es) M = if few (ds.length + es.length) = true then .ok (.lst (ds ++ es)) M else .bad := rfl
@[simp] theorem gAdd_str : gAdd (.str a) (.str b) M = if few (a.length + b.length) = true then .ok (.str (a ++ b)) M else .bad := rfl
@[simp] theorem gSub_int : gSub (.int i) (.int j) M = .ok (.int (i - j)) M := rfl
@[simp] theorem gMul_int : gMul (.int i) (.int j) M = if mulOk i j = true then .ok (.int (i * j)) M else .bad := rfl
@[simp] theorem gMul_tup : gMul (.tup ds) (.int i) M = if (thou i && Nat.ble ds.length 1000) = true then .ok (.tup (List.replicate i.toNat ds).flatten) M else .bad := rfl
@[simp] theorem gMul_lst : gMul (.lst ds) (.int i) M = if (thou i && Nat.ble ds.length 1000) = true then .ok (.lst (List.replicate i.toNat ds).flatten) M else .bad := rfl
@[simp] theorem gMod_int : gMod (.int i) (.int j) M = if decide (0 < j) = true then .ok (.int (i % j)) M else .bad := rfl
@[simp] theorem gFdiv_int : gFdiv (.int i) (.int j) M = if (decide (0 < j) && Nat.blt j.natAbs.log2 9000) = true then .ok (.int (i / j)) M else .bad := rfl
@[simp] theorem gCmp_int {f : Int → Int → Bool} : gCmp f (.int i) (.int j) M = .ok (.bl (f i j)) M := rfl
@[simp] theorem gNeg_int : gNeg (.int i) M = .ok (.int (-i)) M := rfl
@[simp] theorem gLen_tup : gLen [.tup ds] M = .ok (.int ds.length) M := rfl
@[simp] theorem gLen_lst : gLen [.lst ds] M = .ok (.int ds.length) M := rfl
@[simp] theorem gLen_scr {ns : List Int} : gLen [.scr ns] M = .ok (.int ns.length) M := by
  show Res.ok (D.int ((ns.map D.int).length : Nat)) M = _
  rw [List.length_map]
theorem gLen_ref (h : M[n]? = some (.lst ds)) : gLen [.ref n] M = .ok (.int ds.length) M := by
  show (match (match M[n]? with | some (.lst ds) => some ds | _ => none : Option (List D)) with | some ds => Res.ok (D.int ds.length) M | none => .bad) = _
  rw [h]
@[simp] theorem gTuple_tup : gTuple [.tup ds] M = .ok (.tup ds) M := rfl
@[simp] theorem gTuple_lst : gTuple [.lst ds] M = .ok (.tup ds) M := rfl
@[simp] theorem gList_tup : gList [.tup ds] M = .ok (.lst ds) M := rfl
@[simp] theorem gList_lst : gList [.lst ds] M = .ok (.lst ds) M := rfl
@[simp] theorem gListC_tup : gListC [.tup ds] M = .ok (.ref M.length) (M ++ [.lst ds]) := rfl
@[simp] theorem gListC_lst : gListC [.lst ds] M = .ok (.ref M.length) (M ++ [.lst ds]) := rfl
@[simp] theorem gMax2_int : gMax2 [.int i, .int j] M = .ok (.int (if j > i then j else i)) M := rfl
@[simp] theorem gMin2_int : gMin2 [.int i, .int j] M = .ok (.int (if j < i then j else i)) M := rfl
@[simp] theorem gIter_tup : gIter (.tup ds) M = .ok ⟨ds.map .d, fun _ => true⟩ M := rfl
@[simp] theorem gIter_lst : gIter (.lst ds) M = .ok ⟨ds.map .d, fun _ => true⟩ M := rfl
@[simp] theorem gRange1_int : gRange1 [.int j] M = if mid j = true then .ok ⟨nums 0 j.toNat, fun _ => true⟩ M else .bad := rfl
@[simp] theorem gRange2_int : gRange2 [.int i, .int j] M = if (mid i && mid j) = true then .ok ⟨nums i (j - i).toNat, fun _ => true⟩ M else .bad := rfl
@[simp] theorem gIsN_non {b : Bool} : gIsN b .non .non M = .ok (.bl (!b)) M := rfl
@[simp] theorem gIsN_int {b : Bool} : gIsN b (.int i) .non M = .ok (.bl b) M := rfl
@[simp] theorem gIsN_tup {b : Bool} : gIsN b (.tup ds) .non M = .ok (.bl b) M := rfl
@[simp] theorem gInt_int : gInt [.int i] M = .ok (.int i) M := rfl
@[simp] theorem gInt_bl : gInt [.bl p] M = .ok (.int (if p then 1 else 0)) M := rfl
theorem gAppend_ref {d : D} (h : M[n]? = some (.lst ds)) (hl : ds.length < 16777216) : gAppend (.ref n) [d] M = .ok .non (M.set n (.lst (ds ++ [d]))) := by
  show (match M[n]? with | some (.lst ds) => if Nat.blt ds.length 16777216 = true then Res.ok D.non (M.set n (.lst (ds ++ [d]))) else Res.bad | _ => Res.bad) = _
  rw [h]
  dsimp only
  rw [if_pos (by rw [Nat.blt_eq]; exact hl)]
@[simp] theorem put_name {i : Nat} {d : D} {σ : Sa} : (Tg.name i).put (.d d) σ = some (σ.set i (some d)) := rfl
@[simp] theorem put_tup {is : List Nat} {σ : Sa} : (Tg.tup is).put (.d (.tup ds)) σ = if ds.length == is.length then some (setAll σ is ds) else none := rfl
@[simp] theorem put_pr {is : List Nat} {σ : Sa} : (Tg.tup is).put (.pr ds) σ = if ds.length == is.length then some (setAll σ is ds) else none := rfl
theorem atI_nn {α : Type} {xs : List α} {k : Int} (h : 0 ≤ k) : atI xs k = xs[k.toNat]? := by
  unfold atI ixN
  rw [if_pos h]
  by_cases hl : k < (xs.length : Int)
  · rw [if_pos hl]; rfl
  · rw [if_neg hl]
    exact (List.getElem?_eq_none (by omega)).symm
@[simp] theorem atI_0 {α : Type} {x : α} {xs : List α} : atI (x :: xs) 0 = some x := by rw [atI_nn (by decide)]; rfl
@[simp] theorem atI_1 {α : Type} {x y : α} {xs : List α} : atI (x :: y :: xs) 1 = some y := by rw [atI_nn (by decide)]; rfl
@[simp] theorem atI_2 {α : Type} {x y z : α} {xs : List α} : atI (x :: y :: z :: xs) 2 = some z := by rw [atI_nn (by decide)]; rfl
@[simp] theorem gEq_int {b : Bool} : gEq b (.int i) (.int j) M = .ok (.bl (if b = true then !decide (i = j) else decide (i = j))) M := by
  have e : PyData.eqv (.int i) (.int j) = decide (i = j) := by
    simp [PyData.eqv]
    try rfl
  show (if (SeqAt.shaped (.int i) && SeqAt.shaped (.int j)) = true then Res.ok (D.bl (if b = true then !PyData.eqv (.int i) (.int j) else PyData.eqv (.int i) (.int j))) M else Res.bad) = _
  rw [e]
  rfl
end
section
variable {σ σ1 : Sa} {M M1 M2 : Mem} {fa fb : F D} {ga gb : F Bool} {s1 s2 : FS} {p q : Bool} {d : D}
theorem and_ev (ha : fa σ M = .ok (.bl p) M) (hb : p = true → fb σ M = .ok (.bl q) M) : fAnd fa fb σ M = .ok (.bl (p && q)) M := by
  rw [ev_and, ha]
  cases p with
  | false => rfl
  | true => exact hb rfl
theorem or_ev (ha : ga σ M = .ok p M) (hb : p = false → gb σ M = .ok q M) : fOrT ga gb σ M = .ok (p || q) M := by
  rw [ev_orT, ha]
  cases p with
  | true => rfl
  | false => exact hb rfl
theorem not_ev (ha : ga σ M = .ok p M) : fNotT ga σ M = .ok (!p) M := by rw [ev_notT, ha]; rfl
theorem test_ev (ha : fa σ M = .ok (.bl p) M1) : fTest fa σ M = .ok p M1 := by rw [ev_test, ha]; rfl
theorem sif_ev (ha : ga σ M = .ok p M1) : sIf ga s1 s2 σ M = if p = true then s1 σ M1 else s2 σ M1 := by rw [ev_sif, ha]; rfl
theorem seq_nx (h : s1 σ M = .ok (.nx σ1) M1) : sSeq s1 s2 σ M = s2 σ1 M1 := by rw [ev_seq, h]
theorem seq_rt (h : s1 σ M = .ok (.rt d) M1) : sSeq s1 s2 σ M = .ok (.rt d) M1 := by rw [ev_seq, h]
theorem set_ev {i : Nat} (h : fa σ M = .ok d M1) : sSet i fa σ M = .ok (.nx (σ.set i (some d))) M1 := by rw [ev_set, h]; rfl
theorem ret_ev (h : fa σ M = .ok d M1) : sRet fa σ M = .ok (.rt d) M1 := by rw [ev_ret, h]; rfl
theorem expr_ev (h : fa σ M = .ok d M1) : sExpr fa σ M = .ok (.nx σ) M1 := by rw [ev_expr, h]; rfl
theorem asg_ev {t : Tg} (h : fa σ M = .ok d M1) (ht : t.put (.d d) σ = some σ1) : sAsg fa t σ M = .ok (.nx σ1) M1 := by rw [ev_asg, h]; simp only [bindS_ok, ht]
theorem call_ev {m : List D → Mem → Res D} {fs : F (List D)} {ds : List D} (h : fs σ M = .ok ds M1) : fCall m fs σ M = m ds M1 := by rw [ev_call, h]; rfl
end
theorem run_rt {n k : Nat} {b : FS} {ds : List D} {M M1 : Mem} {d : D} (hl : ds.length = k) (h : b (startA n ds) M = .ok (.rt d) M1) : runT n k b ds M = trimR M.length (.ok d M1) := by
  unfold runT runD
  rw [h]
  simp [hl]
theorem run_nx {n k : Nat} {b : FS} {ds : List D} {M M1 : Mem} {σ : Sa} (hl : ds.length = k) (h : b (startA n ds) M = .ok (.nx σ) M1) : runT n k b ds M = trimR M.length (.ok .non M1) := by
  unfold runT runD
  rw [h]
  simp [hl]
end QX
set_option maxRecDepth 100000
set_option maxHeartbeats 1000000
namespace QX
open PySem PySem.Spec PyProof.Rows L2 HX
def isW : D → Bool
  | .int _ => true
  | _ => false
def D.ok : D → Bool
  | .scr _ => false
  | .adr _ => false
  | .ref _ => false
  | _ => true
theorem m_is_whole_eq {d : D} {M : Mem} (h : d.ok = true) : m_is_whole [d] M = .ok (.bl (isW d)) M := by
  refine (run_rt (d := .bl (isW d)) (M1 := M) rfl ?_).trans (trim_id rfl)
  cases d <;> first | (cases h; done) | (simp [b_is_whole, startA, gIsi, D.ty, Ty.name, Ty.is, isW])
def inB (a b : Int) : D → Bool
  | .int i => decide (a ≤ i) && decide (i ≤ b)
  | _ => false
theorem m_is_within_eq {d : D} {a b : Int} {M : Mem} (h : d.ok = true) : m_is_within [d, .int a, .int b] M = .ok (.bl (inB a b d)) M := by
  refine (run_rt (d := .bl (inB a b d)) (M1 := M) rfl ?_).trans (trim_id rfl)
  cases d with
  | int i =>
    by_cases h1 : a ≤ i <;> simp [b_is_within, startA, m_is_whole_eq h, isW, inB, cLe, h1]
  | scr _ => cases h
  | adr _ => cases h
  | ref _ => cases h
  | _ => simp [b_is_within, startA, m_is_whole_eq h, isW, inB]
def partsB (a b : Int) : D → Bool
  | .tup ds => decide (a ≤ (ds.length : Int)) && decide ((ds.length : Int) ≤ b)
  | _ => false
theorem m_has_parts_eq {d : D} {a b : Int} {M : Mem} (h : d.ok = true) : m_has_parts [d, .int a, .int b] M = .ok (.bl (partsB a b d)) M := by
  refine (run_rt (d := .bl (partsB a b d)) (M1 := M) rfl ?_).trans (trim_id rfl)
  cases d with
  | tup ds =>
    by_cases h1 : a ≤ (ds.length : Int) <;> simp [b_has_parts, startA, gIsi, D.ty, Ty.name, Ty.is, partsB, cLe, h1]
  | scr _ => cases h
  | adr _ => cases h
  | ref _ => cases h
  | _ => simp [b_has_parts, startA, gIsi, D.ty, Ty.name, Ty.is, partsB]
theorem blsOf_map {α : Type} (f : α → Bool) : ∀ xs : List α, blsOf (xs.map fun x => D.bl (f x)) = some (xs.map f)
  | [] => rfl
  | x :: xs => by
    show (match blsOf (xs.map fun x => D.bl (f x)) with | some bs => some (f x :: bs) | none => none) = _
    rw [blsOf_map f xs]
    rfl
theorem gAll_map {α : Type} {M : Mem} (f : α → Bool) (xs : List α) : gAll [.lst (xs.map fun x => D.bl (f x))] M = .ok (.bl (xs.all f)) M := by
  show (match blsOf (xs.map fun x => D.bl (f x)) with | some bs => Res.ok (D.bl (bs.all id)) M | none => .bad) = _
  rw [blsOf_map]
  dsimp only
  rw [List.all_map]
  rfl
theorem run_pure {n k : Nat} {f : F D} {ds : List D} {M : Mem} {d : D} (hl : ds.length = k) (h : f (startA n ds) M = .ok d M) : runT n k (sRet f) ds M = .ok d M :=
  (run_rt hl (by rw [ev_ret, h]; rfl)).trans (trim_id rfl)
theorem all_comp {fa : F D} {vs : List Nat} {i : Nat} {e : F D} {σ : Sa} {M : Mem} {ds : List D} (f : D → Bool) (ha : fa σ M = .ok (.tup ds) M) (hw : Wf M) (hl : ds.length ≤ 1000000)
    (he : ∀ d ∈ ds, ∀ M', Wf M' → M.length < M'.length → e ((wipeA σ vs).set i (some d)) M' = .ok (.bl (f d)) M') : fCall gAll (fCons (fTrim (fCompC (fIter fa) vs (.name i) fYes e)) fNil) σ M = .ok (.bl (ds.all f)) M := by
  have h := comp_pure (fi := fIter fa) (vs := vs) (t := .name i) (e := e) (σ := σ) (M := M) (it := ⟨ds.map .d, fun _ => true⟩) (fun im => match im with | .d d => .bl (f d) | .pr _ => .non) (by rw [ev_iter, ha]; rfl) (fun _ => rfl) hw (by simpa using hl) (fun im him => by
    obtain ⟨d, hd, rfl⟩ := List.mem_map.mp him
    exact ⟨rfl, _, rfl, fun M' w1 w2 => he d hd M' w1 w2⟩)
  rw [ev_call, ev_cons, h]
  dsimp only [bind_ok, ev_nil]
  rw [List.map_map]
  exact gAll_map f ds
mutual
def D.dok : D → Bool
  | .scr _ => false
  | .adr _ => false
  | .ref _ => false
  | .tup ds => D.dokA ds
  | .lst ds => D.dokA ds
  | .dct _ ds => D.dokA ds
  | _ => true
def D.dokA : List D → Bool
  | [] => true
  | d :: ds => D.dok d && D.dokA ds
end
theorem dok_ok {d : D} (h : d.dok = true) : d.ok = true := by cases d <;> first | rfl | (simp [D.dok] at h)
theorem dokA_mem : ∀ {ds : List D}, D.dokA ds = true → ∀ d ∈ ds, d.dok = true
  | [], _, d, hd => by simp at hd
  | x :: xs, h, d, hd => by
    simp only [D.dokA, Bool.and_eq_true] at h
    rcases List.mem_cons.mp hd with rfl | z
    · exact h.1
    · exact dokA_mem h.2 d z
def stepB (n : Int) : D → Bool
  | .tup ds => partsB 0 3 (.tup ds) && ds.all (inB 0 (n - 1))
  | _ => false
theorem partsB_len {a b : Int} {ds : List D} (h : partsB a b (.tup ds) = true) : (ds.length : Int) ≤ b := by
  simp only [partsB, Bool.and_eq_true, decide_eq_true_eq] at h
  exact h.2
theorem partsB_not {a b : Int} {d : D} (h : ∀ ds, d ≠ .tup ds) : partsB a b d = false := by
  cases d <;> first | rfl | exact absurd rfl (h _)
theorem m_is_step_eq {d : D} {n : Int} {M : Mem} (h : d.dok = true) (hw : Wf M) : m_is_step [d, .int n] M = .ok (.bl (stepB n d)) M := by
  refine run_pure rfl ?_
  have h1 : fCall m_has_parts (fCons (fVar 0) (fCons (fC (.int 0)) (fCons (fC (.int 3)) fNil))) (startA 3 [d, .int n]) M = .ok (.bl (partsB 0 3 d)) M := by simp [startA, m_has_parts_eq (dok_ok h)]
  cases d with
  | tup ds =>
    refine and_ev h1 fun hp => ?_
    have hl := partsB_len hp
    exact all_comp (inB 0 (n - 1)) rfl hw (by omega) (fun d hd M' _ _ => by
      simp [wipeA, startA, m_is_within_eq (dok_ok (dokA_mem (by simpa only [D.dok] using h) d hd))])
  | _ =>
    rw [partsB_not (fun _ z => by cases z)] at h1
    exact and_ev (q := false) h1 fun hp => by cases hp
def wheelB (n : Int) : D → Bool
  | .tup ds => partsB 1 4 (.tup ds) && ds.all (stepB n)
  | _ => false
theorem m_is_wheel_eq {d : D} {n : Int} {M : Mem} (h : d.dok = true) (hw : Wf M) : m_is_wheel [d, .int n] M = .ok (.bl (wheelB n d)) M := by
  refine run_pure rfl ?_
  have h1 : fCall m_has_parts (fCons (fVar 0) (fCons (fC (.int 1)) (fCons (fC (.int 4)) fNil))) (startA 3 [d, .int n]) M = .ok (.bl (partsB 1 4 d)) M := by simp [startA, m_has_parts_eq (dok_ok h)]
  cases d with
  | tup ds =>
    refine and_ev h1 fun hp => ?_
    have hl := partsB_len hp
    exact all_comp (stepB n) rfl hw (by omega) (fun d hd M' w' _ => by
      simp [wipeA, startA, m_is_step_eq (dokA_mem (by simpa only [D.dok] using h) d hd) w'])
  | _ =>
    rw [partsB_not (fun _ z => by cases z)] at h1
    exact and_ev (q := false) h1 fun hp => by cases hp
def wheelsB (w c : D) : Bool := match w, c with
  | .tup ws, .int k => ws.all (wheelB ((ws.length : Int) + k))
  | _, _ => false
def boardB : D → Bool
  | .tup [w, c] => partsB 1 6 w && (inB 0 4 c && wheelsB w c)
  | _ => false
theorem m_is_board_eq {d : D} {M : Mem} (h : d.dok = true) (hw : Wf M) : m_is_board [d] M = .ok (.bl (boardB d)) M := by
  have hd := dok_ok h
  refine (run_rt (d := .bl (boardB d)) (M1 := M) rfl ?_).trans (trim_id rfl)
  unfold b_is_board
  have h1 : fNotT (fTest (fCall m_has_parts (fCons (fVar 0) (fCons (fC (.int 2)) (fCons (fC (.int 2)) fNil))))) (startA 5 [d]) M = .ok (!partsB 2 2 d) M := not_ev (test_ev (by simp [startA, m_has_parts_eq hd]))
  have s1 := sif_ev (s1 := sRet (fC (.bl false))) (s2 := sNext) h1
  cases hp : partsB 2 2 d with
  | false =>
    rw [hp] at s1
    have : boardB d = false := by
      cases d with
      | tup ds =>
        match ds with
        | [] => rfl
        | [_] => rfl
        | [a, b] => simp [partsB] at hp
        | _ :: _ :: _ :: _ => rfl
      | _ => rfl
    rw [this]
    exact seq_rt s1
  | true =>
    rw [hp] at s1
    refine (seq_nx s1).trans ?_
    cases d with
    | tup ds =>
      match ds, hp with
      | [], hp => simp [partsB] at hp
      | [_], hp => simp [partsB] at hp
      | _ :: _ :: _ :: _, hp => simp [partsB] at hp; omega
      | [w, c], _ =>
        simp only [D.dok, D.dokA, Bool.and_eq_true] at h
        obtain ⟨hw1, hc1, _⟩ := h
        refine (seq_nx (σ1 := [some (.tup [w, c]), some w, some c, none, none]) (asg_ev rfl rfl)).trans ?_
        have h2 : fOrT (fNotT (fTest (fCall m_has_parts (fCons (fVar 1) (fCons (fC (.int 1)) (fCons (fC (.int 6)) fNil)))))) (fNotT (fTest (fCall m_is_within (fCons (fVar 2) (fCons (fC (.int 0)) (fCons (fC (.int 4)) fNil)))))) [some (.tup [w, c]), some w, some c, none, none] M = .ok (!partsB 1 6 w || !inB 0 4 c) M :=
          or_ev (not_ev (test_ev (by simp [m_has_parts_eq (dok_ok hw1)]))) fun _ => not_ev (test_ev (by simp [m_is_within_eq (dok_ok hc1)]))
        have s2 := sif_ev (s1 := sRet (fC (.bl false))) (s2 := sNext) h2
        cases hp2 : (!partsB 1 6 w || !inB 0 4 c) with
        | true =>
          rw [hp2] at s2
          have : boardB (.tup [w, c]) = false := by
            rw [Bool.or_eq_true, Bool.not_eq_true', Bool.not_eq_true'] at hp2
            rcases hp2 with z | z <;> simp [boardB, z]
          rw [this]
          exact seq_rt s2
        | false =>
          rw [hp2] at s2
          rw [Bool.or_eq_false_iff, Bool.not_eq_false', Bool.not_eq_false'] at hp2
          refine (seq_nx s2).trans ?_
          cases w with
          | tup ws =>
            cases c with
            | int k =>
              refine (seq_nx (set_ev (M1 := M) (d := .int ((ws.length : Int) + k)) (by simp))).trans (ret_ev ?_)
              have hl := partsB_len hp2.1
              rw [all_comp (wheelB ((ws.length : Int) + k)) (ds := ws) rfl hw (by omega) (fun d hd M' w' _ => by
                simp [wipeA, m_is_wheel_eq (dokA_mem (by simpa only [D.dok] using hw1) d hd) w'])]
              simp [boardB, wheelsB, hp2]
            | _ => simp [inB] at hp2
          | _ => simp [partsB] at hp2
    | _ => simp [partsB] at hp
def stepT (es : List Int) : D := .tup (es.map .int)
def wheelT (w : List (List Int)) : D := .tup (w.map stepT)
def wheelsT (ws : List (List (List Int))) : D := .tup (ws.map wheelT)
def boardT (ws : List (List (List Int))) (c : Int) : D := .tup [wheelsT ws, .int c]
theorem und_step {n : Nat} (es : List Int) : (stepT es).und n = true := by
  simp only [stepT, D.und]
  rw [undA_iff]
  intro d hd
  obtain ⟨e, _, rfl⟩ := List.mem_map.mp hd
  rfl
theorem und_wheel {n : Nat} (w : List (List Int)) : (wheelT w).und n = true := by
  simp only [wheelT, D.und]
  rw [undA_iff]
  intro d hd
  obtain ⟨e, _, rfl⟩ := List.mem_map.mp hd
  exact und_step e
theorem dokA_iff : ∀ {ds : List D}, D.dokA ds = true ↔ ∀ d ∈ ds, d.dok = true
  | [] => by simp [D.dokA]
  | d :: ds => by simp only [D.dokA, Bool.and_eq_true, dokA_iff (ds := ds), List.mem_cons, forall_eq_or_imp]
theorem dok_step (es : List Int) : (stepT es).dok = true := by
  simp only [stepT, D.dok]
  rw [dokA_iff]
  intro d hd
  obtain ⟨e, _, rfl⟩ := List.mem_map.mp hd
  rfl
theorem dok_wheel (w : List (List Int)) : (wheelT w).dok = true := by
  simp only [wheelT, D.dok]
  rw [dokA_iff]
  intro d hd
  obtain ⟨e, _, rfl⟩ := List.mem_map.mp hd
  exact dok_step e
theorem dok_wheels (ws : List (List (List Int))) : (wheelsT ws).dok = true := by
  simp only [wheelsT, D.dok]
  rw [dokA_iff]
  intro d hd
  obtain ⟨e, _, rfl⟩ := List.mem_map.mp hd
  exact dok_wheel e
theorem dok_board (ws : List (List (List Int))) (c : Int) : (boardT ws c).dok = true := by
  simp [boardT, D.dok, D.dokA, dok_wheels]
theorem stepB_ok {n : Int} {es : List Int} (h : EndsOk n es) : stepB n (stepT es) = true := by
  obtain ⟨h1, h2⟩ := h
  simp only [stepB, stepT, partsB, Bool.and_eq_true, decide_eq_true_eq, List.length_map, List.all_eq_true]
  refine ⟨⟨by omega, by omega⟩, fun d hd => ?_⟩
  obtain ⟨e, he, rfl⟩ := List.mem_map.mp hd
  have := h2 e he
  simp only [inB, Bool.and_eq_true, decide_eq_true_eq]
  omega
theorem wheelB_ok {n : Int} {w : List (List Int)} (h : WheelOk n w) : wheelB n (wheelT w) = true := by
  obtain ⟨h1, h2, h3⟩ := h
  simp only [wheelB, wheelT, partsB, Bool.and_eq_true, decide_eq_true_eq, List.length_map, List.all_eq_true]
  refine ⟨⟨by omega, by omega⟩, fun d hd => ?_⟩
  obtain ⟨e, he, rfl⟩ := List.mem_map.mp hd
  exact stepB_ok (h3 e he)
theorem boardB_ok {ws : List (List (List Int))} {c : Int} (h : BoardOk ws c) : boardB (boardT ws c) = true := by
  have h1 := h.w1
  have h2 := h.w6
  have h3 := h.c0
  have h4 := h.c4
  simp only [boardB, boardT, wheelsB, wheelsT, partsB, inB, Bool.and_eq_true, decide_eq_true_eq, List.length_map, List.all_eq_true]
  refine ⟨⟨by omega, by omega⟩, ⟨by omega, by omega⟩, fun d hd => ?_⟩
  obtain ⟨e, he, rfl⟩ := List.mem_map.mp hd
  exact wheelB_ok (h.wheels e he)
theorem m_need_board_eq {ws : List (List (List Int))} {c : Int} {M : Mem} (h : BoardOk ws c) (hw : Wf M) : m_need_board [boardT ws c] M = .ok .non M := by
  refine (run_nx (M1 := M) (σ := startA 1 [boardT ws c]) rfl ?_).trans (trim_id rfl)
  refine (sif_ev (p := false) (not_ev (p := true) (test_ev ?_))).trans rfl
  rw [call_ev (ds := [boardT ws c]) (M1 := M) rfl, m_is_board_eq (dok_board ws c) hw, boardB_ok h]
end QX
set_option maxRecDepth 100000
set_option maxHeartbeats 1000000
namespace QX
open PySem PySem.Spec PyProof.Rows L2 HX
theorem m_cell_at_eq {ns : List Int} {k : Nat} {M : Mem} : m_law_cell_at_e50a56 [.scr ns, .int k] M = .ok (.int (ns.getD k 0)) M := by
  have h1 : fTest (fBin (gCmp cLt) (fVar 1) (fCall gLen (fCons (fVar 0) fNil))) (startA 2 [.scr ns, .int k]) M = .ok (decide ((k : Int) < ns.length)) M := by simp [startA]
  by_cases hk : k < ns.length
  · refine (run_rt (M1 := M) (d := .int (ns.getD k 0)) rfl (seq_rt ((sif_ev h1).trans ?_))).trans (trim_id rfl)
    rw [if_pos (by simpa using hk)]
    refine ret_ev ?_
    have e : atI (ns.map D.int) (k : Int) = some (.int (ns.getD k 0)) := by
      rw [atI_nn (by omega), List.getElem?_map, Int.toNat_natCast, List.getD_eq_getElem?_getD, List.getElem?_eq_getElem hk]
      rfl
    simp [startA, e]
  · refine (run_rt (M1 := M) (d := .int (ns.getD k 0)) rfl ((seq_nx ((sif_ev h1).trans (if_neg (by simpa using hk)))).trans ?_)).trans (trim_id rfl)
    rw [List.getD_eq_getElem?_getD, List.getElem?_eq_none (by omega)]
    rfl
def PenOk (k : Nat) : Cell → Prop
  | .dic _ => False
  | .lst ds => ∃ a b c : Int, ds = [.int a, .int b, .int c] ∧ 0 ≤ b ∧ b < 1000000007 ∧ 0 ≤ c ∧ c + k ≤ 1000000000
theorem PenOk.und {k n : Nat} {x : Cell} (h : PenOk k x) : Cell.und n x = true := by
  cases x with
  | dic _ => exact h.elim
  | lst ds =>
    obtain ⟨a, b, c, rfl, _⟩ := h
    rfl
theorem PenOk.less {j k : Nat} {x : Cell} (h : PenOk k x) (hj : j ≤ k) : PenOk j x := by
  cases x with
  | dic _ => exact h.elim
  | lst ds =>
    obtain ⟨a, b, c, e, h1, h2, h3, h4⟩ := h
    exact ⟨a, b, c, e, h1, h2, h3, by omega⟩
theorem m_pen_eq {c : Int} {M : Mem} : ∃ x, m_law_pen_579b16 [.int c] M = .ok (.ref M.length) (M ++ [x]) ∧ PenOk 1000000000 x := by
  have h10 : gPow (.int 10) (.int 18) M = .ok (.int 1000000000000000000) M := by
    have : (10 : Int) ^ (18 : Int).toNat = 1000000000000000000 := by decide +kernel
    have e : (decide ((0 : Int) ≤ 18) && decide ((18 : Int) ≤ 1000000) && Nat.blt (10 : Int).natAbs 18446744073709551616) = true := by decide +kernel
    show (if (decide ((0 : Int) ≤ 18) && decide ((18 : Int) ≤ 1000000) && Nat.blt (10 : Int).natAbs 18446744073709551616) = true then Res.ok (D.int ((10 : Int) ^ (18 : Int).toNat)) M else Res.bad) = _
    rw [if_pos e, this]
  refine ⟨.lst [.int (if c - 1000000000000000000 > 0 then c - 1000000000000000000 else 0), .int (c % 1000000007), .int 0], ?_, _, _, _, rfl, by omega, by omega, by omega, by omega⟩
  unfold m_law_pen_579b16 runD b_law_pen_579b16
  simp [startA, h10]
theorem mulOk_small {i j : Int} (hi : i.natAbs < 2 ^ 64) (hj : j.natAbs < 2 ^ 64) : mulOk i j = true := by
  unfold mulOk
  rw [Nat.blt_eq]
  have a := PySem.Flt.log2_lt_of (by decide : 0 < 64) hi
  have b := PySem.Flt.log2_lt_of (by decide : 0 < 64) hj
  omega
theorem m_draw_eq {p k : Nat} {n : Int} {M : Mem} {x : Cell} (hx : M[p]? = some x) (ho : PenOk (k + 1) x) (h1 : 1 ≤ n) (h2 : n ≤ 1000000000) : ∃ z x', m_law_draw_321cf4 [.ref p, .int n] M = .ok (.int z) (M.set p x') ∧ 0 ≤ z ∧ z < n ∧ PenOk k x' := by
  cases x with
  | dic _ => exact ho.elim
  | lst ds =>
    obtain ⟨a, b, c, rfl, b0, b1, c0, c1⟩ := ho
    have hp : p < M.length := (List.getElem?_eq_some_iff.mp hx).1
    have g0 : gIx (.ref p) (.int 0) M = .ok (.int a) M := by rw [gIx_ref hx]; simp
    by_cases ha : 0 < a
    · refine ⟨a % n, .lst [.int (a / n), .int b, .int c], ?_, Int.emod_nonneg _ (by omega), Int.emod_lt_of_pos _ (by omega), _, _, _, rfl, b0, b1, c0, by omega⟩
      refine (run_rt (M1 := M.set p (.lst [.int (a / n), .int b, .int c])) (d := .int (a % n)) rfl (seq_rt ((sif_ev (p := true) (M1 := M) (test_ev ?_)).trans ((if_pos rfl).trans ?_)))).trans (trim_id (by simp))
      · simp [startA, g0, cGt, ha]
      · have hlog : n.natAbs.log2 < 9000 := Nat.lt_of_lt_of_le (PySem.Flt.log2_lt_of (by decide : 0 < 64) (by omega)) (by decide)
        have hb : Nat.blt n.natAbs.log2 9000 = true := by rw [Nat.blt_eq]; exact hlog
        refine (seq_nx (set_ev (M1 := M) (d := .int (a % n)) ?_)).trans ((seq_nx (σ1 := [some (.ref p), some (.int n), some (.int (a % n)), none]) (M1 := M.set p (.lst [.int (a / n), .int b, .int c])) ?_).trans (ret_ev ?_))
        · simp [startA, g0, show 0 < n by omega]
        · simp [startA, g0, show 0 < n by omega, hb, gSetIx, hx, ixN]
        · simp [startA]
    · have hM : ∀ d : D, (M.set p (.lst [.int a, .int b, d]))[p]? = some (.lst [.int a, .int b, d]) := fun d => List.getElem?_set_self hp
      have g1 : gIx (.ref p) (.int 2) M = .ok (.int c) M := by rw [gIx_ref hx]; simp
      let M1 := M.set p (.lst [.int a, .int b, .int (c + 1)])
      have e1 : gIx (.ref p) (.int 1) M1 = .ok (.int b) M1 := by rw [gIx_ref (hM _)]; simp; rfl
      have e2 : gIx (.ref p) (.int 2) M1 = .ok (.int (c + 1)) M1 := by rw [gIx_ref (hM _)]; simp; rfl
      let s1 := (b + 17 * (c + 1)) * (69621 + 2 * (c + 1)) % 2147483647
      let s2 := (s1 * s1 + 40503 * (c + 1) + 5) % 2147483629
      have a1 : 0 ≤ s1 ∧ s1 < 2147483647 := ⟨Int.emod_nonneg _ (by decide), Int.emod_lt_of_pos _ (by decide)⟩
      have a2 : 0 ≤ s2 ∧ s2 < 2147483629 := ⟨Int.emod_nonneg _ (by decide), Int.emod_lt_of_pos _ (by decide)⟩
      refine ⟨s2 * 48271 % 2147483647 / 32 % n, .lst [.int a, .int b, .int (c + 1)], ?_, Int.emod_nonneg _ (by omega), Int.emod_lt_of_pos _ (by omega), _, _, _, rfl, b0, b1, by omega, by omega⟩
      refine (run_rt (M1 := M1) (d := .int (s2 * 48271 % 2147483647 / 32 % n)) rfl ((seq_nx ((sif_ev (p := false) (M1 := M) (test_ev ?_)).trans (if_neg (by decide)))).trans ?_)).trans (trim_id (by simp [M1]))
      · simp [startA, g0, cGt, ha]
      · refine (seq_nx (M1 := M1) (σ1 := startA 4 [.ref p, .int n]) ?_).trans ((seq_nx (set_ev (M1 := M1) (d := .int s1) ?_)).trans ((seq_nx (set_ev (M1 := M1) (d := .int s2) ?_)).trans (ret_ev ?_)))
        · simp [startA, g1, gSetIx, hx, ixN, M1]
        · have m1 : mulOk 17 (c + 1) = true := mulOk_small (by omega) (by omega)
          have m2 : mulOk 2 (c + 1) = true := mulOk_small (by omega) (by omega)
          have m3 : mulOk (b + 17 * (c + 1)) (69621 + 2 * (c + 1)) = true := mulOk_small (by omega) (by omega)
          simp [startA, e1, e2, m1, m2, m3, s1]
        · have m1 : mulOk s1 s1 = true := mulOk_small (by omega) (by omega)
          have m2 : mulOk 40503 (c + 1) = true := mulOk_small (by omega) (by omega)
          simp [startA, e1, e2, m1, m2, s2]
        · have m1 : mulOk s2 48271 = true := mulOk_small (by omega) (by omega)
          have hb : Nat.log2 32 < 9000 := by decide +kernel
          simp [startA, m1, hb, show 0 < n by omega]
end QX
set_option maxRecDepth 100000
set_option maxHeartbeats 1000000
namespace QX
open PySem PySem.Spec PyProof.Rows L2 HX
section
variable {M0 g : Mem} {p k : Nat} {x : Cell}
end
theorem for_nums {b : FS} {n m i : Nat} {σ : Sa} {M : Mem} (Iv : Nat → Sa → Mem → Prop) (h0 : Iv 0 σ M) (step : ∀ j σ M, j < m → Iv j σ M → ∃ σ2 M2, (b (σ.set i (some (.int (j : Int)))) M = .ok (.nx σ2) M2 ∨ b (σ.set i (some (.int (j : Int)))) M = .ok (.ct σ2) M2) ∧ Iv (j + 1) (gc n σ2 M2).1 (gc n σ2 M2).2) :
    ∃ σ' M', forL (.name i) b (fun _ => true) n (nums 0 m) σ M = .ok (.nx σ') M' ∧ Iv m σ' M' := by
  obtain ⟨σ', M', h1, h2⟩ := for_loop (t := .name i) (b := b) (chk := fun _ => true) (n := n) Iv (nums 0 m) 0 σ M (fun j σ M im hj _ hv => by
    rw [Nat.sub_zero] at hj
    have hlt : j < m := by
      have := (List.getElem?_eq_some_iff.mp hj).1
      rw [nums_len] at this
      exact this
    rw [nums_at m 0 j hlt] at hj
    cases hj
    obtain ⟨σ2, M2, h1, h2⟩ := step j σ M hlt hv
    refine ⟨rfl, _, rfl, σ2, M2, ?_, h2⟩
    rw [Int.zero_add]
    exact h1) (fun _ _ _ => rfl) h0
  rw [Nat.zero_add, nums_len] at h2
  exact ⟨σ', M', h1, h2⟩
theorem for_items {b : FS} {n i : Nat} {σ : Sa} {M : Mem} {ds : List D} (Iv : Nat → Sa → Mem → Prop) (h0 : Iv 0 σ M) (step : ∀ j σ M d, ds[j]? = some d → Iv j σ M → ∃ σ2 M2, (b (σ.set i (some d)) M = .ok (.nx σ2) M2 ∨ b (σ.set i (some d)) M = .ok (.ct σ2) M2) ∧ Iv (j + 1) (gc n σ2 M2).1 (gc n σ2 M2).2) :
    ∃ σ' M', forL (.name i) b (fun _ => true) n (ds.map .d) σ M = .ok (.nx σ') M' ∧ Iv ds.length σ' M' := by
  obtain ⟨σ', M', h1, h2⟩ := for_loop (t := .name i) (b := b) (chk := fun _ => true) (n := n) Iv (ds.map .d) 0 σ M (fun j σ M im hj _ hv => by
    rw [Nat.sub_zero, List.getElem?_map] at hj
    cases q : ds[j]? with
    | none => rw [q] at hj; cases hj
    | some d =>
      rw [q] at hj
      cases hj
      obtain ⟨σ2, M2, h1, h2⟩ := step j σ M d q hv
      exact ⟨rfl, _, rfl, σ2, M2, h1, h2⟩) (fun _ _ _ => rfl) h0
  rw [Nat.zero_add, List.length_map] at h2
  exact ⟨σ', M', h1, h2⟩
def Has (σ : Sa) (n : Nat) (l : List (Nat × D)) : Prop := σ.length = n ∧ ∀ q ∈ l, σ[q.1]? = some (some q.2)
theorem Has.at {σ : Sa} {n : Nat} {l : List (Nat × D)} (h : Has σ n l) {i : Nat} {d : D} (hm : (i, d) ∈ l) : σ[i]? = some (some d) := h.2 _ hm
theorem Has.set {σ : Sa} {n : Nat} {l : List (Nat × D)} (h : Has σ n l) {i : Nat} {o : Option D} (hi : ∀ q ∈ l, q.1 ≠ i) : Has (σ.set i o) n l :=
  ⟨by rw [List.length_set]; exact h.1, fun q hq => by rw [List.getElem?_set_ne (Ne.symm (hi q hq))]; exact h.2 q hq⟩
theorem Has.put {σ : Sa} {n : Nat} {l : List (Nat × D)} (h : Has σ n l) {i : Nat} {d : D} (hn : i < n) (hi : ∀ q ∈ l, q.1 ≠ i) : Has (σ.set i (some d)) n ((i, d) :: l) := by
  refine ⟨by rw [List.length_set]; exact h.1, fun q hq => ?_⟩
  rcases List.mem_cons.mp hq with rfl | hq
  · exact List.getElem?_set_self (by rw [h.1]; exact hn)
  · rw [List.getElem?_set_ne (Ne.symm (hi q hq))]
    exact h.2 q hq
theorem Has.keep {σ : Sa} {n m : Nat} {l : List (Nat × D)} (h : Has σ n l) (hu : ∀ q ∈ l, q.2.und m = true) : Has (σ.map (keepS m)) n l := by
  refine ⟨by rw [List.length_map]; exact h.1, fun q hq => ?_⟩
  rw [List.getElem?_map, h.2 q hq]
  show some (keepS m (some q.2)) = _
  unfold keepS
  dsimp only
  rw [if_pos (hu q hq)]
theorem Has.sub {σ : Sa} {n : Nat} {l l' : List (Nat × D)} (h : Has σ n l) (hs : ∀ q ∈ l', q ∈ l) : Has σ n l' := ⟨h.1, fun q hq => h.2 q (hs q hq)⟩
end QX
set_option maxRecDepth 100000
set_option maxHeartbeats 1000000
namespace QX
open PySem PySem.Spec PyProof.Rows L2 HX
theorem last_at {A : Mem} {c : Cell} {n : Nat} (h : A.length = n) : (A ++ [c])[n]? = some c := by
  rw [List.getElem?_append_right (by omega), h, Nat.sub_self]; rfl
section
variable {M0 g : Mem} {p k : Nat} {x : Cell} {σ : Sa} {many cups : Int}
end
end QX
set_option maxRecDepth 100000
set_option maxHeartbeats 1000000
namespace QX
open PySem PySem.Spec PyProof.Rows L2 HX
section
variable {M0 : Mem} {p k : Nat} {x : Cell} {many cups : Int}
theorem undA_map {α : Type} {n : Nat} {f : α → D} (h : ∀ a, (f a).und n = true) (xs : List α) : D.undA n (xs.map f) = true := by
  rw [undA_iff]
  intro d hd
  obtain ⟨a, _, rfl⟩ := List.mem_map.mp hd
  exact h a
end
end QX
set_option maxRecDepth 100000
set_option maxHeartbeats 1000000
namespace QX
open PySem PySem.Spec PyProof.Rows L2 HX
def nones (ls : List (Option Int)) : Nat := (ls.filter (·.isNone)).length
def LinksOk (n : Int) (ls : List (Option Int)) : Prop := ∀ l ∈ ls, ∀ i, l = some i → 0 ≤ i ∧ i < n
def cupsNum (w : Int) : Int → List (Option Int) → List Int
  | _, [] => []
  | c, none :: ls => c :: cupsNum w (c + 1) ls
  | c, some l :: ls => (w + l) :: cupsNum w c ls
theorem cupsNum_at (w : Int) : ∀ (ls : List (Option Int)) (c : Int) (i : Nat) (l : Option Int), ls[i]? = some l → (cupsNum w c ls)[i]? = some (match l with | none => c + nones (ls.take i) | some j => w + j)
  | [], _, _, _, h => by simp at h
  | none :: ls, c, 0, l, h => by simp at h; subst h; simp [cupsNum, nones]
  | some k :: ls, c, 0, l, h => by simp at h; subst h; simp [cupsNum]
  | none :: ls, c, i + 1, l, h => by
    rw [cupsNum, List.getElem?_cons_succ, cupsNum_at w ls (c + 1) i l (by simpa using h)]
    cases l with
    | none => simp [nones]; omega
    | some j => rfl
  | some k :: ls, c, i + 1, l, h => by
    rw [cupsNum, List.getElem?_cons_succ, cupsNum_at w ls c i l (by simpa using h)]
    cases l with
    | none => simp [nones]
    | some j => rfl
def upTo (lo : Int) : Nat → List Int
  | 0 => []
  | n + 1 => lo :: upTo (lo + 1) n
theorem upTo_len : ∀ (n : Nat) (lo : Int), (upTo lo n).length = n
  | 0, _ => rfl
  | n + 1, lo => by simp only [upTo, List.length_cons, upTo_len n]
theorem upTo_at : ∀ (n : Nat) (lo : Int) (i : Nat), i < n → (upTo lo n)[i]? = some (lo + i)
  | n + 1, lo, 0, _ => by simp [upTo]
  | n + 1, lo, i + 1, h => by
    rw [upTo, List.getElem?_cons_succ, upTo_at n (lo + 1) i (by omega)]
    congr 1
    omega
def firstNum (w1 w2 : Nat) (ls : List (Option Int)) : List Int := upTo 0 w1 ++ cupsNum w1 (w1 + w2) ls
def secNum (w1 w2 k c2 : Nat) : List Int := upTo w1 w2 ++ upTo (w1 + w2 + k) c2
def renumW (f : List Int) (ws : List (List (List Int))) : List (List (List Int)) := ws.map fun w => w.map fun s => s.map fun e => f.getD e.toNat 0
section
variable {M : Mem}
theorem board_0 {ws : List (List (List Int))} {c : Int} : gIx (boardT ws c) (.int 0) M = .ok (wheelsT ws) M := by simp [boardT]
theorem board_1 {ws : List (List (List Int))} {c : Int} : gIx (boardT ws c) (.int 1) M = .ok (.int c) M := by simp [boardT]
theorem wheels_len {ws : List (List (List Int))} : gLen [wheelsT ws] M = .ok (.int ws.length) M := by simp [wheelsT]
theorem m_is_wheel_number_eq {ws : List (List (List Int))} {c : Int} {d : D} (h : d.ok = true) : m_is_wheel_number [boardT ws c, d] M = .ok (.bl (inB 0 ((ws.length : Int) - 1) d)) M := by
  refine run_pure rfl ?_
  simp [startA, board_0, wheels_len, m_is_within_eq h]
theorem nones_append (as bs : List (Option Int)) : nones (as ++ bs) = nones as + nones bs := by simp [nones, List.filter_append]
theorem mid_small {n : Int} (h0 : -1000 ≤ n) (h1 : n ≤ 1000) : mid n = true := by
  simp only [mid, Bool.and_eq_true, decide_eq_true_eq]
  omega
theorem rgOk_small {a b : Int} (h0 : 0 ≤ a) (h1 : a ≤ 1000) (h2 : 0 ≤ b) (h3 : b ≤ 1000) : rgOk a b = true := by
  unfold rgOk
  rw [mid_small (by omega) (by omega), mid_small (by omega) (by omega)]
  simp
  omega
end
end QX
set_option maxRecDepth 100000
set_option maxHeartbeats 1000000
namespace QX
open PySem PySem.Spec PyProof.Rows L2 HX
section
variable {M : Mem}
theorem bin_ev {g : D → D → Mem → Res D} {fa fb : F D} {σ : Sa} {M1 M2 : Mem} {a b : D} (ha : fa σ M = .ok a M1) (hb : fb σ M1 = .ok b M2) : fBin g fa fb σ M = g a b M2 := by
  rw [ev_bin, ha, bind_ok, hb, bind_ok]
end
end QX
set_option maxRecDepth 100000
set_option maxHeartbeats 1000000
namespace QX
open PySem PySem.Spec PyProof.Rows L2 HX
end QX
set_option maxRecDepth 100000
set_option maxHeartbeats 1000000
namespace QX
open PySem PySem.Spec PyProof.Rows L2 HX
section
variable {M : Mem} {ws1 ws2 : List (List (List Int))} {ls : List (Option Int)} {c2 : Nat}
def joinW (ws1 ws2 : List (List (List Int))) (ls : List (Option Int)) (c2 : Nat) : List (List (List Int)) := renumW (firstNum ws1.length ws2.length ls) ws1 ++ renumW (secNum ws1.length ws2.length (nones ls) c2) ws2
theorem gAdd_tup_ok {ds es : List D} (h : ds.length + es.length ≤ 1000) : gAdd (.tup ds) (.tup es) M = .ok (.tup (ds ++ es)) M := by
  rw [gAdd_tup, if_pos (ok_few (by rw [sizeLine_eq]; omega))]
theorem tup2_ev {fa fb : F D} {σ : Sa} {M1 M2 : Mem} {a b : D} (ha : fa σ M = .ok a M1) (hb : fb σ M1 = .ok b M2) : fTup (fCons fa (fCons fb fNil)) σ M = .ok (.tup [a, b]) M2 := by
  have hf2 : few 2 = true := by decide
  simp [ha, hb, hf2]
theorem renumW_len {f : List Int} {ws : List (List (List Int))} : (renumW f ws).length = ws.length := by unfold renumW; exact List.length_map ..
end
end QX
set_option maxRecDepth 100000
set_option maxHeartbeats 1000000
namespace QX
open PySem PySem.Spec PyProof PyProof.Rows L2 HX
def RP (d : D) (w h : Nat) : Prop := ∃ p, D.py d = some p ∧ withinB p = true ∧ wt p ≤ w ∧ p.depth ≤ h ∧ p.hasDict = false ∧ ∀ k, 1114112 ≤ k → k ∉ p.shown.cps.toList
theorem RP.intW {i : Int} (h0 : -100000000000000000000000000000000000000000000000000000000000000000000000000000000000000000000000000000000000000000000000 ≤ i) (h1 : i ≤ 100000000000000000000000000000000000000000000000000000000000000000000000000000000000000000000000000000000000000000000000) : RP (.int i) 130 1 :=
  ⟨.int i, rfl, by simp only [withinB, Bool.and_eq_true, decide_eq_true_eq]; exact ⟨h0, h1⟩, by simp [wt], by simp [PyData.depth], by simp [PyData.hasDict], fun k hk => shown_int_free' ⟨by omega, by omega⟩ i⟩
theorem RP.int {i : Int} (h0 : -2000000000000 ≤ i) (h1 : i ≤ 2000000000000) : RP (.int i) 130 1 := RP.intW (by omega) (by omega)
theorem RP.non : RP .non 130 1 :=
  ⟨.none, rfl, by simp [withinB], by simp [wt], by simp [PyData.depth], by simp [PyData.hasDict], fun k hk => by
    rw [PyData.shown_none]
    have e : (("None" : String) : Str).cps.toList = [78, 111, 110, 101] := by decide
    rw [e]; intro hm; simp only [List.mem_cons, List.not_mem_nil, or_false] at hm
    rcases hm with h | h | h | h <;> omega⟩
theorem RP.mono {d : D} {w h w' h' : Nat} (r : RP d w h) (hw : w ≤ w') (hh : h ≤ h') : RP d w' h' := by
  obtain ⟨p, a, b, c, e, f, g⟩ := r
  exact ⟨p, a, b, by omega, by omega, f, g⟩
theorem rp_all {w h : Nat} : ∀ ds : List D, (∀ d ∈ ds, RP d w h) → ∃ ps, D.pyA ds = some ps ∧ withinBA ps = true ∧ wtAll ps ≤ ds.length * (w + 2) ∧ PyData.depthAll ps ≤ h ∧ PyData.hasDictAll ps = false ∧ ∀ k, 1114112 ≤ k → ∀ p ∈ ps, k ∉ p.shown.cps.toList
  | [], _ => ⟨[], by simp [D.pyA], by simp [withinBA], by simp [wtAll], by simp [PyData.depthAll], by simp [PyData.hasDictAll], fun k _ p hp => by simp at hp⟩
  | d :: ds, hd => by
    obtain ⟨p, a, b, c, e, f, g⟩ := hd d (by simp)
    obtain ⟨ps, a', b', c', e', f', g'⟩ := rp_all ds fun x hx => hd x (by simp [hx])
    refine ⟨p :: ps, by simp only [D.pyA, a, a'], by simp [withinBA, b, b'], ?_, ?_, by simp [PyData.hasDictAll, f, f'], fun k hk q hq => ?_⟩
    · simp only [wtAll, List.length_cons, Nat.add_mul, Nat.one_mul]; omega
    · simp only [PyData.depthAll]; omega
    · rcases List.mem_cons.mp hq with rfl | hq
      · exact g k hk
      · exact g' k hk q hq
theorem RP.tup {ds : List D} {w h n : Nat} (hd : ∀ d ∈ ds, RP d w h) (hn : ds.length ≤ n) : RP (.tup ds) (3 + n * (w + 2)) (h + 1) := by
  obtain ⟨ps, a', b', c', e', f', g'⟩ := rp_all ds hd
  refine ⟨.tuple ps, by simp only [D.py, a'], by simp [withinB, b'], ?_, ?_, by simp [PyData.hasDict, f'], fun k hk => ?_⟩
  · have : ds.length * (w + 2) ≤ n * (w + 2) := Nat.mul_le_mul_right _ hn
    simp only [wt]; omega
  · simp only [PyData.depth]; omega
  · simp only [PyData.shown, tupleText]
    rw [mem_cps_append, mem_cps_append, signs_lparen, mem_join, signs_tuple_end, signs_sep]
    rintro ((hm | (⟨t, ht, hc⟩ | ⟨_, hm⟩)) | hm)
    · simp at hm; omega
    · exact shownAll_free (g' k hk) t ht hc
    · simp at hm; omega
    · split at hm
      · simp at hm; omega
      · simp at hm; omega
theorem strOk_free {x : Str} (h : ∀ k, 1114112 ≤ k → k ∉ x.cps.toList) : SeqAt.shaped (.str x) = true := by
  have : PyData.strOk x = true := by
    unfold PyData.strOk
    rw [Array.all_eq_true_iff_forall_mem]
    intro k hk
    by_cases hlt : k < 1114112
    · simpa using hlt
    · exact absurd (by simpa using hk) (h k (by omega))
  simp [SeqAt.shaped, PyData.canLay0, PyData.depth, this]
theorem RP.repr {d : D} {w h : Nat} (r : RP d w h) (hw : w ≤ 16000000) (hh : h ≤ 100) : ∃ x, SeqAt.shaped (.str x) = true ∧ ∀ M, gRepr [d] M = .ok (.str x) M := by
  obtain ⟨p, a, b, c, e, f, g⟩ := r
  refine ⟨p.shown, strOk_free g, fun M => ?_⟩
  have ht : toPy M d = some p := by
    cases d with
    | ref n => simp [D.py] at a
    | _ => exact a
  have ho : okRepr p = true := by
    unfold okRepr
    simp only [Bool.and_eq_true, Nat.ble_eq, Bool.not_eq_true', b, f, and_true, true_and]
    exact ⟨by omega, by omega⟩
  simp only [gRepr, ht]
  exact if_pos ho
theorem RP.step {n : Int} {s : List Int} (h : EndsOk n s) (hn : n ≤ 1000) : RP (stepT s) 400 2 := by
  refine (RP.tup (w := 130) (h := 1) (n := 3) (fun d hd => ?_) (by rw [List.length_map]; exact h.1)).mono (by omega) (by omega)
  obtain ⟨e, he, rfl⟩ := List.mem_map.mp hd
  have := h.2 e he
  exact RP.int (by omega) (by omega)
theorem RP.wheel {n : Int} {w : List (List Int)} (h : WheelOk n w) (hn : n ≤ 1000) : RP (wheelT w) 2000 3 := by
  refine (RP.tup (w := 400) (h := 2) (n := 4) (fun d hd => ?_) (by rw [List.length_map]; exact h.2.1)).mono (by omega) (by omega)
  obtain ⟨e, he, rfl⟩ := List.mem_map.mp hd
  exact RP.step (h.2.2 e he) hn
theorem RP.board {n : Int} {ws : List (List (List Int))} {c : Int} (h : ∀ w ∈ ws, WheelOk n w) (hn : n ≤ 1000) (hl : ws.length ≤ 20) (h0 : 0 ≤ c) (h1 : c ≤ 1000) : RP (boardT ws c) 100000 5 := by
  refine (RP.tup (w := 41000) (h := 4) (n := 2) (fun d hd => ?_) (by simp)).mono (by omega) (by omega)
  simp only [List.mem_cons, List.mem_nil_iff, or_false] at hd
  rcases hd with rfl | rfl
  · refine (RP.tup (w := 2000) (h := 3) (n := 20) (fun d hd => ?_) (by rw [List.length_map]; exact hl)).mono (by omega) (by omega)
    obtain ⟨e, he, rfl⟩ := List.mem_map.mp hd
    exact RP.wheel (h e he) hn
  · exact (RP.int (by omega) (by omega)).mono (by omega) (by omega)
end QX
set_option maxRecDepth 100000
set_option maxHeartbeats 1000000
namespace QX
open PySem PySem.Spec PyProof.Rows L2 HX
section
variable {M : Mem} {p k : Nat} {x : Cell} {σ : Sa}
theorem par_ev {fa fb : F D} {i j : Nat} {M1 M2 : Mem} {a b : D} (ha : fa σ M = .ok a M1) (hb : fb σ M1 = .ok b M2) : sPar i j (fCons fa (fCons fb fNil)) σ M = .ok (.nx ((σ.set i (some a)).set j (some b))) M2 := by
  simp [ha, hb]
theorem call1_ev {m : List D → Mem → Res D} {fa : F D} {M1 : Mem} {a : D} (ha : fa σ M = .ok a M1) : fCall m (fCons fa fNil) σ M = m [a] M1 := call_ev (by simp [ha])
theorem call3_ev {m : List D → Mem → Res D} {fa fb fc : F D} {M1 M2 M3 : Mem} {a b c : D} (ha : fa σ M = .ok a M1) (hb : fb σ M1 = .ok b M2) (hc : fc σ M2 = .ok c M3) : fCall m (fCons fa (fCons fb (fCons fc fNil))) σ M = m [a, b, c] M3 := call_ev (by simp [ha, hb, hc])
theorem var_ev {i : Nat} {d : D} (h : σ[i]? = some (some d)) : fVar i σ M = .ok d M := by rw [ev_var, h]
theorem for_of {fi : F Ita} {i : Nat} {b : FS} {items : List Im} {M1 : Mem} {r : RS} (h : fi σ M = .ok ⟨items, fun _ => true⟩ M1) (hf : forL (.name i) b (fun _ => true) M1.length items σ M1 = r) : sFor fi (.name i) b σ M = r := by
  rw [ev_for, h]
  exact hf
theorem tup1_ev {fa : F D} {M1 : Mem} {a : D} (ha : fa σ M = .ok a M1) : fTup (fCons fa fNil) σ M = .ok (.tup [a]) M1 := by
  have hf2 : few 1 = true := by decide
  simp [ha, hf2]
theorem range1_ev {fa : F D} {j : Int} {M1 : Mem} {n : Nat} (h : fa σ M = .ok (.int j) M1) (h0 : -1000 ≤ j) (h1 : j ≤ 1000) (hn : j.toNat = n) : fIt gRange1 (fCons fa fNil) σ M = .ok ⟨nums 0 n, fun _ => true⟩ M1 := by
  subst hn
  have hm := mid_small h0 h1
  rw [ev_it, ev_cons, h, bind_ok, ev_nil, bind_ok, bind_ok, gRange1_int]
  exact if_pos hm
theorem call2_ev {m : List D → Mem → Res D} {fa fb : F D} {M1 M2 : Mem} {a b : D} (ha : fa σ M = .ok a M1) (hb : fb σ M1 = .ok b M2) : fCall m (fCons fa (fCons fb fNil)) σ M = m [a, b] M2 := call_ev (by simp [ha, hb])
end
theorem all_it {fi : F Ita} {vs : List Nat} {t : Tg} {e : F D} {σ : Sa} {M : Mem} {it : Ita} (f : Im → Bool) (hi : fi σ M = .ok it M) (hc : ∀ M', it.chk M' = true) (hw : Wf M) (hl : it.items.length ≤ 1000000)
    (he : ∀ im ∈ it.items, ∃ σ1, t.put im (wipeA σ vs) = some σ1 ∧ ∀ M', Wf M' → M.length < M'.length → e σ1 M' = .ok (.bl (f im)) M') : fCall gAll (fCons (fTrim (fCompC fi vs t fYes e)) fNil) σ M = .ok (.bl (it.items.all f)) M := by
  have h := comp_pure (fi := fi) (vs := vs) (t := t) (e := e) (σ := σ) (M := M) (it := it) (fun im => .bl (f im)) hi hc hw hl (fun im him => ⟨rfl, he im him⟩)
  rw [ev_call, ev_cons, h]
  simp only [bind_ok, ev_nil]
  exact gAll_map f it.items
def moT (m : Mo) : D := .tup [stepT m.st, stepT m.wt, stepT m.hd]
variable {M : Mem} {ws : List (List (List Int))} {c : Int} {m : Mo} {σ : Sa}
theorem ok_stepT (s : List Int) : (stepT s).ok = true := rfl
theorem parts_step {a b : Int} (s : List Int) : partsB a b (stepT s) = (decide (a ≤ (s.length : Int)) && decide ((s.length : Int) ≤ b)) := by
  simp [partsB, stepT]
theorem zip_sw : ∀ (st : List Int) (ws : List (List (List Int))) (im : Im), im ∈ zip2 (st.map D.int) (ws.map wheelT) → ∃ (i : Nat) (s : Int) (w : List (List Int)), st[i]? = some s ∧ ws[i]? = some w ∧ im = .pr [.int s, wheelT w]
  | [], ws, im, h => by simp [zip2] at h
  | s :: st, [], im, h => by simp [zip2] at h
  | s :: st, w :: ws, im, h => by
    simp only [List.map_cons, zip2, List.mem_cons] at h
    rcases h with rfl | h
    · exact ⟨0, s, w, rfl, rfl, rfl⟩
    · obtain ⟨i, a, b, h1, h2, h3⟩ := zip_sw st ws im h
      exact ⟨i + 1, a, b, by simpa using h1, by simpa using h2, h3⟩
theorem zip_len : ∀ (as bs : List D), (zip2 as bs).length ≤ as.length
  | [], bs => by simp [zip2]
  | a :: as, [] => by simp [zip2]
  | a :: as, b :: bs => by
    have := zip_len as bs
    simp only [zip2, List.length_cons]
    omega
theorem m_is_stand_eq (hw : Wf M) (hb : BoardOk ws c) {st : List Int} (hl : st.length = ws.length) (hr : ∀ (i : Nat) (s : Int) (w : List (List Int)), st[i]? = some s → ws[i]? = some w → 0 ≤ s ∧ s < (w.length : Int)) : m_is_stand [boardT ws c, stepT st] M = .ok (.bl true) M := by
  have h6 := hb.w6
  have e1 := m_need_board_eq hb hw
  have s1 : sExpr (fCall m_need_board (fCons (fVar 0) fNil)) [some (boardT ws c), some (stepT st), none, none, none] M = .ok (.nx [some (boardT ws c), some (stepT st), none, none, none]) M := by
    as_aux_lemma => exact expr_ev (d := .non) ((call1_ev (var_ev rfl)).trans e1)
  have s2 : sSet 2 (fBin gIx (fVar 0) (fC (.int 0))) [some (boardT ws c), some (stepT st), none, none, none] M = .ok (.nx [some (boardT ws c), some (stepT st), some (wheelsT ws), none, none]) M := by
    as_aux_lemma => exact set_ev ((bin_ev (M2 := M) (b := .int 0) (var_ev rfl) rfl).trans board_0)
  have s3 : sIf (fNotT (fTest (fCall m_has_parts (fCons (fVar 1) (fCons (fCall gLen (fCons (fVar 2) fNil)) (fCons (fCall gLen (fCons (fVar 2) fNil)) fNil)))))) (sRet (fC (.bl false))) sNext [some (boardT ws c), some (stepT st), some (wheelsT ws), none, none] M = .ok (.nx [some (boardT ws c), some (stepT st), some (wheelsT ws), none, none]) M := by
    as_aux_lemma =>
      refine (sif_ev (p := false) (not_ev (p := true) (test_ev ?_))).trans rfl
      refine (call3_ev (var_ev rfl) ((call1_ev (var_ev rfl)).trans wheels_len) ((call1_ev (var_ev rfl)).trans wheels_len)).trans ?_
      rw [m_has_parts_eq (ok_stepT st), parts_step]
      simp [hl]
  have e4 := all_it (fi := fIt gZip2 (fCons (fVar 1) (fCons (fVar 2) fNil))) (vs := [3, 4]) (t := .tup [3, 4]) (e := (fCall m_is_within (fCons (fVar 3) (fCons (fC (.int 0)) (fCons (fBin gSub (fCall gLen (fCons (fVar 4) fNil)) (fC (.int 1))) fNil))))) (σ := [some (boardT ws c), some (stepT st), some (wheelsT ws), none, none]) (M := M) (it := ⟨zip2 (st.map D.int) (ws.map wheelT), fun _ => true⟩) (fun _ => true) (by simp [gZip2, seqI, stepT, wheelsT]) (fun _ => rfl) hw (by have := zip_len (st.map D.int) (ws.map wheelT); rw [List.length_map] at this; dsimp only; omega) (fun im him => by
      obtain ⟨i, s, w, h1, h2, rfl⟩ := zip_sw st ws im him
      obtain ⟨r0, r1⟩ := hr i s w h1 h2
      refine ⟨_, rfl, fun M' _ _ => ?_⟩
      simp [wipeA, setAll, m_is_within_eq (show (D.int s).ok = true from rfl), inB, wheelT, r0]
      omega)
  have sb : b_is_stand (startA 5 [boardT ws c, stepT st]) M = .ok (.rt (.bl true)) M := by
    as_aux_lemma =>
      refine (seq_nx s1).trans ((seq_nx s2).trans ((seq_nx s3).trans (ret_ev ?_)))
      rw [e4]
      simp
  exact (run_rt (n := 5) (k := 2) rfl sb).trans (trim_id rfl)
end QX
set_option maxRecDepth 100000
set_option maxHeartbeats 1000000
namespace QX
open PySem PySem.Spec PyProof.Rows L2 HX
variable {A g M : Mem} {st wt hd : List Int} {σ : Sa} {ws : List (List (List Int))} {c : Int} {m : Mo}
theorem setCell {n i : Nat} {xs : List Int} {z : Int} (h : M[n]? = some (.lst (xs.map D.int))) (hi : i < xs.length) : gSetIx (.ref n) (.int (i : Int)) (.int z) M = some (M.set n (.lst ((xs.set i z).map D.int))) := by
  have hx : ixN (xs.map D.int).length (i : Int) = some i := ixN_nat (by rw [List.length_map]; exact hi)
  simp only [gSetIx, h, hx, List.map_set]
theorem getCell {n i : Nat} {xs : List Int} (h : M[n]? = some (.lst (xs.map D.int))) (hi : i < xs.length) : gGetN (.ref n) (.int (i : Int)) M = some (.int (xs.getD i 0)) := by
  have e : decide ((0 : Int) ≤ (i : Int)) = true := by rw [decide_eq_true_eq]; omega
  simp only [gGetN, e, if_true, listOf, h, Int.toNat_natCast, List.getElem?_map, List.getD_eq_getElem?_getD, List.getElem?_eq_getElem hi]
  rfl
theorem aug_ev {fo fi : F D} {n i : Nat} {xs : List Int} {sub : Bool} (ho : fo σ M = .ok (.ref n) M) (hi : fi σ M = .ok (.int (i : Int)) M) (h : M[n]? = some (.lst (xs.map D.int))) (hl : i < xs.length) :
    sAugIx fo fi (fC (.int 1)) (gAug sub) σ M = .ok (.nx σ) (M.set n (.lst ((bump xs i (if sub = true then -1 else 1)).map D.int))) := by
  rw [ev_augIx, ho, bindS_ok, hi, bindS_ok, getCell h hl]
  simp only [ev_c, bindS_ok, gAug]
  have e : (if sub = true then xs.getD i 0 - 1 else xs.getD i 0 + 1) = xs.getD i 0 + (if sub = true then -1 else 1) := by cases sub <;> rfl
  rw [e, setCell h hl]
  rfl
theorem wheel_at {i : Nat} (hi : i < ws.length) : gIx (wheelsT ws) (.int (i : Int)) M = .ok (wheelT (ws.getD i [])) M := by
  have : atI (ws.map wheelT) (i : Int) = some (wheelT (ws.getD i [])) := by
    rw [atI_nn (by omega), Int.toNat_natCast, List.getElem?_map, List.getD_eq_getElem?_getD, List.getElem?_eq_getElem hi]; rfl
  unfold wheelsT
  simp [this]
theorem wheel_len (w : List (List Int)) : gLen [wheelT w] M = .ok (.int w.length) M := by simp [wheelT]
theorem step_at {i : Int} {w : List (List Int)} (h0 : 0 ≤ i) (hi : i < w.length) : gIx (wheelT w) (.int i) M = .ok (stepT (w.getD i.toNat [])) M := by
  have : atI (w.map stepT) i = some (stepT (w.getD i.toNat [])) := by
    rw [atI_nn h0, List.getElem?_map, List.getD_eq_getElem?_getD, List.getElem?_eq_getElem (by omega)]; rfl
  unfold wheelT
  simp [this]
end QX
set_option maxRecDepth 100000
set_option maxHeartbeats 1000000
namespace QX
open PySem PySem.Spec PyProof.Rows L2 HX
variable {M : Mem} {σ : Sa} {ws : List (List (List Int))} {c : Int} {m : Mo}
end QX
set_option maxRecDepth 100000
set_option maxHeartbeats 1000000
namespace QX
open PySem PySem.Spec PyProof.Rows L2 HX
def UndG (G : Mem) : Prop := ∀ c ∈ G, ∀ n, Cell.und n c = true
theorem UndG.push {G : Mem} {ds : List D} (hG : UndG G) (hd : ∀ d ∈ ds, ∀ n, d.und n = true) : UndG (G ++ [.lst ds]) := by
  intro c hc n
  rcases List.mem_append.mp hc with h | h
  · exact hG c h n
  · rw [List.mem_singleton.mp h]
    show D.undA n ds = true
    rw [undA_iff]
    exact fun d hd' => hd d hd' n
theorem UndG.nil : UndG [] := fun c h => by simp at h
variable {M0 G : Mem} {p k : Nat} {x : Cell} {σ : Sa}
theorem Has.comp {σ : Sa} {n i : Nat} {l : List (Nat × D)} {d : D} (h : Has σ n l) (hn : i < n) (hi : ∀ q ∈ l, q.1 ≠ i) : Has ((wipeA σ [i]).set i (some d)) n ((i, d) :: l) := by
  have : Has (wipeA σ [i]) n l := h.set hi
  exact this.put hn hi
end QX
set_option maxRecDepth 100000
set_option maxHeartbeats 1000000
namespace QX
open PySem PySem.Spec PyProof.Rows L2 HX
variable {M0 G : Mem} {p k : Nat} {x : Cell} {σ : Sa}
def RI (n : Int) (d : D) : Prop := ∃ e, d = .int e ∧ 0 ≤ e ∧ e < n
def RS' (n : Int) (d : D) : Prop := ∃ s, d = stepT s ∧ EndsOk n s
def RW (n : Int) (d : D) : Prop := ∃ w, d = wheelT w ∧ WheelOk n w
theorem RI.und {n : Int} {d : D} (h : RI n d) (k : Nat) : d.und k = true := by obtain ⟨e, rfl, _⟩ := h; rfl
theorem RS'.und {n : Int} {d : D} (h : RS' n d) (k : Nat) : d.und k = true := by obtain ⟨e, rfl, _⟩ := h; exact und_step e
theorem RW.und {n : Int} {d : D} (h : RW n d) (k : Nat) : d.und k = true := by obtain ⟨e, rfl, _⟩ := h; exact und_wheel e
end QX
set_option maxRecDepth 100000
set_option maxHeartbeats 1000000
namespace QX
open PySem PySem.Spec PyProof.Rows L2 HX
variable {M : Mem} {p k : Nat} {x : Cell} {σ : Sa} {ws : List (List (List Int))} {c : Int} {m : Mo}
end QX
set_option maxRecDepth 100000
set_option maxHeartbeats 1000000
namespace QX
open PySem PySem.Spec PyProof.Rows L2 HX
variable {M : Mem} {p k : Nat} {x : Cell} {σ : Sa} {ws : List (List (List Int))} {c : Int} {m : Mo}
def readyIx : Nat → List Int → List Nat
  | _, [] => []
  | i, w :: ws => if 0 < w then i :: readyIx (i + 1) ws else readyIx (i + 1) ws
variable {A g : Mem} {st wt hd : List Int}
end QX
set_option maxRecDepth 100000
set_option maxHeartbeats 1000000
namespace QX
open PySem PySem.Spec PyProof.Rows L2 HX
variable {M C : Mem} {p k : Nat} {x : Cell} {σ : Sa} {ws : List (List (List Int))} {c : Int} {m : Mo}
end QX
set_option maxRecDepth 100000
set_option maxHeartbeats 1000000
namespace QX
open PySem PySem.Spec PyProof.Rows L2 HX
variable {M : Mem} {p k : Nat} {x : Cell} {σ : Sa} {ws : List (List (List Int))} {c : Int} {m : Mo}
end QX
set_option maxRecDepth 100000
set_option maxHeartbeats 1000000
namespace QX
open PySem PySem.Spec PyProof.Rows L2 HX
theorem for_ret {b : FS} {n i : Nat} (Iv : Nat → Sa → Mem → Prop) (R : D → Mem → Prop) (m : Nat) (lo : Int) (step : ∀ j σ M, j < m → Iv j σ M → (∃ σ2 M2, b (σ.set i (some (.int (lo + (j : Int))))) M = .ok (.nx σ2) M2 ∧ Iv (j + 1) (gc n σ2 M2).1 (gc n σ2 M2).2) ∨ ∃ d M2, b (σ.set i (some (.int (lo + (j : Int))))) M = .ok (.rt d) M2 ∧ R d M2) :
    ∀ (k j : Nat) (σ : Sa) (M : Mem), j + k = m → Iv j σ M → (∃ σ' M', forL (.name i) b (fun _ => true) n (nums (lo + (j : Int)) k) σ M = .ok (.nx σ') M' ∧ Iv m σ' M') ∨ ∃ d M', forL (.name i) b (fun _ => true) n (nums (lo + (j : Int)) k) σ M = .ok (.rt d) M' ∧ R d M'
  | 0, j, σ, M, hj, h => .inl ⟨σ, M, by simp [nums, forL], by rw [← hj]; exact h⟩
  | k + 1, j, σ, M, hj, h => by
    have e : lo + (j : Int) + 1 = lo + ((j + 1 : Nat) : Int) := by omega
    rcases step j σ M (by omega) h with ⟨σ2, M2, h1, h2⟩ | ⟨d, M2, h1, h2⟩
    · rcases for_ret Iv R m lo step k (j + 1) _ _ (by omega) h2 with ⟨σ', M', a, b'⟩ | ⟨d, M', a, b'⟩
      · refine .inl ⟨σ', M', ?_, b'⟩
        unfold nums forL
        rw [if_pos rfl, put_name]
        dsimp only
        rw [h1, e]
        exact a
      · refine .inr ⟨d, M', ?_, b'⟩
        unfold nums forL
        rw [if_pos rfl, put_name]
        dsimp only
        rw [h1, e]
        exact a
    · refine .inr ⟨d, M2, ?_, h2⟩
      unfold nums forL
      rw [if_pos rfl, put_name]
      dsimp only
      rw [h1]
section
variable {M g : Mem} {d : D} {ds : List D} {p : Nat}
theorem gIx_list {i : Nat} {z : D} (h : listOf M d = some ds) (hi : ds[i]? = some z) : gIx d (.int (i : Int)) M = .ok z M := by
  have e : atI ds (i : Int) = some z := by rw [atI_nn (by omega), Int.toNat_natCast, hi]
  cases d with
  | lst es => cases h; rw [gIx_lst, e]
  | ref n =>
    rw [listOf_ref] at h
    split at h
    · rename_i es hm
      cases h
      rw [gIx_ref hm, e]
    · cases h
  | _ => cases h
theorem listOf_set {c : Cell} (h : listOf M d = some ds) (hp : d ≠ .ref p) : listOf (M.set p c) d = some ds := by
  cases d with
  | lst es => exact h
  | ref n =>
    rw [listOf_ref] at h ⊢
    rw [List.getElem?_set_ne (fun z => hp (by rw [z]))]
    exact h
  | _ => cases h
end
def bdd (j : Nat) : Nat := 2 ^ (2 ^ (j + 3) - 1)
theorem bdd_succ (j : Nat) : 2 * (bdd j * bdd j) = bdd (j + 1) := by
  unfold bdd
  obtain ⟨a, ha⟩ : ∃ a, 2 ^ (j + 3) = a + 1 := ⟨2 ^ (j + 3) - 1, by have : 1 ≤ 2 ^ (j + 3) := Nat.one_le_two_pow; omega⟩
  have h1 : 2 ^ (j + 1 + 3) = 2 * (a + 1) := by rw [← ha, show j + 1 + 3 = (j + 3) + 1 from rfl, Nat.pow_succ (m := j + 3), Nat.mul_comm]
  rw [h1, ha, show 2 * (a + 1) - 1 = (a + a) + 1 by omega, Nat.add_sub_cancel, Nat.pow_succ (m := a + a), Nat.pow_add, Nat.mul_comm]
theorem bdd_pos (j : Nat) : 1 ≤ bdd j := Nat.one_le_two_pow
theorem bdd_mono (j : Nat) : bdd j ≤ bdd (j + 1) := by
  rw [← bdd_succ]
  have := bdd_pos j
  have : bdd j * 1 ≤ bdd j * bdd j := Nat.mul_le_mul_left _ this
  omega
theorem bdd_top : ∀ j, j < 8 → bdd j < 2 ^ 2048 := by decide +kernel
theorem mulOk_big {i j : Int} (hi : i.natAbs < 2 ^ 2048) (hj : j.natAbs < 2 ^ 2048) : mulOk i j = true := by
  unfold mulOk
  rw [Nat.blt_eq]
  have a := PySem.Flt.log2_lt_of (by decide : 0 < 2048) hi
  have b := PySem.Flt.log2_lt_of (by decide : 0 < 2048) hj
  omega
def RowOk (p : Nat) (M : Mem) (W b : Nat) (r : D) : Prop := r ≠ .ref p ∧ r.und M.length = true ∧ ∃ xs : List Int, listOf M r = some (xs.map D.int) ∧ xs.length = W ∧ ∀ x ∈ xs, x.natAbs ≤ b
theorem RowOk.set {p W b : Nat} {M : Mem} {r : D} {c : Cell} (h : RowOk p M W b r) : RowOk p (M.set p c) W b r := by
  obtain ⟨h1, h2, xs, h3, h4⟩ := h
  exact ⟨h1, by rw [List.length_set]; exact h2, xs, listOf_set h3 h1, h4⟩
theorem RowOk.mono {p W b b' : Nat} {M : Mem} {r : D} (h : RowOk p M W b r) (hb : b ≤ b') : RowOk p M W b' r := by
  obtain ⟨h1, h2, xs, h3, h4, h5⟩ := h
  exact ⟨h1, h2, xs, h3, h4, fun x hx => Nat.le_trans (h5 x hx) hb⟩
structure TabOk (p W : Nat) (β : Nat → Nat) (A M : Mem) : Prop where
  ex : ∃ rs, M[p]? = some (.lst rs) ∧ rs.length = W ∧ ∀ i r, rs[i]? = some r → RowOk p M W (β i) r
  wf : Wf M
  ap : ∃ g, M = A ++ g
  le : A.length ≤ p
theorem TabOk.put {p W : Nat} {β β' : Nat → Nat} {A M : Mem} {i : Nat} {zs : List Int} (h : TabOk p W β A M) (hi : i < W) (hz : zs.length = W) (hb : ∀ z ∈ zs, z.natAbs ≤ β' i) (hm : ∀ j, j ≠ i → β j ≤ β' j) :
    ∃ M', gSetIx (.ref p) (.int (i : Int)) (.lst (zs.map D.int)) M = some M' ∧ M'.length = M.length ∧ TabOk p W β' A M' := by
  obtain ⟨⟨rs, h1, h2, h3⟩, wf, ⟨g, rfl⟩, le⟩ := h
  have hx : ixN rs.length (i : Int) = some i := ixN_nat (by omega)
  have hl : p < (A ++ g).length := (List.getElem?_eq_some_iff.mp h1).1
  refine ⟨(A ++ g).set p (.lst (rs.set i (.lst (zs.map D.int)))), by simp only [gSetIx, h1, hx], by rw [List.length_set], ⟨_, List.getElem?_set_self hl, by rw [List.length_set]; exact h2, fun j r hj => ?_⟩, wf.set ?_, ⟨g.set (p - A.length) (.lst (rs.set i (.lst (zs.map D.int)))), List.set_append_right _ _ le⟩, le⟩
  · by_cases hij : i = j
    · subst hij
      rw [List.getElem?_set_self (by omega)] at hj
      cases hj
      exact ⟨(fun z => nomatch z), by simp only [D.und]; exact undA_map (fun _ => rfl) zs, zs, rfl, hz, hb⟩
    · rw [List.getElem?_set_ne hij] at hj
      exact ((h3 j r hj).mono (hm j (Ne.symm hij))).set
  · show D.undA _ _ = true
    rw [undA_iff]
    intro d hd
    rcases List.mem_or_eq_of_mem_set hd with z | z
    · obtain ⟨j, hj⟩ := List.mem_iff_getElem?.mp z
      exact (h3 j d hj).2.1
    · rw [z]
      simp only [D.und]
      exact undA_map (fun _ => rfl) zs
theorem TabOk.row {p W : Nat} {β : Nat → Nat} {A M : Mem} {i : Nat} (h : TabOk p W β A M) (hi : i < W) : ∃ (r : D) (xs : List Int), gIx (.ref p) (.int (i : Int)) M = .ok r M ∧ listOf M r = some (xs.map D.int) ∧ xs.length = W ∧ ∀ x ∈ xs, x.natAbs ≤ β i := by
  obtain ⟨⟨rs, h1, h2, h3⟩, wf, _, _⟩ := h
  have hr : rs[i]? = some rs[i] := List.getElem?_eq_getElem (by omega)
  obtain ⟨_, _, xs, a, b, c⟩ := h3 i _ hr
  exact ⟨rs[i], xs, gIx_list (by rw [listOf_ref, h1]) hr, a, b, c⟩
theorem zip_map (F : Int → Int → Int) (f : Im → D) (hf : ∀ a b, f (.pr [.int a, .int b]) = .int (F a b)) : ∀ xs ys : List Int, (zip2 (xs.map D.int) (ys.map D.int)).map f = (List.zipWith F xs ys).map D.int
  | [], ys => by simp [zip2]
  | x :: xs, [] => by simp [zip2]
  | x :: xs, y :: ys => by simp only [List.map_cons, zip2, List.zipWith_cons_cons, hf, zip_map F f hf xs ys]
theorem zip_mem : ∀ (xs ys : List Int) (im : Im), im ∈ zip2 (xs.map D.int) (ys.map D.int) → ∃ a b, im = .pr [.int a, .int b] ∧ a ∈ xs ∧ b ∈ ys
  | [], ys, im, h => by simp [zip2] at h
  | x :: xs, [], im, h => by simp [zip2] at h
  | x :: xs, y :: ys, im, h => by
    simp only [List.map_cons, zip2, List.mem_cons] at h
    rcases h with rfl | h
    · exact ⟨x, y, rfl, by simp, by simp⟩
    · obtain ⟨a, b, e, h1, h2⟩ := zip_mem xs ys im h
      exact ⟨a, b, e, by simp [h1], by simp [h2]⟩
theorem zipWith_mem {F : Int → Int → Int} : ∀ (xs ys : List Int) (z : Int), z ∈ List.zipWith F xs ys → ∃ a b, a ∈ xs ∧ b ∈ ys ∧ z = F a b
  | [], ys, z, h => by simp at h
  | x :: xs, [], z, h => by simp at h
  | x :: xs, y :: ys, z, h => by
    rw [List.zipWith_cons_cons] at h
    rcases List.mem_cons.mp h with rfl | h
    · exact ⟨x, y, by simp, by simp, rfl⟩
    · obtain ⟨a, b, h1, h2, h3⟩ := zipWith_mem xs ys z h
      exact ⟨a, b, by simp [h1], by simp [h2], h3⟩
theorem elim_bd {B : Nat} {a b own by' last : Int} (ha : a.natAbs ≤ B) (hb : b.natAbs ≤ B) (ho : own.natAbs ≤ B) (hy : by'.natAbs ≤ B) : ((b * own - a * by') / last).natAbs ≤ 2 * (B * B) := by
  refine Nat.le_trans (Int.natAbs_ediv_le_natAbs _ _) ?_
  refine Nat.le_trans (Int.natAbs_sub_le _ _) ?_
  rw [Int.natAbs_mul, Int.natAbs_mul]
  have := Nat.mul_le_mul hb ho
  have := Nat.mul_le_mul ha hy
  omega
end QX
namespace QX
open PySem PySem.Spec PyProof.Rows L2 HX
theorem TabOk.len {p W : Nat} {β : Nat → Nat} {A M : Mem} (h : TabOk p W β A M) : gLen [.ref p] M = .ok (.int W) M := by
  obtain ⟨⟨rs, h1, h2, h3⟩, _⟩ := h
  rw [gLen_ref h1, h2]
theorem TabOk.mono {p W : Nat} {β β' : Nat → Nat} {A M : Mem} (h : TabOk p W β A M) (hb : ∀ i, β i ≤ β' i) : TabOk p W β' A M := by
  obtain ⟨⟨rs, h1, h2, h3⟩, a, b, c⟩ := h
  exact ⟨⟨rs, h1, h2, fun i r hi => (h3 i r hi).mono (hb i)⟩, a, b, c⟩
end QX
set_option maxRecDepth 100000
set_option maxHeartbeats 1000000
namespace QX
open PySem PySem.Spec PyProof.Rows L2 HX
theorem gc_open {n : Nat} {σ : Sa} {M : Mem} (h : closed n M = false) : gc n σ M = (σ, M) := by
  unfold gc
  rw [h]
  simp
theorem cellSet {A : Mem} {xs ys : List Int} : (A ++ [Cell.lst (xs.map D.int)]).set A.length (.lst (ys.map D.int)) = A ++ [.lst (ys.map D.int)] := by
  rw [List.set_append_right _ _ (Nat.le_refl _), Nat.sub_self]; rfl
theorem zeros_eq : ∀ W : Nat, (List.replicate W [D.int 0]).flatten = (List.replicate W (0 : Int)).map D.int
  | 0 => rfl
  | W + 1 => by rw [List.replicate_succ, List.replicate_succ, List.flatten_cons, zeros_eq W]; rfl
end QX
namespace QX
open PySem PySem.Spec PyProof.Rows L2 HX
def refsD (n j : Nat) : List D := (List.range j).map fun i => D.ref (n + 1 + i)
theorem refsD_succ {n j : Nat} : refsD n (j + 1) = refsD n j ++ [.ref (n + 1 + j)] := by
  unfold refsD
  rw [List.range_succ, List.map_append]
  rfl
end QX
set_option maxRecDepth 100000
set_option maxHeartbeats 1000000
namespace QX
open PySem PySem.Spec PyProof.Rows L2 HX
theorem cut_take (ds : List D) (k : Nat) : cutD ds none (some (k : Int)) = ds.take k := by
  unfold cutD
  rw [HT.sIx_none, HT.sIx_nat, List.drop_zero, Nat.sub_zero, List.take_eq_take_iff]
  omega
theorem cut_drop (ds : List D) (k : Nat) : cutD ds (some (k : Int)) none = ds.drop k := by
  unfold cutD
  rw [HT.sIx_none, HT.sIx_nat]
  rw [List.take_of_length_le (by rw [List.length_drop]; omega)]
  by_cases h : k ≤ ds.length
  · rw [Nat.min_eq_left h]
  · rw [Nat.min_eq_right (by omega), List.drop_eq_nil_of_le (Nat.le_refl _), List.drop_eq_nil_of_le (by omega)]
theorem sl_take {fa fb : F D} {σ : Sa} {M M1 M2 : Mem} {ds : List D} {k : Nat} (ha : fa σ M = .ok (.tup ds) M1) (hb : fb σ M1 = .ok (.int (k : Int)) M2) : fSl fa fNoPart (fPart fb) σ M = .ok (.tup (ds.take k)) M2 := by
  rw [ev_sl, ha, bind_ok, ev_nopart, bind_ok, ev_part, hb, bind_ok, bind_ok]
  show Res.ok (D.tup (cutD ds none (some (k : Int)))) M2 = _
  rw [cut_take]
theorem sl_drop {fa fb : F D} {σ : Sa} {M M1 M2 : Mem} {ds : List D} {k : Nat} (ha : fa σ M = .ok (.tup ds) M1) (hb : fb σ M1 = .ok (.int (k : Int)) M2) : fSl fa (fPart fb) fNoPart σ M = .ok (.tup (ds.drop k)) M2 := by
  rw [ev_sl, ha, bind_ok, ev_part, hb, bind_ok, bind_ok, ev_nopart, bind_ok]
  show Res.ok (D.tup (cutD ds (some (k : Int)) none)) M2 = _
  rw [cut_drop]
end QX
namespace QX
open PySem PySem.Spec PyProof.Rows L2 HX
def SpotOk (ws : List (List (List Int))) (d : D) : Prop := ∃ i s : Nat, d = .tup [.int (i : Int), .int (s : Int)] ∧ i < ws.length ∧ s < (ws.getD i []).length
theorem SpotOk.und {ws : List (List (List Int))} {d : D} (h : SpotOk ws d) (n : Nat) : d.und n = true := by
  obtain ⟨i, s, rfl, _⟩ := h
  rfl
end QX
set_option maxRecDepth 100000
set_option maxHeartbeats 1000000
namespace QX
open PySem PySem.Spec PyProof.Rows L2 HX
section
variable {M : Mem} {p k : Nat} {x : Cell} {σ : Sa} {ws : List (List (List Int))} {c : Int} {m : Mo}
end
section
variable {A M : Mem} {σ : Sa} {ws : List (List (List Int))} {c : Int} {m : Mo}
theorem sl_dropL {fa fb : F D} {ds : List D} {d : D} {k : Nat} (ha : fa σ M = .ok d M) (hl : listOf M d = some ds) (hb : fb σ M = .ok (.int (k : Int)) M) : fSl fa (fPart fb) fNoPart σ M = .ok (.lst (ds.drop k)) M := by
  rw [ev_sl, ha, bind_ok, ev_part, hb, bind_ok, bind_ok, ev_nopart, bind_ok]
  have : gSl d (some (k : Int)) none M = match listOf M d with | some ds => .ok (.lst (cutD ds (some (k : Int)) none)) M | none => .bad := by
    cases d <;> first | rfl | (cases hl)
  rw [this, hl]
  dsimp only
  rw [cut_drop]
end
end QX
set_option maxRecDepth 100000
set_option maxHeartbeats 1000000
namespace QX
open PySem PySem.Spec PyProof.Rows L2 HX
def rowOf (folk : Nat) (m : Mo) : List Nat := (readyIx 0 m.wt).take folk
def beatM (ws : List (List (List Int))) (m : Mo) (row : List Nat) : Mo := row.foldl (handleM ws) m
theorem while_go {c : F Bool} {b : FS} {n k : Nat} {σ σ2 : Sa} {M M2 : Mem} (hc : c σ M = .ok true M) (hb : b σ M = .ok (.nx σ2) M2) (hg : M2.length = n) : whileL c b n (k + 1) σ M = whileL c b n k σ2 M2 := by
  conv => lhs; unfold whileL
  rw [hc, bindS_ok, if_pos rfl, hb]
  dsimp only
  rw [gc_same hg]
theorem while_stop {c : F Bool} {b : FS} {n k : Nat} {σ : Sa} {M : Mem} (hc : c σ M = .ok false M) : whileL c b n (k + 1) σ M = .ok (.nx σ) M := by
  conv => lhs; unfold whileL
  rw [hc]
  rfl
section
variable {M : Mem} {σ : Sa} {ws : List (List (List Int))} {c : Int} {m : Mo} {folk most : Nat}
end
end QX
namespace QX
open PySem PySem.Spec PyProof.Rows L2 HX
section
variable {A M g : Mem} {σ : Sa} {ws : List (List (List Int))} {c : Int} {m : Mo} {folk most : Nat}
end
end QX
set_option maxRecDepth 100000
set_option maxHeartbeats 1000000
namespace QX
open PySem PySem.Spec PyProof.Rows L2 HX
variable {M : Mem} {p k : Nat} {x : Cell} {σ : Sa} {ws : List (List (List Int))} {c : Int} {m : Mo}
def LK (d : D) (h : Nat) : Prop := ∃ q, D.py d = some q ∧ PyData.canLay0 q = true ∧ q.depth ≤ h ∧ PyData.eqv q q = true
theorem LK.int {i : Int} : LK (.int i) 0 := ⟨.int i, rfl, by simp [PyData.canLay0], by simp [PyData.depth], by simp [PyData.eqv]⟩
theorem LK.non : LK .non 0 := ⟨.none, rfl, by simp [PyData.canLay0], by simp [PyData.depth], by simp [PyData.eqv]⟩
theorem LK.str {z : Str} (h : PyData.strOk z = true) : LK (.str z) 0 := ⟨.str z, rfl, by simpa [PyData.canLay0] using h, by simp [PyData.depth], by simp [PyData.eqv]⟩
theorem LK.bl {b : Bool} : LK (.bl b) 0 := ⟨.bool b, rfl, by simp [PyData.canLay0], by simp [PyData.depth], by simp [PyData.eqv]⟩
theorem lk_all {h : Nat} : ∀ ds : List D, (∀ d ∈ ds, LK d h) → ∃ qs, D.pyA ds = some qs ∧ PyData.canLayAll0 qs = true ∧ PyData.depthAll qs ≤ h ∧ PyData.eqvAll qs qs = true
  | [], _ => ⟨[], by simp [D.pyA], by simp [PyData.canLayAll0], by simp [PyData.depthAll], by simp [PyData.eqvAll]⟩
  | d :: ds, hd => by
    obtain ⟨q, a, b, e, f⟩ := hd d (by simp)
    obtain ⟨qs, a', b', e', f'⟩ := lk_all ds fun z hz => hd z (by simp [hz])
    refine ⟨q :: qs, by simp only [D.pyA, a, a'], by simp [PyData.canLayAll0, b, b'], ?_, by simp [PyData.eqvAll, f, f']⟩
    simp only [PyData.depthAll]; omega
theorem LK.tup {ds : List D} {h : Nat} (hd : ∀ d ∈ ds, LK d h) : LK (.tup ds) (h + 1) := by
  obtain ⟨qs, a, b, e, f⟩ := lk_all ds hd
  exact ⟨.tuple qs, by simp only [D.py, a], by simp [PyData.canLay0, b], by simp only [PyData.depth]; omega, by simp [PyData.eqv, f]⟩
theorem LK.step (s : List Int) : LK (stepT s) 1 := LK.tup fun d hd => by
  obtain ⟨e, _, rfl⟩ := List.mem_map.mp hd
  exact LK.int
theorem LK.wheel (w : List (List Int)) : LK (wheelT w) 2 := LK.tup fun d hd => by
  obtain ⟨e, _, rfl⟩ := List.mem_map.mp hd
  exact LK.step e
theorem LK.less {d : D} {h h' : Nat} (e : LK d h) (hh : h ≤ h') : LK d h' := by
  obtain ⟨q, a, b, f, g⟩ := e
  exact ⟨q, a, b, Nat.le_trans f hh, g⟩
theorem LK.wheels (ws : List (List (List Int))) : LK (wheelsT ws) 3 := LK.tup fun d hd => by
  obtain ⟨e, _, rfl⟩ := List.mem_map.mp hd
  exact LK.wheel e
theorem LK.board (ws : List (List (List Int))) (c : Int) : LK (boardT ws c) 4 := LK.tup fun d hd => by
  simp only [List.mem_cons, List.mem_nil_iff, or_false] at hd
  rcases hd with rfl | rfl
  · exact LK.wheels ws
  · exact LK.int.less (by omega)
theorem LK.mo (m : Mo) : LK (moT m) 2 := LK.tup fun d hd => by
  simp only [List.mem_cons, List.mem_nil_iff, or_false] at hd
  rcases hd with rfl | rfl | rfl <;> exact LK.step _
theorem LK.py {d : D} {h : Nat} (e : LK d h) (hh : h ≤ 60) : ∃ q, toPy M d = some q ∧ D.py d = some q ∧ SeqAt.shaped q = true ∧ PyData.eqv q q = true := by
  obtain ⟨q, a, b, f, g⟩ := e
  refine ⟨q, ?_, a, ?_, g⟩
  · cases d with
    | ref n => simp [D.py] at a
    | _ => exact a
  · show (PyData.canLay0 q && decide (q.depth ≤ 64)) = true
    rw [b, Bool.true_and, decide_eq_true_eq]
    omega
theorem same_eq {d : D} {h : Nat} {neg : Bool} (e : LK d h) (hh : h ≤ 60) : gEq neg d d M = .ok (.bl (!neg)) M := by
  obtain ⟨q, a, _, b, g⟩ := e.py (M := M) hh
  unfold gEq
  rw [a]
  dsimp only
  rw [b, Bool.and_self, if_pos rfl, g]
  cases neg <;> rfl
theorem tup_nil {neg : Bool} {s : List Int} : gEq neg (stepT s) (.tup []) M = .ok (.bl (if neg = true then !s.isEmpty else s.isEmpty)) M := by
  obtain ⟨qs, a, b, e, f⟩ := lk_all (h := 0) (s.map D.int) fun d hd => by
    obtain ⟨e, _, rfl⟩ := List.mem_map.mp hd
    exact LK.int
  have ht : toPy M (stepT s) = some (.tuple qs) := by
    show D.py (.tup (s.map D.int)) = _
    simp only [D.py, a]
  have h0 : toPy M (.tup []) = some (.tuple []) := rfl
  unfold gEq
  rw [ht, h0]
  dsimp only
  rw [if_pos (by simp [SeqAt.shaped, PyData.canLay0, PyData.depth, b, PyData.canLayAll0, PyData.depthAll]; omega)]
  cases s with
  | nil =>
    simp only [List.map_nil, D.pyA] at a
    cases a
    simp [PyData.eqv, PyData.eqvAll]
  | cons z s =>
    cases qs with
    | nil =>
      simp only [List.map_cons, D.pyA] at a
      split at a <;> cases a
    | cons q qs => simp [PyData.eqv, PyData.eqvAll]
theorem comp_map {α : Type} {fi : F Ita} {i : Nat} {e : F D} (xs : List α) (g h : α → D) (hi : fi σ M = .ok ⟨(xs.map g).map Im.d, fun _ => true⟩ M) (hw : Wf M) (hl : xs.length ≤ 1000000)
    (he : ∀ x ∈ xs, (h x).und M.length = true ∧ ∀ M', Wf M' → e ((wipeA σ [i]).set i (some (g x))) M' = .ok (h x) M') : fTrim (fCompC fi [i] (.name i) fYes e) σ M = .ok (.lst (xs.map h)) M := by
  classical
  have key : ∀ x ∈ xs, ∀ y ∈ xs, g x = g y → h x = h y := fun x hx y hy hg => by
    have a := (he x hx).2 M hw
    have b := (he y hy).2 M hw
    rw [hg] at a
    have := a.symm.trans b
    injection this
  let f : Im → D := fun im => if hx : ∃ x ∈ xs, im = .d (g x) then h (Classical.choose hx) else .non
  have hf : ∀ x ∈ xs, f (.d (g x)) = h x := fun x hx => by
    have hx' : ∃ y ∈ xs, Im.d (g x) = .d (g y) := ⟨x, hx, rfl⟩
    show (if hx : ∃ y ∈ xs, Im.d (g x) = .d (g y) then h (Classical.choose hx) else .non) = _
    rw [dif_pos hx']
    have hs := Classical.choose_spec hx'
    exact (key x hx _ hs.1 (by injection hs.2)).symm
  have r := comp_pure (fi := fi) (vs := [i]) (t := .name i) (e := e) (σ := σ) (M := M) (it := ⟨(xs.map g).map Im.d, fun _ => true⟩) f hi (fun _ => rfl) hw (by simpa using hl) (fun im him => by
    obtain ⟨d, hd, rfl⟩ := List.mem_map.mp him
    obtain ⟨x, hx, rfl⟩ := List.mem_map.mp hd
    rw [hf x hx]
    exact ⟨(he x hx).1, _, rfl, fun M' w1 _ => (he x hx).2 M' w1⟩)
  rw [r]
  congr 2
  show ((xs.map g).map Im.d).map f = _
  rw [List.map_map, List.map_map]
  exact List.map_congr_left fun x hx => hf x hx
end QX
set_option maxRecDepth 100000
set_option maxHeartbeats 1000000
namespace QX
open PySem PySem.Spec PyProof.Rows L2 HX
variable {M : Mem} {p k : Nat} {x : Cell} {σ : Sa} {ws : List (List (List Int))} {c : Int} {m : Mo}
def Low (x : Str) : Prop := ∀ k ∈ TL.tl x, 11 ≤ k ∧ k < 128
theorem strOk_of {x : Str} (h : ∀ k ∈ TL.tl x, k < 128) : PyData.strOk x = true := by
  unfold PyData.strOk
  rw [Array.all_eq_true']
  intro k hk
  have := h k (by simpa [TL.tl] using hk)
  simp
  omega
theorem Low.ok {x : Str} (h : Low x) : PyData.strOk x = true := strOk_of fun k hk => (h k hk).2
theorem Low.app {x y : Str} (h : Low x) (g : Low y) : Low (x ++ y) := fun k hk => by
  rw [TL.tl_append, List.mem_append] at hk
  exact hk.elim (h k) (g k)
end QX
set_option maxRecDepth 100000
set_option maxHeartbeats 1000000
namespace QX
open PySem PySem.Spec PyProof.Rows L2 HX
variable {M : Mem} {p k : Nat} {x : Cell} {σ : Sa} {ws : List (List (List Int))} {c : Int} {m : Mo} {n : Int}
end QX
set_option maxRecDepth 100000
set_option maxHeartbeats 1000000
namespace QX
open PySem PySem.Spec PyProof.Rows L2 HX
variable {M : Mem} {p k : Nat} {x : Cell} {σ : Sa} {ws : List (List (List Int))} {c : Int} {m : Mo} {n : Int}
end QX
set_option maxRecDepth 100000
set_option maxHeartbeats 1000000
namespace QX
open PySem PySem.Spec PyProof.Rows L2 HX
variable {M : Mem} {p k : Nat} {x : Cell} {σ : Sa} {ws : List (List (List Int))} {c : Int} {m : Mo} {n : Int}
end QX
set_option maxRecDepth 100000
set_option maxHeartbeats 1000000
namespace QX
open PySem PySem.Spec PyProof.Rows L2 HX
variable {M : Mem} {p k : Nat} {x : Cell} {σ : Sa} {ws : List (List (List Int))} {c : Int} {m : Mo} {n : Int}
theorem m_need_wheel_eq {w : Nat} (hw : w < ws.length) : m_need_wheel [boardT ws c, .int (w : Int)] M = .ok .non M := by
  have s1 : b_need_wheel (startA 2 [boardT ws c, .int (w : Int)]) M = .ok (.nx (startA 2 [boardT ws c, .int (w : Int)])) M := by
    refine (sif_ev (p := false) (not_ev (p := true) (test_ev ((call2_ev (var_ev rfl) (var_ev rfl)).trans ((m_is_wheel_number_eq rfl).trans ?_))))).trans rfl
    have : inB 0 ((ws.length : Int) - 1) (.int (w : Int)) = true := by simp [inB]; omega
    rw [this]
  exact (run_nx (n := 2) (k := 2) rfl s1).trans (trim_id rfl)
theorem nums_eq : ∀ (n : Nat) (lo : Int), nums lo n = (numsD lo n).map Im.d
  | 0, _ => rfl
  | n + 1, lo => by
    show Im.d (.int lo) :: nums (lo + 1) n = Im.d (.int lo) :: (numsD (lo + 1) n).map Im.d
    rw [nums_eq n]
theorem nums_map (n : Nat) : nums 0 n = ((List.range n).map fun j : Nat => D.int (j : Int)).map Im.d := by
  rw [nums_eq, numsD_eq]
  congr 2
  funext i
  rw [Int.zero_add]
end QX
set_option maxRecDepth 100000
set_option maxHeartbeats 1000000
namespace QX.Det
abbrev R := Nat → Int
def sh (r : R) : R := fun j => r (j + 1)
def ex3 (d : List R → Int) : List R → List R → List R → Int
  | _, [], _ => 0
  | pre, r :: m, post => r 0 * d (pre ++ m ++ post) - ex3 d (pre ++ [r]) m post
def dt : Nat → List R → Int
  | 0, _ => 1
  | n + 1, rs => ex3 (fun l => dt n (l.map sh)) [] rs []
theorem ex3_app (d : List R → Int) : ∀ (m1 pre m2 post : List R), ex3 d pre (m1 ++ m2) post = ex3 d pre m1 (m2 ++ post) + (-1) ^ m1.length * ex3 d (pre ++ m1) m2 post
  | [], pre, m2, post => by simp [ex3]
  | r :: m1, pre, m2, post => by
    rw [List.cons_append]
    show r 0 * d (pre ++ (m1 ++ m2) ++ post) - ex3 d (pre ++ [r]) (m1 ++ m2) post = r 0 * d (pre ++ m1 ++ (m2 ++ post)) - ex3 d (pre ++ [r]) m1 (m2 ++ post) + (-1) ^ (m1.length + 1) * ex3 d (pre ++ r :: m1) m2 post
    rw [ex3_app d m1 (pre ++ [r]) m2 post]
    have e1 : pre ++ (m1 ++ m2) ++ post = pre ++ m1 ++ (m2 ++ post) := by simp
    have e2 : pre ++ [r] ++ m1 = pre ++ r :: m1 := by simp
    rw [e1, e2, Int.pow_succ]
    grind
theorem ex3_lin (d : List R → Int) (α β : Int) {q1 q2 q3 : List R} : ∀ (mid p1 p2 p3 : List R), (∀ u v : List R, u.length + v.length + 1 = mid.length → d (p1 ++ u ++ v ++ q1) = α * d (p2 ++ u ++ v ++ q2) + β * d (p3 ++ u ++ v ++ q3)) →
    ex3 d p1 mid q1 = α * ex3 d p2 mid q2 + β * ex3 d p3 mid q3
  | [], p1, p2, p3, _ => by simp [ex3]
  | r :: m, p1, p2, p3, h => by
    have h0 := h [] m (by simp)
    simp only [List.append_nil] at h0
    have h1 := ex3_lin d α β m (p1 ++ [r]) (p2 ++ [r]) (p3 ++ [r]) fun u v hl => by
      have := h (r :: u) v (by simp only [List.length_cons]; omega)
      simpa using this
    show r 0 * d (p1 ++ m ++ q1) - ex3 d (p1 ++ [r]) m q1 = α * (r 0 * d (p2 ++ m ++ q2) - ex3 d (p2 ++ [r]) m q2) + β * (r 0 * d (p3 ++ m ++ q3) - ex3 d (p3 ++ [r]) m q3)
    rw [h0, h1]
    grind
theorem ex3_zero (d : List R → Int) : ∀ (mid pre post : List R), (∀ r ∈ mid, r 0 = 0) → ex3 d pre mid post = 0
  | [], _, _, _ => rfl
  | r :: m, pre, post, h => by
    show r 0 * d (pre ++ m ++ post) - ex3 d (pre ++ [r]) m post = 0
    rw [h r (by simp), ex3_zero d m _ _ fun z hz => h z (by simp [hz])]
    simp
theorem ex_two (d : List R → Int) (a b : List R) (x y : R) : ex3 d [] (a ++ x :: y :: b) [] = ex3 d [] a (x :: y :: b) + (-1) ^ a.length * (x 0 * d (a ++ y :: b) - (y 0 * d (a ++ x :: b) - ex3 d (a ++ [x, y]) b [])) := by
  rw [ex3_app]
  show ex3 d [] a (x :: y :: b ++ []) + (-1) ^ a.length * (x 0 * d ([] ++ a ++ (y :: b) ++ []) - (y 0 * d ([] ++ a ++ [x] ++ b ++ []) - ex3 d ([] ++ a ++ [x] ++ [y]) b [])) = _
  simp
theorem ex_one (d : List R → Int) (a b : List R) (x : R) : ex3 d [] (a ++ x :: b) [] = ex3 d [] a (x :: b) + (-1) ^ a.length * (x 0 * d (a ++ b) - ex3 d (a ++ [x]) b []) := by
  rw [ex3_app]
  show ex3 d [] a (x :: b ++ []) + (-1) ^ a.length * (x 0 * d ([] ++ a ++ b ++ []) - ex3 d ([] ++ a ++ [x]) b []) = _
  simp
theorem swap : ∀ (n : Nat) (a b : List R) (x y : R), a.length + b.length + 2 = n → dt n (a ++ x :: y :: b) = - dt n (a ++ y :: x :: b)
  | 0, a, b, x, y, h => by omega
  | n + 1, a, b, x, y, h => by
    have ih := swap n
    show ex3 (fun l => dt n (l.map sh)) [] (a ++ x :: y :: b) [] = - ex3 (fun l => dt n (l.map sh)) [] (a ++ y :: x :: b) []
    rw [ex_two, ex_two]
    have h1 := ex3_lin (fun l => dt n (l.map sh)) (-1) 0 (q1 := x :: y :: b) (q2 := y :: x :: b) (q3 := []) a [] [] [] fun u v hl => by
      show dt n (([] ++ u ++ v ++ x :: y :: b).map sh) = -1 * dt n (([] ++ u ++ v ++ y :: x :: b).map sh) + 0 * _
      have := ih ((u ++ v).map sh) (b.map sh) (sh x) (sh y) (by simp only [List.length_map, List.length_append]; omega)
      simp only [List.map_append, List.map_cons, List.nil_append] at this ⊢
      rw [this]
      simp
    have h2 := ex3_lin (fun l => dt n (l.map sh)) (-1) 0 (q1 := []) (q2 := []) (q3 := []) b (a ++ [x, y]) (a ++ [y, x]) [] fun u v hl => by
      show dt n ((a ++ [x, y] ++ u ++ v ++ []).map sh) = -1 * dt n ((a ++ [y, x] ++ u ++ v ++ []).map sh) + 0 * _
      have := ih (a.map sh) ((u ++ v).map sh) (sh x) (sh y) (by simp only [List.length_map, List.length_append]; omega)
      simp only [List.map_append, List.map_cons, List.map_nil, List.append_assoc, List.cons_append, List.nil_append, List.append_nil] at this ⊢
      rw [this]
      simp
    rw [h1, h2]
    grind
theorem lin : ∀ (n : Nat) (a b : List R) (x y z : R) (α β : Int), a.length + b.length + 1 = n → (∀ j, z j = α * x j + β * y j) → dt n (a ++ z :: b) = α * dt n (a ++ x :: b) + β * dt n (a ++ y :: b)
  | 0, a, b, x, y, z, α, β, h, _ => by omega
  | n + 1, a, b, x, y, z, α, β, h, hz => by
    have ih := lin n
    show ex3 (fun l => dt n (l.map sh)) [] (a ++ z :: b) [] = α * ex3 (fun l => dt n (l.map sh)) [] (a ++ x :: b) [] + β * ex3 (fun l => dt n (l.map sh)) [] (a ++ y :: b) []
    rw [ex_one, ex_one, ex_one]
    have h1 := ex3_lin (fun l => dt n (l.map sh)) α β (q1 := z :: b) (q2 := x :: b) (q3 := y :: b) a [] [] [] fun u v hl => by
      show dt n (([] ++ u ++ v ++ z :: b).map sh) = α * dt n (([] ++ u ++ v ++ x :: b).map sh) + β * dt n (([] ++ u ++ v ++ y :: b).map sh)
      have := ih ((u ++ v).map sh) (b.map sh) (sh x) (sh y) (sh z) α β (by simp only [List.length_map, List.length_append]; omega) (fun j => hz (j + 1))
      simpa only [List.map_append, List.map_cons, List.nil_append] using this
    have h2 := ex3_lin (fun l => dt n (l.map sh)) α β (q1 := []) (q2 := []) (q3 := []) b (a ++ [z]) (a ++ [x]) (a ++ [y]) fun u v hl => by
      show dt n ((a ++ [z] ++ u ++ v ++ []).map sh) = α * dt n ((a ++ [x] ++ u ++ v ++ []).map sh) + β * dt n ((a ++ [y] ++ u ++ v ++ []).map sh)
      have := ih (a.map sh) ((u ++ v).map sh) (sh x) (sh y) (sh z) α β (by simp only [List.length_map, List.length_append]; omega) (fun j => hz (j + 1))
      simpa only [List.map_append, List.map_cons, List.map_nil, List.append_assoc, List.cons_append, List.nil_append, List.append_nil] using this
    rw [h1, h2, hz 0]
    grind
theorem twice (n : Nat) (h : R) : ∀ (a u b : List R), u.length + a.length + b.length + 2 = n → dt n (u ++ h :: (a ++ h :: b)) = 0
  | [], u, b, hl => by
    have := swap n u b h h (by simpa using hl)
    rw [List.nil_append]
    omega
  | z :: a, u, b, hl => by
    rw [List.cons_append, swap n u (a ++ h :: b) h z (by simp only [List.length_append, List.length_cons] at hl ⊢; omega)]
    have := twice n h a (u ++ [z]) b (by simp only [List.length_append, List.length_cons, List.length_nil] at hl ⊢; omega)
    rw [List.append_assoc] at this
    rw [show u ++ z :: h :: (a ++ h :: b) = u ++ ([z] ++ h :: (a ++ h :: b)) from rfl, this]
    rfl
theorem front (n : Nat) (h : R) : ∀ (a u b : List R), u.length + a.length + b.length + 1 = n → dt n (u ++ (a ++ h :: b)) = (-1) ^ a.length * dt n (u ++ h :: (a ++ b))
  | [], u, b, hl => by simp
  | z :: a, u, b, hl => by
    have ih := front n h a (u ++ [z]) b (by simp only [List.length_append, List.length_cons, List.length_nil] at hl ⊢; omega)
    rw [List.append_assoc, List.append_assoc] at ih
    rw [List.cons_append, show u ++ z :: (a ++ h :: b) = u ++ ([z] ++ (a ++ h :: b)) from rfl, ih]
    have s := swap n u (a ++ b) z h (by simp only [List.length_append, List.length_cons] at hl ⊢; omega)
    rw [show u ++ ([z] ++ h :: (a ++ b)) = u ++ z :: h :: (a ++ b) from rfl, s, List.length_cons, Int.pow_succ, List.cons_append]
    grind
theorem scale {ι : Type} (n : Nat) (F G : ι → R) (q : Int) (hF : ∀ i j, F i j = q * G i j) : ∀ (L : List ι) (u : List R), u.length + L.length = n → dt n (u ++ L.map F) = q ^ L.length * dt n (u ++ L.map G)
  | [], u, _ => by simp
  | i :: L, u, hl => by
    have h1 := lin n u (L.map F) (G i) (G i) (F i) q 0 (by simp only [List.length_map, List.length_cons] at hl ⊢; omega) (fun j => by rw [hF]; simp)
    have ih := scale n F G q hF L (u ++ [G i]) (by simp only [List.length_append, List.length_cons, List.length_nil] at hl ⊢; omega)
    rw [List.append_assoc, List.append_assoc] at ih
    rw [List.map_cons, h1, show u ++ G i :: L.map F = u ++ ([G i] ++ L.map F) from rfl, ih, List.length_cons, Int.pow_succ, List.map_cons]
    show _ = q ^ L.length * q * dt n (u ++ ([G i] ++ L.map G))
    grind
theorem addrow {ι : Type} (n : Nat) (h : R) (F G : ι → R) (q : Int) (c : ι → Int) : ∀ (L : List ι) (u : List R), (∀ i ∈ L, ∀ j, F i j = q * G i j + c i * h j) → u.length + L.length + 1 = n → dt n (h :: (u ++ L.map F)) = q ^ L.length * dt n (h :: (u ++ L.map G))
  | [], u, _, _ => by simp
  | i :: L, u, hF, hl => by
    have h1 := lin n (h :: u) (L.map F) (G i) h (F i) q (c i) (by simp only [List.length_map, List.length_cons] at hl ⊢; omega) (hF i (by simp))
    have h2 := twice n h u [] (L.map F) (by simp only [List.length_map, List.length_cons, List.length_nil] at hl ⊢; omega)
    have ih := addrow n h F G q c L (u ++ [G i]) (fun i hi => hF i (by simp [hi])) (by simp only [List.length_append, List.length_cons, List.length_nil] at hl ⊢; omega)
    rw [List.append_assoc, List.append_assoc] at ih
    rw [List.nil_append] at h2
    rw [List.cons_append, List.cons_append, List.cons_append, h2] at h1
    rw [List.map_cons, h1, show u ++ G i :: L.map F = u ++ ([G i] ++ L.map F) from rfl, ih, List.length_cons, Int.pow_succ, List.map_cons]
    show _ = q ^ L.length * q * dt n (h :: (u ++ ([G i] ++ L.map G)))
    grind
theorem chio {ι : Type} (h : R) (G : ι → R) (L : List ι) : h 0 * dt L.length (L.map fun i => fun j => h 0 * G i (j + 1) - G i 0 * h (j + 1)) = h 0 ^ L.length * dt (L.length + 1) (h :: L.map G) := by
  have e := addrow (L.length + 1) h (fun i => fun j => h 0 * G i j + (- G i 0) * h j) G (h 0) (fun i => - G i 0) L [] (fun i _ j => rfl) (by simp)
  rw [List.nil_append, List.nil_append] at e
  rw [← e]
  show _ = h 0 * dt L.length (([] ++ (L.map fun i => fun j => h 0 * G i j + (- G i 0) * h j) ++ []).map sh) - ex3 _ ([] ++ [h]) (L.map fun i => fun j => h 0 * G i j + (- G i 0) * h j) []
  rw [ex3_zero _ _ _ _ (fun r hr => by
    obtain ⟨i, _, rfl⟩ := List.mem_map.mp hr
    show h 0 * G i 0 + (- G i 0) * h 0 = 0
    grind)]
  rw [List.nil_append, List.append_nil, List.map_map, Int.sub_zero]
  congr 2
  refine List.map_congr_left fun i _ => ?_
  funext j
  show h 0 * G i (j + 1) - G i 0 * h (j + 1) = h 0 * G i (j + 1) + (- G i 0) * h (j + 1)
  grind
def Inv (q : Int) (Row : Nat → R) : Prop := ∀ (is : List Nat) (φ : Nat → Nat), is ≠ [] → q ^ (is.length - 1) ∣ dt is.length (is.map fun i => fun j => Row i (φ j))
theorem inv_one (Row : Nat → R) : Inv 1 Row := fun is φ _ => by rw [Int.one_pow]; exact Int.one_dvd _
theorem dt_two (x y : R) : dt 2 [x, y] = x 0 * y 1 - y 0 * x 1 := by
  simp [dt, ex3, sh]
theorem exact2 {q : Int} {Row : Nat → R} (h : Inv q Row) (p i c j : Nat) : q ∣ Row p c * Row i j - Row i c * Row p j := by
  have := h [p, i] (fun k => if k = 0 then c else j) (by simp)
  simp only [List.length_cons, List.length_nil, List.map_cons, List.map_nil] at this
  rw [dt_two] at this
  have e : q ^ (0 + 1 + 1 - 1) = q := by simp [Int.pow_succ]
  rw [e] at this
  simpa using this
theorem step {q' q : Int} {Row Row' : Nat → R} {p c : Nat} (h : Inv q' Row) (h0 : q' ≠ 0) (hq : q = Row p c) (q0 : q ≠ 0) (hp : ∀ j, Row' p j = Row p j) (hr : ∀ i, i ≠ p → ∀ j, q' * Row' i j = q * Row i j - Row i c * Row p j) : Inv q Row' := by
  intro is φ hne
  by_cases hm : p ∈ is
  · obtain ⟨a, b, rfl⟩ := List.append_of_mem hm
    have hl : (a ++ p :: b).length = (a ++ b).length + 1 := by simp only [List.length_append, List.length_cons]; omega
    rw [hl, Nat.add_sub_cancel, List.map_append, List.map_cons]
    have fr := front ((a ++ b).length + 1) (fun j => Row' p (φ j)) (a.map fun i => fun j => Row' i (φ j)) [] (b.map fun i => fun j => Row' i (φ j)) (by simp only [List.length_map, List.length_append, List.length_nil]; omega)
    rw [List.nil_append, List.nil_append, ← List.map_append] at fr
    rw [fr]
    refine Int.dvd_mul_of_dvd_right ?_
    by_cases hm2 : p ∈ a ++ b
    · obtain ⟨u, v, e⟩ := List.append_of_mem hm2
      have tw := twice ((a ++ b).length + 1) (fun j => Row' p (φ j)) (u.map fun i => fun j => Row' i (φ j)) [] (v.map fun i => fun j => Row' i (φ j)) (by rw [e]; simp only [List.length_map, List.length_append, List.length_cons, List.length_nil]; omega)
      rw [List.nil_append] at tw
      have e2 : (a ++ b).map (fun i => fun j => Row' i (φ j)) = (u.map fun i => fun j => Row' i (φ j)) ++ (fun j => Row' p (φ j)) :: (v.map fun i => fun j => Row' i (φ j)) := by rw [e, List.map_append, List.map_cons]
      rw [e2, tw]
      exact Int.dvd_zero _
    · generalize hL : a ++ b = L at hm2
      have ne : ∀ i ∈ L, i ≠ p := fun i hi e => hm2 (e ▸ hi)
      have s1 := addrow (L.length + 1) (fun j => Row' p (φ j)) (fun i => fun j => q' * Row' i (φ j)) (fun i => fun j => Row' i (φ j)) q' (fun _ => 0) L [] (fun i _ j => by simp) (by simp)
      have s2 := addrow (L.length + 1) (fun j => Row' p (φ j)) (fun i => fun j => q' * Row' i (φ j)) (fun i => fun j => Row i (φ j)) q (fun i => - Row i c) L [] (fun i hi j => by
        show q' * Row' i (φ j) = q * Row i (φ j) + - Row i c * Row' p (φ j)
        rw [hr i (ne i hi), hp]
        grind) (by simp)
      rw [List.nil_append, List.nil_append] at s1 s2
      have dv := h (p :: L) φ (by simp)
      rw [List.length_cons, Nat.add_sub_cancel, List.map_cons] at dv
      have e3 : (fun j => Row' p (φ j)) = (fun j => Row p (φ j)) := by funext j; exact hp _
      rw [e3] at s1 s2 ⊢
      obtain ⟨E, hE⟩ := dv
      refine ⟨E, ?_⟩
      have key : q' ^ L.length * dt (L.length + 1) ((fun j => Row p (φ j)) :: L.map fun i => fun j => Row' i (φ j)) = q' ^ L.length * (q ^ L.length * E) := by
        rw [← s1, s2, hE]
        grind
      exact Int.eq_of_mul_eq_mul_left (Int.pow_ne_zero h0) key
  · have ne : ∀ i ∈ is, i ≠ p := fun i hi e => hm (e ▸ hi)
    let ψ : Nat → Nat := fun k => match k with | 0 => c | k + 1 => φ k
    have ch := chio (fun j => Row p (ψ j)) (fun i => fun j => Row i (ψ j)) is
    have s1 := scale is.length (fun i => fun j => q' * Row' i (φ j)) (fun i => fun j => Row' i (φ j)) q' (fun _ _ => rfl) is [] (by simp)
    rw [List.nil_append, List.nil_append] at s1
    have e1 : (is.map fun i => fun j => q' * Row' i (φ j)) = is.map fun i => fun j => Row p (ψ 0) * Row i (ψ (j + 1)) - Row i (ψ 0) * Row p (ψ (j + 1)) := by
      refine List.map_congr_left fun i hi => ?_
      funext j
      show q' * Row' i (φ j) = Row p c * Row i (φ j) - Row i c * Row p (φ j)
      rw [hr i (ne i hi), hq]
    have dv := h (p :: is) ψ (by simp)
    rw [List.length_cons, Nat.add_sub_cancel, List.map_cons] at dv
    obtain ⟨E, hE⟩ := dv
    rw [e1] at s1
    have ch' : q * dt is.length (is.map fun i => fun j => Row p (ψ 0) * Row i (ψ (j + 1)) - Row i (ψ 0) * Row p (ψ (j + 1))) = q ^ is.length * dt (is.length + 1) ((fun j => Row p (ψ j)) :: is.map fun i => fun j => Row i (ψ j)) := by
      rw [hq]
      exact ch
    rw [s1, hE] at ch'
    obtain ⟨m, hm'⟩ : ∃ m, is.length = m + 1 := by
      cases is with
      | nil => exact absurd rfl hne
      | cons x xs => exact ⟨xs.length, rfl⟩
    rw [hm'] at ch' ⊢
    rw [Nat.add_sub_cancel]
    refine ⟨E, ?_⟩
    have key : (q * q' ^ (m + 1)) * dt (m + 1) (is.map fun i => fun j => Row' i (φ j)) = (q * q' ^ (m + 1)) * (q ^ m * E) := by
      rw [Int.pow_succ q m] at ch'
      grind
    exact Int.eq_of_mul_eq_mul_left (Int.mul_ne_zero q0 (Int.pow_ne_zero h0)) key
def sm : Nat → (Nat → Int) → Int
  | 0, _ => 0
  | n + 1, f => sm n f + f n
theorem sm_congr {f g : Nat → Int} : ∀ {n : Nat}, (∀ m, m < n → f m = g m) → sm n f = sm n g
  | 0, _ => rfl
  | n + 1, h => by
    show sm n f + f n = sm n g + g n
    rw [sm_congr fun m hm => h m (by omega), h n (by omega)]
theorem sm_add (f g : Nat → Int) : ∀ n : Nat, sm n (fun m => f m + g m) = sm n f + sm n g
  | 0 => rfl
  | n + 1 => by
    show sm n (fun m => f m + g m) + (f n + g n) = sm n f + f n + (sm n g + g n)
    rw [sm_add f g n]
    omega
theorem sm_mul (c : Int) (f : Nat → Int) : ∀ n : Nat, sm n (fun m => c * f m) = c * sm n f
  | 0 => by simp [sm]
  | n + 1 => by
    show sm n (fun m => c * f m) + c * f n = c * (sm n f + f n)
    rw [sm_mul c f n]
    grind
theorem sm_lin (a b : Int) (f g : Nat → Int) (n : Nat) : sm n (fun m => a * f m - b * g m) = a * sm n f - b * sm n g := by
  have : (fun m => a * f m - b * g m) = fun m => a * f m + (-b) * g m := by
    funext m
    grind
  rw [this, sm_add (fun m => a * f m) (fun m => (-b) * g m), sm_mul, sm_mul]
  grind
theorem sm_zero : ∀ {n : Nat} {f : Nat → Int}, (∀ m, m < n → f m = 0) → sm n f = 0
  | 0, _, _ => rfl
  | n + 1, f, h => by
    show sm n f + f n = 0
    rw [sm_zero fun m hm => h m (by omega), h n (by omega)]
    rfl
theorem sm_pick {c : Int} {f : Nat → Int} : ∀ {n l : Nat}, l < n → sm n (fun m => (if l = m then c else 0) * f m) = c * f l
  | 0, l, h => by omega
  | n + 1, l, h => by
    show sm n (fun m => (if l = m then c else 0) * f m) + (if l = n then c else 0) * f n = c * f l
    by_cases e : l = n
    · rw [sm_zero fun m hm => by rw [if_neg (by omega)]; simp, if_pos e, e]
      simp
    · rw [sm_pick (n := n) (l := l) (by omega), if_neg e]
      simp
theorem sm_swap (f : Nat → Nat → Int) (k : Nat) : ∀ n : Nat, sm n (fun i => sm k (fun m => f i m)) = sm k (fun m => sm n (fun i => f i m))
  | 0 => (sm_zero fun m _ => rfl).symm
  | n + 1 => by
    show sm n (fun i => sm k (fun m => f i m)) + sm k (fun m => f n m) = sm k (fun m => sm n (fun i => f i m) + f n m)
    rw [sm_swap f k n, sm_add]
structure Ok (n : Nat) (A : Nat → R) (k : Nat) (q : Int) (Row : Nat → R) : Prop where
  inv : Inv q Row
  pos : 0 < q
  left : ∀ i j, i < n → j < k → Row i j = if i = j then q else 0
  rel : ∀ i j, i < n → j < n → Row i j = sm n fun m => Row i (n + m) * A m j
  inj : ∀ v : Nat → Int, (∀ i, i < n → sm n (fun m => Row i (n + m) * v m) = 0) → ∀ m, m < n → v m = 0
def begun (n : Nat) (A : Nat → R) : Nat → R := fun i j => if j < n then A i j else if i = j - n then 1 else 0
theorem ok_begun (n : Nat) (A : Nat → R) {Row : Nat → R} (hr : ∀ i j, i < n → j < n + n → Row i j = begun n A i j) : Ok n A 0 1 Row := by
  have e : ∀ i m, i < n → m < n → Row i (n + m) = if i = m then 1 else 0 := fun i m hi hm => by
    rw [hr i (n + m) hi (by omega)]
    unfold begun
    rw [if_neg (by omega), Nat.add_sub_cancel_left]
  refine ⟨inv_one _, by decide, fun i j _ h => by omega, fun i j hi hj => ?_, fun v h m hm => ?_⟩
  · rw [sm_congr (g := fun m => (if i = m then 1 else 0) * A m j) fun m hm => by rw [e i m hi hm], sm_pick hi, hr i j hi (by omega)]
    unfold begun
    rw [if_pos hj]
    simp
  · have := h m hm
    rw [sm_congr (g := fun k => (if m = k then 1 else 0) * v k) fun k hk => by rw [e m k hm hk], sm_pick hm] at this
    simpa using this
def stepR (k : Nat) (q : Int) (Row : Nat → R) : Nat → R := fun i j => if i = k then Row k j else (Row k k * Row i j - Row i k * Row k j) / q
theorem stepR_own {k : Nat} {q : Int} {Row : Nat → R} (j : Nat) : stepR k q Row k j = Row k j := if_pos rfl
theorem stepR_exact {k i : Nat} {q : Int} {Row : Nat → R} (h : Inv q Row) (hi : i ≠ k) (j : Nat) : q * stepR k q Row i j = Row k k * Row i j - Row i k * Row k j := by
  unfold stepR
  rw [if_neg hi]
  exact Int.mul_ediv_cancel' (exact2 h k i k j)
theorem ok_step {n k : Nat} {A : Nat → R} {q : Int} {Row : Nat → R} (h : Ok n A k q Row) (hk : k < n) (hp : 0 < Row k k) : Ok n A (k + 1) (Row k k) (stepR k q Row) := by
  have q0 : q ≠ 0 := by have := h.pos; omega
  have p0 : Row k k ≠ 0 := by omega
  have ex : ∀ i, i ≠ k → ∀ j, q * stepR k q Row i j = Row k k * Row i j - Row i k * Row k j := fun i hi j => stepR_exact h.inv hi j
  refine ⟨step h.inv q0 rfl p0 (fun j => stepR_own j) ex, hp, fun i j hi hj => ?_, fun i j hi hj => ?_, fun v hv m hm => ?_⟩
  · by_cases hik : i = k
    · subst hik
      rw [stepR_own]
      by_cases hji : j = i
      · rw [if_pos hji.symm, hji]
      · rw [if_neg (Ne.symm hji), h.left i j hi (by omega), if_neg (Ne.symm hji)]
    · refine Int.eq_of_mul_eq_mul_left q0 ?_
      rw [ex i hik]
      by_cases hjk : j = k
      · rw [hjk, if_neg hik]
        grind
      · rw [h.left k j hk (by omega), if_neg (Ne.symm hjk), h.left i j hi (by omega)]
        split <;> grind
  · by_cases hik : i = k
    · subst hik
      rw [stepR_own, h.rel i j hi hj]
      exact sm_congr fun m _ => by rw [stepR_own]
    · refine Int.eq_of_mul_eq_mul_left q0 ?_
      rw [ex i hik, h.rel i j hi hj, h.rel k j hk hj, ← sm_lin, ← sm_mul]
      refine sm_congr fun m _ => ?_
      have := ex i hik (n + m)
      grind
  · refine h.inj v (fun i hi => ?_) m hm
    have sk : sm n (fun m => Row k (n + m) * v m) = 0 := by
      rw [← hv k hk]
      exact sm_congr fun m _ => by rw [stepR_own]
    by_cases hik : i = k
    · rw [hik]
      exact sk
    · have e1 : q * sm n (fun m => stepR k q Row i (n + m) * v m) = Row k k * sm n (fun m => Row i (n + m) * v m) - Row i k * sm n (fun m => Row k (n + m) * v m) := by
        rw [← sm_lin, ← sm_mul]
        refine sm_congr fun m _ => ?_
        have := ex i hik (n + m)
        grind
      rw [hv i hi, sk] at e1
      have e2 : Row k k * sm n (fun m => Row i (n + m) * v m) = 0 := by omega
      rcases Int.mul_eq_zero.mp e2 with e3 | e3
      · exact absurd e3 p0
      · exact e3
theorem Ok.inverse {n : Nat} {A : Nat → R} {q : Int} {Row : Nat → R} (h : Ok n A n q Row) : (∀ i j, i < n → j < n → sm n (fun m => Row i (n + m) * A m j) = if i = j then q else 0) ∧ ∀ i j, i < n → j < n → sm n (fun m => A i m * Row m (n + j)) = if i = j then q else 0 := by
  have hl : ∀ i j, i < n → j < n → sm n (fun m => Row i (n + m) * A m j) = if i = j then q else 0 := fun i j hi hj => by rw [← h.rel i j hi hj, h.left i j hi hj]
  refine ⟨hl, fun i j hi hj => ?_⟩
  have := h.inj (fun i => sm n (fun m => A i m * Row m (n + j)) - if i = j then q else 0) (fun l hl' => ?_) i hi
  · omega
  · have e1 : (fun i => Row l (n + i) * (sm n (fun m => A i m * Row m (n + j)) - if i = j then q else 0)) = fun i => 1 * sm n (fun m => Row l (n + i) * A i m * Row m (n + j)) - 1 * ((if j = i then q else 0) * Row l (n + i)) := by
      funext i
      have : sm n (fun m => Row l (n + i) * A i m * Row m (n + j)) = Row l (n + i) * sm n (fun m => A i m * Row m (n + j)) := by
        rw [← sm_mul]
        exact sm_congr fun m _ => by grind
      rw [this]
      by_cases e : i = j
      · rw [if_pos e, if_pos e.symm]
        grind
      · rw [if_neg e, if_neg (Ne.symm e)]
        grind
    rw [e1, sm_lin, sm_pick (f := fun i => Row l (n + i)) hj, sm_swap]
    have e2 : sm n (fun m => sm n fun i => Row l (n + i) * A i m * Row m (n + j)) = sm n (fun m => (if l = m then q else 0) * Row m (n + j)) := by
      refine sm_congr fun m hm => ?_
      have : sm n (fun i => Row l (n + i) * A i m * Row m (n + j)) = Row m (n + j) * sm n (fun i => Row l (n + i) * A i m) := by
        rw [← sm_mul]
        exact sm_congr fun i _ => by grind
      rw [this, hl l m hl' hm]
      grind
    rw [e2, sm_pick (f := fun m => Row m (n + j)) hl']
    grind
end QX.Det
set_option maxRecDepth 100000
set_option maxHeartbeats 1000000
namespace QX.Det
def rw (ls : List (List Int)) : Nat → R := fun i j => (ls.getD i []).getD j 0
def nought (line own : List Int) (k : Nat) (q : Int) : List Int := List.zipWith (fun one less => (own.getD k 0 * one - line.getD k 0 * less) / q) line own
def stepL (k : Nat) (q : Int) (ls : List (List Int)) : List (List Int) := ls.mapIdx fun i line => if i = k then ls.getD k [] else nought line (ls.getD k []) k q
structure Rect (n w : Nat) (ls : List (List Int)) : Prop where
  len : ls.length = n
  wid : ∀ l ∈ ls, l.length = w
theorem Rect.get {n w i : Nat} {ls : List (List Int)} (h : Rect n w ls) (hi : i < n) : (ls.getD i []).length = w := by
  have : i < ls.length := by rw [h.len]; exact hi
  rw [List.getD_eq_getElem?_getD, List.getElem?_eq_getElem this]
  exact h.wid _ (List.getElem_mem this)
theorem Rect.step {n w k : Nat} {q : Int} {ls : List (List Int)} (h : Rect n w ls) (hk : k < n) : Rect n w (stepL k q ls) := by
  refine ⟨by rw [stepL, List.length_mapIdx, h.len], fun l hl => ?_⟩
  obtain ⟨i, hi, rfl⟩ := List.mem_mapIdx.mp hl
  split
  · exact h.get hk
  · rw [nought, List.length_zipWith, h.get hk, h.wid _ (List.getElem_mem hi), Nat.min_self]
theorem getD0 {xs : List Int} {j : Nat} (h : xs.length ≤ j) : xs.getD j 0 = 0 := by
  rw [List.getD_eq_getElem?_getD, List.getElem?_eq_none h]
  rfl
theorem rw_out {ls : List (List Int)} {i j : Nat} (h : ls.length ≤ i) : rw ls i j = 0 := by
  have e : ls.getD i [] = [] := by
    rw [List.getD_eq_getElem?_getD, List.getElem?_eq_none h]
    rfl
  unfold rw
  rw [e]
  rfl
theorem rw_step {n w k : Nat} {q : Int} {ls : List (List Int)} (h : Rect n w ls) (hk : k < n) : rw (stepL k q ls) = stepR k q (rw ls) := by
  funext i j
  by_cases hi : i < n
  · have hi' : i < ls.length := by rw [h.len]; exact hi
    have e : (stepL k q ls).getD i [] = if i = k then ls.getD k [] else nought (ls.getD i []) (ls.getD k []) k q := by
      rw [stepL, List.getD_eq_getElem?_getD, List.getElem?_mapIdx, List.getElem?_eq_getElem hi']
      show (if i = k then ls.getD k [] else nought ls[i] (ls.getD k []) k q) = _
      rw [List.getD_eq_getElem?_getD (i := i), List.getElem?_eq_getElem hi']
      rfl
    unfold stepR
    show ((stepL k q ls).getD i []).getD j 0 = _
    rw [e]
    split
    · rfl
    · unfold nought
      have l1 := h.get hi
      have l2 := h.get hk
      by_cases hj : j < w
      · rw [List.getD_eq_getElem?_getD, List.getElem?_zipWith, List.getElem?_eq_getElem (by omega), List.getElem?_eq_getElem (by omega)]
        show (_ * (ls.getD i [])[j] - _ * (ls.getD k [])[j]) / q = (_ * (ls.getD i []).getD j 0 - _ * (ls.getD k []).getD j 0) / q
        rw [List.getD_eq_getElem?_getD (i := j), List.getElem?_eq_getElem (by omega), List.getD_eq_getElem?_getD (i := j), List.getElem?_eq_getElem (by omega)]
        rfl
      · rw [getD0 (by rw [List.length_zipWith]; omega)]
        show 0 = (_ * (ls.getD i []).getD j 0 - _ * (ls.getD k []).getD j 0) / q
        rw [getD0 (by omega), getD0 (by omega)]
        simp
  · have h1 : rw ls i j = 0 := rw_out (by rw [h.len]; omega)
    have h2 : rw ls i k = 0 := rw_out (by rw [h.len]; omega)
    rw [rw_out (by rw [stepL, List.length_mapIdx, h.len]; omega)]
    unfold stepR
    rw [if_neg (by omega), h1, h2]
    simp
def solveL : Nat → Nat → Int → List (List Int) → Option (Int × List (List Int))
  | 0, _, q, ls => some (q, ls)
  | r + 1, k, q, ls => if rw ls k k ≤ 0 then none else solveL r (k + 1) (rw ls k k) (stepL k q ls)
theorem solve_ok {n w : Nat} {A : Nat → R} : ∀ (r k : Nat) (q : Int) (ls : List (List Int)) (p : Int) (ls' : List (List Int)), Rect n w ls → Ok n A k q (rw ls) → k + r = n → solveL r k q ls = some (p, ls') → Ok n A n p (rw ls') ∧ Rect n w ls'
  | 0, k, q, ls, p, ls', hr, ho, hk, h => by
    simp only [solveL, Option.some.injEq, Prod.mk.injEq] at h
    obtain ⟨rfl, rfl⟩ := h
    have : k = n := by omega
    subst this
    exact ⟨ho, hr⟩
  | r + 1, k, q, ls, p, ls', hr, ho, hk, h => by
    unfold solveL at h
    split at h
    · cases h
    · rename_i hp
      have hk' : k < n := by omega
      have ho' := ok_step ho hk' (by omega)
      rw [← rw_step hr hk'] at ho'
      exact solve_ok r (k + 1) _ _ p ls' (hr.step hk') ho' (by omega) h
def begunL (n : Nat) (t : List (List Int)) : List (List Int) := t.mapIdx fun i l => l ++ (List.range n).map fun a => if a = i then 1 else 0
theorem begun_rect {n : Nat} {t : List (List Int)} (h : Rect n n t) : Rect n (n + n) (begunL n t) := by
  refine ⟨by rw [begunL, List.length_mapIdx, h.len], fun l hl => ?_⟩
  obtain ⟨i, hi, rfl⟩ := List.mem_mapIdx.mp hl
  rw [List.length_append, List.length_map, List.length_range, h.wid _ (List.getElem_mem hi)]
theorem rw_begun {n : Nat} {t : List (List Int)} (h : Rect n n t) (i j : Nat) (hi : i < n) (hj : j < n + n) : rw (begunL n t) i j = begun n (rw t) i j := by
  have hi' : i < t.length := by rw [h.len]; exact hi
  have l1 : t[i].length = n := h.wid _ (List.getElem_mem hi')
  have e : (begunL n t).getD i [] = t[i] ++ (List.range n).map fun a => if a = i then 1 else 0 := by
    rw [begunL, List.getD_eq_getElem?_getD, List.getElem?_mapIdx, List.getElem?_eq_getElem hi']
    rfl
  have e2 : t.getD i [] = t[i] := by
    rw [List.getD_eq_getElem?_getD, List.getElem?_eq_getElem hi']
    rfl
  show ((begunL n t).getD i []).getD j 0 = if j < n then (t.getD i []).getD j 0 else if i = j - n then 1 else 0
  rw [e, e2]
  by_cases hn : j < n
  · rw [if_pos hn, List.getD_eq_getElem?_getD, List.getElem?_append_left (by omega), ← List.getD_eq_getElem?_getD]
  · rw [if_neg hn, List.getD_eq_getElem?_getD, List.getElem?_append_right (by omega), l1, List.getElem?_map, List.getElem?_range (by omega)]
    show (if j - n = i then (1 : Int) else 0) = if i = j - n then 1 else 0
    by_cases e : i = j - n
    · rw [if_pos e, if_pos e.symm]
    · rw [if_neg e, if_neg (Ne.symm e)]
theorem ok_begunL {n : Nat} {t : List (List Int)} (h : Rect n n t) : Ok n (rw t) 0 1 (rw (begunL n t)) := ok_begun n (rw t) fun i j hi hj => rw_begun h i j hi hj
theorem ediv_abs (x q : Int) (h : 0 < q) : (x / q).natAbs ≤ x.natAbs := by
  have h1 := Int.ediv_mul_add_emod x q
  have h2 := Int.emod_nonneg x (show q ≠ 0 by omega)
  have h3 := Int.emod_lt_of_pos x h
  rcases Int.lt_or_le x 0 with hx | hx
  · have a1 : x / q < 0 := Int.ediv_neg_of_neg_of_pos hx h
    have a2 : x ≤ x / q := by
      have : x / q * q ≤ x / q * 1 := Int.mul_le_mul_of_nonpos_left (by omega) (by omega)
      rw [Int.le_ediv_iff_mul_le h]
      have : x * q ≤ x * 1 := Int.mul_le_mul_of_nonpos_left (by omega) (by omega)
      omega
    omega
  · have a1 : 0 ≤ x / q := Int.ediv_nonneg hx (by omega)
    have a2 : x / q ≤ x := Int.ediv_le_self q hx
    omega
def Big (b : Nat) (Row : Nat → R) : Prop := ∀ i j, (Row i j).natAbs < 2 ^ b
theorem abs_mul2 {x y u v : Int} {b : Nat} (hx : x.natAbs < 2 ^ b) (hy : y.natAbs < 2 ^ b) (hu : u.natAbs < 2 ^ b) (hv : v.natAbs < 2 ^ b) : (x * y - u * v).natAbs < 2 ^ (2 * b + 1) := by
  have e : (2 : Nat) ^ (2 * b + 1) = 2 ^ b * 2 ^ b + 2 ^ b * 2 ^ b := by rw [Nat.pow_succ, Nat.two_mul b, Nat.pow_add]; omega
  have h1 : (x * y).natAbs < 2 ^ b * 2 ^ b := by
    rw [Int.natAbs_mul]
    exact Nat.mul_lt_mul'' hx hy
  have h2 : (u * v).natAbs < 2 ^ b * 2 ^ b := by
    rw [Int.natAbs_mul]
    exact Nat.mul_lt_mul'' hu hv
  rw [e]
  omega
theorem Big.step {b k : Nat} {q : Int} {Row : Nat → R} (h : Big b Row) (hq : 0 < q) : Big (2 * b + 1) (stepR k q Row) := fun i j => by
  unfold stepR
  split
  · exact Nat.lt_of_lt_of_le (h k j) (Nat.pow_le_pow_right (by decide) (by omega))
  · exact Nat.lt_of_le_of_lt (ediv_abs _ _ hq) (abs_mul2 (h _ _) (h _ _) (h _ _) (h _ _))
end QX.Det
set_option maxRecDepth 100000
set_option maxHeartbeats 1000000
namespace QX
open PySem PySem.Spec PyProof.Rows L2 HX QX.Det
variable {M : Mem} {p k : Nat} {x : Cell} {σ : Sa} {ws : List (List (List Int))} {c : Int} {m : Mo} {n : Int}
def lsD (r : List Int) : D := .lst (r.map .int)
def tabD (t : List (List Int)) : D := .lst (t.map lsD)
theorem und_ls {n : Nat} (r : List Int) : (lsD r).und n = true := undA_map (fun _ => rfl) r
theorem ixL {xs : List Int} {k : Nat} (h : k < xs.length) : gIx (lsD xs) (.int (k : Int)) M = .ok (.int (xs.getD k 0)) M := by
  refine gIx_list (ds := xs.map D.int) rfl ?_
  rw [List.getElem?_map, List.getD_eq_getElem?_getD, List.getElem?_eq_getElem h]
  rfl
theorem ixT {t : List (List Int)} {k : Nat} (h : k < t.length) : gIx (tabD t) (.int (k : Int)) M = .ok (lsD (t.getD k [])) M := by
  refine gIx_list (ds := t.map lsD) rfl ?_
  rw [List.getElem?_map, List.getD_eq_getElem?_getD, List.getElem?_eq_getElem h]
  rfl
theorem mul_ev {i j : Int} (hi : i.natAbs < 2 ^ 2048) (hj : j.natAbs < 2 ^ 2048) : gMul (.int i) (.int j) M = .ok (.int (i * j)) M := by
  rw [gMul_int, if_pos (mulOk_big hi hj)]
theorem log_lt {i : Nat} (h : i < 2 ^ 2048) : Nat.blt i.log2 9000 = true := by
  rw [Nat.blt_eq]
  by_cases h0 : i = 0
  · rw [h0]; decide
  · have := (Nat.log2_lt h0).mpr h
    omega
theorem fdiv_ev {i q : Int} (h0 : 0 < q) (hq : q.natAbs < 2 ^ 2048) : gFdiv (.int i) (.int q) M = .ok (.int (i / q)) M := by
  rw [gFdiv_int, if_pos]
  rw [Bool.and_eq_true]
  exact ⟨decide_eq_true h0, log_lt hq⟩
theorem getD_mem {xs : List Int} {k : Nat} (h : k < xs.length) : xs.getD k 0 ∈ xs := by
  rw [List.getD_eq_getElem?_getD, List.getElem?_eq_getElem h]
  exact List.getElem_mem h
theorem m_with_nought_eq {line own : List Int} {q : Int} {B : Nat} (hw : Wf M) (hk : k < line.length) (hk2 : k < own.length) (hz : line.length ≤ 1000) (h1 : ∀ z ∈ line, z.natAbs ≤ B) (h2 : ∀ z ∈ own, z.natAbs ≤ B) (hB : B < 2 ^ 2048) (hq : 0 < q) (hqb : q.natAbs ≤ B) :
    m_with_nought [lsD line, lsD own, .int (k : Int), .int q] M = .ok (lsD (nought line own k q)) M := by
  refine run_pure rfl ?_
  have hi : fIt gZip2 (fCons (fVar 0) (fCons (fVar 1) fNil)) (startA 6 [lsD line, lsD own, .int (k : Int), .int q]) M = .ok ⟨zip2 (line.map D.int) (own.map D.int), fun M => true && true⟩ M := rfl
  have hc := comp_pure (fi := fIt gZip2 (fCons (fVar 0) (fCons (fVar 1) fNil))) (vs := [4, 5]) (t := .tup [4, 5]) (e := fBin gFdiv (fBin gSub (fBin gMul (fBin gIx (fVar 1) (fVar 2)) (fVar 4)) (fBin gMul (fBin gIx (fVar 0) (fVar 2)) (fVar 5))) (fVar 3)) (σ := startA 6 [lsD line, lsD own, .int (k : Int), .int q]) (M := M)
    (fun im => match im with | .pr [.int a, .int b] => .int ((own.getD k 0 * a - line.getD k 0 * b) / q) | _ => .non) hi (fun _ => rfl) hw (by
      show (zip2 (line.map D.int) (own.map D.int)).length ≤ 1000000
      have := zip_len (line.map D.int) (own.map D.int)
      rw [List.length_map] at this
      omega) (fun im him => by
      obtain ⟨a, b, rfl, ha, hb⟩ := zip_mem line own im him
      refine ⟨rfl, [some (lsD line), some (lsD own), some (.int (k : Int)), some (.int q), some (.int a), some (.int b)], rfl, fun M' _ _ => ?_⟩
      have b1 := h1 _ ha
      have b2 := h2 _ hb
      have b3 := h2 _ (getD_mem hk2)
      have b4 := h1 _ (getD_mem hk)
      exact (bin_ev (a := .int (own.getD k 0 * a - line.getD k 0 * b)) (b := .int q) ((bin_ev (a := .int (own.getD k 0 * a)) (b := .int (line.getD k 0 * b)) ((bin_ev (a := .int (own.getD k 0)) (b := .int a) ((bin_ev (var_ev rfl) (var_ev rfl)).trans (ixL hk2)) (var_ev rfl)).trans (mul_ev (by omega) (by omega))) ((bin_ev (a := .int (line.getD k 0)) (b := .int b) ((bin_ev (var_ev rfl) (var_ev rfl)).trans (ixL hk)) (var_ev rfl)).trans (mul_ev (by omega) (by omega)))).trans gSub_int) (var_ev rfl)).trans (fdiv_ev hq (by omega)))
  refine hc.trans ?_
  show Res.ok (D.lst ((zip2 (line.map D.int) (own.map D.int)).map _)) M = _
  rw [zip_map (fun a b => (own.getD k 0 * a - line.getD k 0 * b) / q) _ (fun _ _ => rfl)]
  rfl
end QX
set_option maxRecDepth 100000
set_option maxHeartbeats 1000000
namespace QX
open PySem PySem.Spec PyProof.Rows L2 HX QX.Det
variable {M : Mem} {p k : Nat} {x : Cell} {σ : Sa} {ws : List (List (List Int))} {c : Int} {m : Mo} {n : Int}
theorem comp_mapI {α : Type} {fi : F Ita} {vs : List Nat} {t : Tg} {e : F D} (xs : List α) (g : α → Im) (h : α → D) (hi : fi σ M = .ok ⟨xs.map g, fun _ => true⟩ M) (hw : Wf M) (hl : xs.length ≤ 1000000)
    (he : ∀ x ∈ xs, (h x).und M.length = true ∧ ∃ σ1, t.put (g x) (wipeA σ vs) = some σ1 ∧ ∀ M', Wf M' → e σ1 M' = .ok (h x) M') : fTrim (fCompC fi vs t fYes e) σ M = .ok (.lst (xs.map h)) M := by
  classical
  have key : ∀ x ∈ xs, ∀ y ∈ xs, g x = g y → h x = h y := fun x hx y hy hg => by
    obtain ⟨_, σ1, a1, a2⟩ := he x hx
    obtain ⟨_, σ2, b1, b2⟩ := he y hy
    rw [hg, b1] at a1
    cases a1
    have := (a2 M hw).symm.trans (b2 M hw)
    injection this
  let f : Im → D := fun im => if hx : ∃ x ∈ xs, im = g x then h (Classical.choose hx) else .non
  have hf : ∀ x ∈ xs, f (g x) = h x := fun x hx => by
    have hx' : ∃ y ∈ xs, g x = g y := ⟨x, hx, rfl⟩
    show (if hx : ∃ y ∈ xs, g x = g y then h (Classical.choose hx) else .non) = _
    rw [dif_pos hx']
    have hs := Classical.choose_spec hx'
    exact (key x hx _ hs.1 hs.2).symm
  have r := comp_pure (fi := fi) (vs := vs) (t := t) (e := e) (σ := σ) (M := M) (it := ⟨xs.map g, fun _ => true⟩) f hi (fun _ => rfl) hw (by simpa using hl) (fun im him => by
    obtain ⟨x, hx, rfl⟩ := List.mem_map.mp him
    rw [hf x hx]
    obtain ⟨u, σ1, a1, a2⟩ := he x hx
    exact ⟨u, σ1, a1, fun M' w1 _ => a2 M' w1⟩)
  rw [r]
  congr 2
  show (xs.map g).map f = _
  rw [List.map_map]
  exact List.map_congr_left fun x hx => hf x hx
theorem enum_map {α : Type} (G : α → D) (z : α) : ∀ (t : List α) (lo : Nat), enumI (lo : Int) (t.map G) = (List.range t.length).map fun i => Im.pr [.int ((lo + i : Nat) : Int), G (t.getD i z)]
  | [], lo => rfl
  | a :: t, lo => by
    have ih := enum_map G z t (lo + 1)
    show Im.pr [.int (lo : Int), G a] :: enumI ((lo : Int) + 1) (t.map G) = _
    rw [List.length_cons, List.range_succ_eq_map, List.map_cons, List.map_map]
    have e : (lo : Int) + 1 = ((lo + 1 : Nat) : Int) := by omega
    rw [e, ih]
    congr 1
    refine List.map_congr_left fun i _ => ?_
    show _ = Im.pr [.int ((lo + (i + 1) : Nat) : Int), G ((a :: t).getD (i + 1) z)]
    rw [show lo + (i + 1) = lo + 1 + i by omega]
    rfl
theorem mapIdx_range {α β : Type} (f : Nat → α → β) (z : α) (t : List α) : t.mapIdx f = (List.range t.length).map fun i => f i (t.getD i z) := by
  refine List.ext_getElem? fun i => ?_
  rw [List.getElem?_mapIdx, List.getElem?_map]
  by_cases h : i < t.length
  · rw [List.getElem?_eq_getElem h, List.getElem?_range h]
    show some (f i t[i]) = some (f i (t.getD i z))
    rw [List.getD_eq_getElem?_getD, List.getElem?_eq_getElem h]
    rfl
  · rw [List.getElem?_eq_none (by omega), List.getElem?_eq_none (by rw [List.length_range]; omega)]
    rfl
def BigL (B : Nat) (ls : List (List Int)) : Prop := ∀ l ∈ ls, ∀ z ∈ l, z.natAbs ≤ B
theorem getT_mem {ls : List (List Int)} {k : Nat} (h : k < ls.length) : ls.getD k [] ∈ ls := by
  rw [List.getD_eq_getElem?_getD, List.getElem?_eq_getElem h]
  exact List.getElem_mem h
theorem BigL.step {B k : Nat} {q : Int} {ls : List (List Int)} {n w : Nat} (h : BigL B ls) (hr : Rect n w ls) (hk : k < n) (hw : k < w) (hB : 1 ≤ B) : BigL (2 * (B * B)) (stepL k q ls) := fun l hl z hz => by
  obtain ⟨i, hi, rfl⟩ := List.mem_mapIdx.mp hl
  have hkl : k < ls.length := by rw [hr.len]; exact hk
  have hown := h _ (getT_mem hkl)
  have hB2 : B ≤ 2 * (B * B) := by
    have : B * 1 ≤ B * B := Nat.mul_le_mul_left _ hB
    omega
  split at hz
  · exact Nat.le_trans (hown z hz) hB2
  · obtain ⟨a, b, ha, hb, rfl⟩ := zipWith_mem _ _ _ hz
    have l1 := hr.get hk
    have h1 := h _ (List.getElem_mem hi) a ha
    have h2 := hown b hb
    have h3 := hown _ (getD_mem (by rw [l1]; exact hw))
    have h4 := h _ (List.getElem_mem hi) _ (getD_mem (xs := ls[i]) (k := k) (by rw [hr.wid _ (List.getElem_mem hi)]; exact hw))
    have := elim_bd (last := q) h2 h1 h3 h4
    rw [Int.mul_comm a, Int.mul_comm b] at this
    exact this
theorem pass9 {ga : F Bool} {s1 : FS} (h : ga σ M = .ok false M) : sIf ga s1 sNext σ M = .ok (.nx σ) M := (sif_ev h).trans rfl
def svB : FS := (sSeq (sSet 5 (fBin gIx (fVar 2) (fVar 4)))
  (sSeq (sIf (fTest (fBin (gCmp cLe) (fBin gIx (fVar 5) (fVar 4)) (fC (.int 0))))
  (sRet (fC .non))
  sNext)
  (sSeq (sSet 2 (fTrim (fCompC (fIt gEnum (fCons (fVar 2) fNil)) [7, 6] (.tup [7, 6]) fYes (fIf (fTest (fBin (gEq false) (fVar 7) (fVar 4))) (fVar 5) (fCall m_with_nought (fCons (fVar 6) (fCons (fVar 5) (fCons (fVar 4) (fCons (fVar 3) fNil)))))))))
  (sSet 3 (fBin gIx (fVar 5) (fVar 4))))))
theorem solved_body : b_solved = (sSeq (sSet 1 (fCall gLen (fCons (fVar 0) fNil)))
  (sSeq (sSet 2 (fTrim (fCompC (fIt gEnum (fCons (fVar 0) fNil)) [4, 6] (.tup [4, 6]) fYes (fBin gAdd (fVar 6) (fTrim (fCompC (fIt gRange1 (fCons (fVar 1) fNil)) [7] (.name 7) fYes (fIf (fTest (fBin (gEq false) (fVar 7) (fVar 4))) (fC (.int 1)) (fC (.int 0)))))))))
  (sSeq (sSet 3 (fC (.int 1)))
  (sSeq (sFor (fIt gRange1 (fCons (fVar 1) fNil)) (.name 4) svB)
  (sRet (fTup (fCons (fVar 3) (fCons (fTrim (fCompC (fIter (fVar 2)) [6] (.name 6) fYes (fSl (fVar 6) (fPart (fVar 1)) fNoPart))) fNil)))))))) := rfl
def svL (n : Nat) (q : Int) (ls t : List (List Int)) : List (Nat × D) := [(3, .int q), (2, tabD ls), (1, .int (n : Int)), (0, tabD t)]
theorem call4_ev9 {m : List D → Mem → Res D} {fa fb fc fd : F D} {M1 M2 M3 M4 : Mem} {a b c d : D} (ha : fa σ M = .ok a M1) (hb : fb σ M1 = .ok b M2) (hc : fc σ M2 = .ok c M3) (hd : fd σ M3 = .ok d M4) : fCall m (fCons fa (fCons fb (fCons fc (fCons fd fNil)))) σ M = m [a, b, c, d] M4 := call_ev (by simp [ha, hb, hc, hd])
theorem svB_eq {n w j : Nat} {q : Int} {ls t : List (List Int)} {B : Nat} (hW : Wf M) (hr : Rect n w ls) (hj : j < n) (hw : j < w) (hn : n ≤ 6) (hw12 : w ≤ 12) (hb : BigL B ls) (hB : B < 2 ^ 2048) (hq : 0 < q) (hqb : q.natAbs ≤ B) (hs : Has σ 8 ((4, .int (j : Int)) :: svL n q ls t)) :
    (0 < rw ls j j ∧ ∃ σ', svB σ M = .ok (.nx σ') M ∧ Has σ' 8 (svL n (rw ls j j) (stepL j q ls) t)) ∨ (rw ls j j ≤ 0 ∧ svB σ M = .ok (.rt .non) M) := by
  have k0 := hs.at (i := 0) (d := tabD t) (by simp [svL])
  have k1 := hs.at (i := 1) (d := .int (n : Int)) (by simp [svL])
  have k2 := hs.at (i := 2) (d := tabD ls) (by simp [svL])
  have k3 := hs.at (i := 3) (d := .int q) (by simp [svL])
  have k4 := hs.at (i := 4) (d := .int (j : Int)) (by simp [svL])
  have hjl : j < ls.length := by rw [hr.len]; exact hj
  have s1 : sSet 5 (fBin gIx (fVar 2) (fVar 4)) σ M = .ok (.nx (σ.set 5 (some (lsD (ls.getD j []))))) M := set_ev ((bin_ev (var_ev k2) (var_ev k4)).trans (ixT hjl))
  have hs1 : Has (σ.set 5 (some (lsD (ls.getD j [])))) 8 ((5, lsD (ls.getD j [])) :: (4, .int (j : Int)) :: svL n q ls t) := hs.put (by decide) (by simp [svL])
  generalize σ.set 5 (some (lsD (ls.getD j []))) = σ1 at s1 hs1
  have j1 := hs1.at (i := 1) (d := .int (n : Int)) (by simp [svL])
  have j2 := hs1.at (i := 2) (d := tabD ls) (by simp [svL])
  have j3 := hs1.at (i := 3) (d := .int q) (by simp [svL])
  have j4 := hs1.at (i := 4) (d := .int (j : Int)) (by simp [svL])
  have j5 := hs1.at (i := 5) (d := lsD (ls.getD j [])) (by simp [svL])
  have lo : (ls.getD j []).length = w := hr.get hj
  have tst : fTest (fBin (gCmp cLe) (fBin gIx (fVar 5) (fVar 4)) (fC (.int 0))) σ1 M = .ok (decide (rw ls j j ≤ 0)) M := test_ev ((bin_ev (a := .int (rw ls j j)) (b := .int 0) ((bin_ev (var_ev j5) (var_ev j4)).trans (ixL (by rw [lo]; exact hw))) rfl).trans gCmp_int)
  by_cases hp : rw ls j j ≤ 0
  · refine .inr ⟨hp, (seq_nx s1).trans (seq_rt ((sif_ev tst).trans ?_))⟩
    rw [if_pos (decide_eq_true hp)]
    rfl
  · refine .inl ⟨by omega, ?_⟩
    have s2 : sIf (fTest (fBin (gCmp cLe) (fBin gIx (fVar 5) (fVar 4)) (fC (.int 0)))) (sRet (fC .non)) sNext σ1 M = .ok (.nx σ1) M := (sif_ev tst).trans (by rw [decide_eq_false hp]; rfl)
    have hi : fIt gEnum (fCons (fVar 2) fNil) σ1 M = .ok ⟨(List.range ls.length).map fun i : Nat => Im.pr [.int (i : Int), lsD (ls.getD i [])], fun _ => true⟩ M := by
      have e := enum_map lsD [] ls 0
      rw [ev_it, ev_cons, var_ev j2, bind_ok, ev_nil, bind_ok]
      show Res.ok (⟨enumI 0 (ls.map lsD), fun _ => true⟩ : Ita) M = _
      rw [show (0 : Int) = ((0 : Nat) : Int) from rfl, e]
      simp only [Nat.zero_add]
    have hc := comp_mapI (σ := σ1) (M := M) (vs := [7, 6]) (t := .tup [7, 6]) (e := fIf (fTest (fBin (gEq false) (fVar 7) (fVar 4))) (fVar 5) (fCall m_with_nought (fCons (fVar 6) (fCons (fVar 5) (fCons (fVar 4) (fCons (fVar 3) fNil)))))) (List.range ls.length) (fun i : Nat => Im.pr [.int (i : Int), lsD (ls.getD i [])]) (fun i : Nat => lsD (if i = j then ls.getD j [] else nought (ls.getD i []) (ls.getD j []) j q)) hi hW (by rw [List.length_range, hr.len]; omega) (fun i hi' => by
      have hil : i < ls.length := List.mem_range.mp hi'
      have hin : i < n := by rw [← hr.len]; exact hil
      refine ⟨und_ls _, _, rfl, fun M' w' => ?_⟩
      have h3 : ((wipeA σ1 [7, 6]).set 7 (some (.int (i : Int)))).set 6 (some (lsD (ls.getD i []))) = setAll (wipeA σ1 [7, 6]) [7, 6] [.int (i : Int), lsD (ls.getD i [])] := rfl
      have hs2 : Has (wipeA σ1 [7, 6]) 8 ((5, lsD (ls.getD j [])) :: (4, .int (j : Int)) :: svL n q ls t) := by
        show Has ((σ1.set 6 none).set 7 none) 8 _
        exact (hs1.set (by simp [svL])).set (by simp [svL])
      have hs3 := (hs2.put (i := 7) (d := .int (i : Int)) (by decide) (by simp [svL])).put (i := 6) (d := lsD (ls.getD i [])) (by decide) (by simp [svL])
      rw [h3] at hs3
      generalize setAll (wipeA σ1 [7, 6]) [7, 6] [.int (i : Int), lsD (ls.getD i [])] = σ2 at hs3
      have i3 := hs3.at (i := 3) (d := .int q) (by simp [svL])
      have i4 := hs3.at (i := 4) (d := .int (j : Int)) (by simp [svL])
      have i5 := hs3.at (i := 5) (d := lsD (ls.getD j [])) (by simp [svL])
      have i6 := hs3.at (i := 6) (d := lsD (ls.getD i [])) (by simp [svL])
      have i7 := hs3.at (i := 7) (d := .int (i : Int)) (by simp [svL])
      have t1 : fTest (fBin (gEq false) (fVar 7) (fVar 4)) σ2 M' = .ok (decide ((i : Int) = (j : Int))) M' := test_ev ((bin_ev (var_ev i7) (var_ev i4)).trans (gEq_int.trans (by simp)))
      rw [ev_if, t1, bind_ok]
      by_cases hij : i = j
      · rw [if_pos (by rw [hij]; simp), if_pos hij]
        exact var_ev i5
      · rw [if_neg (by simp; omega), if_neg hij]
        exact (call4_ev9 (var_ev i6) (var_ev i5) (var_ev i4) (var_ev i3)).trans (m_with_nought_eq w' (by rw [hr.get hin]; exact hw) (by rw [lo]; exact hw) (by rw [hr.get hin]; omega) (hb _ (getT_mem hil)) (hb _ (getT_mem hjl)) hB hq hqb))
    have e2 : (List.range ls.length).map (fun i => lsD (if i = j then ls.getD j [] else nought (ls.getD i []) (ls.getD j []) j q)) = (stepL j q ls).map lsD := by
      rw [stepL, mapIdx_range _ [], List.map_map]
      rfl
    rw [e2] at hc
    have s3 := set_ev (i := 2) hc
    have hs4 : Has (σ1.set 2 (some (tabD (stepL j q ls)))) 8 [(2, tabD (stepL j q ls)), (5, lsD (ls.getD j [])), (4, .int (j : Int)), (1, .int (n : Int)), (0, tabD t)] := (hs1.sub (l' := [(5, lsD (ls.getD j [])), (4, .int (j : Int)), (1, .int (n : Int)), (0, tabD t)]) (by simp [svL])).put (by decide) (by simp)
    have s3' : sSet 2 (fTrim (fCompC (fIt gEnum (fCons (fVar 2) fNil)) [7, 6] (.tup [7, 6]) fYes (fIf (fTest (fBin (gEq false) (fVar 7) (fVar 4))) (fVar 5) (fCall m_with_nought (fCons (fVar 6) (fCons (fVar 5) (fCons (fVar 4) (fCons (fVar 3) fNil)))))))) σ1 M = .ok (.nx (σ1.set 2 (some (tabD (stepL j q ls))))) M := s3
    generalize σ1.set 2 (some (tabD (stepL j q ls))) = σ3 at s3' hs4
    have s4 : sSet 3 (fBin gIx (fVar 5) (fVar 4)) σ3 M = .ok (.nx (σ3.set 3 (some (.int (rw ls j j))))) M := set_ev ((bin_ev (var_ev (hs4.at (i := 5) (by simp))) (var_ev (hs4.at (i := 4) (by simp)))).trans (ixL (by rw [lo]; exact hw)))
    refine ⟨_, (seq_nx s1).trans ((seq_nx s2).trans ((seq_nx s3').trans s4)), ?_⟩
    have := hs4.put (i := 3) (d := .int (rw ls j j)) (by decide) (by simp)
    exact this.sub (by simp [svL])
end QX
set_option maxRecDepth 100000
set_option maxHeartbeats 1000000
namespace QX
open PySem PySem.Spec PyProof.Rows L2 HX QX.Det
variable {M : Mem} {p k : Nat} {x : Cell} {σ : Sa} {ws : List (List (List Int))} {c : Int} {m : Mo}
theorem solve_big {n w : Nat} : ∀ (r k : Nat) (q : Int) (ls : List (List Int)) (p : Int) (ls' : List (List Int)), Rect n w ls → k + r = n → n ≤ w → BigL (bdd k) ls → 0 < q → q.natAbs ≤ bdd k → solveL r k q ls = some (p, ls') → BigL (bdd n) ls' ∧ 0 < p ∧ p.natAbs ≤ bdd n
  | 0, k, q, ls, p, ls', hr, hk, hw, hb, hq, hqb, h => by
    simp only [solveL, Option.some.injEq, Prod.mk.injEq] at h
    obtain ⟨rfl, rfl⟩ := h
    have : k = n := by omega
    subst this
    exact ⟨hb, hq, hqb⟩
  | r + 1, k, q, ls, p, ls', hr, hk, hw, hb, hq, hqb, h => by
    unfold solveL at h
    split at h
    · cases h
    · rename_i hp
      have hk' : k < n := by omega
      have hkl : k < ls.length := by rw [hr.len]; exact hk'
      have b1 := hb.step (q := q) hr hk' (by omega) (bdd_pos k)
      rw [bdd_succ] at b1
      have hp' : 0 < rw ls k k := by omega
      exact solve_big r (k + 1) (rw ls k k) _ p ls' (hr.step hk') (by omega) hw b1 hp' (Nat.le_trans (hb _ (getT_mem hkl) _ (getD_mem (by rw [hr.get hk']; omega))) (bdd_mono k)) h
def solvedD (n : Nat) : Option (Int × List (List Int)) → D
  | none => .non
  | some (q, ls) => .tup [.int q, tabD (ls.map (List.drop n))]
theorem begun_big {n : Nat} {t : List (List Int)} (h : BigL (bdd 0) t) : BigL (bdd 0) (begunL n t) := fun l hl z hz => by
  obtain ⟨i, hi, rfl⟩ := List.mem_mapIdx.mp hl
  rcases List.mem_append.mp hz with hz | hz
  · exact h _ (List.getElem_mem hi) z hz
  · obtain ⟨a, _, rfl⟩ := List.mem_map.mp hz
    split <;> decide
theorem m_solved_eq {t : List (List Int)} {n : Nat} (hW : Wf M) (hr : Rect n n t) (hn : n ≤ 6) (hb : BigL (bdd 0) t) : m_solved [tabD t] M = .ok (solvedD n (solveL n 0 1 (begunL n t))) M := by
  have hlen : t.length = n := hr.len
  have s1 : sSet 1 (fCall gLen (fCons (fVar 0) fNil)) (startA 8 [tabD t]) M = .ok (.nx [some (tabD t), some (.int (n : Int)), none, none, none, none, none, none]) M := by
    refine (set_ev (d := .int (n : Int)) ((call1_ev (a := tabD t) (var_ev rfl)).trans ?_)).trans rfl
    rw [tabD, gLen_lst, List.length_map, hlen]
  have hi : fIt gEnum (fCons (fVar 0) fNil) [some (tabD t), some (.int (n : Int)), none, none, none, none, none, none] M = .ok ⟨(List.range t.length).map fun i : Nat => Im.pr [.int (i : Int), lsD (t.getD i [])], fun _ => true⟩ M := by
    have e := enum_map lsD [] t 0
    rw [ev_it, ev_cons, var_ev (d := tabD t) rfl, bind_ok, ev_nil, bind_ok]
    show Res.ok (⟨enumI 0 (t.map lsD), fun _ => true⟩ : Ita) M = _
    rw [show (0 : Int) = ((0 : Nat) : Int) from rfl, e]
    simp only [Nat.zero_add]
  have hc := comp_mapI (σ := [some (tabD t), some (.int (n : Int)), none, none, none, none, none, none]) (M := M) (vs := [4, 6]) (t := .tup [4, 6]) (e := fBin gAdd (fVar 6) (fTrim (fCompC (fIt gRange1 (fCons (fVar 1) fNil)) [7] (.name 7) fYes (fIf (fTest (fBin (gEq false) (fVar 7) (fVar 4))) (fC (.int 1)) (fC (.int 0)))))) (List.range t.length) (fun i : Nat => Im.pr [.int (i : Int), lsD (t.getD i [])]) (fun i : Nat => lsD (t.getD i [] ++ (List.range n).map fun a => if a = i then 1 else 0)) hi hW (by rw [List.length_range]; omega) (fun i hi' => by
    have hil : i < t.length := List.mem_range.mp hi'
    refine ⟨und_ls _, [some (tabD t), some (.int (n : Int)), none, none, some (.int (i : Int)), none, some (lsD (t.getD i [])), none], rfl, fun M' w' => ?_⟩
    have hr1 : fIt gRange1 (fCons (fVar 1) fNil) [some (tabD t), some (.int (n : Int)), none, none, some (.int (i : Int)), none, some (lsD (t.getD i [])), none] M' = .ok ⟨((List.range n).map fun j : Nat => D.int (j : Int)).map Im.d, fun _ => true⟩ M' := by
      rw [← nums_map]
      exact range1_ev (j := (n : Int)) (var_ev rfl) (by omega) (by omega) (by omega)
    have hc1 := comp_map (σ := [some (tabD t), some (.int (n : Int)), none, none, some (.int (i : Int)), none, some (lsD (t.getD i [])), none]) (M := M') (i := 7) (e := fIf (fTest (fBin (gEq false) (fVar 7) (fVar 4))) (fC (.int 1)) (fC (.int 0))) (List.range n) (fun j : Nat => .int (j : Int)) (fun a : Nat => .int (if a = i then 1 else 0)) hr1 w' (by rw [List.length_range]; omega) (fun a _ => ⟨rfl, fun M2 _ => by
      have t1 : fTest (fBin (gEq false) (fVar 7) (fVar 4)) ((wipeA [some (tabD t), some (.int (n : Int)), none, none, some (.int (i : Int)), none, some (lsD (t.getD i [])), none] [7]).set 7 (some (.int (a : Int)))) M2 = .ok (decide ((a : Int) = (i : Int))) M2 := test_ev ((bin_ev (a := .int (a : Int)) (b := .int (i : Int)) (var_ev rfl) (var_ev rfl)).trans (gEq_int.trans (by simp)))
      rw [ev_if, t1, bind_ok]
      by_cases hai : a = i
      · rw [if_pos (by rw [hai]; simp), if_pos hai]
        rfl
      · rw [if_neg (by simp; omega), if_neg hai]
        rfl⟩)
    refine (bin_ev (a := lsD (t.getD i [])) (var_ev rfl) hc1).trans ?_
    have hl2 := hr.get (i := i) (by rw [← hlen]; exact hil)
    rw [lsD, gAdd_lst, if_pos (Nat.ble_eq_true_of_le (by rw [List.length_map, List.length_map, List.length_range, hl2]; omega)), lsD, List.map_append, List.map_map]
    rfl)
  have e2 : (List.range t.length).map (fun i : Nat => lsD (t.getD i [] ++ (List.range n).map fun a => if a = i then 1 else 0)) = (begunL n t).map lsD := by
    rw [begunL, mapIdx_range _ [], List.map_map]
    rfl
  rw [e2] at hc
  have s2 : sSet 2 (fTrim (fCompC (fIt gEnum (fCons (fVar 0) fNil)) [4, 6] (.tup [4, 6]) fYes (fBin gAdd (fVar 6) (fTrim (fCompC (fIt gRange1 (fCons (fVar 1) fNil)) [7] (.name 7) fYes (fIf (fTest (fBin (gEq false) (fVar 7) (fVar 4))) (fC (.int 1)) (fC (.int 0)))))))) [some (tabD t), some (.int (n : Int)), none, none, none, none, none, none] M = .ok (.nx [some (tabD t), some (.int (n : Int)), some (tabD (begunL n t)), none, none, none, none, none]) M := (set_ev hc).trans rfl
  have s3 : sSet 3 (fC (.int 1)) [some (tabD t), some (.int (n : Int)), some (tabD (begunL n t)), none, none, none, none, none] M = .ok (.nx [some (tabD t), some (.int (n : Int)), some (tabD (begunL n t)), some (.int 1), none, none, none, none]) M := rfl
  have hs : Has [some (tabD t), some (.int (n : Int)), some (tabD (begunL n t)), some (.int 1), none, none, none, none] 8 (svL n 1 (begunL n t) t) := by
    refine ⟨rfl, fun q hq => ?_⟩
    simp only [svL, List.mem_cons, List.mem_nil_iff, or_false] at hq
    rcases hq with rfl | rfl | rfl | rfl <;> rfl
  have hr4 : fIt gRange1 (fCons (fVar 1) fNil) [some (tabD t), some (.int (n : Int)), some (tabD (begunL n t)), some (.int 1), none, none, none, none] M = .ok ⟨nums 0 n, fun _ => true⟩ M := range1_ev (j := (n : Int)) (var_ev rfl) (by omega) (by omega) (by omega)
  generalize [some (tabD t), some (.int (n : Int)), some (tabD (begunL n t)), some (.int 1), none, none, none, none] = σ3 at s3 hs hr4
  have loop := for_ret (b := svB) (n := M.length) (i := 4) (fun j σ N => N = M ∧ ∃ q ls, Has σ 8 (svL n q ls t) ∧ Rect n (n + n) ls ∧ BigL (bdd j) ls ∧ 0 < q ∧ q.natAbs ≤ bdd j ∧ solveL n 0 1 (begunL n t) = solveL (n - j) j q ls) (fun d N => d = .non ∧ N = M ∧ solveL n 0 1 (begunL n t) = none) n 0 (fun j σ N hj hv => by
    obtain ⟨rfl, q, ls, hs, hre, hbi, hq, hqb, hso⟩ := hv
    rw [Int.zero_add]
    have hs' : Has (σ.set 4 (some (.int (j : Int)))) 8 ((4, .int (j : Int)) :: svL n q ls t) := hs.put (by decide) (by simp [svL])
    have e3 : solveL (n - j) j q ls = if rw ls j j ≤ 0 then none else solveL (n - (j + 1)) (j + 1) (rw ls j j) (stepL j q ls) := by
      rw [show n - j = (n - (j + 1)) + 1 by omega]
      rfl
    rcases svB_eq hW hre hj (by omega) hn (by omega) hbi (bdd_top j (by omega)) hq hqb hs' with ⟨hp, σ', g1, g2⟩ | ⟨hp, g1⟩
    · refine .inl ⟨σ', N, g1, ?_⟩
      rw [gc_same rfl]
      have hjl : j < ls.length := by rw [hre.len]; exact hj
      have b1 := hbi.step (q := q) hre hj (by omega) (bdd_pos j)
      rw [bdd_succ] at b1
      refine ⟨rfl, _, _, g2, hre.step hj, b1, hp, Nat.le_trans (hbi _ (getT_mem hjl) _ (getD_mem (by rw [hre.get hj]; omega))) (bdd_mono j), ?_⟩
      rw [hso, e3, if_neg (by omega)]
    · exact .inr ⟨_, _, g1, rfl, rfl, by rw [hso, e3, if_pos hp]⟩) n 0 σ3 M (by omega) ⟨rfl, 1, begunL n t, hs, begun_rect hr, begun_big hb, by decide, bdd_pos 0, rfl⟩
  have e0 : (0 : Int) + ((0 : Nat) : Int) = 0 := rfl
  rw [e0] at loop
  rcases loop with ⟨σ4, M4, f4, rfl, q, ls, hs4, hre, _, _, _, hso⟩ | ⟨d, M4, f4, rfl, rfl, hso⟩
  · rw [Nat.sub_self] at hso
    have hso' : solveL n 0 1 (begunL n t) = some (q, ls) := hso
    rw [hso']
    have k1 := hs4.at (i := 1) (d := .int (n : Int)) (by simp [svL])
    have k2 := hs4.at (i := 2) (d := tabD ls) (by simp [svL])
    have k3 := hs4.at (i := 3) (d := .int q) (by simp [svL])
    have hc5 := comp_map (σ := σ4) (M := M4) (fi := fIter (fVar 2)) (i := 6) (e := fSl (fVar 6) (fPart (fVar 1)) fNoPart) ls lsD (fun l => lsD (l.drop n)) (by rw [ev_iter, var_ev k2]; rfl) hW (by rw [hre.len]; omega) (fun l hl => ⟨und_ls _, fun M' w' => by
      have hs5 : Has ((wipeA σ4 [6]).set 6 (some (lsD l))) 8 ((6, lsD l) :: svL n q ls t) := hs4.comp (by decide) (by simp [svL])
      generalize (wipeA σ4 [6]).set 6 (some (lsD l)) = σ5 at hs5
      refine (sl_dropL (ds := l.map D.int) (d := lsD l) (k := n) (var_ev (hs5.at (by simp))) rfl (var_ev (hs5.at (i := 1) (by simp [svL])))).trans ?_
      rw [lsD, List.map_drop]⟩)
    have s5 : sRet (fTup (fCons (fVar 3) (fCons (fTrim (fCompC (fIter (fVar 2)) [6] (.name 6) fYes (fSl (fVar 6) (fPart (fVar 1)) fNoPart))) fNil))) σ4 M4 = .ok (.rt (solvedD n (some (q, ls)))) M4 := by
      refine ret_ev ((tup2_ev (var_ev k3) hc5).trans ?_)
      show _ = Res.ok (D.tup [.int q, .lst ((ls.map (List.drop n)).map lsD)]) M4
      rw [List.map_map]
      rfl
    have sb : b_solved (startA 8 [tabD t]) M4 = .ok (.rt (solvedD n (some (q, ls)))) M4 := by
      rw [solved_body]
      exact (seq_nx s1).trans ((seq_nx s2).trans ((seq_nx s3).trans ((seq_nx (for_of hr4 f4)).trans s5)))
    exact (run_rt (n := 8) (k := 1) rfl sb).trans (trim_id rfl)
  · rw [hso]
    have sb : b_solved (startA 8 [tabD t]) M4 = .ok (.rt .non) M4 := by
      rw [solved_body]
      exact (seq_nx s1).trans ((seq_nx s2).trans ((seq_nx s3).trans (seq_rt (for_of hr4 f4))))
    exact (run_rt (n := 8) (k := 1) rfl sb).trans (trim_id rfl)
end QX
set_option maxRecDepth 100000
set_option maxHeartbeats 1000000
namespace QX
open PySem PySem.Spec PyProof.Rows L2 HX QX.Det
variable {M : Mem} {p k : Nat} {x : Cell} {σ : Sa} {ws : List (List (List Int))} {c : Int} {m : Mo}
def addEnds (l : List Int) (es : List Int) : List Int := es.foldl (fun l e => bump l e.toNat 1) l
theorem addEnds_len : ∀ (es l : List Int), (addEnds l es).length = l.length
  | [], l => rfl
  | e :: es, l => by
    show (addEnds (bump l e.toNat 1) es).length = _
    rw [addEnds_len es, bump_len]
def endsRow (W : Nat) (w : List (List Int)) : List Int := w.foldl addEnds (List.replicate W 0)
theorem endsRow_len' : ∀ (w : List (List Int)) (l : List Int), (w.foldl addEnds l).length = l.length
  | [], l => rfl
  | s :: w, l => by
    show (w.foldl addEnds (addEnds l s)).length = _
    rw [endsRow_len' w, addEnds_len]
theorem endsRow_len (W : Nat) (w : List (List Int)) : (endsRow W w).length = W := by rw [endsRow, endsRow_len', List.length_replicate]
theorem snoc_fold {α β : Type} (f : β → α → β) (z : β) (xs : List α) (j : Nat) (x : α) (h : xs[j]? = some x) : (xs.take (j + 1)).foldl f z = f ((xs.take j).foldl f z) x := by
  rw [List.take_add_one, h, List.foldl_append]
  rfl
theorem te1_loop {A : Mem} {xs es : List Int} {l : List (Nat × D)} (hs : Has σ 8 l) (h5 : (5, D.ref A.length) ∈ l) (h7 : ∀ q ∈ l, q.1 ≠ 7) (he : ∀ e ∈ es, 0 ≤ e ∧ e < (xs.length : Int)) :
    ∃ σ', forL (.name 7) (sAugIx (fVar 5) (fVar 7) (fC (.int 1)) (gAug false)) (fun _ => true) (A.length + 1) ((es.map D.int).map .d) σ (A ++ [.lst (xs.map D.int)]) = .ok (.nx σ') (A ++ [.lst ((addEnds xs es).map D.int)]) ∧ Has σ' 8 l := by
  obtain ⟨σ', M', f1, rfl, f3⟩ := for_items (b := sAugIx (fVar 5) (fVar 7) (fC (.int 1)) (gAug false)) (n := A.length + 1) (i := 7) (σ := σ) (M := A ++ [.lst (xs.map D.int)]) (ds := es.map D.int) (fun j σ N => N = A ++ [.lst ((addEnds xs (es.take j)).map D.int)] ∧ Has σ 8 l) ⟨by simp [addEnds], hs⟩ (fun j σ N d hd hv => by
    obtain ⟨rfl, hs⟩ := hv
    rw [List.getElem?_map] at hd
    cases q : es[j]? with
    | none => rw [q] at hd; cases hd
    | some e =>
      rw [q] at hd
      cases hd
      obtain ⟨e0, e1⟩ := he e (List.mem_of_getElem? q)
      obtain ⟨k, rfl⟩ := Int.eq_ofNat_of_zero_le e0
      have hk : k < (addEnds xs (es.take j)).length := by rw [addEnds_len]; omega
      have hs' : Has (σ.set 7 (some (.int (k : Int)))) 8 ((7, .int (k : Int)) :: l) := hs.put (by decide) h7
      generalize σ.set 7 (some (D.int (k : Int))) = σ1 at hs'
      have k5 := hs'.at (List.mem_cons_of_mem _ h5)
      have k7 := hs'.at (i := 7) (d := .int (k : Int)) (by simp)
      refine ⟨σ1, _, .inl (aug_ev (sub := false) (var_ev k5) (var_ev k7) (last_at rfl) hk), ?_⟩
      rw [cellSet, gc_same (by simp)]
      refine ⟨?_, hs'.sub fun q hq => List.mem_cons_of_mem _ hq⟩
      show _ = A ++ [.lst (((es.take (j + 1)).foldl (fun l e => bump l e.toNat 1) xs).map D.int)]
      rw [snoc_fold _ _ _ _ _ q]
      rfl)
  rw [List.length_map, List.take_length] at f1
  exact ⟨σ', f1, f3⟩
def te2 : FS := (sFor (fIter (fVar 6)) (.name 7) (sAugIx (fVar 5) (fVar 7) (fC (.int 1)) (gAug false)))
theorem te2_loop {A : Mem} {xs : List Int} {w : List (List Int)} {l : List (Nat × D)} (hs : Has σ 8 l) (h5 : (5, D.ref A.length) ∈ l) (h7 : ∀ q ∈ l, q.1 ≤ 5) (he : ∀ s ∈ w, ∀ e ∈ s, 0 ≤ e ∧ e < (xs.length : Int)) :
    ∃ σ', forL (.name 6) te2 (fun _ => true) (A.length + 1) ((w.map stepT).map .d) σ (A ++ [.lst (xs.map D.int)]) = .ok (.nx σ') (A ++ [.lst ((w.foldl addEnds xs).map D.int)]) ∧ Has σ' 8 l := by
  obtain ⟨σ', M', f1, rfl, f3⟩ := for_items (b := te2) (n := A.length + 1) (i := 6) (σ := σ) (M := A ++ [.lst (xs.map D.int)]) (ds := w.map stepT) (fun j σ N => N = A ++ [.lst (((w.take j).foldl addEnds xs).map D.int)] ∧ Has σ 8 l) ⟨by simp, hs⟩ (fun j σ N d hd hv => by
    obtain ⟨rfl, hs⟩ := hv
    rw [List.getElem?_map] at hd
    cases q : w[j]? with
    | none => rw [q] at hd; cases hd
    | some s =>
      rw [q] at hd
      cases hd
      have hs' : Has (σ.set 6 (some (stepT s))) 8 ((6, stepT s) :: l) := hs.put (by decide) (fun q hq => by have := h7 q hq; omega)
      generalize σ.set 6 (some (stepT s)) = σ1 at hs'
      have hl : ((w.take j).foldl addEnds xs).length = xs.length := endsRow_len' _ _
      obtain ⟨σ2, g1, g2⟩ := te1_loop (A := A) (xs := (w.take j).foldl addEnds xs) (es := s) hs' (List.mem_cons_of_mem _ h5) (fun q hq => by
        rcases List.mem_cons.mp hq with rfl | hq
        · simp
        · have := h7 q hq; omega) (fun e h => by rw [hl]; exact he s (List.mem_of_getElem? q) e h)
      refine ⟨σ2, A ++ [.lst (((w.take (j + 1)).foldl addEnds xs).map D.int)], .inl ?_, ?_⟩
      · rw [snoc_fold _ _ _ _ _ q]
        have hi : fIter (fVar 6) σ1 (A ++ [.lst (((w.take j).foldl addEnds xs).map D.int)]) = .ok ⟨(s.map D.int).map .d, fun _ => true⟩ (A ++ [.lst (((w.take j).foldl addEnds xs).map D.int)]) := by
          rw [ev_iter, var_ev (hs'.at (i := 6) (d := stepT s) (by simp))]
          rfl
        refine for_of hi ?_
        rw [List.length_append]
        exact g1
      · rw [gc_same (by simp)]
        exact ⟨rfl, g2.sub fun q hq => List.mem_cons_of_mem _ hq⟩)
  rw [List.length_map, List.take_length] at f1
  exact ⟨σ', f1, f3⟩
def teB : FS := (sSeq (sSet 5 (fBin gMulC (fLst (fCons (fC (.int 0)) fNil)) (fBin gAdd (fCall gLen (fCons (fVar 1) fNil)) (fVar 2))))
  (sSeq (sFor (fIter (fVar 4)) (.name 6) te2)
  (sExpr (fMeth gAppend (fVar 3) (fCons (fVar 5) fNil)))))
theorem ends_body : b_turn_ends = (sSeq (sAsg (fVar 0) (.tup [1, 2]))
  (sSeq (sSet 3 (fNew fNil))
  (sSeq (sFor (fIter (fVar 1)) (.name 4) teB)
  (sRet (fVar 3))))) := rfl
theorem teB_eq {N : Mem} {σ : Sa} {w : List (List Int)} {W : Nat} {p : Nat} {rs : List D} (hw : WheelOk ((ws.length : Int) + c) w) (hW : ws.length ≤ 6) (c0 : 0 ≤ c) (c4 : c ≤ 4) (hWe : (W : Int) = (ws.length : Int) + c) (hp : N[p]? = some (.lst rs)) (hrs : rs.length ≤ 6)
    (hs : Has σ 8 [(4, wheelT w), (1, wheelsT ws), (2, .int c), (3, .ref p)]) :
    ∃ σ', teB σ N = .ok (.nx σ') (N.set p (.lst (rs ++ [.ref N.length])) ++ [.lst ((endsRow W w).map D.int)]) ∧ Has σ' 8 [(1, wheelsT ws), (2, .int c), (3, .ref p)] := by
  have hpl : p < N.length := (List.getElem?_eq_some_iff.mp hp).1
  have k1 := hs.at (i := 1) (d := wheelsT ws) (by simp)
  have k2 := hs.at (i := 2) (d := .int c) (by simp)
  have s1 : sSet 5 (fBin gMulC (fLst (fCons (fC (.int 0)) fNil)) (fBin gAdd (fCall gLen (fCons (fVar 1) fNil)) (fVar 2))) σ N = .ok (.nx (σ.set 5 (some (.ref N.length)))) (N ++ [.lst ((List.replicate W (0 : Int)).map D.int)]) := by
    as_aux_lemma =>
      refine set_ev ((bin_ev (a := .lst [.int 0]) (b := .int ((ws.length : Int) + c)) rfl ((bin_ev ((call1_ev (var_ev k1)).trans wheels_len) (var_ev k2)).trans gAdd_int)).trans ?_)
      rw [← hWe]
      have h : (thou (W : Int) && Nat.ble [D.int 0].length 1000) = true := by
        have h1 : decide (-1000 ≤ (W : Int)) = true := by rw [decide_eq_true_eq]; omega
        have h2 : decide ((W : Int) ≤ 1000) = true := by rw [decide_eq_true_eq]; omega
        simp only [thou, h1, h2]
        rfl
      show (match listOf N (.lst [.int 0]) with | some a => if (thou (W : Int) && Nat.ble a.length 1000) = true then Res.ok (D.ref N.length) (N ++ [Cell.lst (List.replicate (W : Int).toNat a).flatten]) else .bad | none => .bad) = _
      rw [listOf_lst]
      dsimp only
      rw [if_pos h, Int.toNat_natCast, zeros_eq]
  have hs1 : Has (σ.set 5 (some (.ref N.length))) 8 [(5, .ref N.length), (4, wheelT w), (1, wheelsT ws), (2, .int c), (3, .ref p)] := hs.put (by decide) (by simp)
  generalize σ.set 5 (some (D.ref N.length)) = σ1 at s1 hs1
  obtain ⟨σ2, g1, hs2⟩ := te2_loop (A := N) (xs := List.replicate W 0) (w := w) hs1 (by simp) (by simp) (fun s h e he => by
    rw [List.length_replicate]
    have := (hw.2.2 s h).2 e he
    omega)
  have s2 : sFor (fIter (fVar 4)) (.name 6) te2 σ1 (N ++ [.lst ((List.replicate W (0 : Int)).map D.int)]) = .ok (.nx σ2) (N ++ [.lst ((endsRow W w).map D.int)]) := by
    have hi : fIter (fVar 4) σ1 (N ++ [.lst ((List.replicate W (0 : Int)).map D.int)]) = .ok ⟨(w.map stepT).map .d, fun _ => true⟩ (N ++ [.lst ((List.replicate W (0 : Int)).map D.int)]) := by
      rw [ev_iter, var_ev (hs1.at (i := 4) (d := wheelT w) (by simp))]
      rfl
    refine for_of hi ?_
    rw [List.length_append]
    exact g1
  have hp' : (N ++ [Cell.lst ((endsRow W w).map D.int)])[p]? = some (.lst rs) := by rw [List.getElem?_append_left hpl]; exact hp
  have il : isL (N ++ [.lst ((endsRow W w).map D.int)]) (.ref p) = true := by rw [isL_ref, hp']; rfl
  have s3 : sExpr (fMeth gAppend (fVar 3) (fCons (fVar 5) fNil)) σ2 (N ++ [.lst ((endsRow W w).map D.int)]) = .ok (.nx σ2) (N.set p (.lst (rs ++ [.ref N.length])) ++ [.lst ((endsRow W w).map D.int)]) := by
    as_aux_lemma =>
      refine expr_ev (d := .non) ?_
      rw [ev_meth, var_ev (hs2.at (i := 3) (d := .ref p) (by simp)), bind_ok, il, if_pos rfl, ev_cons, var_ev (hs2.at (i := 5) (d := .ref N.length) (by simp)), bind_ok, ev_nil, bind_ok, bind_ok, gAppend_ref hp' (by omega), List.set_append_left _ _ hpl]
  exact ⟨σ2, (seq_nx s1).trans ((seq_nx s2).trans s3), hs2.sub (by simp)⟩
theorem resL_map {α : Type} {g : D → Option D} {f h : α → D} : ∀ xs : List α, (∀ x ∈ xs, g (f x) = some (h x)) → resL g (xs.map f) = some (xs.map h)
  | [], _ => rfl
  | x :: xs, hx => by
    rw [List.map_cons, List.map_cons]
    show (match g (f x), resL g (xs.map f) with | some a, some b => some (a :: b) | _, _ => none) = _
    rw [hx x (by simp), resL_map xs fun y hy => hx y (by simp [hy])]
theorem map_range {α β : Type} (f : α → β) (z : α) (t : List α) : t.map f = (List.range t.length).map fun i => f (t.getD i z) := by
  refine List.ext_getElem? fun i => ?_
  rw [List.getElem?_map, List.getElem?_map]
  by_cases h : i < t.length
  · rw [List.getElem?_eq_getElem h, List.getElem?_range h]
    show some (f t[i]) = some (f (t.getD i z))
    rw [List.getD_eq_getElem?_getD, List.getElem?_eq_getElem h]
    rfl
  · rw [List.getElem?_eq_none (by omega), List.getElem?_eq_none (by rw [List.length_range]; omega)]
    rfl
theorem nu_ref (n i : Nat) : D.und n (.ref (n + i)) = false := by
  simp only [D.und]
  cases e : Nat.blt (n + i) n with
  | false => rfl
  | true => rw [Nat.blt_eq] at e; omega
theorem res_refs {N : Mem} {n : Nat} {rows : List (List Int)} (h0 : N[n]? = some (.lst (refsD n rows.length))) (hi : ∀ i, i < rows.length → N[n + 1 + i]? = some (.lst ((rows.getD i []).map D.int))) : D.res 5 n N (.ref n) = some (tabD rows) := by
  have n0 : D.und n (.ref n) = false := nu_ref n 0
  rw [D.res, n0]
  simp only [Bool.false_eq_true, if_false, h0]
  have e : resL (D.res 4 n N) (refsD n rows.length) = some ((List.range rows.length).map fun i => lsD (rows.getD i [])) := by
    refine resL_map _ fun i hi' => ?_
    have n1 : D.und n (.ref (n + 1 + i)) = false := by rw [Nat.add_assoc]; exact nu_ref n (1 + i)
    rw [D.res, n1]
    simp only [Bool.false_eq_true, if_false, hi i (List.mem_range.mp hi')]
    rw [resL_und (und_ls (n := n) (rows.getD i []))]
    rfl
  rw [e]
  show some (D.lst ((List.range rows.length).map fun i => lsD (rows.getD i []))) = some (D.lst (rows.map lsD))
  rw [map_range lsD [] rows]
theorem trim_refs {A : Mem} {rows : List (List Int)} (hA : Wf A) : trimR A.length (.ok (.ref A.length) (A ++ .lst (refsD A.length rows.length) :: rows.map fun r => Cell.lst (r.map D.int))) = .ok (tabD rows) A := by
  have hb : Nat.ble (A ++ Cell.lst (refsD A.length rows.length) :: rows.map fun r => Cell.lst (r.map D.int)).length A.length = false := by
    rw [List.length_append, List.length_cons]
    cases e : Nat.ble (A.length + ((rows.map fun r => Cell.lst (r.map D.int)).length + 1)) A.length with
    | false => rfl
    | true => have := Nat.le_of_ble_eq_true e; omega
  have hr := res_refs (N := A ++ Cell.lst (refsD A.length rows.length) :: rows.map fun r => Cell.lst (r.map D.int)) (n := A.length) (rows := rows) (by
    rw [List.getElem?_append_right (Nat.le_refl _), Nat.sub_self]
    rfl) (fun i h => by
    rw [List.getElem?_append_right (by omega), show A.length + 1 + i - A.length = i + 1 by omega, List.getElem?_cons_succ, List.getElem?_map, List.getD_eq_getElem?_getD, List.getElem?_eq_getElem h]
    rfl)
  unfold trimR
  simp only [hb, Bool.false_eq_true, if_false, hr, closed_app rfl hA, if_true]
  rw [List.take_left]
def endsT (ws : List (List (List Int))) (c : Int) : List (List Int) := ws.map (endsRow ((ws.length : Int) + c).toNat)
theorem m_turn_ends_eq (hw : Wf M) (hb : BoardOk ws c) : m_turn_ends [boardT ws c] M = .ok (tabD (endsT ws c)) M := by
  have w6 := hb.w6
  have c0 := hb.c0
  have c4 := hb.c4
  have hf0 : few 0 = true := by decide
  have s1 : sAsg (fVar 0) (.tup [1, 2]) (startA 8 [boardT ws c]) M = .ok (.nx [some (boardT ws c), some (wheelsT ws), some (.int c), none, none, none, none, none]) M := asg_ev (var_ev rfl) rfl
  have s2 : sSet 3 (fNew fNil) [some (boardT ws c), some (wheelsT ws), some (.int c), none, none, none, none, none] M = .ok (.nx [some (boardT ws c), some (wheelsT ws), some (.int c), some (.ref M.length), none, none, none, none]) (M ++ [.lst []]) := by
    refine (set_ev (d := .ref M.length) (M1 := M ++ [.lst []]) ?_).trans rfl
    rw [ev_new, ev_nil, bind_ok]
    exact if_pos hf0
  have hs : Has [some (boardT ws c), some (wheelsT ws), some (.int c), some (.ref M.length), none, none, none, none] 8 [(1, wheelsT ws), (2, .int c), (3, .ref M.length)] := by
    refine ⟨rfl, fun q hq => ?_⟩
    simp only [List.mem_cons, List.mem_nil_iff, or_false] at hq
    rcases hq with rfl | rfl | rfl <;> rfl
  generalize [some (boardT ws c), some (wheelsT ws), some (.int c), some (.ref M.length), none, none, none, none] = σ1 at s2 hs
  obtain ⟨W, hW⟩ : ∃ W : Nat, (W : Int) = (ws.length : Int) + c := ⟨((ws.length : Int) + c).toNat, by omega⟩
  have hWt : ((ws.length : Int) + c).toNat = W := by omega
  obtain ⟨σ2, M2, f2, rfl, hs2⟩ := for_items (b := teB) (n := M.length + 1) (i := 4) (σ := σ1) (M := M ++ [.lst []]) (ds := ws.map wheelT) (fun j σ N => N = M ++ .lst (refsD M.length j) :: ((ws.take j).map fun w => Cell.lst ((endsRow W w).map D.int)) ∧ Has σ 8 [(1, wheelsT ws), (2, .int c), (3, .ref M.length)]) ⟨by simp [refsD], hs⟩ (fun j σ N d hd hv => by
    obtain ⟨rfl, hs⟩ := hv
    rw [List.getElem?_map] at hd
    cases q : ws[j]? with
    | none => rw [q] at hd; cases hd
    | some w =>
      rw [q] at hd
      cases hd
      have hj : j < ws.length := (List.getElem?_eq_some_iff.mp q).1
      have hs' : Has (σ.set 4 (some (wheelT w))) 8 [(4, wheelT w), (1, wheelsT ws), (2, .int c), (3, .ref M.length)] := hs.put (by decide) (by simp)
      have hL : ((ws.take j).map fun w => Cell.lst ((endsRow W w).map D.int)).length = j := by rw [List.length_map, List.length_take]; omega
      have hp : (M ++ .lst (refsD M.length j) :: ((ws.take j).map fun w => Cell.lst ((endsRow W w).map D.int)))[M.length]? = some (.lst (refsD M.length j)) := by rw [List.getElem?_append_right (Nat.le_refl _), Nat.sub_self]; rfl
      obtain ⟨σ', g1, g3⟩ := teB_eq (hb.wheels w (List.mem_of_getElem? q)) w6 c0 c4 hW hp (by simp only [refsD, List.length_map, List.length_range]; omega) hs'
      have hlen : (M ++ .lst (refsD M.length j) :: ((ws.take j).map fun w => Cell.lst ((endsRow W w).map D.int))).length = M.length + 1 + j := by rw [List.length_append, List.length_cons, hL]; omega
      have e : (M ++ .lst (refsD M.length j) :: ((ws.take j).map fun w => Cell.lst ((endsRow W w).map D.int))).set M.length (.lst (refsD M.length j ++ [.ref (M ++ .lst (refsD M.length j) :: ((ws.take j).map fun w => Cell.lst ((endsRow W w).map D.int))).length])) ++ [.lst ((endsRow W w).map D.int)] = M ++ .lst (refsD M.length (j + 1)) :: ((ws.take (j + 1)).map fun w => Cell.lst ((endsRow W w).map D.int)) := by
        rw [hlen, refsD_succ, List.set_append_right _ _ (Nat.le_refl _), Nat.sub_self, List.take_add_one, q, List.map_append]
        simp
      rw [e] at g1
      refine ⟨σ', _, .inl g1, ?_⟩
      have hop : closed (M.length + 1) (M ++ .lst (refsD M.length (j + 1)) :: ((ws.take (j + 1)).map fun w => Cell.lst ((endsRow W w).map D.int))) = false := by
        unfold closed
        have : (M ++ Cell.lst (refsD M.length (j + 1)) :: ((ws.take (j + 1)).map fun w => Cell.lst ((endsRow W w).map D.int))).take (M.length + 1) = M ++ [.lst (refsD M.length (j + 1))] := by
          rw [List.take_append, List.take_of_length_le (by omega)]
          simp
        rw [this, List.all_append]
        have hf : Cell.und (M.length + 1) (.lst (refsD M.length (j + 1))) = false := by
          show D.undA _ _ = false
          cases hh : D.undA (M.length + 1) (refsD M.length (j + 1)) with
          | false => rfl
          | true =>
            rw [undA_iff] at hh
            have := hh (.ref (M.length + 1 + j)) (by rw [refsD_succ]; simp)
            simp only [D.und, Nat.blt_eq] at this
            omega
        simp [hf]
      rw [gc_open hop]
      exact ⟨rfl, g3⟩)
  rw [List.length_map, List.take_length] at f2
  have s3 : sFor (fIter (fVar 1)) (.name 4) teB σ1 (M ++ [.lst []]) = .ok (.nx σ2) (M ++ .lst (refsD M.length ws.length) :: (ws.map fun w => Cell.lst ((endsRow W w).map D.int))) := by
    have hi : fIter (fVar 1) σ1 (M ++ [.lst []]) = .ok ⟨(ws.map wheelT).map .d, fun _ => true⟩ (M ++ [.lst []]) := by
      rw [ev_iter, var_ev (hs.at (i := 1) (d := wheelsT ws) (by simp))]
      rfl
    refine for_of hi ?_
    rw [List.length_append]
    exact f2
  have sb : b_turn_ends (startA 8 [boardT ws c]) M = .ok (.rt (.ref M.length)) (M ++ .lst (refsD M.length ws.length) :: (ws.map fun w => Cell.lst ((endsRow W w).map D.int))) := by
    rw [ends_body]
    exact (seq_nx s1).trans ((seq_nx s2).trans ((seq_nx s3).trans (ret_ev (var_ev (hs2.at (by simp))))))
  refine (run_rt (n := 8) (k := 1) rfl sb).trans ?_
  have t := trim_refs (A := M) (rows := endsT ws c) hw
  rw [endsT, List.length_map, List.map_map, hWt] at t
  rw [endsT, hWt]
  exact t
end QX
set_option maxRecDepth 100000
set_option maxHeartbeats 1000000
namespace QX
open PySem PySem.Spec PyProof.Rows L2 HX QX.Det
variable {M : Mem} {p k : Nat} {x : Cell} {σ : Sa} {ws : List (List (List Int))} {c : Int} {m : Mo}
def Wid (ws : List (List (List Int))) (c : Int) : Nat := ((ws.length : Int) + c).toNat
def En (ws : List (List (List Int))) (c : Int) : Nat → R := rw (endsT ws c)
theorem ends_rect : Rect ws.length (Wid ws c) (endsT ws c) := ⟨by rw [endsT, List.length_map], fun l hl => by
  obtain ⟨w, _, rfl⟩ := List.mem_map.mp hl
  exact endsRow_len _ _⟩
theorem bump_bd {l : List Int} {i B : Nat} (h : ∀ z ∈ l, 0 ≤ z ∧ z ≤ (B : Int)) : ∀ z ∈ bump l i 1, 0 ≤ z ∧ z ≤ ((B + 1 : Nat) : Int) := fun z hz => by
  unfold HX.bump at hz
  rcases List.mem_or_eq_of_mem_set hz with hz | rfl
  · have := h z hz
    omega
  · by_cases hi : i < l.length
    · have := h _ (getD_mem hi)
      omega
    · rw [getD0 (by omega)]
      omega
theorem addEnds_bd : ∀ (es l : List Int) (B : Nat), (∀ z ∈ l, 0 ≤ z ∧ z ≤ (B : Int)) → ∀ z ∈ addEnds l es, 0 ≤ z ∧ z ≤ ((B + es.length : Nat) : Int)
  | [], l, B, h => h
  | e :: es, l, B, h => by
    have := addEnds_bd es (bump l e.toNat 1) (B + 1) (bump_bd h)
    rw [List.length_cons, show B + (es.length + 1) = B + 1 + es.length by omega]
    exact this
theorem turns_bd : ∀ (w : List (List Int)) (l : List Int) (B : Nat), (∀ s ∈ w, s.length ≤ 3) → (∀ z ∈ l, 0 ≤ z ∧ z ≤ (B : Int)) → ∀ z ∈ w.foldl addEnds l, 0 ≤ z ∧ z ≤ ((B + 3 * w.length : Nat) : Int)
  | [], l, B, _, h => h
  | s :: w, l, B, hs, h => by
    have h3 := hs s (by simp)
    have h1 : ∀ z ∈ addEnds l s, 0 ≤ z ∧ z ≤ ((B + 3 : Nat) : Int) := fun z hz => by
      have := addEnds_bd s l B h z hz
      omega
    have := turns_bd w (addEnds l s) (B + 3) (fun s' hs' => hs s' (by simp [hs'])) h1
    rw [List.length_cons, show B + 3 * (w.length + 1) = B + 3 + 3 * w.length by omega]
    exact this
theorem ends_bd (hb : BoardOk ws c) : ∀ l ∈ endsT ws c, ∀ z ∈ l, 0 ≤ z ∧ z ≤ 12 := fun l hl z hz => by
  obtain ⟨w, hw, rfl⟩ := List.mem_map.mp hl
  have h := hb.wheels w hw
  have := turns_bd w (List.replicate ((ws.length : Int) + c).toNat 0) 0 (fun s hs => (h.2.2 s hs).1) (fun z hz => by
    have := List.eq_of_mem_replicate hz
    omega) z hz
  have := h.2.1
  omega
theorem En_bd (hb : BoardOk ws c) (i j : Nat) : 0 ≤ En ws c i j ∧ En ws c i j ≤ 12 := by
  unfold En
  by_cases hi : i < (endsT ws c).length
  · by_cases hj : j < ((endsT ws c).getD i []).length
    · exact ends_bd hb _ (getT_mem hi) _ (getD_mem hj)
    · show 0 ≤ ((endsT ws c).getD i []).getD j 0 ∧ ((endsT ws c).getD i []).getD j 0 ≤ 12
      rw [getD0 (by omega)]
      decide
  · rw [rw_out (by omega)]
    decide
def Tb (ws : List (List (List Int))) (c : Int) : Nat → R := fun i j => (if i = j then ((ws.getD i []).length : Int) else 0) - En ws c i j
def tableL (ws : List (List (List Int))) (c : Int) : List (List Int) := (List.range ws.length).map fun i => (List.range ws.length).map fun j => Tb ws c i j
theorem table_rect : Rect ws.length ws.length (tableL ws c) := ⟨by rw [tableL, List.length_map, List.length_range], fun l hl => by
  obtain ⟨i, _, rfl⟩ := List.mem_map.mp hl
  rw [List.length_map, List.length_range]⟩
theorem range_getD {n i : Nat} {β : Type} {z : β} (f : Nat → β) (h : i < n) : ((List.range n).map f).getD i z = f i := by
  rw [List.getD_eq_getElem?_getD, List.getElem?_map, List.getElem?_range h]
  rfl
theorem rw_table {i j : Nat} (hi : i < ws.length) (hj : j < ws.length) : rw (tableL ws c) i j = Tb ws c i j := by
  unfold rw tableL
  rw [range_getD _ hi, range_getD _ hj]
theorem table_big (hb : BoardOk ws c) : BigL (bdd 0) (tableL ws c) := fun l hl z hz => by
  obtain ⟨i, hi, rfl⟩ := List.mem_map.mp hl
  obtain ⟨j, hj, rfl⟩ := List.mem_map.mp hz
  have hi' := List.mem_range.mp hi
  have e := En_bd hb i j
  have hw := hb.wheels (ws.getD i []) (by
    rw [List.getD_eq_getElem?_getD, List.getElem?_eq_getElem hi']
    exact List.getElem_mem hi')
  have := hw.2.1
  have h0 : bdd 0 = 128 := by decide
  unfold Tb
  rw [h0]
  split <;> omega
def ixsD (n : Nat) : D := .lst ((List.range n).map fun j : Nat => D.int (j : Int))
theorem m_turn_table_eq (hw : Wf M) (hb : BoardOk ws c) : m_turn_table [boardT ws c, ixsD ws.length] M = .ok (tabD (tableL ws c)) M := by
  have w6 := hb.w6
  have c0 := hb.c0
  have s1 : sSet 2 (fBin gIx (fVar 0) (fC (.int 0))) (startA 6 [boardT ws c, ixsD ws.length]) M = .ok (.nx [some (boardT ws c), some (ixsD ws.length), some (wheelsT ws), none, none, none]) M := (set_ev ((bin_ev (b := .int 0) (var_ev rfl) rfl).trans board_0)).trans rfl
  have s2 : sSet 3 (fCall m_turn_ends (fCons (fVar 0) fNil)) [some (boardT ws c), some (ixsD ws.length), some (wheelsT ws), none, none, none] M = .ok (.nx [some (boardT ws c), some (ixsD ws.length), some (wheelsT ws), some (tabD (endsT ws c)), none, none]) M := (set_ev ((call1_ev (var_ev rfl)).trans (m_turn_ends_eq hw hb))).trans rfl
  have hl : (endsT ws c).length = ws.length := ends_rect.len
  have c1 := comp_map (σ := [some (boardT ws c), some (ixsD ws.length), some (wheelsT ws), some (tabD (endsT ws c)), none, none]) (M := M) (fi := fIter (fVar 1)) (i := 4) (e := fTrim (fCompC (fIter (fVar 1)) [5] (.name 5) fYes (fBin gSub (fIf (fTest (fBin (gEq false) (fVar 4) (fVar 5))) (fCall gLen (fCons (fBin gIx (fVar 2) (fVar 4)) fNil)) (fC (.int 0))) (fBin gIx (fBin gIx (fVar 3) (fVar 4)) (fVar 5))))) (List.range ws.length) (fun j : Nat => .int (j : Int)) (fun i => lsD ((List.range ws.length).map fun j => Tb ws c i j)) rfl hw (by rw [List.length_range]; omega) (fun i hi => ⟨und_ls _, fun M' w' => by
    have hi' := List.mem_range.mp hi
    have c2 := comp_map (σ := [some (boardT ws c), some (ixsD ws.length), some (wheelsT ws), some (tabD (endsT ws c)), some (.int (i : Int)), none]) (M := M') (fi := fIter (fVar 1)) (i := 5) (e := fBin gSub (fIf (fTest (fBin (gEq false) (fVar 4) (fVar 5))) (fCall gLen (fCons (fBin gIx (fVar 2) (fVar 4)) fNil)) (fC (.int 0))) (fBin gIx (fBin gIx (fVar 3) (fVar 4)) (fVar 5))) (List.range ws.length) (fun j : Nat => .int (j : Int)) (fun j => .int (Tb ws c i j)) rfl w' (by rw [List.length_range]; omega) (fun j hj => ⟨rfl, fun M2 _ => by
      have hj' := List.mem_range.mp hj
      have t1 : fTest (fBin (gEq false) (fVar 4) (fVar 5)) [some (boardT ws c), some (ixsD ws.length), some (wheelsT ws), some (tabD (endsT ws c)), some (.int (i : Int)), some (.int (j : Int))] M2 = .ok (decide ((i : Int) = (j : Int))) M2 := test_ev ((bin_ev (a := .int (i : Int)) (b := .int (j : Int)) (var_ev rfl) (var_ev rfl)).trans (gEq_int.trans (by simp)))
      have t2 : fIf (fTest (fBin (gEq false) (fVar 4) (fVar 5))) (fCall gLen (fCons (fBin gIx (fVar 2) (fVar 4)) fNil)) (fC (.int 0)) [some (boardT ws c), some (ixsD ws.length), some (wheelsT ws), some (tabD (endsT ws c)), some (.int (i : Int)), some (.int (j : Int))] M2 = .ok (.int (if i = j then ((ws.getD i []).length : Int) else 0)) M2 := by
        rw [ev_if, t1, bind_ok]
        by_cases hij : i = j
        · rw [if_pos (by rw [hij]; simp), if_pos hij]
          exact (call1_ev ((bin_ev (var_ev rfl) (var_ev rfl)).trans (wheel_at hi'))).trans (wheel_len _)
        · rw [if_neg (by simp; omega), if_neg hij]
          rfl
      exact (bin_ev t2 ((bin_ev (a := lsD ((endsT ws c).getD i [])) (b := .int (j : Int)) ((bin_ev (var_ev rfl) (var_ev rfl)).trans (ixT (by rw [hl]; exact hi'))) (var_ev rfl)).trans (ixL (by rw [ends_rect.get hi', Wid]; omega)))).trans gSub_int⟩)
    refine Eq.trans ?_ (c2.trans ?_)
    · rfl
    · rw [lsD, List.map_map]
      rfl⟩)
  have s3 : sRet (fTrim (fCompC (fIter (fVar 1)) [4] (.name 4) fYes (fTrim (fCompC (fIter (fVar 1)) [5] (.name 5) fYes (fBin gSub (fIf (fTest (fBin (gEq false) (fVar 4) (fVar 5))) (fCall gLen (fCons (fBin gIx (fVar 2) (fVar 4)) fNil)) (fC (.int 0))) (fBin gIx (fBin gIx (fVar 3) (fVar 4)) (fVar 5))))))) [some (boardT ws c), some (ixsD ws.length), some (wheelsT ws), some (tabD (endsT ws c)), none, none] M = .ok (.rt (tabD (tableL ws c))) M := by
    refine ret_ev (c1.trans ?_)
    rw [tabD, tableL, List.map_map]
    rfl
  exact (run_rt (n := 6) (k := 2) (b := b_turn_table) (ds := [boardT ws c, ixsD ws.length]) rfl ((seq_nx s1).trans ((seq_nx s2).trans s3))).trans (trim_id rfl)
def solB (ws : List (List (List Int))) (c : Int) : Option (Int × List (List Int)) := solveL ws.length 0 1 (begunL ws.length (tableL ws c))
theorem m_solved_board_eq (hw : Wf M) (hb : BoardOk ws c) : m_solved_board [boardT ws c] M = .ok (solvedD ws.length (solB ws c)) M := by
  have w6 := hb.w6
  refine run_pure rfl ?_
  have hl : fListRg1 false (fCall gLen (fCons (fBin gIx (fVar 0) (fC (.int 0))) fNil)) (startA 1 [boardT ws c]) M = .ok (ixsD ws.length) M := by
    rw [ev_listRg1, (call1_ev (m := gLen) ((bin_ev (b := .int 0) (var_ev (σ := startA 1 [boardT ws c]) (i := 0) (M := M) rfl) rfl).trans board_0)).trans wheels_len, bind_ok]
    dsimp only
    rw [if_pos (rgOk_small (by omega) (by omega) (by omega) (by omega)), if_neg (by simp)]
    rw [numsD_eq]
    congr 2
    rw [Int.sub_zero, Int.toNat_natCast]
    exact List.map_congr_left fun i _ => by rw [Int.zero_add]
  exact (call1_ev ((call2_ev (var_ev rfl) hl).trans (m_turn_table_eq hw hb))).trans (m_solved_eq hw table_rect w6 (table_big hb))
theorem m_need_drain_eq (hw : Wf M) (hb : BoardOk ws c) {q : Int} {ls : List (List Int)} (hs : solB ws c = some (q, ls)) : m_need_drain [boardT ws c] M = .ok .non M := by
  have s1 : sExpr (fCall m_need_board (fCons (fVar 0) fNil)) (startA 1 [boardT ws c]) M = .ok (.nx (startA 1 [boardT ws c])) M := expr_ev ((call1_ev (var_ev rfl)).trans (m_need_board_eq hb hw))
  have s2 : sIf (fTest (fBin (gIsN false) (fCall m_solved_board (fCons (fVar 0) fNil)) (fC .non))) (sRaise 6) sNext (startA 1 [boardT ws c]) M = .ok (.nx (startA 1 [boardT ws c])) M := by
    refine pass9 (test_ev ((bin_ev (a := solvedD ws.length (solB ws c)) (b := .non) ((call1_ev (var_ev rfl)).trans (m_solved_board_eq hw hb)) rfl).trans ?_))
    rw [hs]
    exact gIsN_tup
  exact (run_nx (n := 1) (k := 1) (b := b_need_drain) (ds := [boardT ws c]) rfl ((seq_nx s1).trans s2)).trans (trim_id rfl)
theorem m_need_stand_eq (hw : Wf M) (hb : BoardOk ws c) {st : List Int} (hl : st.length = ws.length) (hr : ∀ (i : Nat) (s : Int) (w : List (List Int)), st[i]? = some s → ws[i]? = some w → 0 ≤ s ∧ s < (w.length : Int)) : m_need_stand [boardT ws c, stepT st] M = .ok .non M := by
  have s1 : b_need_stand (startA 2 [boardT ws c, stepT st]) M = .ok (.nx (startA 2 [boardT ws c, stepT st])) M := pass9 (not_ev (p := true) (test_ev ((call2_ev (var_ev rfl) (var_ev rfl)).trans (m_is_stand_eq hw hb hl hr))))
  exact (run_nx (n := 2) (k := 2) rfl s1).trans (trim_id rfl)
end QX
set_option maxRecDepth 100000
set_option maxHeartbeats 1000000
namespace QX
open PySem PySem.Spec PyProof.Rows L2 HX QX.Det
variable {M : Mem} {p k : Nat} {x : Cell} {σ : Sa} {ws : List (List (List Int))} {c : Int} {m : Mo}
theorem sol_facts (hb : BoardOk ws c) {q : Int} {ls : List (List Int)} (hs : solB ws c = some (q, ls)) : Rect ws.length (ws.length + ws.length) ls ∧ BigL (bdd 6) ls ∧ 0 < q ∧ q.natAbs ≤ bdd 6 := by
  have w6 := hb.w6
  obtain ⟨h1, h2⟩ := solve_ok _ _ _ _ _ _ (begun_rect table_rect) (ok_begunL table_rect) (by omega) hs
  obtain ⟨h3, h4, h5⟩ := solve_big ws.length 0 1 _ _ _ (begun_rect table_rect) (by omega) (by omega) (begun_big (table_big hb)) (by decide) (show (1 : Int).natAbs ≤ bdd 0 from bdd_pos 0) hs
  have hm : ∀ n, n ≤ 6 → bdd n ≤ bdd 6 := fun n hn => by
    unfold bdd
    exact Nat.pow_le_pow_right (by decide) (Nat.sub_le_sub_right (Nat.pow_le_pow_right (by decide) (by omega)) 1)
  exact ⟨h2, fun l hl z hz => Nat.le_trans (h3 l hl z hz) (hm _ w6), h4, Nat.le_trans h5 (hm _ w6)⟩
end QX
set_option maxRecDepth 100000
set_option maxHeartbeats 1000000
set_option exponentiation.threshold 5000
namespace QX
open PySem PySem.Spec PyProof.Rows L2 HX QX.Det
variable {M : Mem} {p k : Nat} {x : Cell} {σ : Sa} {ws : List (List (List Int))} {c : Int} {m : Mo}
end QX
set_option maxRecDepth 100000
set_option maxHeartbeats 1000000
set_option exponentiation.threshold 5000
namespace QX
open PySem PySem.Spec PyProof.Rows L2 HX QX.Det
variable {M : Mem} {p k : Nat} {x : Cell} {σ : Sa} {ws : List (List (List Int))} {c : Int} {m : Mo}
theorem bdd6_eq : bdd 6 = 2 ^ 511 := by decide +kernel
end QX
set_option maxRecDepth 100000
set_option maxHeartbeats 1000000
set_option exponentiation.threshold 5000
namespace QX
open PySem PySem.Spec PyProof.Rows L2 HX QX.Det
variable {M : Mem} {p k : Nat} {x : Cell} {σ : Sa} {ws : List (List (List Int))} {c : Int} {m : Mo}
def stepOwe (tv : Nat → Int) (i : Nat) (s : List Int) : Int := tv i - (s.map fun e => tv e.toNat).sum
def wheelOwe (tv : Nat → Int) (i : Nat) (w : List (List Int)) (k : Nat) : Int := ((w.take k).map (stepOwe tv i)).sum
def owTop (tv : Nat → Int) (ws : List (List (List Int))) (st : List Int) : Int := sm ws.length fun i => wheelOwe tv i (ws.getD i []) (st.getD i 0).toNat
theorem sum_snoc {α : Type} (f : α → Int) (xs : List α) (j : Nat) (x : α) (h : xs[j]? = some x) : ((xs.take (j + 1)).map f).sum = ((xs.take j).map f).sum + f x := by
  rw [List.take_add_one, h, List.map_append, List.sum_append]
  simp
end QX
set_option maxRecDepth 100000
set_option maxHeartbeats 1000000
set_option exponentiation.threshold 5000
namespace QX
open PySem PySem.Spec PyProof.Rows L2 HX QX.Det
def RowX (p : Nat) (M : Mem) (xs : List Int) (r : D) : Prop := r ≠ .ref p ∧ r.und M.length = true ∧ listOf M r = some (xs.map D.int)
theorem RowX.set {p : Nat} {M : Mem} {xs : List Int} {r : D} {c : Cell} (h : RowX p M xs r) : RowX p (M.set p c) xs r := by
  obtain ⟨h1, h2, h3⟩ := h
  exact ⟨h1, by rw [List.length_set]; exact h2, listOf_set h3 h1⟩
structure TabX (p : Nat) (rows : List (List Int)) (A M : Mem) : Prop where
  ex : ∃ rs, M[p]? = some (.lst rs) ∧ rs.length = rows.length ∧ ∀ i r, rs[i]? = some r → RowX p M (rows.getD i []) r
  wf : Wf M
  ap : ∃ g, M = A ++ g
  le : A.length ≤ p
theorem TabX.put {p i : Nat} {rows : List (List Int)} {A M : Mem} {zs : List Int} (h : TabX p rows A M) (hi : i < rows.length) : ∃ M', gSetIx (.ref p) (.int (i : Int)) (.lst (zs.map D.int)) M = some M' ∧ M'.length = M.length ∧ TabX p (rows.set i zs) A M' := by
  obtain ⟨⟨rs, h1, h2, h3⟩, wf, ⟨g, rfl⟩, le⟩ := h
  have hx : ixN rs.length (i : Int) = some i := ixN_nat (by omega)
  have hl : p < (A ++ g).length := (List.getElem?_eq_some_iff.mp h1).1
  refine ⟨(A ++ g).set p (.lst (rs.set i (.lst (zs.map D.int)))), by simp only [gSetIx, h1, hx], by rw [List.length_set], ⟨_, List.getElem?_set_self hl, by rw [List.length_set, List.length_set]; exact h2, fun j r hj => ?_⟩, wf.set ?_, ⟨g.set (p - A.length) (.lst (rs.set i (.lst (zs.map D.int)))), List.set_append_right _ _ le⟩, le⟩
  · by_cases hij : i = j
    · subst hij
      rw [List.getElem?_set_self (by omega)] at hj
      cases hj
      have e : (rows.set i zs).getD i [] = zs := by rw [List.getD_eq_getElem?_getD, List.getElem?_set_self hi]; rfl
      rw [e]
      exact ⟨(fun z => nomatch z), by simp only [D.und]; exact undA_map (fun _ => rfl) zs, rfl⟩
    · rw [List.getElem?_set_ne hij] at hj
      have e : (rows.set i zs).getD j [] = rows.getD j [] := by rw [List.getD_eq_getElem?_getD, List.getElem?_set_ne hij, ← List.getD_eq_getElem?_getD]
      rw [e]
      exact (h3 j r hj).set
  · show D.undA _ _ = true
    rw [undA_iff]
    intro d hd
    rcases List.mem_or_eq_of_mem_set hd with z | z
    · obtain ⟨j, hj⟩ := List.mem_iff_getElem?.mp z
      exact (h3 j d hj).2.1
    · rw [z]
      simp only [D.und]
      exact undA_map (fun _ => rfl) zs
theorem TabX.row {p i : Nat} {rows : List (List Int)} {A M : Mem} (h : TabX p rows A M) (hi : i < rows.length) : ∃ r : D, gIx (.ref p) (.int (i : Int)) M = .ok r M ∧ listOf M r = some ((rows.getD i []).map D.int) := by
  obtain ⟨⟨rs, h1, h2, h3⟩, wf, _, _⟩ := h
  have hr : rs[i]? = some rs[i] := List.getElem?_eq_getElem (by omega)
  obtain ⟨_, _, a⟩ := h3 i _ hr
  exact ⟨rs[i], gIx_list (by rw [listOf_ref, h1]) hr, a⟩
theorem TabX.len {p : Nat} {rows : List (List Int)} {A M : Mem} (h : TabX p rows A M) : gLen [.ref p] M = .ok (.int rows.length) M := by
  obtain ⟨⟨rs, h1, h2, h3⟩, _⟩ := h
  rw [gLen_ref h1, h2]
end QX
set_option maxRecDepth 100000
set_option maxHeartbeats 1000000
set_option exponentiation.threshold 5000
namespace QX
open PySem PySem.Spec PyProof.Rows L2 HX QX.Det
def cnt (k : Nat) : List Int → Int
  | [] => 0
  | e :: es => (if e.toNat = k then 1 else 0) + cnt k es
theorem bump_at {l : List Int} {i k : Nat} {d : Int} (hk : k < l.length) : (bump l i d).getD k 0 = l.getD k 0 + if i = k then d else 0 := by
  unfold HX.bump
  by_cases h : i = k
  · subst h
    rw [if_pos rfl, List.getD_eq_getElem?_getD, List.getElem?_set_self hk]
    rfl
  · rw [if_neg h, List.getD_eq_getElem?_getD, List.getElem?_set_ne h, ← List.getD_eq_getElem?_getD, Int.add_zero]
theorem addEnds_at {k : Nat} : ∀ (es l : List Int), k < l.length → (addEnds l es).getD k 0 = l.getD k 0 + cnt k es
  | [], l, _ => by simp [addEnds, cnt]
  | e :: es, l, hk => by
    show (addEnds (bump l e.toNat 1) es).getD k 0 = _
    rw [addEnds_at es _ (by rw [bump_len]; exact hk), bump_at hk]
    show _ = l.getD k 0 + ((if e.toNat = k then 1 else 0) + cnt k es)
    omega
theorem cnt_app {k : Nat} : ∀ a b : List Int, cnt k (a ++ b) = cnt k a + cnt k b
  | [], b => by simp [cnt]
  | e :: a, b => by
    show (if e.toNat = k then 1 else 0) + cnt k (a ++ b) = (if e.toNat = k then 1 else 0) + cnt k a + cnt k b
    rw [cnt_app a b]
    omega
theorem turns_at {k : Nat} : ∀ (w : List (List Int)) (l : List Int), k < l.length → (w.foldl addEnds l).getD k 0 = l.getD k 0 + cnt k w.flatten
  | [], l, _ => by simp [cnt]
  | s :: w, l, hk => by
    show (w.foldl addEnds (addEnds l s)).getD k 0 = _
    rw [turns_at w _ (by rw [addEnds_len]; exact hk), addEnds_at s l hk, List.flatten_cons, cnt_app]
    omega
theorem zeros_at {W k : Nat} : (List.replicate W (0 : Int)).getD k 0 = 0 := by
  rw [List.getD_eq_getElem?_getD]
  cases h : (List.replicate W (0 : Int))[k]? with
  | none => rfl
  | some z =>
    have := List.eq_of_mem_replicate (List.mem_of_getElem? h)
    rw [this]
    rfl
variable {ws : List (List (List Int))} {c : Int}
theorem En_cnt {i k : Nat} (hi : i < ws.length) (hk : k < Wid ws c) : En ws c i k = cnt k (ws.getD i []).flatten := by
  unfold En rw endsT
  rw [List.getD_eq_getElem?_getD (i := i), List.getElem?_map, List.getElem?_eq_getElem hi]
  show (endsRow _ ws[i]).getD k 0 = _
  rw [endsRow, turns_at _ _ (by rw [List.length_replicate]; exact hk), zeros_at, Int.zero_add, List.getD_eq_getElem?_getD, List.getElem?_eq_getElem hi]
  rfl
end QX
set_option maxRecDepth 100000
set_option maxHeartbeats 1000000
set_option exponentiation.threshold 5000
namespace QX
open PySem PySem.Spec PyProof.Rows L2 HX QX.Det
end QX
namespace QX
open PySem PySem.Spec PyProof.Rows L2 HX QX.Det
variable {ws : List (List (List Int))} {c : Int}
end QX
set_option maxRecDepth 100000
set_option maxHeartbeats 1000000
set_option exponentiation.threshold 5000
namespace QX
open PySem PySem.Spec PyProof.Rows L2 HX QX.Det
variable {ws : List (List (List Int))} {c : Int}
end QX
set_option maxRecDepth 100000
set_option maxHeartbeats 1000000
set_option exponentiation.threshold 5000
namespace QX
open PySem PySem.Spec PyProof.Rows L2 HX QX.Det
variable {ws : List (List (List Int))} {c : Int} {m : Mo}
theorem sm_split (f : Nat → Int) (n : Nat) : ∀ k : Nat, sm (n + k) f = sm n f + sm k fun j => f (n + j)
  | 0 => by simp [sm]
  | k + 1 => by
    show sm (n + k) f + f (n + k) = sm n f + (sm k (fun j => f (n + j)) + f (n + k))
    rw [sm_split f n k]
    omega
theorem sm_upd {f g : Nat → Int} {w : Nat} : ∀ {n : Nat}, w < n → (∀ i, i ≠ w → g i = f i) → sm n g = sm n f + (g w - f w)
  | 0, h, _ => by omega
  | n + 1, h, he => by
    show sm n g + g n = sm n f + f n + (g w - f w)
    by_cases e : w = n
    · subst e
      rw [sm_congr (n := w) (f := g) (g := f) fun i hi => he i (by omega)]
      omega
    · rw [sm_upd (n := n) (by omega) he, he n (Ne.symm e)]
      omega
theorem cnt_sum {W : Nat} (tv : Nat → Int) : ∀ es : List Int, (∀ e ∈ es, e.toNat < W) → (es.map fun e => tv e.toNat).sum = sm W fun k => cnt k es * tv k
  | [], _ => by
    rw [sm_zero fun m _ => by simp [cnt]]
    rfl
  | e :: es, h => by
    have ih := cnt_sum tv es fun x hx => h x (by simp [hx])
    have e1 : (fun k => cnt k (e :: es) * tv k) = fun k => (if e.toNat = k then 1 else 0) * tv k + cnt k es * tv k := by
      funext k
      show ((if e.toNat = k then 1 else 0) + cnt k es) * tv k = _
      grind
    rw [e1, sm_add (fun k => (if e.toNat = k then 1 else 0) * tv k) (fun k => cnt k es * tv k), sm_pick (h e (by simp)), ← ih]
    simp
theorem owe_all (tv : Nat → Int) (i : Nat) : ∀ w : List (List Int), (w.map (stepOwe tv i)).sum = (w.length : Int) * tv i - ((w.flatten).map fun e => tv e.toNat).sum
  | [] => by simp
  | s :: w => by
    have ih := owe_all tv i w
    rw [List.map_cons, List.sum_cons, ih, List.flatten_cons, List.map_append, List.sum_append, List.length_cons, stepOwe]
    have : (((w.length + 1 : Nat) : Int)) * tv i = (w.length : Int) * tv i + tv i := by
      rw [Int.natCast_add]
      grind
    omega
def worth (tv : Nat → Int) (n C : Nat) (wt hd : List Int) : Int := sm n (fun i => wt.getD i 0 * tv i) + sm C fun k => hd.getD k 0 * tv (n + k)
theorem bump_sm {n w : Nat} {l : List Int} {d : Int} (tv : Nat → Int) (hl : l.length = n) (hw : w < n) : sm n (fun i => (bump l w d).getD i 0 * tv i) = sm n (fun i => l.getD i 0 * tv i) + d * tv w := by
  rw [sm_congr (g := fun i => (if w = i then d else 0) * tv i + l.getD i 0 * tv i) fun i hi => by
    rw [bump_at (by omega)]
    grind]
  rw [sm_add (fun i => (if w = i then d else 0) * tv i) (fun i => l.getD i 0 * tv i), sm_pick hw]
  omega
theorem send_worth {n C : Nat} (tv : Nat → Int) : ∀ (es : List Int) (p : List Int × List Int), p.1.length = n → p.2.length = C → (∀ e ∈ es, 0 ≤ e ∧ e < (n : Int) + (C : Int)) → worth tv n C (es.foldl (sendM n) p).1 (es.foldl (sendM n) p).2 = worth tv n C p.1 p.2 + (es.map fun e => tv e.toNat).sum
  | [], p, _, _, _ => by simp
  | e :: es, p, h1, h2, he => by
    have e0 := he e (by simp)
    rw [List.foldl_cons, List.map_cons, List.sum_cons]
    have l1 : (sendM n p e).1.length = n := by unfold sendM; split <;> simp [bump_len, h1]
    have l2 : (sendM n p e).2.length = C := by unfold sendM; split <;> simp [bump_len, h2]
    rw [send_worth tv es _ l1 l2 fun x hx => he x (by simp [hx])]
    have : worth tv n C (sendM n p e).1 (sendM n p e).2 = worth tv n C p.1 p.2 + tv e.toNat := by
      unfold sendM worth
      by_cases h : e < (n : Int)
      · rw [if_pos h]
        show sm n (fun i => (bump p.1 e.toNat 1).getD i 0 * tv i) + sm C (fun k => p.2.getD k 0 * tv (n + k)) = _
        rw [bump_sm tv h1 (by omega)]
        omega
      · rw [if_neg h]
        show sm n (fun i => p.1.getD i 0 * tv i) + sm C (fun k => (bump p.2 (e - (n : Int)).toNat 1).getD k 0 * tv (n + k)) = _
        rw [bump_sm (fun k => tv (n + k)) h2 (by omega)]
        have : n + (e - (n : Int)).toNat = e.toNat := by omega
        simp only [this]
        omega
    rw [this]
    omega
def Ssum (tv : Nat → Int) (ws : List (List (List Int))) (C : Nat) (m : Mo) : Int := owTop tv ws m.st + worth tv ws.length C m.wt m.hd
end QX
set_option maxRecDepth 100000
set_option maxHeartbeats 1000000
namespace QX.Det
end QX.Det
set_option maxRecDepth 100000
set_option maxHeartbeats 1000000
namespace QX.Det
theorem sm_nonneg {f : Nat → Int} : ∀ {n : Nat}, (∀ j, j < n → 0 ≤ f j) → 0 ≤ sm n f
  | 0, _ => Int.le_refl 0
  | n + 1, h => by
    have h1 := sm_nonneg (f := f) (n := n) fun j hj => h j (by omega)
    have h2 := h n (by omega)
    show 0 ≤ sm n f + f n
    omega
theorem sm_nonpos {f : Nat → Int} : ∀ {n : Nat}, (∀ j, j < n → f j ≤ 0) → sm n f ≤ 0
  | 0, _ => Int.le_refl 0
  | n + 1, h => by
    have h1 := sm_nonpos (f := f) (n := n) fun j hj => h j (by omega)
    have h2 := h n (by omega)
    show sm n f + f n ≤ 0
    omega
theorem sm_le {f g : Nat → Int} : ∀ {n : Nat}, (∀ j, j < n → f j ≤ g j) → sm n f ≤ sm n g
  | 0, _ => Int.le_refl 0
  | n + 1, h => by
    have h1 := sm_le (f := f) (g := g) (n := n) fun j hj => h j (by omega)
    have h2 := h n (by omega)
    show sm n f + f n ≤ sm n g + g n
    omega
theorem sm_one {f : Nat → Int} : ∀ {n i : Nat}, i < n → (∀ j, j < n → j ≠ i → f j ≤ 0) → sm n f ≤ f i
  | 0, i, h, _ => by omega
  | n + 1, i, hi, h => by
    show sm n f + f n ≤ f i
    by_cases hin : i = n
    · subst hin
      have := sm_nonpos (f := f) (n := i) fun j hj => h j (by omega) (by omega)
      omega
    · have h1 := sm_one (f := f) (n := n) (i := i) (by omega) fun j hj hji => h j (by omega) hji
      have h2 := h n (by omega) (by omega)
      omega
structure NN (n k : Nat) (Row : Nat → R) : Prop where
  z : ∀ i j, i < n → j < n → k ≤ j → i ≠ j → Row i j ≤ 0
  p : ∀ i j, i < n → n ≤ j → 0 ≤ Row i j
theorem ediv_nonpos {x q : Int} (hx : x ≤ 0) (hq : 0 < q) : x / q ≤ 0 := by
  have h := Int.ediv_le_ediv hq hx
  simpa using h
theorem NN.step {n k : Nat} {q : Int} {Row : Nat → R} (h : NN n k Row) (hk : k < n) (hp : 0 < Row k k) (hq : 0 < q) : NN n (k + 1) (stepR k q Row) := by
  refine ⟨fun i j hi hj hkj hij => ?_, fun i j hi hj => ?_⟩
  · unfold stepR
    split
    · rename_i e
      subst e
      exact h.z i j hi hj (by omega) hij
    · rename_i e
      have a1 : Row k k * Row i j ≤ 0 := Int.mul_nonpos_of_nonneg_of_nonpos (Int.le_of_lt hp) (h.z i j hi hj (by omega) hij)
      have a2 : 0 ≤ Row i k * Row k j := Int.mul_nonneg_of_nonpos_of_nonpos (h.z i k hi hk (by omega) e) (h.z k j hk hj (by omega) (by omega))
      exact ediv_nonpos (by omega) hq
  · unfold stepR
    split
    · exact h.p k j hk hj
    · rename_i e
      have a1 : 0 ≤ Row k k * Row i j := Int.mul_nonneg (Int.le_of_lt hp) (h.p i j hi hj)
      have a2 : Row i k * Row k j ≤ 0 := Int.mul_nonpos_of_nonpos_of_nonneg (h.z i k hi hk (by omega) e) (h.p k j hk hj)
      exact Int.ediv_nonneg (by omega) (Int.le_of_lt hq)
theorem solve_nn {n w : Nat} : ∀ (r k : Nat) (q : Int) (ls : List (List Int)) (p : Int) (ls' : List (List Int)), Rect n w ls → 0 < q → NN n k (rw ls) → k + r = n → solveL r k q ls = some (p, ls') → NN n n (rw ls')
  | 0, k, q, ls, p, ls', hr, hq, hn, hk, h => by
    simp only [solveL, Option.some.injEq, Prod.mk.injEq] at h
    obtain ⟨rfl, rfl⟩ := h
    have : k = n := by omega
    subst this
    exact hn
  | r + 1, k, q, ls, p, ls', hr, hq, hn, hk, h => by
    unfold solveL at h
    split at h
    · cases h
    · rename_i hp
      refine solve_nn r (k + 1) _ _ p ls' (hr.step (by omega)) (by omega) ?_ (by omega) h
      rw [rw_step hr (by omega)]
      exact hn.step (by omega) (by omega) hq
def Wt (n : Nat) (w : Nat → Int) (Row : Nat → R) : Prop := ∀ i, i < n → 0 < sm n fun j => Row i j * w j
theorem Wt.step {n k : Nat} {q : Int} {w : Nat → Int} {Row : Nat → R} {A : Nat → R} (ho : Ok n A k q Row) (hn : NN n k Row) (h : Wt n w Row) (hk : k < n) (hp : 0 < Row k k) : Wt n w (stepR k q Row) := fun i hi => by
  by_cases hik : i = k
  · subst hik
    have e : (fun j => stepR i q Row i j * w j) = fun j => Row i j * w j := by
      funext j
      rw [stepR_own]
    rw [e]
    exact h i hi
  · have hq := ho.pos
    have e : sm n (fun j => q * (stepR k q Row i j * w j)) = Row k k * sm n (fun j => Row i j * w j) - Row i k * sm n (fun j => Row k j * w j) := by
      rw [← sm_lin]
      refine sm_congr fun j hj => ?_
      rw [← Int.mul_assoc, stepR_exact ho.inv hik]
      grind
    rw [sm_mul] at e
    have p1 : 0 < Row k k * sm n (fun j => Row i j * w j) := Int.mul_pos hp (h i hi)
    have p2 : Row i k * sm n (fun j => Row k j * w j) ≤ 0 := Int.mul_nonpos_of_nonpos_of_nonneg (hn.z i k hi hk (Nat.le_refl _) hik) (Int.le_of_lt (h k hk))
    have p3 : 0 < q * sm n (fun j => stepR k q Row i j * w j) := by omega
    exact Int.pos_of_mul_pos_right p3 hq |> fun h => h
end QX.Det
set_option maxRecDepth 100000
set_option maxHeartbeats 1000000
set_option exponentiation.threshold 5000
namespace QX
open PySem PySem.Spec PyProof.Rows L2 HX QX.Det
variable {ws : List (List (List Int))} {c : Int}
theorem table_z (hb : BoardOk ws c) {i j : Nat} (hi : i < ws.length) (hj : j < ws.length) (hij : i ≠ j) : rw (tableL ws c) i j ≤ 0 := by
  rw [rw_table hi hj]
  unfold Tb
  rw [if_neg hij]
  have := (En_bd hb i j).1
  omega
theorem begun_nn (hb : BoardOk ws c) : NN ws.length 0 (rw (begunL ws.length (tableL ws c))) := by
  refine ⟨fun i j hi hj _ hij => ?_, fun i j hi hj => ?_⟩
  · rw [rw_begun table_rect i j hi (by omega)]
    unfold begun
    rw [if_pos hj]
    exact table_z hb hi hj hij
  · by_cases hj2 : j < ws.length + ws.length
    · rw [rw_begun table_rect i j hi hj2]
      unfold begun
      rw [if_neg (by omega)]
      split <;> decide
    · have : rw (begunL ws.length (tableL ws c)) i j = 0 := by
        unfold rw
        exact getD0 (by rw [(begun_rect table_rect).get hi]; omega)
      rw [this]
      exact Int.le_refl 0
theorem sol_ok (hb : BoardOk ws c) {q : Int} {ls : List (List Int)} (hs : solB ws c = some (q, ls)) : Ok ws.length (rw (tableL ws c)) ws.length q (rw ls) := (solve_ok _ _ _ _ _ _ (begun_rect table_rect) (ok_begunL (table_rect (ws := ws) (c := c))) (by omega) hs).1
theorem inv_nn (hb : BoardOk ws c) {q : Int} {ls : List (List Int)} (hs : solB ws c = some (q, ls)) {i m : Nat} (hi : i < ws.length) : 0 ≤ rw ls i (ws.length + m) :=
  (solve_nn _ _ _ _ _ _ (begun_rect table_rect) (by decide) (begun_nn hb) (by omega) hs).p i _ hi (by omega)
def wtOf (ws : List (List (List Int))) (ls : List (List Int)) (i : Nat) : Int := sm ws.length fun m => rw ls i (ws.length + m)
theorem wt_sum (hb : BoardOk ws c) {q : Int} {ls : List (List Int)} (hs : solB ws c = some (q, ls)) {i : Nat} (hi : i < ws.length) : (sm ws.length fun j => rw (tableL ws c) i j * wtOf ws ls j) = q := by
  have hinv := (sol_ok hb hs).inverse.2
  have e : (fun j => rw (tableL ws c) i j * wtOf ws ls j) = fun j => sm ws.length fun m => rw (tableL ws c) i j * rw ls j (ws.length + m) := by
    funext j
    rw [sm_mul]
    rfl
  rw [e, sm_swap]
  have e2 : sm ws.length (fun m => sm ws.length fun j => rw (tableL ws c) i j * rw ls j (ws.length + m)) = sm ws.length fun m => (if i = m then q else 0) * (fun _ => 1) m := sm_congr fun m hm => by
    rw [hinv i m hi hm]
    simp
  rw [e2, sm_pick (f := fun _ => 1) hi]
  simp
theorem one_pos {n : Nat} {a v : Nat → Int} {i : Nat} (hi : i < n) (hv : ∀ j, j < n → 0 ≤ v j) (ha : ∀ j, j < n → j ≠ i → a j ≤ 0) (h : 0 < sm n fun j => a j * v j) : 0 < v i := by
  have h1 := sm_one (f := fun j => a j * v j) hi fun j hj hji => Int.mul_nonpos_of_nonpos_of_nonneg (ha j hj hji) (hv j hj)
  have h2 := hv i hi
  rcases Int.lt_or_eq_of_le h2 with h3 | h3
  · exact h3
  · have h4 : sm n (fun j => a j * v j) ≤ a i * v i := h1
    rw [← h3, Int.mul_zero] at h4
    omega
theorem wt_pos (hb : BoardOk ws c) {q : Int} {ls : List (List Int)} (hs : solB ws c = some (q, ls)) {i : Nat} (hi : i < ws.length) : 0 < wtOf ws ls i :=
  one_pos (a := fun j => rw (tableL ws c) i j) hi (fun j hj => sm_nonneg fun m hm => inv_nn hb hs hj) (fun j hj hji => table_z hb hi hj (Ne.symm hji)) (by
    rw [wt_sum hb hs hi]
    exact (sol_ok hb hs).pos)
end QX
set_option maxRecDepth 100000
set_option maxHeartbeats 1000000
namespace QX
open PySem PySem.Spec PyProof.Rows L2 HX
variable {ws : List (List (List Int))} {c : Int} {m : Mo}
def runM (ws : List (List (List Int))) (m : Mo) (row : List Nat) : Mo := row.foldl (handleM ws) m
theorem runM_nil : runM ws m [] = m := rfl
theorem runM_cons {n : Nat} {r : List Nat} : runM ws m (n :: r) = runM ws (handleM ws m n) r := rfl
theorem runM_app {a b : List Nat} : runM ws m (a ++ b) = runM ws (runM ws m a) b := List.foldl_append
theorem runM_snoc {a : List Nat} {n : Nat} : runM ws m (a ++ [n]) = handleM ws (runM ws m a) n := by rw [runM_app]; rfl
theorem gset_ne {l : List Int} {i j : Nat} {x : Int} (h : i ≠ j) : (l.set i x).getD j 0 = l.getD j 0 := by
  rw [List.getD_eq_getElem?_getD, List.getElem?_set_ne h, List.getD_eq_getElem?_getD]
theorem gset_self {l : List Int} {i : Nat} {x : Int} (h : i < l.length) : (l.set i x).getD i 0 = x := by
  rw [List.getD_eq_getElem?_getD, List.getElem?_set_self h]
  rfl
theorem came_zero (st : List Int) (e : Nat) : came ws st (fun _ => 0) e = 0 := by
  unfold came
  have : ∀ n, sumTo n (fun u => sent ws u (st.getD u 0) 0 e) = 0 := fun n => by
    induction n with
    | zero => rfl
    | succ n ih =>
      show sumTo n _ + 0 = 0
      rw [ih]
      rfl
  exact this _
theorem run_counts (bok : BoardOk ws c) : ∀ (row : List Nat) (m : Mo), MoF ws c m → (∀ n ∈ row, n < ws.length) →
    MoF ws c (runM ws m row) ∧ (∀ u, u < ws.length → (runM ws m row).st.getD u 0 = (m.st.getD u 0 + ((row.count u : Nat) : Int)) % ((ws.getD u []).length : Int)) ∧ (∀ u, u < ws.length → (runM ws m row).wt.getD u 0 = m.wt.getD u 0 + came ws m.st (fun u => row.count u) u - ((row.count u : Nat) : Int)) ∧
    ∀ j, (runM ws m row).hd.getD j 0 = m.hd.getD j 0 + came ws m.st (fun u => row.count u) (ws.length + j)
  | [], m, mf, _ => by
    have hc : ∀ e, came ws m.st (fun u => ([] : List Nat).count u) e = 0 := fun e => came_zero _ e
    refine ⟨mf, fun u hu => ?_, fun u hu => ?_, fun j => ?_⟩
    · have e2 : m.st[u]? = some (m.st.getD u 0) := by rw [List.getD_eq_getElem?_getD, List.getElem?_eq_getElem (by rw [mf.sl]; exact hu)]; rfl
      have e3 : ws[u]? = some (ws.getD u []) := by rw [List.getD_eq_getElem?_getD, List.getElem?_eq_getElem hu]; rfl
      obtain ⟨s0, s1⟩ := mf.sr u _ _ e2 e3
      have : m.st.getD u 0 + (([].count u : Nat) : Int) = m.st.getD u 0 := by simp
      rw [this]
      exact (Int.emod_eq_of_lt s0 s1).symm
    · rw [hc, runM_nil]
      simp
    · rw [hc, runM_nil]
      simp
  | n :: r, m, mf, hrow => by
    have hn := hrow n (List.mem_cons_self ..)
    rw [runM_cons]
    have w1 : ∀ x ∈ ws, 1 ≤ x.length := fun x hx => (bok.wheels x hx).1
    obtain ⟨mf', h1, h2, h3⟩ := run_counts bok r (handleM ws m n) (mf.handle w1) (fun x hx => hrow x (List.mem_cons_of_mem _ hx))
    generalize runM ws (handleM ws m n) r = m' at mf' h1 h2 h3 ⊢
    have hns : n < m.st.length := by rw [mf.sl]; exact hn
    have ewn : ws[n]? = some (ws.getD n []) := by rw [List.getD_eq_getElem?_getD, List.getElem?_eq_getElem hn]; rfl
    have esn : m.st[n]? = some (m.st.getD n 0) := by rw [List.getD_eq_getElem?_getD, List.getElem?_eq_getElem hns]; rfl
    obtain ⟨s0, s1⟩ := mf.sr n _ _ esn ewn
    obtain ⟨x1, x4, wok⟩ := bok.wheels _ (List.mem_of_getElem? ewn)
    have stn : (handleM ws m n).st.getD n 0 = (m.st.getD n 0 + 1) % ((ws.getD n []).length : Int) := gset_self hns
    have stu : ∀ u, u ≠ n → (handleM ws m n).st.getD u 0 = m.st.getD u 0 := fun u hu => gset_ne (fun z => hu z.symm)
    have cn : (n :: r).count n = r.count n + 1 := by rw [List.count_cons]; simp
    have cu : ∀ u, u ≠ n → (n :: r).count u = r.count u := fun u hu => by
      rw [List.count_cons]
      have : ¬ n = u := fun z => hu z.symm
      simp [this]
    have hends : endsAt ws m.st n = endsOf ws n (m.st.getD n 0) := by
      unfold endsAt endsOf
      rw [Int.emod_eq_of_lt s0 s1]
    have eok : ∀ x ∈ endsAt ws m.st n, 0 ≤ x ∧ x < (ws.length : Int) + (m.hd.length : Int) := by
      intro x hx
      have hm : endsAt ws m.st n ∈ ws.getD n [] := by
        unfold endsAt
        have hlt : (m.st.getD n 0).toNat < (ws.getD n []).length := by omega
        rw [List.getD_eq_getElem?_getD (l := ws.getD n []), List.getElem?_eq_getElem hlt]
        exact List.getElem_mem hlt
      have := (wok _ hm).2 x hx
      rw [mf.hl]
      exact this
    obtain ⟨g1, g2⟩ := send_get (W := ws.length) (endsAt ws m.st n) (bump m.wt n (-1), m.hd) eok (bump_len.trans mf.wl)
    have cm : ∀ e, came ws m.st (fun u => (n :: r).count u) e = came ws (handleM ws m n).st (fun u => r.count u) e + HX.cnt (endsAt ws m.st n) e := by
      intro e
      unfold came
      rw [sumTo_one ws.length (a := n) hn (f := fun u => sent ws u (m.st.getD u 0) ((n :: r).count u) e) (g := fun u => sent ws u ((handleM ws m n).st.getD u 0) (r.count u) e) (fun u _ hu => by
        show sent ws u (m.st.getD u 0) ((n :: r).count u) e = sent ws u ((handleM ws m n).st.getD u 0) (r.count u) e
        rw [cu u hu, stu u hu])]
      show _ + (sent ws n (m.st.getD n 0) ((n :: r).count n) e - sent ws n ((handleM ws m n).st.getD n 0) (r.count n) e) = _
      rw [cn, sent_front, stn, hends]
      dsimp only
      omega
    refine ⟨mf', fun u hu => ?_, fun u hu => ?_, fun j => ?_⟩
    · rw [h1 u hu]
      by_cases z : u = n
      · subst z
        rw [stn, cn, Int.emod_add_emod]
        congr 1
        omega
      · rw [stu u z, cu u z]
    · rw [h2 u hu, cm u]
      have e1 : (handleM ws m n).wt.getD u 0 = (bump m.wt n (-1)).getD u 0 + HX.cnt (endsAt ws m.st n) u := g1 u hu
      rw [e1, bump_get (by rw [mf.wl]; exact hn)]
      by_cases z : u = n
      · subst z
        rw [if_pos rfl, cn]
        omega
      · rw [if_neg (fun q => z q.symm), cu u z]
        omega
    · rw [h3 j, cm (ws.length + j)]
      have e1 : (handleM ws m n).hd.getD j 0 = m.hd.getD j 0 + HX.cnt (endsAt ws m.st n) (ws.length + j) := g2 j
      rw [e1]
      omega
def LetR (ws : List (List (List Int))) : Mo → List Nat → Prop
  | _, [] => True
  | m, n :: r => n < ws.length ∧ 0 < m.wt.getD n 0 ∧ LetR ws (handleM ws m n) r
theorem LetR.app : ∀ {a b : List Nat} {m : Mo}, LetR ws m (a ++ b) ↔ LetR ws m a ∧ LetR ws (runM ws m a) b
  | [], b, m => by simp [LetR, runM_nil]
  | n :: a, b, m => by
    rw [List.cons_append, LetR, LetR, runM_cons, LetR.app (a := a)]
    constructor
    · rintro ⟨h1, h2, h3, h4⟩; exact ⟨⟨h1, h2, h3⟩, h4⟩
    · rintro ⟨⟨h1, h2, h3⟩, h4⟩; exact ⟨h1, h2, h3, h4⟩
theorem LetR.lt : ∀ {a : List Nat} {m : Mo}, LetR ws m a → ∀ n ∈ a, n < ws.length
  | [], m, _, n, h => by simp at h
  | x :: a, m, ⟨h1, h2, h3⟩, n, h => by
    rcases List.mem_cons.mp h with rfl | h
    · exact h1
    · exact LetR.lt h3 n h
theorem LetR.ok (w1 : ∀ x ∈ ws, 1 ≤ x.length) : ∀ {a : List Nat} {m : Mo}, MoOk ws c m → LetR ws m a → MoOk ws c (runM ws m a)
  | [], m, h, _ => h
  | x :: a, m, h, ⟨_, h2, h3⟩ => LetR.ok w1 (a := a) (h.handle w1 h2) h3
theorem sumTo_le : ∀ (n : Nat) {f g : Nat → Int}, (∀ u, u < n → f u ≤ g u) → sumTo n f ≤ sumTo n g
  | 0, _, _, _ => Int.le_refl _
  | n + 1, f, g, h => by
    have h1 := sumTo_le n (f := f) (g := g) (fun u hu => h u (by omega))
    have h2 := h n (by omega)
    show sumTo n f + f n ≤ sumTo n g + g n
    omega
theorem sumTo_more {f : Nat → Int} (h : ∀ t, 0 ≤ f t) : ∀ (j d : Nat), sumTo j f ≤ sumTo (j + d) f
  | j, 0 => Int.le_refl _
  | j, d + 1 => by
    have h1 := sumTo_more h j d
    have h2 := h (j + d)
    show sumTo j f ≤ sumTo (j + d) f + f (j + d)
    omega
theorem sent_le {u : Nat} {s : Int} {j k e : Nat} (h : j ≤ k) : sent ws u s j e ≤ sent ws u s k e := by
  unfold sent
  have := sumTo_more (f := fun t => HX.cnt (endsOf ws u (s + (t : Int))) e) (fun t => Int.natCast_nonneg _) j (k - j)
  rw [show j + (k - j) = k by omega] at this
  exact this
theorem came_le {st : List Int} {f g : Nat → Nat} {e : Nat} (h : ∀ u, f u ≤ g u) : came ws st f e ≤ came ws st g e := by
  unfold came
  exact sumTo_le _ fun u _ => sent_le (h u)
theorem count_snoc {a : List Nat} {n u : Nat} : (a ++ [n]).count u = a.count u + if n = u then 1 else 0 := by
  rw [List.count_append, List.count_singleton]
  by_cases h : n = u <;> simp [h]
theorem least (bok : BoardOk ws c) (mf : MoF ws c m) {row : List Nat} (hr : ∀ n ∈ row, n < ws.length) (h0 : ∀ u, u < ws.length → (runM ws m row).wt.getD u 0 ≤ 0) :
    ∀ (rest pre : List Nat), (∀ n ∈ pre, n < ws.length) → LetR ws (runM ws m pre) rest → (∀ u, pre.count u ≤ row.count u) → ∀ u, (pre ++ rest).count u ≤ row.count u
  | [], pre, _, _, h, u => by rw [List.append_nil]; exact h u
  | n :: rest, pre, hp, ⟨l1, l2, l3⟩, h, u => by
    have e : pre ++ n :: rest = (pre ++ [n]) ++ rest := by simp
    rw [e]
    refine least bok mf hr h0 rest (pre ++ [n]) (fun x hx => ?_) (by rw [runM_snoc]; exact l3) (fun v => ?_) u
    · rcases List.mem_append.mp hx with z | z
      · exact hp x z
      · rw [List.mem_singleton.mp z]; exact l1
    · rw [count_snoc]
      by_cases hv : n = v
      · subst hv
        rw [if_pos rfl]
        refine Nat.succ_le_of_lt (Nat.lt_of_le_of_ne (h n) fun z => ?_)
        have a1 := (run_counts bok pre m mf hp).2.2.1 n l1
        have a2 := (run_counts bok row m mf hr).2.2.1 n l1
        have a3 := h0 n l1
        have a4 := came_le (ws := ws) (st := m.st) (f := fun u => pre.count u) (g := fun u => row.count u) (e := n) h
        rw [z] at a1
        omega
      · rw [if_neg hv]
        exact h v
theorem least_let (bok : BoardOk ws c) (mf : MoF ws c m) {row found : List Nat} (hr : ∀ n ∈ row, n < ws.length) (h0 : ∀ u, u < ws.length → (runM ws m row).wt.getD u 0 ≤ 0) (hl : LetR ws m found) (u : Nat) : found.count u ≤ row.count u := by
  have := least bok mf hr h0 found [] (fun n h => by simp at h) hl (fun v => by simp) u
  simpa using this
theorem mo_ext {m m' : Mo} (h : MoF ws c m) (h' : MoF ws c m') (h1 : ∀ u, u < ws.length → m.st.getD u 0 = m'.st.getD u 0) (h2 : ∀ u, u < ws.length → m.wt.getD u 0 = m'.wt.getD u 0) (h3 : ∀ u, m.hd.getD u 0 = m'.hd.getD u 0) : m = m' := by
  have ext : ∀ {a b : List Int}, a.length = b.length → (∀ u, u < a.length → a.getD u 0 = b.getD u 0) → a = b := fun {a b} hl hg => by
    refine List.ext_getElem hl fun i hi hj => ?_
    have := hg i hi
    rw [List.getD_eq_getElem?_getD, List.getD_eq_getElem?_getD, List.getElem?_eq_getElem hi, List.getElem?_eq_getElem hj] at this
    exact this
  have hl := h.hl
  have hl' := h'.hl
  obtain ⟨st, wt, hd⟩ := m
  obtain ⟨st', wt', hd'⟩ := m'
  have e1 : st = st' := ext (h.sl.trans h'.sl.symm) fun u hu => h1 u (by have := h.sl; simp only at this hu; omega)
  have e2 : wt = wt' := ext (h.wl.trans h'.wl.symm) fun u hu => h2 u (by have := h.wl; simp only at this hu; omega)
  have e3 : hd = hd' := ext (by simp only at hl hl'; omega) fun u hu => h3 u
  rw [e1, e2, e3]
theorem run_same (bok : BoardOk ws c) (mf : MoF ws c m) {a b : List Nat} (ha : ∀ n ∈ a, n < ws.length) (hb : ∀ n ∈ b, n < ws.length) (hc : ∀ u, a.count u = b.count u) : runM ws m a = runM ws m b := by
  obtain ⟨a1, a2, a3, a4⟩ := run_counts bok a m mf ha
  obtain ⟨b1, b2, b3, b4⟩ := run_counts bok b m mf hb
  have hf : (fun u => a.count u) = fun u => b.count u := funext hc
  refine mo_ext a1 b1 (fun u hu => ?_) (fun u hu => ?_) (fun u => ?_)
  · rw [a2 u hu, b2 u hu, hc u]
  · rw [a3 u hu, b3 u hu, hc u, hf]
  · rw [a4 u, b4 u, hf]
def Rest (ws : List (List (List Int))) (m : Mo) (row : List Nat) : Prop := LetR ws m row ∧ ∀ u, u < ws.length → (runM ws m row).wt.getD u 0 = 0
theorem Rest.counts (bok : BoardOk ws c) (mf : MoF ws c m) {a b : List Nat} (ha : Rest ws m a) (hb : Rest ws m b) (u : Nat) : a.count u = b.count u :=
  Nat.le_antisymm (least_let bok mf hb.1.lt (fun u hu => by rw [hb.2 u hu]; exact Int.le_refl _) ha.1 u) (least_let bok mf ha.1.lt (fun u hu => by rw [ha.2 u hu]; exact Int.le_refl _) hb.1 u)
theorem Rest.same (bok : BoardOk ws c) (mf : MoF ws c m) {a b : List Nat} (ha : Rest ws m a) (hb : Rest ws m b) : runM ws m a = runM ws m b := run_same bok mf ha.1.lt hb.1.lt (Rest.counts bok mf ha hb)
end QX
set_option maxRecDepth 100000
set_option maxHeartbeats 1000000
namespace QX
open PySem
/- _law_sums -/
/- _law_end_share -/
/- _law_turns_right -/
/- law -/
end QX
set_option maxRecDepth 100000
set_option maxHeartbeats 1000000
set_option exponentiation.threshold 5000
namespace QX
open PySem PySem.Spec PyProof.Rows L2 HX QX.Det
variable {M : Mem} {p k : Nat} {x : Cell} {σ : Sa} {ws : List (List (List Int))} {c : Int} {m : Mo}
theorem sm_bd {f : Nat → Int} {B : Nat} : ∀ {n : Nat}, (∀ j, j < n → (f j).natAbs ≤ B) → (sm n f).natAbs ≤ n * B
  | 0, _ => by simp [sm]
  | n + 1, h => by
    have h1 := sm_bd (n := n) (f := f) (B := B) fun j hj => h j (by omega)
    have h2 := h n (by omega)
    show (sm n f + f n).natAbs ≤ (n + 1) * B
    rw [Nat.add_mul, Nat.one_mul]
    omega
structure Dr (ws : List (List (List Int))) (c q : Int) (ls : List (List Int)) : Prop where
  bo : BoardOk ws c
  so : solB ws c = some (q, ls)
theorem Dr.q0 {q : Int} {ls : List (List Int)} (h : Dr ws c q ls) : 0 < q := (sol_facts h.bo h.so).2.2.1
structure Few (B : Nat) (m : Mo) : Prop where
  w : ∀ x ∈ m.wt, x.natAbs ≤ B
  h : ∀ x ∈ m.hd, x.natAbs ≤ B
end QX
set_option maxRecDepth 100000
set_option maxHeartbeats 1000000
set_option exponentiation.threshold 5000
namespace QX
open PySem PySem.Spec PyProof.Rows L2 HX QX.Det
variable {ws : List (List (List Int))} {c : Int} {m : Mo} {q : Int} {ls : List (List Int)}
def defc (tv : Nat → Int) (ws : List (List (List Int))) (w : Nat) : Int := ((ws.getD w []).length : Int) * tv w - (((ws.getD w []).flatten).map fun e => tv e.toNat).sum
theorem handle_drops (hb : BoardOk ws c) (hm : MoF ws c m) {w : Nat} (hw : w < ws.length) (tv : Nat → Int) : Ssum tv ws c.toNat (handleM ws m w) = Ssum tv ws c.toNat m - if m.st.getD w 0 + 1 < ((ws.getD w []).length : Int) then 0 else defc tv ws w := by
  have c0 := hb.c0
  have hst : w < m.st.length := by rw [hm.sl]; exact hw
  have hwm : ws.getD w [] ∈ ws := by rw [List.getD_eq_getElem?_getD, List.getElem?_eq_getElem hw]; exact List.getElem_mem hw
  have hwk := hb.wheels _ hwm
  obtain ⟨s0, s1⟩ := hm.sr w (m.st.getD w 0) (ws.getD w []) (by rw [List.getD_eq_getElem?_getD, List.getElem?_eq_getElem hst]; rfl) (by rw [List.getD_eq_getElem?_getD, List.getElem?_eq_getElem hw]; rfl)
  obtain ⟨k, hk⟩ := Int.eq_ofNat_of_zero_le s0
  have hkl : k < (ws.getD w []).length := by omega
  have hends : endsAt ws m.st w = (ws.getD w []).getD k [] := by rw [endsAt, hk, Int.toNat_natCast]
  have hkm : (ws.getD w [])[k]? = some ((ws.getD w []).getD k []) := by rw [List.getD_eq_getElem?_getD (i := k), List.getElem?_eq_getElem hkl]; rfl
  have h1 : worth tv ws.length c.toNat (handleM ws m w).wt (handleM ws m w).hd = worth tv ws.length c.toNat m.wt m.hd - stepOwe tv w ((ws.getD w []).getD k []) := by
    show worth tv ws.length c.toNat ((endsAt ws m.st w).foldl (sendM ws.length) (bump m.wt w (-1), m.hd)).1 ((endsAt ws m.st w).foldl (sendM ws.length) (bump m.wt w (-1), m.hd)).2 = _
    rw [send_worth tv _ _ (by rw [bump_len]; exact hm.wl) (by show m.hd.length = _; have := hm.hl; omega) (fun e he => by
      rw [hends] at he
      have := (hwk.2.2 _ (List.mem_of_getElem? hkm)).2 e he
      omega), hends]
    have : worth tv ws.length c.toNat (bump m.wt w (-1)) m.hd = worth tv ws.length c.toNat m.wt m.hd - tv w := by
      unfold worth
      rw [bump_sm tv hm.wl hw]
      omega
    show worth tv ws.length c.toNat (bump m.wt w (-1)) m.hd + _ = _
    rw [this, stepOwe]
    omega
  have h2 : owTop tv ws (handleM ws m w).st = owTop tv ws m.st + stepOwe tv w ((ws.getD w []).getD k []) - if m.st.getD w 0 + 1 < ((ws.getD w []).length : Int) then 0 else defc tv ws w := by
    unfold owTop
    show sm ws.length (fun i => wheelOwe tv i (ws.getD i []) ((m.st.set w ((m.st.getD w 0 + 1) % ((ws.getD w []).length : Int))).getD i 0).toNat) = _
    rw [sm_upd (f := fun i => wheelOwe tv i (ws.getD i []) (m.st.getD i 0).toNat) hw (fun i hi => by rw [List.getD_eq_getElem?_getD (l := m.st.set w _), List.getElem?_set_ne (Ne.symm hi), ← List.getD_eq_getElem?_getD])]
    have e1 : (m.st.set w ((m.st.getD w 0 + 1) % ((ws.getD w []).length : Int))).getD w 0 = (m.st.getD w 0 + 1) % ((ws.getD w []).length : Int) := by
      rw [List.getD_eq_getElem?_getD, List.getElem?_set_self hst]
      rfl
    rw [e1, hk, Int.toNat_natCast]
    have e2 : wheelOwe tv w (ws.getD w []) (k + 1) = wheelOwe tv w (ws.getD w []) k + stepOwe tv w ((ws.getD w []).getD k []) := sum_snoc _ _ _ _ hkm
    by_cases hlast : (k : Int) + 1 < ((ws.getD w []).length : Int)
    · rw [if_pos hlast, Int.emod_eq_of_lt (by omega) (by omega), show ((k : Int) + 1).toNat = k + 1 by omega, e2]
      omega
    · have hkl' : (k : Int) + 1 = ((ws.getD w []).length : Int) := by omega
      rw [if_neg hlast, hkl', Int.emod_self]
      have e3 : wheelOwe tv w (ws.getD w []) (k + 1) = defc tv ws w := by
        unfold wheelOwe defc
        rw [List.take_of_length_le (by omega), owe_all]
      have e4 : wheelOwe tv w (ws.getD w []) (0 : Int).toNat = 0 := rfl
      rw [e4]
      omega
  unfold Ssum
  rw [h1, h2]
  omega
def tvW (ws : List (List (List Int))) (ls : List (List Int)) : Nat → Int := fun i => if i < ws.length then wtOf ws ls i else 0
theorem defc_w (hb : BoardOk ws c) (hs : solB ws c = some (q, ls)) {w : Nat} (hw : w < ws.length) : defc (tvW ws ls) ws w = q := by
  have hwm : ws.getD w [] ∈ ws := by rw [List.getD_eq_getElem?_getD, List.getElem?_eq_getElem hw]; exact List.getElem_mem hw
  have hwk := hb.wheels _ hwm
  have c0 := hb.c0
  have hW : Wid ws c = ws.length + c.toNat := by unfold Wid; omega
  have e1 := cnt_sum (W := Wid ws c) (tvW ws ls) (ws.getD w []).flatten (fun e he => by
    obtain ⟨s, h1, h2⟩ := List.mem_flatten.mp he
    have := (hwk.2.2 s h1).2 e h2
    omega)
  have e2 : sm (Wid ws c) (fun k => cnt k (ws.getD w []).flatten * tvW ws ls k) = sm ws.length fun j => En ws c w j * wtOf ws ls j := by
    rw [hW, sm_split]
    have z : sm c.toNat (fun j => cnt (ws.length + j) (ws.getD w []).flatten * tvW ws ls (ws.length + j)) = 0 := sm_zero fun j hj => by
      rw [tvW, if_neg (by omega)]
      omega
    rw [z, Int.add_zero]
    refine sm_congr fun j hj => ?_
    rw [tvW, if_pos hj, En_cnt hw (by omega)]
  have e3 := wt_sum hb hs hw
  have e4 : (sm ws.length fun j => rw (tableL ws c) w j * wtOf ws ls j) = ((ws.getD w []).length : Int) * wtOf ws ls w - sm ws.length fun j => En ws c w j * wtOf ws ls j := by
    rw [sm_congr (g := fun j => 1 * ((if w = j then ((ws.getD w []).length : Int) else 0) * wtOf ws ls j) - 1 * (En ws c w j * wtOf ws ls j)) fun j hj => by
      rw [rw_table hw hj]
      unfold Tb
      grind]
    rw [sm_lin, sm_pick (f := fun j => wtOf ws ls j) hw]
    omega
  unfold defc
  rw [e1, e2, tvW, if_pos hw]
  omega
theorem tvW_pos (hb : BoardOk ws c) (hs : solB ws c = some (q, ls)) {w : Nat} (hw : w < ws.length) : 1 ≤ tvW ws ls w := by
  rw [tvW, if_pos hw]
  exact wt_pos hb hs hw
theorem tvW_nn (hb : BoardOk ws c) (hs : solB ws c = some (q, ls)) (w : Nat) : 0 ≤ tvW ws ls w := by
  by_cases hw : w < ws.length
  · have := tvW_pos hb hs hw; omega
  · rw [tvW, if_neg hw]; exact Int.le_refl _
def wB : Int := 6 * 2 ^ 511
theorem tvW_le (hb : BoardOk ws c) (hs : solB ws c = some (q, ls)) (w : Nat) : tvW ws ls w ≤ wB := by
  have h0 : (0 : Int) ≤ wB := by unfold wB; decide +kernel
  by_cases hw : w < ws.length
  · rw [tvW, if_pos hw]
    have hr := (sol_facts hb hs).1
    have hB := (sol_facts hb hs).2.1
    have h1 := sm_bd (f := fun m => rw ls w (ws.length + m)) (B := bdd 6) (n := ws.length) (fun j hj => by
      have hlen : w < ls.length := by rw [hr.len]; exact hw
      have hmem := getT_mem hlen
      have hl := hr.wid _ hmem
      have : ws.length + j < (ls.getD w []).length := by omega
      exact hB _ hmem _ (getD_mem this))
    have h6 := hb.w6
    have h2 : wtOf ws ls w = sm ws.length fun m => rw ls w (ws.length + m) := rfl
    have h3 : ws.length * bdd 6 ≤ 6 * bdd 6 := Nat.mul_le_mul_right _ h6
    rw [bdd6_eq] at h1 h3
    rw [h2]
    have h4 : (sm ws.length fun m => rw ls w (ws.length + m)) ≤ ((6 * 2 ^ 511 : Nat) : Int) := by omega
    have h5 : ((6 * 2 ^ 511 : Nat) : Int) = wB := by unfold wB; decide +kernel
    omega
  · rw [tvW, if_neg hw]; exact h0
end QX
set_option maxRecDepth 100000
set_option maxHeartbeats 1000000
set_option exponentiation.threshold 5000
namespace QX
open PySem PySem.Spec PyProof.Rows L2 HX QX.Det
variable {ws : List (List (List Int))} {c : Int} {m : Mo} {q : Int} {ls : List (List Int)}
def psi (ws : List (List (List Int))) (ls : List (List Int)) (C : Nat) (m : Mo) : Int := 4 * Ssum (tvW ws ls) ws C m - sm ws.length fun i => m.st.getD i 0
theorem psi_handle (hb : BoardOk ws c) (hs : solB ws c = some (q, ls)) (hm : MoF ws c m) {w : Nat} (hw : w < ws.length) : psi ws ls c.toNat (handleM ws m w) + 1 ≤ psi ws ls c.toNat m := by
  have h1 := handle_drops hb hm hw (tvW ws ls)
  rw [defc_w hb hs hw] at h1
  have hq := (sol_facts hb hs).2.2.1
  have hst : w < m.st.length := by rw [hm.sl]; exact hw
  have hwm : ws.getD w [] ∈ ws := by rw [List.getD_eq_getElem?_getD, List.getElem?_eq_getElem hw]; exact List.getElem_mem hw
  have hwk := hb.wheels _ hwm
  obtain ⟨s0, s1⟩ := hm.sr w (m.st.getD w 0) (ws.getD w []) (by rw [List.getD_eq_getElem?_getD, List.getElem?_eq_getElem hst]; rfl) (by rw [List.getD_eq_getElem?_getD, List.getElem?_eq_getElem hw]; rfl)
  have h2 : (sm ws.length fun i => (handleM ws m w).st.getD i 0) = (sm ws.length fun i => m.st.getD i 0) + ((m.st.getD w 0 + 1) % ((ws.getD w []).length : Int) - m.st.getD w 0) := by
    have := sm_upd (f := fun i => m.st.getD i 0) (g := fun i => (handleM ws m w).st.getD i 0) (n := ws.length) hw (fun i hi => gset_ne (Ne.symm hi))
    rw [this]
    have e : (handleM ws m w).st.getD w 0 = (m.st.getD w 0 + 1) % ((ws.getD w []).length : Int) := gset_self hst
    rw [e]
  unfold psi
  rw [h1, h2]
  have l4 := hwk.2.1
  by_cases hlast : m.st.getD w 0 + 1 < ((ws.getD w []).length : Int)
  · rw [if_pos hlast, Int.emod_eq_of_lt (by omega) hlast]
    omega
  · rw [if_neg hlast, show m.st.getD w 0 + 1 = ((ws.getD w []).length : Int) by omega, Int.emod_self]
    omega
theorem psi_run (hb : BoardOk ws c) (hs : solB ws c = some (q, ls)) : ∀ (row : List Nat) (m : Mo), MoF ws c m → (∀ n ∈ row, n < ws.length) → psi ws ls c.toNat (runM ws m row) + row.length ≤ psi ws ls c.toNat m
  | [], m, _, _ => by rw [runM_nil]; simp
  | n :: r, m, hm, hr => by
    have h1 := psi_handle hb hs hm (hr n (by simp))
    have h2 := psi_run hb hs r (handleM ws m n) (hm.handle fun x hx => (hb.wheels x hx).1) fun x hx => hr x (by simp [hx])
    rw [runM_cons, List.length_cons]
    omega
theorem sum_ge {B : Int} (f : List Int → Int) : ∀ xs : List (List Int), (∀ x ∈ xs, -B ≤ f x) → -(xs.length * B) ≤ (xs.map f).sum
  | [], _ => by simp
  | x :: xs, h => by
    have h1 := sum_ge f xs fun y hy => h y (by simp [hy])
    have h2 := h x (by simp)
    rw [List.map_cons, List.sum_cons, List.length_cons]
    have : ((xs.length + 1 : Nat) : Int) * B = xs.length * B + B := by rw [Int.natCast_add]; grind
    omega
theorem sum_le' {B : Int} {α : Type} (f : α → Int) : ∀ xs : List α, (∀ x ∈ xs, f x ≤ B) → (xs.map f).sum ≤ xs.length * B
  | [], _ => by simp
  | x :: xs, h => by
    have h1 := sum_le' f xs fun y hy => h y (by simp [hy])
    have h2 := h x (by simp)
    rw [List.map_cons, List.sum_cons, List.length_cons]
    have : ((xs.length + 1 : Nat) : Int) * B = xs.length * B + B := by rw [Int.natCast_add]; grind
    omega
theorem sum_nn {α : Type} (f : α → Int) : ∀ xs : List α, (∀ x ∈ xs, 0 ≤ f x) → 0 ≤ (xs.map f).sum
  | [], _ => by simp
  | x :: xs, h => by
    have h1 := sum_nn f xs fun y hy => h y (by simp [hy])
    have h2 := h x (by simp)
    rw [List.map_cons, List.sum_cons]
    omega
theorem wB_pos : 0 < wB := by unfold wB; decide +kernel
theorem stepOwe_bd (hb : BoardOk ws c) (hs : solB ws c = some (q, ls)) {w : Nat} {s : List Int} (h3 : s.length ≤ 3) : -(3 * wB) ≤ stepOwe (tvW ws ls) w s ∧ stepOwe (tvW ws ls) w s ≤ wB := by
  have h1 := sum_le' (B := wB) (fun e : Int => tvW ws ls e.toNat) s fun x _ => tvW_le hb hs _
  have h2 := sum_nn (fun e : Int => tvW ws ls e.toNat) s fun x _ => tvW_nn hb hs _
  have h4 := tvW_nn hb hs w
  have h5 := tvW_le hb hs w
  have h6 := wB_pos
  have h7 : (s.length : Int) * wB ≤ 3 * wB := Int.mul_le_mul_of_nonneg_right (by omega) (by omega)
  unfold stepOwe
  omega
theorem wheelOwe_bd (hb : BoardOk ws c) (hs : solB ws c = some (q, ls)) {i k : Nat} {w : List (List Int)} (hw : WheelOk ((ws.length : Int) + c) w) : -(12 * wB) ≤ wheelOwe (tvW ws ls) i w k ∧ wheelOwe (tvW ws ls) i w k ≤ 4 * wB := by
  have h6 := wB_pos
  have hl : ((w.take k).length : Int) ≤ 4 := by
    have := hw.2.1
    rw [List.length_take]
    omega
  have hmem : ∀ s ∈ w.take k, s.length ≤ 3 := fun s hs => (hw.2.2 s (List.mem_of_mem_take hs)).1
  have h1 := sum_ge (B := 3 * wB) (stepOwe (tvW ws ls) i) (w.take k) fun s h => (stepOwe_bd hb hs (hmem s h)).1
  have h2 := sum_le' (B := wB) (stepOwe (tvW ws ls) i) (w.take k) fun s h => (stepOwe_bd hb hs (hmem s h)).2
  have h3 : ((w.take k).length : Int) * (3 * wB) ≤ 4 * (3 * wB) := Int.mul_le_mul_of_nonneg_right hl (by omega)
  have h4 : ((w.take k).length : Int) * wB ≤ 4 * wB := Int.mul_le_mul_of_nonneg_right hl (by omega)
  unfold wheelOwe
  omega
theorem sm_ge {f : Nat → Int} {B : Int} : ∀ {n : Nat}, (∀ j, j < n → -B ≤ f j) → -(n * B) ≤ sm n f
  | 0, _ => by simp [sm]
  | n + 1, h => by
    have h1 := sm_ge (f := f) (n := n) fun j hj => h j (by omega)
    have h2 := h n (by omega)
    have : ((n + 1 : Nat) : Int) * B = n * B + B := by rw [Int.natCast_add]; grind
    show -(((n + 1 : Nat) : Int) * B) ≤ sm n f + f n
    omega
theorem sm_leB {f : Nat → Int} {B : Int} : ∀ {n : Nat}, (∀ j, j < n → f j ≤ B) → sm n f ≤ n * B
  | 0, _ => by simp [sm]
  | n + 1, h => by
    have h1 := sm_leB (f := f) (n := n) fun j hj => h j (by omega)
    have h2 := h n (by omega)
    have : ((n + 1 : Nat) : Int) * B = n * B + B := by rw [Int.natCast_add]; grind
    show sm n f + f n ≤ ((n + 1 : Nat) : Int) * B
    omega
theorem owTop_w (hb : BoardOk ws c) (hs : solB ws c = some (q, ls)) (st : List Int) : -(72 * wB) ≤ owTop (tvW ws ls) ws st ∧ owTop (tvW ws ls) ws st ≤ 24 * wB := by
  have h6 := wB_pos
  have w6 := hb.w6
  have hw : ∀ i, i < ws.length → WheelOk ((ws.length : Int) + c) (ws.getD i []) := fun i hi => hb.wheels _ (by rw [List.getD_eq_getElem?_getD, List.getElem?_eq_getElem hi]; exact List.getElem_mem hi)
  have h1 := sm_ge (n := ws.length) (B := 12 * wB) (f := fun i => wheelOwe (tvW ws ls) i (ws.getD i []) (st.getD i 0).toNat) fun i hi => (wheelOwe_bd hb hs (hw i hi)).1
  have h2 := sm_leB (n := ws.length) (B := 4 * wB) (f := fun i => wheelOwe (tvW ws ls) i (ws.getD i []) (st.getD i 0).toNat) fun i hi => (wheelOwe_bd hb hs (hw i hi)).2
  have h3 : (ws.length : Int) * (12 * wB) ≤ 6 * (12 * wB) := Int.mul_le_mul_of_nonneg_right (by omega) (by omega)
  have h4 : (ws.length : Int) * (4 * wB) ≤ 6 * (4 * wB) := Int.mul_le_mul_of_nonneg_right (by omega) (by omega)
  unfold owTop
  omega
theorem worth_w (hb : BoardOk ws c) (hs : solB ws c = some (q, ls)) (C : Nat) (hm : MoOk ws c m) : 0 ≤ worth (tvW ws ls) ws.length C m.wt m.hd ∧ ∀ u, u < ws.length → m.wt.getD u 0 ≤ worth (tvW ws ls) ws.length C m.wt m.hd := by
  have z : sm C (fun k => m.hd.getD k 0 * tvW ws ls (ws.length + k)) = 0 := sm_zero fun k hk => by rw [tvW, if_neg (by omega), Int.mul_zero]
  have nn : ∀ j, j < ws.length → 0 ≤ m.wt.getD j 0 * tvW ws ls j := fun j hj => Int.mul_nonneg (getD_nn hm.wn) (tvW_nn hb hs j)
  have h1 := sm_nonneg (f := fun j => m.wt.getD j 0 * tvW ws ls j) (n := ws.length) nn
  unfold worth
  rw [z, Int.add_zero]
  refine ⟨h1, fun u hu => ?_⟩
  have h2 : m.wt.getD u 0 * tvW ws ls u ≤ sm ws.length fun j => m.wt.getD j 0 * tvW ws ls j := by
    have h3 := sm_le (f := fun j => if u = j then m.wt.getD u 0 * tvW ws ls u else 0) (g := fun j => m.wt.getD j 0 * tvW ws ls j) (n := ws.length) fun j hj => by
      by_cases z : u = j
      · subst z; rw [if_pos rfl]; exact Int.le_refl _
      · rw [if_neg z]; exact nn j hj
    have h4 := sm_pick (c := m.wt.getD u 0 * tvW ws ls u) (f := fun _ => 1) hu
    rw [sm_congr (g := fun j => if u = j then m.wt.getD u 0 * tvW ws ls u else 0) fun j _ => by rw [Int.mul_one], Int.mul_one] at h4
    omega
  have h5 : m.wt.getD u 0 * 1 ≤ m.wt.getD u 0 * tvW ws ls u := Int.mul_le_mul_of_nonneg_left (tvW_pos hb hs hu) (getD_nn hm.wn)
  omega
theorem worth_le (hb : BoardOk ws c) (hs : solB ws c = some (q, ls)) (C : Nat) {T : Int} (h0 : 0 ≤ T) (hm : MoOk ws c m) (hT : ∀ x ∈ m.wt, x ≤ T) : worth (tvW ws ls) ws.length C m.wt m.hd ≤ 6 * (T * wB) := by
  have h6 := wB_pos
  have w6 := hb.w6
  have z : sm C (fun k => m.hd.getD k 0 * tvW ws ls (ws.length + k)) = 0 := sm_zero fun k hk => by rw [tvW, if_neg (by omega), Int.mul_zero]
  have h1 := sm_leB (f := fun j => m.wt.getD j 0 * tvW ws ls j) (B := T * wB) (n := ws.length) fun j hj => by
    have hj' : j < m.wt.length := by rw [hm.wl]; exact hj
    have a1 : m.wt.getD j 0 ≤ T := hT _ (getD_mem hj')
    have a2 : 0 ≤ m.wt.getD j 0 := getD_nn hm.wn
    exact Int.le_trans (Int.mul_le_mul_of_nonneg_left (tvW_le hb hs j) a2) (Int.mul_le_mul_of_nonneg_right a1 (by omega))
  have h2 : 0 ≤ T * wB := Int.mul_nonneg h0 (by omega)
  have h3 : (ws.length : Int) * (T * wB) ≤ 6 * (T * wB) := Int.mul_le_mul_of_nonneg_right (by omega) h2
  unfold worth
  rw [z, Int.add_zero]
  omega
def longB (T : Int) : Int := 400 * wB + 24 * (T * wB) + 24
theorem st_bd (hb : BoardOk ws c) (hm : MoF ws c m) : 0 ≤ (sm ws.length fun i => m.st.getD i 0) ∧ (sm ws.length fun i => m.st.getD i 0) ≤ 18 := by
  have w6 := hb.w6
  have h : ∀ i, i < ws.length → 0 ≤ m.st.getD i 0 ∧ m.st.getD i 0 ≤ 3 := fun i hi => by
    have hst : i < m.st.length := by rw [hm.sl]; exact hi
    have hwm : ws.getD i [] ∈ ws := by rw [List.getD_eq_getElem?_getD, List.getElem?_eq_getElem hi]; exact List.getElem_mem hi
    obtain ⟨s0, s1⟩ := hm.sr i (m.st.getD i 0) (ws.getD i []) (by rw [List.getD_eq_getElem?_getD, List.getElem?_eq_getElem hst]; rfl) (by rw [List.getD_eq_getElem?_getD, List.getElem?_eq_getElem hi]; rfl)
    have := (hb.wheels _ hwm).2.1
    omega
  have h1 := sm_nonneg (f := fun i => m.st.getD i 0) (n := ws.length) fun i hi => (h i hi).1
  have h2 := sm_leB (f := fun i => m.st.getD i 0) (B := 3) (n := ws.length) fun i hi => (h i hi).2
  omega
theorem psi_ge (hb : BoardOk ws c) (hs : solB ws c = some (q, ls)) (hm : MoOk ws c m) : -(288 * wB + 18) ≤ psi ws ls c.toNat m := by
  have h1 := owTop_w hb hs m.st
  have h2 := (worth_w hb hs c.toNat hm).1
  have h3 := st_bd hb hm.toMoF
  unfold psi Ssum
  omega
theorem psi_le (hb : BoardOk ws c) (hs : solB ws c = some (q, ls)) {T : Int} (h0 : 0 ≤ T) (hm : MoOk ws c m) (hT : ∀ x ∈ m.wt, x ≤ T) : psi ws ls c.toNat m ≤ 96 * wB + 24 * (T * wB) := by
  have h1 := owTop_w hb hs m.st
  have h2 := worth_le hb hs c.toNat h0 hm hT
  have h3 := st_bd hb hm.toMoF
  unfold psi Ssum
  omega
theorem row_short (hb : BoardOk ws c) (hs : solB ws c = some (q, ls)) {T : Int} (h0 : 0 ≤ T) (hm : MoOk ws c m) (hT : ∀ x ∈ m.wt, x ≤ T) {row : List Nat} (hl : LetR ws m row) : (row.length : Int) ≤ longB T := by
  have h1 := psi_run hb hs row m hm.toMoF hl.lt
  have h2 := psi_ge hb hs (hl.ok (fun x hx => (hb.wheels x hx).1) hm)
  have h3 := psi_le hb hs h0 hm hT
  have := wB_pos
  unfold longB
  omega
theorem rests_ex (hb : BoardOk ws c) (hs : solB ws c = some (q, ls)) : ∀ (k : Nat) (m : Mo), MoOk ws c m → psi ws ls c.toNat m + (288 * wB + 18) ≤ k → ∃ row, Rest ws m row
  | 0, m, hm, h => by
    refine ⟨[], trivial, fun u hu => ?_⟩
    rw [runM_nil]
    have h0 : 0 ≤ m.wt.getD u 0 := getD_nn hm.wn
    by_cases hp : 0 < m.wt.getD u 0
    · have h1 := psi_handle hb hs hm.toMoF hu
      have h2 := psi_ge hb hs (hm.handle (fun x hx => (hb.wheels x hx).1) hp)
      omega
    · omega
  | k + 1, m, hm, h => by
    by_cases hz : ∀ u, u < ws.length → m.wt.getD u 0 = 0
    · exact ⟨[], trivial, hz⟩
    · obtain ⟨u, hu⟩ := Classical.not_forall.mp hz
      obtain ⟨hu, hn⟩ := Classical.not_imp.mp hu
      have h0 : 0 ≤ m.wt.getD u 0 := getD_nn hm.wn
      have hp : 0 < m.wt.getD u 0 := by omega
      have hm' := hm.handle (fun x hx => (hb.wheels x hx).1) hp
      have h1 := psi_handle hb hs hm.toMoF hu
      obtain ⟨row, r1, r2⟩ := rests_ex hb hs k _ hm' (by omega)
      exact ⟨u :: row, ⟨hu, hp, r1⟩, r2⟩
theorem rests (hb : BoardOk ws c) (hs : solB ws c = some (q, ls)) (hm : MoOk ws c m) : ∃ row, Rest ws m row := rests_ex hb hs (psi ws ls c.toNat m + (288 * wB + 18)).toNat m hm (by have := psi_ge hb hs hm; omega)
end QX
set_option maxRecDepth 100000
set_option maxHeartbeats 1000000
namespace QX
open PySem PySem.Spec PyProof.Rows L2 HX QX.Det
variable {ws : List (List (List Int))} {c : Int} {m : Mo}
end QX
set_option maxRecDepth 100000
set_option maxHeartbeats 1000000
set_option exponentiation.threshold 5000
namespace QX
open PySem PySem.Spec PyProof PyProof.Rows L2 HX QX.Det
variable {A g M : Mem} {σ : Sa} {ws : List (List (List Int))} {c : Int} {m : Mo}
end QX
set_option maxRecDepth 100000
set_option maxHeartbeats 1000000
set_option exponentiation.threshold 5000
namespace QX
open PySem PySem.Spec PyProof PyProof.Rows L2 HX QX.Det
variable {A g M : Mem} {σ : Sa} {ws : List (List (List Int))} {c : Int} {m : Mo} {q : Int} {ls : List (List Int)}
def cntL (n : Nat) (row : List Nat) : List Int := (List.range n).map fun u => ((row.count u : Nat) : Int)
theorem cntL_len {n : Nat} {row : List Nat} : (cntL n row).length = n := by rw [cntL, List.length_map, List.length_range]
theorem cntL_at {n u : Nat} {row : List Nat} (h : u < n) : (cntL n row).getD u 0 = ((row.count u : Nat) : Int) := range_getD _ h
structure GdOk (ws : List (List (List Int))) (c : Int) (q : Int) (ls : List (List Int)) (T : Int) (m : Mo) : Prop where
  hb : BoardOk ws c
  so : solB ws c = some (q, ls)
  t0 : 0 ≤ T
  t1 : T ≤ 2 ^ 600
  ok : MoOk ws c m
  few : ∀ x ∈ m.wt, x ≤ T
end QX
set_option maxRecDepth 100000
set_option maxHeartbeats 1000000
set_option exponentiation.threshold 5000
namespace QX
open PySem PySem.Spec PyProof PyProof.Rows L2 HX QX.Det
variable {A g M : Mem} {σ : Sa} {ws : List (List (List Int))} {c : Int} {m : Mo} {q : Int} {ls : List (List Int)}
def plusL (a b : List Int) : List Int := List.zipWith (· + ·) a b
theorem plusL_len {a b : List Int} (h : a.length = b.length) : (plusL a b).length = a.length := by rw [plusL, List.length_zipWith, h, Nat.min_self]
theorem plusL_at {a b : List Int} (h : a.length = b.length) (u : Nat) : (plusL a b).getD u 0 = a.getD u 0 + b.getD u 0 := by
  by_cases hu : u < a.length
  · have hb : u < b.length := by omega
    rw [List.getD_eq_getElem?_getD, List.getD_eq_getElem?_getD, List.getD_eq_getElem?_getD, List.getElem?_eq_getElem (by rw [plusL_len h]; exact hu), List.getElem?_eq_getElem hu, List.getElem?_eq_getElem hb]
    simp [plusL]
  · rw [getD0 (by rw [plusL_len h]; omega), getD0 (by omega), getD0 (by omega)]
    rfl
def addM (m : Mo) (b e : List Int) : Mo := ⟨m.st, plusL m.wt b, plusL m.hd e⟩
theorem addM_F (h : MoF ws c m) {b e : List Int} (hb : b.length = ws.length) (he : e.length = m.hd.length) : MoF ws c (addM m b e) :=
  ⟨h.sl, h.sr, by show (plusL m.wt b).length = _; rw [plusL_len (by rw [h.wl, hb]), h.wl], by show ((plusL m.hd e).length : Int) = c; rw [plusL_len he.symm]; exact h.hl⟩
theorem run_add (bok : BoardOk ws c) (h : MoF ws c m) {b e : List Int} (hb : b.length = ws.length) (he : e.length = m.hd.length) {row : List Nat} (hr : ∀ n ∈ row, n < ws.length) : runM ws (addM m b e) row = addM (runM ws m row) b e := by
  obtain ⟨a1, a2, a3, a4⟩ := run_counts bok row m h hr
  obtain ⟨b1, b2, b3, b4⟩ := run_counts bok row (addM m b e) (addM_F h hb he) hr
  have hl1 := a1.hl
  have hl2 := h.hl
  refine mo_ext b1 (addM_F a1 hb (by omega)) (fun u hu => ?_) (fun u hu => ?_) (fun u => ?_)
  · rw [b2 u hu]
    exact (a2 u hu).symm
  · rw [b3 u hu]
    show (plusL m.wt b).getD u 0 + came ws m.st _ u - _ = (plusL (runM ws m row).wt b).getD u 0
    rw [plusL_at (by rw [h.wl, hb]), plusL_at (by rw [a1.wl, hb]), a3 u hu]
    omega
  · rw [b4 u]
    show (plusL m.hd e).getD u 0 + came ws m.st _ _ = (plusL (runM ws m row).hd e).getD u 0
    rw [plusL_at he.symm, plusL_at (by omega), a4 u]
    omega
theorem let_add (bok : BoardOk ws c) {b : List Int} (hb : b.length = ws.length) (hn : ∀ u, u < ws.length → 0 ≤ b.getD u 0) : ∀ (row : List Nat) (m : Mo) {e : List Int}, MoF ws c m → e.length = m.hd.length → LetR ws m row → LetR ws (addM m b e) row
  | [], _, _, _, _, _ => trivial
  | n :: r, m, e, h, he, ⟨h1, h2, h3⟩ => by
    have w1 : ∀ x ∈ ws, 1 ≤ x.length := fun x hx => (bok.wheels x hx).1
    have hh := h.handle w1 (w := n)
    have e1 := run_add bok h hb he (row := [n]) (fun x hx => by rw [List.mem_singleton.mp hx]; exact h1)
    have e2 : handleM ws (addM m b e) n = addM (handleM ws m n) b e := e1
    have hl1 := hh.hl
    have hl2 := h.hl
    refine ⟨h1, ?_, ?_⟩
    · show 0 < (plusL m.wt b).getD n 0
      rw [plusL_at (by rw [h.wl, hb])]
      have := hn n h1
      omega
    · rw [e2]
      exact let_add bok hb hn r _ hh (by omega) h3
def StQ (ws : List (List (List Int))) (st : List Int) : Prop := st.length = ws.length ∧ ∀ (i : Nat) (s : Int) (w : List (List Int)), st[i]? = some s → ws[i]? = some w → 0 ≤ s ∧ s < (w.length : Int)
def dropM (c : Int) (st ds : List Int) : Mo := ⟨st, ds, List.replicate c.toNat 0⟩
def DsQ (ws : List (List (List Int))) (T : Int) (ds : List Int) : Prop := ds.length = ws.length ∧ ∀ z ∈ ds, 0 ≤ z ∧ z ≤ T
theorem drop_ok (hb : BoardOk ws c) {st ds : List Int} {T : Int} (h1 : StQ ws st) (h2 : DsQ ws T ds) : MoOk ws c (dropM c st ds) :=
  { sl := h1.1, sr := h1.2, wl := h2.1, hl := by show ((List.replicate c.toNat (0 : Int)).length : Int) = c; rw [List.length_replicate]; have := hb.c0; omega, wn := fun x hx => (h2.2 x hx).1, hn := fun x hx => by rw [List.eq_of_mem_replicate hx]; exact Int.le_refl _ }
def bigFuel : Nat := 2 ^ 700
theorem rest_parts (hb : BoardOk ws c) {st a b : List Int} {T : Int} (h1 : StQ ws st) (ha : DsQ ws T a) (hbq : DsQ ws T b) {r1 r2 : List Nat} (q1 : Rest ws (dropM c st a) r1) (q2 : Rest ws (dropM c (runM ws (dropM c st a) r1).st b) r2) :
    Rest ws (dropM c st (plusL a b)) (r1 ++ r2) ∧ runM ws (dropM c st (plusL a b)) (r1 ++ r2) = ⟨(runM ws (dropM c (runM ws (dropM c st a) r1).st b) r2).st, (runM ws (dropM c (runM ws (dropM c st a) r1).st b) r2).wt, plusL (runM ws (dropM c (runM ws (dropM c st a) r1).st b) r2).hd (runM ws (dropM c st a) r1).hd⟩ := by
  have w1 : ∀ x ∈ ws, 1 ≤ x.length := fun x hx => (hb.wheels x hx).1
  have ok1 := drop_ok hb h1 ha
  have ok1' := q1.1.ok w1 ok1
  have z : ∀ n : Nat, plusL (List.replicate n 0) (List.replicate n 0) = List.replicate n 0 := fun n => by simp [plusL]
  have hl : ((runM ws (dropM c st a) r1).hd.length : Int) = c := ok1'.hl
  have c0 := hb.c0
  have st1 : StQ ws (runM ws (dropM c st a) r1).st := ⟨ok1'.sl, ok1'.sr⟩
  have ok2 := drop_ok hb st1 hbq
  have ok2' := q2.1.ok w1 ok2
  have bn : ∀ u, u < ws.length → 0 ≤ b.getD u 0 := fun u hu => (hbq.2 _ (getD_mem (by rw [hbq.1]; exact hu))).1
  have e0 : dropM c st (plusL a b) = addM (dropM c st a) b (List.replicate c.toNat 0) := by
    show (⟨st, plusL a b, List.replicate c.toNat 0⟩ : Mo) = ⟨st, plusL a b, plusL (List.replicate c.toNat 0) (List.replicate c.toNat 0)⟩
    rw [z]
  have len0 : (List.replicate c.toNat (0 : Int)).length = (dropM c st a).hd.length := rfl
  have l1 := let_add hb hbq.1 bn r1 (dropM c st a) (e := List.replicate c.toNat 0) ok1.toMoF len0 q1.1
  have e1 : runM ws (dropM c st (plusL a b)) r1 = addM (dropM c (runM ws (dropM c st a) r1).st b) (List.replicate ws.length 0) (runM ws (dropM c st a) r1).hd := by
    rw [e0, run_add hb ok1.toMoF hbq.1 len0 q1.1.lt]
    refine mo_ext (c := c) (addM_F ok1'.toMoF hbq.1 (by rw [List.length_replicate]; omega)) (addM_F ok2.toMoF List.length_replicate (by show _ = (List.replicate c.toNat (0 : Int)).length; rw [List.length_replicate]; omega)) (fun u hu => rfl) (fun u hu => ?_) (fun u => ?_)
    · show (plusL (runM ws (dropM c st a) r1).wt b).getD u 0 = (plusL b (List.replicate ws.length 0)).getD u 0
      rw [plusL_at (by rw [ok1'.wl, hbq.1]), plusL_at (by rw [List.length_replicate, hbq.1]), q1.2 u hu, zeros_at]
      omega
    · show (plusL (runM ws (dropM c st a) r1).hd (List.replicate c.toNat 0)).getD u 0 = (plusL (List.replicate c.toNat 0) (runM ws (dropM c st a) r1).hd).getD u 0
      rw [plusL_at (by rw [List.length_replicate]; omega), plusL_at (by rw [List.length_replicate]; omega), zeros_at]
      omega
  have l2 := let_add hb (b := List.replicate ws.length 0) List.length_replicate (fun u hu => by rw [zeros_at]; exact Int.le_refl _) r2 (dropM c (runM ws (dropM c st a) r1).st b) (e := (runM ws (dropM c st a) r1).hd) ok2.toMoF (by show _ = (List.replicate c.toNat (0 : Int)).length; rw [List.length_replicate]; omega) q2.1
  have e2 : runM ws (dropM c st (plusL a b)) (r1 ++ r2) = addM (runM ws (dropM c (runM ws (dropM c st a) r1).st b) r2) (List.replicate ws.length 0) (runM ws (dropM c st a) r1).hd := by
    rw [runM_app, e1, run_add hb ok2.toMoF List.length_replicate (by show _ = (List.replicate c.toNat (0 : Int)).length; rw [List.length_replicate]; omega) q2.1.lt]
  have e3 : addM (runM ws (dropM c (runM ws (dropM c st a) r1).st b) r2) (List.replicate ws.length 0) (runM ws (dropM c st a) r1).hd = ⟨(runM ws (dropM c (runM ws (dropM c st a) r1).st b) r2).st, (runM ws (dropM c (runM ws (dropM c st a) r1).st b) r2).wt, plusL (runM ws (dropM c (runM ws (dropM c st a) r1).st b) r2).hd (runM ws (dropM c st a) r1).hd⟩ := by
    have hz : ∀ (l : List Int) (n : Nat), l.length = n → plusL l (List.replicate n 0) = l := fun l n hn => by
      subst hn
      induction l with
      | nil => rfl
      | cons x l ih => rw [List.length_cons, List.replicate_succ]; show (x + 0) :: plusL l _ = _; rw [ih, Int.add_zero]
    show (⟨_, plusL _ _, _⟩ : Mo) = _
    rw [hz _ _ ok2'.wl]
  refine ⟨⟨LetR.app.mpr ⟨by rw [e0]; exact l1, by rw [e1]; exact l2⟩, fun u hu => ?_⟩, e2.trans e3⟩
  rw [e2, e3]
  exact q2.2 u hu
theorem cntL_app {n : Nat} {a b : List Nat} : cntL n (a ++ b) = plusL (cntL n a) (cntL n b) := by
  refine List.ext_getElem (by rw [plusL_len (by rw [cntL_len, cntL_len]), cntL_len, cntL_len]) fun i h1 h2 => ?_
  have hi : i < n := by rw [cntL_len] at h1; exact h1
  have e : (cntL n (a ++ b)).getD i 0 = (plusL (cntL n a) (cntL n b)).getD i 0 := by
    rw [plusL_at (by rw [cntL_len, cntL_len]), cntL_at hi, cntL_at hi, cntL_at hi, List.count_append]
    omega
  rw [List.getD_eq_getElem?_getD, List.getD_eq_getElem?_getD, List.getElem?_eq_getElem h1, List.getElem?_eq_getElem h2] at e
  exact e
theorem cntL_same {n : Nat} {a b : List Nat} (h : ∀ u, a.count u = b.count u) : cntL n a = cntL n b := by
  unfold cntL
  exact List.map_congr_left fun u _ => by rw [h u]
end QX
set_option maxRecDepth 100000
set_option maxHeartbeats 1000000
namespace QX
open PySem PySem.Spec PyProof PyProof.Rows L2 HX QX.Det
def dropsD (l : List Int) : D := .tup [.str "drops", stepT l]
abbrev pen7 (x y z a1 a2 a3 a4 : Int) : Mem := [.lst [.int x, .int y, .int z], .lst [.tup [.int a1, .int a2], .tup [.int a3, .int a4]]]
structure F45 (a b : List (List Int)) : Prop where
  ok : BoardOk [a, b] 1
  so : (solB [a, b] 1).isSome = true
  all : ∃ L : List (List Int), ∀ x y z a1 a2 a3 a4, m_all_again bigFuel [boardT [a, b] 1] (pen7 x y z a1 a2 a3 a4) = .ok (.tup (([0, 0] :: L).map stepT)) (pen7 x y z a1 a2 a3 a4)
  many : ∃ q : Int, ∀ x y z a1 a2 a3 a4, m_how_many [boardT [a, b] 1] (pen7 x y z a1 a2 a3 a4) = .ok (.int q) (pen7 x y z a1 a2 a3 a4)
  again : ∀ i j : Nat, i < a.length → j < b.length → ∀ x y z a1 a2 a3 a4, m_is_again bigFuel [boardT [a, b] 1, stepT [(i : Int), (j : Int)]] (pen7 x y z a1 a2 a3 a4) = .ok (.bl true) (pen7 x y z a1 a2 a3 a4)
  back : ∀ w : Nat, w < 2 → ∃ l : List Int, ∀ x y z a1 a2 a3 a4, m_back bigFuel [boardT [a, b] 1, stepT [0, 0], .int (w : Int)] (pen7 x y z a1 a2 a3 a4) = .ok (stepT l) (pen7 x y z a1 a2 a3 a4)
  least : ∀ i j : Nat, i < a.length → j < b.length → ∀ i' j' : Nat, i' < a.length → j' < b.length → ∃ l : List Int, ∀ x y z a1 a2 a3 a4, m_least_drops bigFuel [boardT [a, b] 1, stepT [(i : Int), (j : Int)], stepT [(i' : Int), (j' : Int)]] (pen7 x y z a1 a2 a3 a4) = .ok (dropsD l) (pen7 x y z a1 a2 a3 a4) ∧ m_shows_drops bigFuel [boardT [a, b] 1, stepT [(i : Int), (j : Int)], stepT [(i' : Int), (j' : Int)], dropsD l] (pen7 x y z a1 a2 a3 a4) = .ok (.bl true) (pen7 x y z a1 a2 a3 a4)
def st2 (n m : Nat) : List (List Int) := (List.range n).flatMap fun (i : Nat) => (List.range m).map fun (j : Nat) => [(i : Int), (j : Int)]
theorem map_at {α β γ : Type} {f : α → γ} {g : β → γ} : ∀ {ts : List α} {ls : List β}, ts.map f = ls.map g → ∀ t ∈ ts, ∃ l, (t, l) ∈ ts.zip ls ∧ f t = g l
  | [], _, _, t, ht => by simp at ht
  | t0 :: ts, [], h, _, _ => by simp at h
  | t0 :: ts, l0 :: ls, h, t, ht => by
    simp only [List.map_cons, List.cons.injEq] at h
    rcases List.mem_cons.mp ht with rfl | ht
    · exact ⟨l0, by simp, h.1⟩
    · obtain ⟨l, a, b⟩ := map_at h.2 t ht
      exact ⟨l, by simp [a], b⟩
end QX
set_option maxRecDepth 100000
set_option maxHeartbeats 1000000
set_option exponentiation.threshold 5000
namespace QX
open PySem PySem.Spec PyProof.Rows L2 HX QX.Det
variable {ws ws1 ws2 : List (List (List Int))} {c : Int} {q q1 q2 : Int} {ls ls1 ls2 : List (List Int)} {lk : List (Option Int)} {c2 : Nat}
theorem fN_lo {n1 n2 : Nat} {ls : List (Option Int)} {e : Int} (h0 : 0 ≤ e) (h1 : e < n1) : (firstNum n1 n2 ls).getD e.toNat 0 = e := by
  rw [List.getD_eq_getElem?_getD, firstNum, List.getElem?_append_left (by rw [upTo_len]; omega), upTo_at _ _ _ (by omega)]
  simp
  omega
theorem fN_hi {n1 n2 : Nat} {ls : List (Option Int)} {e : Int} {l : Option Int} (h1 : (n1 : Int) ≤ e) (hl : ls[(e - n1).toNat]? = some l) : (firstNum n1 n2 ls).getD e.toNat 0 = match l with | none => (n1 : Int) + n2 + nones (ls.take (e - n1).toNat) | some j => n1 + j := by
  rw [List.getD_eq_getElem?_getD, firstNum, List.getElem?_append_right (by rw [upTo_len]; omega), upTo_len, show e.toNat - n1 = (e - n1).toNat by omega, cupsNum_at _ _ _ _ _ hl]
  cases l <;> rfl
theorem sN_lo {n1 n2 k c : Nat} {e : Int} (h0 : 0 ≤ e) (h1 : e < n2) : (secNum n1 n2 k c).getD e.toNat 0 = e + n1 := by
  rw [List.getD_eq_getElem?_getD, secNum, List.getElem?_append_left (by rw [upTo_len]; omega), upTo_at _ _ _ (by omega)]
  simp
  omega
theorem sN_hi {n1 n2 k c : Nat} {e : Int} (h0 : (n2 : Int) ≤ e) (h1 : e < n2 + c) : (secNum n1 n2 k c).getD e.toNat 0 = e + n1 + k := by
  rw [List.getD_eq_getElem?_getD, secNum, List.getElem?_append_right (by rw [upTo_len]; omega), upTo_len, upTo_at _ _ _ (by omega)]
  simp
  omega
theorem nones_tk (ls : List (Option Int)) (u : Nat) (hu : ls[u]? = some none) : nones (ls.take u) < nones ls := by
  have h : nones (ls.take (u + 1)) ≤ nones ls := by
    have := nones_append (ls.take (u + 1)) (ls.drop (u + 1))
    rw [List.take_append_drop] at this
    omega
  rw [List.take_add_one, hu, nones_append] at h
  have : nones [none] = 1 := rfl
  simp only [Option.toList_some] at h
  omega
theorem renum_wheel {n : Int} {f : List Int} {ws : List (List (List Int))} {N : Int} (ho : ∀ w ∈ ws, WheelOk n w) (hf : ∀ e : Int, 0 ≤ e → e < n → 0 ≤ f.getD e.toNat 0 ∧ f.getD e.toNat 0 < N) : ∀ w ∈ renumW f ws, WheelOk N w := by
  intro w hw
  obtain ⟨u, hu, rfl⟩ := List.mem_map.mp hw
  obtain ⟨a, b, c⟩ := ho u hu
  refine ⟨by rw [List.length_map]; exact a, by rw [List.length_map]; exact b, fun s hs => ?_⟩
  obtain ⟨v, hv, rfl⟩ := List.mem_map.mp hs
  obtain ⟨q, r⟩ := c v hv
  refine ⟨by rw [List.length_map]; exact q, fun e he => ?_⟩
  obtain ⟨x, hx, rfl⟩ := List.mem_map.mp he
  exact hf x (r x hx).1 (r x hx).2
structure Jn (ws1 ws2 : List (List (List Int))) (lk : List (Option Int)) (c2 : Nat) : Prop where
  b1 : BoardOk ws1 (lk.length : Nat)
  b2 : BoardOk ws2 (c2 : Nat)
  lo : LinksOk ws2.length lk
  w6 : ws1.length + ws2.length ≤ 6
  c4 : nones lk + c2 ≤ 4
theorem Jn.first (h : Jn ws1 ws2 lk c2) (e : Int) (h0 : 0 ≤ e) (h1 : e < (ws1.length : Int) + (lk.length : Nat)) : 0 ≤ (firstNum ws1.length ws2.length lk).getD e.toNat 0 ∧ (firstNum ws1.length ws2.length lk).getD e.toNat 0 < ((ws1.length + ws2.length : Nat) : Int) + (nones lk + c2 : Nat) := by
  by_cases hlt : e < ws1.length
  · rw [fN_lo h0 hlt]; omega
  · obtain ⟨l, hk⟩ : ∃ l, lk[(e - ws1.length).toNat]? = some l := ⟨_, List.getElem?_eq_getElem (by omega)⟩
    rw [fN_hi (by omega) hk]
    cases l with
    | none =>
      have := nones_tk lk _ hk
      dsimp only
      omega
    | some j =>
      have := h.lo _ (List.mem_of_getElem? hk) j rfl
      dsimp only
      omega
theorem Jn.second (h : Jn ws1 ws2 lk c2) (e : Int) (h0 : 0 ≤ e) (h1 : e < (ws2.length : Int) + (c2 : Nat)) : 0 ≤ (secNum ws1.length ws2.length (nones lk) c2).getD e.toNat 0 ∧ (secNum ws1.length ws2.length (nones lk) c2).getD e.toNat 0 < ((ws1.length + ws2.length : Nat) : Int) + (nones lk + c2 : Nat) := by
  by_cases hlt : e < ws2.length
  · rw [sN_lo h0 hlt]; omega
  · rw [sN_hi (by omega) h1]; omega
theorem joinW_len : (joinW ws1 ws2 lk c2).length = ws1.length + ws2.length := by rw [joinW, List.length_append, renumW_len, renumW_len]
theorem Jn.board (h : Jn ws1 ws2 lk c2) : BoardOk (joinW ws1 ws2 lk c2) (nones lk + c2 : Nat) := by
  have a1 := h.b1.w1
  refine ⟨by rw [joinW_len]; omega, by rw [joinW_len]; exact h.w6, by omega, by have := h.c4; omega, fun w hw => ?_⟩
  rw [joinW_len]
  rcases List.mem_append.mp hw with hh | hh
  · exact renum_wheel h.b1.wheels h.first w hh
  · exact renum_wheel h.b2.wheels h.second w hh
theorem join_lo {i : Nat} (hi : i < ws1.length) : (joinW ws1 ws2 lk c2).getD i [] = (ws1.getD i []).map fun s => s.map fun e => (firstNum ws1.length ws2.length lk).getD e.toNat 0 := by
  rw [joinW, List.getD_eq_getElem?_getD, List.getElem?_append_left (by rw [renumW_len]; exact hi), renumW, List.getElem?_map, List.getD_eq_getElem?_getD, List.getElem?_eq_getElem hi]
  rfl
end QX
set_option maxRecDepth 100000
set_option maxHeartbeats 1000000
namespace QX
open PySem PySem.Spec PyProof.Rows L2 HX QX.Det
variable {ws wJ ws1 ws2 : List (List (List Int))} {c cJ : Int} {m mJ : Mo} {lk : List (Option Int)} {c2 off : Nat} {g : Nat → Nat} {B S : Nat → Int}
def vec (ws : List (List (List Int))) (m : Mo) (e : Nat) : Int := if e < ws.length then m.wt.getD e 0 else m.hd.getD (e - ws.length) 0
theorem ends_in (hb : BoardOk ws c) (hm : MoF ws c m) {w : Nat} (hw : w < ws.length) : ∀ x ∈ endsAt ws m.st w, 0 ≤ x ∧ x < (ws.length : Int) + c := by
  have hns : w < m.st.length := by rw [hm.sl]; exact hw
  have ewn : ws[w]? = some (ws.getD w []) := by rw [List.getD_eq_getElem?_getD, List.getElem?_eq_getElem hw]; rfl
  have esn : m.st[w]? = some (m.st.getD w 0) := by rw [List.getD_eq_getElem?_getD, List.getElem?_eq_getElem hns]; rfl
  obtain ⟨s0, s1⟩ := hm.sr w _ _ esn ewn
  obtain ⟨x1, x4, wok⟩ := hb.wheels _ (List.mem_of_getElem? ewn)
  intro x hx
  have hmm : endsAt ws m.st w ∈ ws.getD w [] := by
    unfold endsAt
    have hlt : (m.st.getD w 0).toNat < (ws.getD w []).length := by omega
    rw [List.getD_eq_getElem?_getD (l := ws.getD w []), List.getElem?_eq_getElem hlt]
    exact List.getElem_mem hlt
  exact (wok _ hmm).2 x hx
theorem handle_vec (hb : BoardOk ws c) (hm : MoF ws c m) {w : Nat} (hw : w < ws.length) (e : Nat) : vec ws (handleM ws m w) e = vec ws m e + HX.cnt (endsAt ws m.st w) e - if w = e then 1 else 0 := by
  obtain ⟨g1, g2⟩ := send_get (W := ws.length) (endsAt ws m.st w) (bump m.wt w (-1), m.hd) (fun x hx => by rw [hm.hl]; exact ends_in hb hm hw x hx) (bump_len.trans hm.wl)
  unfold vec
  by_cases he : e < ws.length
  · rw [if_pos he, if_pos he]
    have e1 : (handleM ws m w).wt.getD e 0 = (bump m.wt w (-1)).getD e 0 + HX.cnt (endsAt ws m.st w) e := g1 e he
    rw [e1, bump_get (by rw [hm.wl]; exact hw)]
    split <;> omega
  · rw [if_neg he, if_neg he]
    have e1 : (handleM ws m w).hd.getD (e - ws.length) 0 = m.hd.getD (e - ws.length) 0 + HX.cnt (endsAt ws m.st w) (ws.length + (e - ws.length)) := g2 _
    rw [e1, show ws.length + (e - ws.length) = e by omega, if_neg (by omega)]
    omega
theorem sumTo_add (n : Nat) {f h : Nat → Int} : sumTo n (fun u => f u + h u) = sumTo n f + sumTo n h := by
  induction n with
  | zero => rfl
  | succ n ih =>
    show sumTo n (fun u => f u + h u) + (f n + h n) = (sumTo n f + f n) + (sumTo n h + h n)
    rw [ih]
    omega
theorem sumTo_zero (n : Nat) {f : Nat → Int} (h : ∀ u, u < n → f u = 0) : sumTo n f = 0 := by
  induction n with
  | zero => rfl
  | succ n ih => show sumTo n _ + _ = 0; rw [ih fun u hu => h u (by omega), h n (by omega)]; rfl
theorem sumTo_at {n a : Nat} {f : Nat → Int} (ha : a < n) (h : ∀ u, u < n → u ≠ a → f u = 0) : sumTo n f = f a := by
  rw [sumTo_one n (g := fun _ => 0) ha h, sumTo_zero n fun _ _ => rfl]
  omega
theorem sumTo_split (a : Nat) {f : Nat → Int} : ∀ b : Nat, sumTo (a + b) f = sumTo a f + sumTo b fun i => f (a + i)
  | 0 => by show sumTo a f = sumTo a f + 0; omega
  | b + 1 => by
    show sumTo (a + b) f + f (a + b) = sumTo a f + (sumTo b _ + f (a + b))
    rw [sumTo_split a b]
    omega
def over (g : Nat → Nat) (n : Nat) (f : Nat → Int) (e : Nat) : Int := sumTo n fun e' => if g e' = e then f e' else 0
theorem over_add {n : Nat} {f h : Nat → Int} {e : Nat} : over g n (fun u => f u + h u) e = over g n f e + over g n h e := by
  unfold over
  rw [← sumTo_add]
  refine sumTo_congr n fun u _ => ?_
  show (if g u = e then f u + h u else 0) = (if g u = e then f u else 0) + if g u = e then h u else 0
  split <;> omega
theorem over_congr {n : Nat} {f h : Nat → Int} {e : Nat} (q : ∀ u, u < n → f u = h u) : over g n f e = over g n h e := sumTo_congr n fun u hu => by rw [q u hu]
theorem over_one {n a e : Nat} (ha : a < n) : over g n (fun u => if a = u then 1 else 0) e = if g a = e then 1 else 0 := by
  unfold over
  rw [sumTo_at ha (fun u _ hu => by
    show (if g u = e then (if a = u then (1 : Int) else 0) else 0) = 0
    rw [if_neg (fun z : a = u => hu z.symm)]
    split <;> rfl)]
  show (if g a = e then (if a = a then (1 : Int) else 0) else 0) = _
  rw [if_pos rfl]
theorem over_cnt {n e : Nat} : ∀ es : List Int, (∀ x ∈ es, 0 ≤ x ∧ x.toNat < n) → HX.cnt (es.map fun x => ((g x.toNat : Nat) : Int)) e = over g n (HX.cnt es) e
  | [], _ => by
    unfold over
    rw [sumTo_zero n fun u _ => by split <;> rfl]
    rfl
  | x :: es, h => by
    obtain ⟨h0, h1⟩ := h x (List.mem_cons_self ..)
    have e1 : over g n (HX.cnt (x :: es)) e = over g n (fun u => HX.cnt es u + if x.toNat = u then 1 else 0) e := over_congr fun u _ => by
      rw [HX.cnt_cons]
      by_cases z : x = (u : Int)
      · rw [if_pos z, if_pos (by omega)]
      · rw [if_neg z, if_neg (by omega)]
    rw [e1, over_add, over_one h1, List.map_cons, HX.cnt_cons, over_cnt es fun y hy => h y (List.mem_cons_of_mem _ hy)]
    congr 1
    by_cases z : g x.toNat = e
    · rw [if_pos z, if_pos (by rw [z])]
    · rw [if_neg z, if_neg (by omega)]
structure InB (wJ ws : List (List (List Int))) (cJ c : Int) (off : Nat) (g : Nat → Nat) : Prop where
  bJ : BoardOk wJ cJ
  b : BoardOk ws c
  fit : off + ws.length ≤ wJ.length
  wh : ∀ i, i < ws.length → wJ.getD (off + i) [] = (ws.getD i []).map fun s => s.map fun e => ((g e.toNat : Nat) : Int)
  lo : ∀ i, i < ws.length → g i = off + i
  hi : ∀ e, ws.length ≤ e → e < Wid ws c → ∀ u, u < ws.length → g e ≠ off + u
structure Rl (wJ ws : List (List (List Int))) (cJ c : Int) (off : Nat) (g : Nat → Nat) (B S : Nat → Int) (mJ m : Mo) : Prop where
  fJ : MoF wJ cJ mJ
  f : MoF ws c m
  st : ∀ u, u < ws.length → mJ.st.getD (off + u) 0 = m.st.getD u 0
  so : ∀ u, (u < off ∨ off + ws.length ≤ u) → mJ.st.getD u 0 = S u
  v : ∀ e, vec wJ mJ e = B e + over g (Wid ws c) (vec ws m) e
theorem InB.over_lo (h : InB wJ ws cJ c off g) {f : Nat → Int} {u : Nat} (hu : u < ws.length) : over g (Wid ws c) f (off + u) = f u := by
  have c0 := h.b.c0
  unfold over
  rw [sumTo_at (a := u) (by unfold Wid; omega) (fun e he hne => ?_)]
  · rw [if_pos (h.lo u hu)]
  · rw [if_neg]
    by_cases z : e < ws.length
    · rw [h.lo e z]; omega
    · exact h.hi e (by omega) he u hu
theorem Rl.wt (r : Rl wJ ws cJ c off g B S mJ m) (h : InB wJ ws cJ c off g) (hB : ∀ u, u < ws.length → B (off + u) = 0) {u : Nat} (hu : u < ws.length) : mJ.wt.getD (off + u) 0 = m.wt.getD u 0 := by
  have e := r.v (off + u)
  rw [h.over_lo hu, hB u hu] at e
  unfold vec at e
  have := h.fit
  rw [if_pos (by omega), if_pos hu] at e
  omega
theorem map_getD {α β : Type} {l : List α} {f : α → β} {i : Nat} {a : α} {b : β} (h : f a = b) : (l.map f).getD i b = f (l.getD i a) := by
  rw [List.getD_eq_getElem?_getD, List.getD_eq_getElem?_getD, List.getElem?_map]
  cases l[i]? <;> simp [h]
theorem Rl.ends (r : Rl wJ ws cJ c off g B S mJ m) (h : InB wJ ws cJ c off g) {n : Nat} (hn : n < ws.length) : endsAt wJ mJ.st (off + n) = (endsAt ws m.st n).map fun e => ((g e.toNat : Nat) : Int) := by
  unfold endsAt
  rw [h.wh n hn, r.st n hn]
  exact map_getD (l := ws.getD n []) (f := fun s : List Int => s.map fun e => ((g e.toNat : Nat) : Int)) (a := []) (b := []) rfl
theorem Rl.handle (r : Rl wJ ws cJ c off g B S mJ m) (h : InB wJ ws cJ c off g) {n : Nat} (hn : n < ws.length) : Rl wJ ws cJ c off g B S (handleM wJ mJ (off + n)) (handleM ws m n) := by
  have hf := h.fit
  have c0 := h.b.c0
  refine ⟨r.fJ.handle fun x hx => (h.bJ.wheels x hx).1, r.f.handle fun x hx => (h.b.wheels x hx).1, fun u hu => ?_, fun u hu => ?_, fun e => ?_⟩
  · show (mJ.st.set (off + n) _).getD (off + u) 0 = (m.st.set n _).getD u 0
    by_cases z : n = u
    · subst z
      rw [gset_self (by rw [r.fJ.sl]; omega), gset_self (by rw [r.f.sl]; exact hn), r.st n hn, h.wh n hn, List.length_map]
    · rw [gset_ne (by omega), gset_ne z, r.st u hu]
  · show (mJ.st.set (off + n) _).getD u 0 = S u
    rw [gset_ne (by omega), r.so u hu]
  · have ov : over g (Wid ws c) (vec ws (handleM ws m n)) e = over g (Wid ws c) (vec ws m) e + over g (Wid ws c) (HX.cnt (endsAt ws m.st n)) e - if g n = e then 1 else 0 := by
      have e1 : over g (Wid ws c) (vec ws m) e + over g (Wid ws c) (HX.cnt (endsAt ws m.st n)) e = over g (Wid ws c) (vec ws (handleM ws m n)) e + over g (Wid ws c) (fun u => if n = u then 1 else 0) e := by
        rw [← over_add, ← over_add]
        refine over_congr fun u _ => ?_
        rw [handle_vec h.b r.f hn u]
        omega
      rw [over_one (by unfold Wid; omega)] at e1
      omega
    rw [handle_vec h.bJ r.fJ (by omega) e, r.v e, ov, r.ends h hn, over_cnt (n := Wid ws c) _ fun x hx => ?_, h.lo n hn]
    · omega
    · obtain ⟨q1, q2⟩ := ends_in h.b r.f hn x hx
      exact ⟨q1, by unfold Wid; omega⟩
theorem Rl.run (h : InB wJ ws cJ c off g) (hB : ∀ u, u < ws.length → B (off + u) = 0) : ∀ (row : List Nat) (mJ m : Mo), Rl wJ ws cJ c off g B S mJ m → LetR ws m row → LetR wJ mJ (row.map (off + ·)) ∧ Rl wJ ws cJ c off g B S (runM wJ mJ (row.map (off + ·))) (runM ws m row)
  | [], mJ, m, r, _ => ⟨trivial, r⟩
  | n :: row, mJ, m, r, ⟨h1, h2, h3⟩ => by
    obtain ⟨a, b⟩ := Rl.run h hB row _ _ (r.handle h h1) h3
    have := h.fit
    refine ⟨⟨by show off + n < _; omega, ?_, a⟩, b⟩
    show 0 < mJ.wt.getD (off + n) 0
    rw [r.wt h hB h1]
    exact h2
def g1 (n1 n2 : Nat) (lk : List (Option Int)) : Nat → Nat := fun e => ((firstNum n1 n2 lk).getD e 0).toNat
def g2 (n1 n2 k c2 : Nat) : Nat → Nat := fun e => ((secNum n1 n2 k c2).getD e 0).toNat
theorem g1_lo {n1 n2 e : Nat} (h : e < n1) : g1 n1 n2 lk e = e := by
  have := fN_lo (n1 := n1) (n2 := n2) (ls := lk) (e := (e : Int)) (by omega) (by omega)
  rw [Int.toNat_natCast] at this
  unfold g1
  rw [this, Int.toNat_natCast]
def cupN (n1 n2 : Nat) (lk : List (Option Int)) (cup : Nat) : Nat := match lk.getD cup none with | none => n1 + n2 + nones (lk.take cup) | some j => ((n1 : Int) + j).toNat
theorem cupN_none {n1 n2 cup : Nat} (h : lk.getD cup none = none) : cupN n1 n2 lk cup = n1 + n2 + nones (lk.take cup) := by unfold cupN; rw [h]
theorem cupN_some {n1 n2 cup : Nat} {j : Int} (h : lk.getD cup none = some j) : cupN n1 n2 lk cup = ((n1 : Int) + j).toNat := by unfold cupN; rw [h]
theorem g1_cup {n1 n2 cup : Nat} (h : cup < lk.length) : g1 n1 n2 lk (n1 + cup) = cupN n1 n2 lk cup := by
  have e0 : (((n1 + cup : Nat) : Int) - n1).toNat = cup := by omega
  have e1 : lk[cup]? = some (lk.getD cup none) := by rw [List.getD_eq_getElem?_getD, List.getElem?_eq_getElem h]; rfl
  unfold g1
  cases e : lk.getD cup none with
  | none =>
    have := fN_hi (n1 := n1) (n2 := n2) (ls := lk) (e := ((n1 + cup : Nat) : Int)) (l := none) (by omega) (by rw [e0, e1, e])
    rw [Int.toNat_natCast] at this
    rw [this, cupN_none e]
    dsimp only
    rw [e0]
    omega
  | some j =>
    have := fN_hi (n1 := n1) (n2 := n2) (ls := lk) (e := ((n1 + cup : Nat) : Int)) (l := some j) (by omega) (by rw [e0, e1, e])
    rw [Int.toNat_natCast] at this
    rw [this, cupN_some e]
theorem wheel_in (hb : BoardOk ws c) {i : Nat} (hi : i < ws.length) : ∀ s ∈ ws.getD i [], ∀ e ∈ s, 0 ≤ e ∧ e < (ws.length : Int) + c := fun s hs e he => by
  have hm : ws.getD i [] ∈ ws := by rw [List.getD_eq_getElem?_getD, List.getElem?_eq_getElem hi]; exact List.getElem_mem hi
  exact ((hb.wheels _ hm).2.2 s hs).2 e he
theorem Jn.in1 (h : Jn ws1 ws2 lk c2) : InB (joinW ws1 ws2 lk c2) ws1 (nones lk + c2 : Nat) (lk.length : Nat) 0 (g1 ws1.length ws2.length lk) := by
  refine ⟨h.board, h.b1, by rw [joinW_len]; omega, fun i hi => ?_, fun i hi => by rw [g1_lo hi]; omega, fun e h1 h2 u hu => ?_⟩
  · rw [Nat.zero_add, join_lo hi]
    refine List.map_congr_left fun s hs => List.map_congr_left fun e he => ?_
    obtain ⟨q0, q1⟩ := wheel_in h.b1 hi s hs e he
    have := (h.first e q0 q1).1
    unfold g1
    omega
  · obtain ⟨cup, rfl⟩ : ∃ cup, e = ws1.length + cup := ⟨e - ws1.length, by omega⟩
    have hc : cup < lk.length := by unfold Wid at h2; omega
    rw [g1_cup hc]
    cases e1 : lk.getD cup none with
    | none => rw [cupN_none e1]; omega
    | some j =>
      rw [cupN_some e1]
      have hm : lk.getD cup none ∈ lk := by rw [List.getD_eq_getElem?_getD, List.getElem?_eq_getElem hc]; exact List.getElem_mem hc
      have := h.lo _ hm j e1
      omega
theorem vec_cup {cup : Nat} : vec ws m (ws.length + cup) = m.hd.getD cup 0 := by
  unfold vec
  rw [if_neg (by omega), Nat.add_sub_cancel_left]
theorem vec_wt {u : Nat} (hu : u < ws.length) : vec ws m u = m.wt.getD u 0 := if_pos hu
end QX
set_option maxRecDepth 100000
set_option maxHeartbeats 1000000
set_option exponentiation.threshold 5000
namespace QX
open PySem PySem.Spec PyProof PyProof.Rows L2 HX QX.Det
variable {M : Mem} {σ : Sa} {ws ws1 ws2 : List (List (List Int))} {c : Int} {m : Mo} {q : Int} {ls : List (List Int)} {lk : List (Option Int)}
theorem cnt_le3 (hb : BoardOk ws c) (hm : MoF ws c m) {w : Nat} (hw : w < ws.length) (e : Nat) : HX.cnt (endsAt ws m.st w) e ≤ 3 := by
  have hns : w < m.st.length := by rw [hm.sl]; exact hw
  have ewn : ws[w]? = some (ws.getD w []) := by rw [List.getD_eq_getElem?_getD, List.getElem?_eq_getElem hw]; rfl
  have esn : m.st[w]? = some (m.st.getD w 0) := by rw [List.getD_eq_getElem?_getD, List.getElem?_eq_getElem hns]; rfl
  obtain ⟨s0, s1⟩ := hm.sr w _ _ esn ewn
  obtain ⟨x1, x4, wok⟩ := hb.wheels _ (List.mem_of_getElem? ewn)
  have hmm : endsAt ws m.st w ∈ ws.getD w [] := by
    unfold endsAt
    have hlt : (m.st.getD w 0).toNat < (ws.getD w []).length := by omega
    rw [List.getD_eq_getElem?_getD (l := ws.getD w []), List.getElem?_eq_getElem hlt]
    exact List.getElem_mem hlt
  have h1 := (wok _ hmm).1
  have h2 : (endsAt ws m.st w).count (e : Int) ≤ (endsAt ws m.st w).length := List.count_le_length
  unfold HX.cnt
  omega
theorem hd_few (hb : BoardOk ws c) : ∀ (row : List Nat) (m : Mo), MoF ws c m → (∀ n ∈ row, n < ws.length) → ∀ j, (runM ws m row).hd.getD j 0 ≤ m.hd.getD j 0 + 3 * row.length
  | [], m, _, _, j => by rw [runM_nil]; simp
  | n :: r, m, mf, hr, j => by
    have hn := hr n (List.mem_cons_self ..)
    rw [runM_cons]
    have h1 := hd_few hb r _ (mf.handle (w := n) fun x hx => (hb.wheels x hx).1) (fun x hx => hr x (List.mem_cons_of_mem _ hx)) j
    have h2 := handle_vec hb mf hn (ws.length + j)
    rw [vec_cup, vec_cup, if_neg (by omega)] at h2
    have h3 := cnt_le3 hb mf hn (ws.length + j)
    rw [List.length_cons]
    omega
end QX
set_option maxRecDepth 100000
set_option maxHeartbeats 1000000
set_option exponentiation.threshold 5000
namespace QX
open PySem PySem.Spec PyProof PyProof.Rows L2 HX QX.Det
variable {ws : List (List (List Int))} {c : Int} {q : Int} {ls : List (List Int)} {st s0 now cups ends es : List Int} {w w0 : Nat} {e : Int} {pre : List Nat}
def oneL (n w : Nat) : List Int := (List.range n).map fun i => if i = w then 1 else 0
theorem oneL_at {n w u : Nat} (hu : u < n) : (oneL n w).getD u 0 = if u = w then 1 else 0 := range_getD _ hu
theorem oneL_len {n w : Nat} : (oneL n w).length = n := by rw [oneL, List.length_map, List.length_range]
theorem oneQ : DsQ ws 1 (oneL ws.length w) := ⟨oneL_len, fun z hz => by
  obtain ⟨i, _, rfl⟩ := List.mem_map.mp hz
  split <;> omega⟩
noncomputable def rowF (ws : List (List (List Int))) (c : Int) (st : List Int) (w : Nat) : List Nat := by
  classical
  exact if h : ∃ row, Rest ws (dropM c st (oneL ws.length w)) row then h.choose else []
theorem rowF_rest (hb : BoardOk ws c) (hs : solB ws c = some (q, ls)) (h1 : StQ ws st) : Rest ws (dropM c st (oneL ws.length w)) (rowF ws c st w) := by
  have h := rests hb hs (drop_ok hb h1 (oneQ (ws := ws) (w := w)))
  unfold rowF
  rw [dif_pos h]
  exact h.choose_spec
noncomputable def fallM (ws : List (List (List Int))) (c : Int) (st : List Int) (w : Nat) : Mo := runM ws (dropM c st (oneL ws.length w)) (rowF ws c st w)
noncomputable def fallN (ws : List (List (List Int))) (c : Int) (st : List Int) (w : Nat) : Nat := (rowF ws c st w).length
theorem fall_same (hb : BoardOk ws c) (hs : solB ws c = some (q, ls)) (h1 : StQ ws st) {row : List Nat} (hr : Rest ws (dropM c st (oneL ws.length w)) row) : runM ws (dropM c st (oneL ws.length w)) row = fallM ws c st w ∧ row.length = fallN ws c st w := by
  have mf := (drop_ok hb h1 (oneQ (ws := ws) (w := w))).toMoF
  refine ⟨Rest.same hb mf hr (rowF_rest hb hs h1), ?_⟩
  exact (List.perm_iff_count.mpr fun u => Rest.counts hb mf hr (rowF_rest hb hs h1) u).length_eq
theorem fallM_ok (hb : BoardOk ws c) (hs : solB ws c = some (q, ls)) (h1 : StQ ws st) : MoOk ws c (fallM ws c st w) := (rowF_rest hb hs h1).1.ok (fun x hx => (hb.wheels x hx).1) (drop_ok hb h1 oneQ)
theorem stQ_of {m : Mo} (h : MoF ws c m) : StQ ws m.st := ⟨h.sl, h.sr⟩
structure Fr (ws : List (List (List Int))) (c : Int) (s0 : List Int) (w0 : Nat) (pre : List Nat) (now cups ends : List Int) : Prop where
  h1 : StQ ws s0
  hw : w0 < ws.length
  lt : LetR ws (dropM c s0 (oneL ws.length w0)) (w0 :: pre)
  st : (runM ws (dropM c s0 (oneL ws.length w0)) (w0 :: pre)).st = now
  wt : ∀ u, u < ws.length → (runM ws (dropM c s0 (oneL ws.length w0)) (w0 :: pre)).wt.getD u 0 = HX.cnt ends u
  hd : ∀ k, (runM ws (dropM c s0 (oneL ws.length w0)) (w0 :: pre)).hd.getD k 0 = cups.getD k 0 + HX.cnt ends (ws.length + k)
  cl : cups.length = c.toNat
  en : ∀ e ∈ ends, 0 ≤ e ∧ e < (ws.length : Int) + c
theorem rep0g {n u : Nat} : (List.replicate n (0 : Int)).getD u 0 = 0 := by
  rw [List.getD_eq_getElem?_getD]
  by_cases h : u < n
  · rw [List.getElem?_replicate_of_lt h]; rfl
  · rw [List.getElem?_eq_none (by rw [List.length_replicate]; omega)]; rfl
theorem Fr.new (hb : BoardOk ws c) (h1 : StQ ws st) (hw : w < ws.length) : Fr ws c st w [] (st.set w ((st.getD w 0 + 1) % ((ws.getD w []).length : Int))) (List.replicate c.toNat 0) (endsAt ws st w) := by
  have mf := (drop_ok hb h1 (oneQ (ws := ws) (w := w))).toMoF
  have hv := fun e => handle_vec hb mf hw e
  refine ⟨h1, hw, ⟨hw, ?_, trivial⟩, rfl, fun u hu => ?_, fun k => ?_, List.length_replicate, fun e he => ends_in hb mf hw e he⟩
  · show 0 < (oneL ws.length w).getD w 0
    rw [oneL_at hw, if_pos rfl]
    decide
  · have := hv u
    rw [vec_wt hu, vec_wt hu] at this
    show (handleM ws (dropM c st (oneL ws.length w)) w).wt.getD u 0 = _
    rw [this]
    show (oneL ws.length w).getD u 0 + HX.cnt (endsAt ws st w) u - _ = _
    rw [oneL_at hu]
    by_cases z : u = w
    · rw [if_pos z, if_pos z.symm]; omega
    · rw [if_neg z, if_neg (fun y => z y.symm)]; omega
  · have := hv (ws.length + k)
    rw [vec_cup, vec_cup, if_neg (by omega)] at this
    show (handleM ws (dropM c st (oneL ws.length w)) w).hd.getD k 0 = _
    rw [this]
    show (List.replicate c.toNat (0 : Int)).getD k 0 + HX.cnt (endsAt ws st w) (ws.length + k) - 0 = _
    omega
theorem Fr.ok (h : Fr ws c s0 w0 pre now cups ends) (hb : BoardOk ws c) : MoOk ws c (runM ws (dropM c s0 (oneL ws.length w0)) (w0 :: pre)) := h.lt.ok (fun x hx => (hb.wheels x hx).1) (drop_ok hb h.h1 oneQ)
theorem Fr.short (h : Fr ws c s0 w0 pre now cups ends) (hb : BoardOk ws c) (hs : solB ws c = some (q, ls)) : 1 + pre.length ≤ fallN ws c s0 w0 := by
  obtain ⟨row, hr⟩ := rests hb hs (h.ok hb)
  have : Rest ws (dropM c s0 (oneL ws.length w0)) ((w0 :: pre) ++ row) := ⟨LetR.app.mpr ⟨h.lt, hr.1⟩, fun u hu => by rw [runM_app]; exact hr.2 u hu⟩
  have e := (fall_same hb hs h.h1 this).2
  rw [List.length_append, List.length_cons] at e
  omega
theorem Fr.done (h : Fr ws c s0 w0 pre now cups []) (hb : BoardOk ws c) (hs : solB ws c = some (q, ls)) : (fallM ws c s0 w0).st = now ∧ (fallM ws c s0 w0).hd = cups := by
  have hr : Rest ws (dropM c s0 (oneL ws.length w0)) (w0 :: pre) := ⟨h.lt, fun u hu => by rw [h.wt u hu]; rfl⟩
  have e := (fall_same hb hs h.h1 hr).1
  rw [← e]
  refine ⟨h.st, ?_⟩
  have hl := (h.ok hb).hl
  have hc := h.cl
  refine List.ext_getElem (by omega) fun i hi hj => ?_
  have := h.hd i
  rw [List.getD_eq_getElem?_getD, List.getD_eq_getElem?_getD, List.getElem?_eq_getElem hi, List.getElem?_eq_getElem hj] at this
  have z : HX.cnt [] (ws.length + i) = 0 := rfl
  rw [z] at this
  have t2 : (runM ws (dropM c s0 (oneL ws.length w0)) (w0 :: pre)).hd[i] = cups[i] + 0 := this
  omega
theorem Fr.cup (h : Fr ws c s0 w0 pre now cups (e :: es)) (hb : BoardOk ws c) (he : (ws.length : Int) ≤ e) : Fr ws c s0 w0 pre now (bump cups (e - ws.length).toNat 1) es := by
  have r := h.en e (List.mem_cons_self ..)
  refine ⟨h.h1, h.hw, h.lt, h.st, fun u hu => ?_, fun k => ?_, by rw [bump_len]; exact h.cl, fun x hx => h.en x (List.mem_cons_of_mem _ hx)⟩
  · rw [h.wt u hu, HX.cnt_cons, if_neg (by omega)]
    omega
  · rw [h.hd k, HX.cnt_cons, bump_get (by rw [h.cl]; omega)]
    by_cases z : e = ((ws.length + k : Nat) : Int)
    · rw [if_pos z, if_pos (by omega)]; omega
    · rw [if_neg z, if_neg (by omega)]; omega
theorem plus_at {a b : List Int} (h : a.length = b.length) (u : Nat) : (plusL a b).getD u 0 = a.getD u 0 + b.getD u 0 := plusL_at h u
theorem Fr.step (h : Fr ws c s0 w0 pre now cups (e :: es)) (hb : BoardOk ws c) (hs : solB ws c = some (q, ls)) (he : e < (ws.length : Int)) :
    StQ ws now ∧ Fr ws c s0 w0 (pre ++ rowF ws c now e.toNat) (fallM ws c now e.toNat).st (plusL cups (fallM ws c now e.toNat).hd) es ∧ 1 ≤ fallN ws c now e.toNat ∧ 1 + pre.length + fallN ws c now e.toNat ≤ fallN ws c s0 w0 := by
  have r := h.en e (List.mem_cons_self ..)
  have hok := h.ok hb
  have hq : StQ ws now := by rw [← h.st]; exact stQ_of hok.toMoF
  have hw : e.toNat < ws.length := by omega
  have hR := rowF_rest hb hs hq (w := e.toNat)
  have c0 := hb.c0
  have dm := drop_ok hb hq (oneQ (ws := ws) (w := e.toNat))
  let b : List Int := (List.range ws.length).map fun u => HX.cnt es u
  have bl : b.length = ws.length := by show ((List.range ws.length).map _).length = _; rw [List.length_map, List.length_range]
  have ba : ∀ u, u < ws.length → b.getD u 0 = HX.cnt es u := fun u hu => range_getD _ hu
  have hl := hok.hl
  have zl : (dropM c now (oneL ws.length e.toNat)).hd.length = (runM ws (dropM c s0 (oneL ws.length w0)) (w0 :: pre)).hd.length := by
    show (List.replicate c.toNat (0 : Int)).length = _
    rw [List.length_replicate]; omega
  have em : runM ws (dropM c s0 (oneL ws.length w0)) (w0 :: pre) = addM (dropM c now (oneL ws.length e.toNat)) b (runM ws (dropM c s0 (oneL ws.length w0)) (w0 :: pre)).hd := by
    refine mo_ext hok.toMoF (addM_F dm.toMoF bl zl.symm) (fun u hu => ?_) (fun u hu => ?_) (fun u => ?_)
    · rw [h.st]; rfl
    · rw [h.wt u hu]
      show _ = (plusL (oneL ws.length e.toNat) b).getD u 0
      rw [plus_at (by rw [oneL_len, bl]), oneL_at hu, ba u hu, HX.cnt_cons]
      by_cases z : e = (u : Int)
      · rw [if_pos z, if_pos (by omega)]; omega
      · rw [if_neg z, if_neg (by omega)]; omega
    · show _ = (plusL (List.replicate c.toNat 0) _).getD u 0
      rw [plus_at (show (List.replicate c.toNat (0 : Int)).length = _ from zl), rep0g]
      omega
  have lt2 : LetR ws (runM ws (dropM c s0 (oneL ws.length w0)) (w0 :: pre)) (rowF ws c now e.toNat) := by
    rw [em]
    exact let_add hb bl (fun u hu => by rw [ba u hu]; unfold HX.cnt; omega) _ _ dm.toMoF zl.symm hR.1
  have run2 : runM ws (runM ws (dropM c s0 (oneL ws.length w0)) (w0 :: pre)) (rowF ws c now e.toNat) = addM (fallM ws c now e.toNat) b (runM ws (dropM c s0 (oneL ws.length w0)) (w0 :: pre)).hd := by
    have := run_add hb dm.toMoF bl zl.symm hR.1.lt
    rw [← em] at this
    exact this
  have app : runM ws (dropM c s0 (oneL ws.length w0)) (w0 :: (pre ++ rowF ws c now e.toNat)) = addM (fallM ws c now e.toNat) b (runM ws (dropM c s0 (oneL ws.length w0)) (w0 :: pre)).hd := by
    rw [← List.cons_append, runM_app, run2]
  have fok := fallM_ok hb hs hq (w := e.toNat)
  have fl := fok.hl
  have F2 : Fr ws c s0 w0 (pre ++ rowF ws c now e.toNat) (fallM ws c now e.toNat).st (plusL cups (fallM ws c now e.toNat).hd) es := by
    refine ⟨h.h1, h.hw, ?_, ?_, fun u hu => ?_, fun k => ?_, ?_, fun x hx => h.en x (List.mem_cons_of_mem _ hx)⟩
    · rw [← List.cons_append]
      exact LetR.app.mpr ⟨h.lt, lt2⟩
    · rw [app]; rfl
    · rw [app]
      show (plusL (fallM ws c now e.toNat).wt b).getD u 0 = _
      rw [plus_at (by rw [fok.wl, bl]), ba u hu]
      have z : (fallM ws c now e.toNat).wt.getD u 0 = 0 := hR.2 u hu
      omega
    · rw [app]
      show (plusL (fallM ws c now e.toNat).hd _).getD k 0 = _
      rw [plus_at (by omega), plus_at (by have := h.cl; omega), h.hd k, HX.cnt_cons, if_neg (by omega)]
      omega
    · rw [plusL_len (by have := h.cl; omega)]; exact h.cl
  have s2 := F2.short hb hs
  rw [List.length_append] at s2
  refine ⟨hq, F2, ?_, ?_⟩
  · have e1 := (Fr.new hb hq hw).short hb hs
    simp at e1
    omega
  · unfold fallN at s2 ⊢
    omega
def encS : List Int → Nat
  | [] => 0
  | s :: r => s.toNat + 4 * encS r
theorem encS_lt : ∀ (l : List Int), (∀ s ∈ l, 0 ≤ s ∧ s < 4) → encS l < 4 ^ l.length
  | [], _ => by decide
  | s :: r, h => by
    have h1 := encS_lt r fun x hx => h x (List.mem_cons_of_mem _ hx)
    have h2 := h s (List.mem_cons_self ..)
    rw [encS, List.length_cons, Nat.pow_succ]
    omega
theorem encS_inj : ∀ (a b : List Int), a.length = b.length → (∀ s ∈ a, 0 ≤ s ∧ s < 4) → (∀ s ∈ b, 0 ≤ s ∧ s < 4) → encS a = encS b → a = b
  | [], [], _, _, _, _ => rfl
  | [], _ :: _, h, _, _, _ => by simp at h
  | _ :: _, [], h, _, _, _ => by simp at h
  | s :: a, t :: b, h, h1, h2, e => by
    have s1 := h1 s (List.mem_cons_self ..)
    have t1 := h2 t (List.mem_cons_self ..)
    rw [encS, encS] at e
    rw [encS_inj a b (by simpa using h) (fun x hx => h1 x (List.mem_cons_of_mem _ hx)) (fun x hx => h2 x (List.mem_cons_of_mem _ hx)) (by omega), show s = t by omega]
theorem nodup_few : ∀ (N : Nat) (l : List Nat), l.Nodup → (∀ x ∈ l, x < N) → l.length ≤ N
  | 0, l, _, h => by
    cases l with
    | nil => exact Nat.le_refl _
    | cons x l => exact absurd (h x (List.mem_cons_self ..)) (Nat.not_lt_zero _)
  | N + 1, l, hn, h => by
    have h1 := nodup_few N (l.erase N) (hn.erase N) fun x hx => by
      have hm := List.mem_of_mem_erase hx
      have := h x hm
      have ne : x ≠ N := fun z => by
        rw [z] at hx
        exact (List.Nodup.mem_erase_iff hn).mp hx |>.1 rfl
      omega
    have h2 : l.length ≤ (l.erase N).length + 1 := by
      by_cases hm : N ∈ l
      · rw [List.length_erase_of_mem hm]; omega
      · rw [List.erase_of_not_mem hm]; omega
    omega
theorem stQ_dig (hb : BoardOk ws c) (h : StQ ws st) : ∀ s ∈ st, 0 ≤ s ∧ s < 4 := fun s hs => by
  obtain ⟨i, hi, rfl⟩ := List.getElem_of_mem hs
  have hw : i < ws.length := by rw [← h.1]; exact hi
  have := h.2 i _ _ (List.getElem?_eq_getElem hi) (List.getElem?_eq_getElem hw)
  have := (hb.wheels _ (List.getElem_mem hw)).2.1
  omega
theorem stQ_enc (hb : BoardOk ws c) (h : StQ ws st) : encS st < 4096 := by
  have h1 := encS_lt st (stQ_dig hb h)
  have h2 : 4 ^ st.length ≤ 4 ^ 6 := Nat.pow_le_pow_right (by decide) (by rw [h.1]; exact hb.w6)
  have : (4 : Nat) ^ 6 = 4096 := by decide
  omega
def codeP (x : List Int × Nat) : Nat := encS x.1 * 8 + x.2
theorem codeP_lt (hb : BoardOk ws c) (h : StQ ws st) (hw : w < ws.length) : codeP (st, w) < 32768 := by
  have h1 := stQ_enc hb h
  have := hb.w6
  show encS st * 8 + w < 32768
  omega
theorem codeP_inj (hb : BoardOk ws c) {s t : List Int} {v w : Nat} (h1 : StQ ws s) (h2 : StQ ws t) (hv : v < ws.length) (hw : w < ws.length) (e : codeP (s, v) = codeP (t, w)) : s = t ∧ v = w := by
  have := hb.w6
  have e' : encS s * 8 + v = encS t * 8 + w := e
  exact ⟨encS_inj s t (by rw [h1.1, h2.1]) (stQ_dig hb h1) (stQ_dig hb h2) (by omega), by omega⟩
theorem chain_few (hb : BoardOk ws c) (ps : List (List Int × Nat)) (h : ∀ p ∈ ps, StQ ws p.1 ∧ p.2 < ws.length) (hp : ps.Pairwise fun a b => fallN ws c b.1 b.2 < fallN ws c a.1 a.2) : ps.length ≤ 32768 := by
  have := nodup_few 32768 (ps.map codeP) (by
    rw [List.Nodup, List.pairwise_map]
    refine List.Pairwise.imp_of_mem (fun {a b} ha hb' q z => ?_) hp
    obtain ⟨a1, a2⟩ := h a ha
    obtain ⟨b1, b2⟩ := h b hb'
    obtain ⟨e1, e2⟩ := codeP_inj hb a1 b1 a2 b2 z
    rw [e1, e2] at q
    exact Nat.lt_irrefl _ q) fun x hx => by
    obtain ⟨p, hp', rfl⟩ := List.mem_map.mp hx
    exact codeP_lt hb (h p hp').1 (h p hp').2
  rw [List.length_map] at this
  exact this
end QX
set_option maxRecDepth 100000
set_option maxHeartbeats 1000000
namespace QX
open PySem PySem.Spec PyProof PyProof.Rows L2 HX QX.Det
variable {M : Mem} {p k : Nat} {x : Cell} {σ : Sa} {ws : List (List (List Int))} {c : Int}
theorem par3_ev {fa fb fc : F D} {i j l : Nat} {M1 M2 M3 : Mem} {a b c : D} (ha : fa σ M = .ok a M1) (hb : fb σ M1 = .ok b M2) (hc : fc σ M2 = .ok c M3) : sPar3 i j l (fCons fa (fCons fb (fCons fc fNil))) σ M = .ok (.nx (((σ.set i (some a)).set j (some b)).set l (some c))) M3 := by
  unfold sPar3
  rw [ev_cons, ha, bind_ok, ev_cons, hb, bind_ok, ev_cons, hc, bind_ok, ev_nil, bind_ok, bind_ok, bind_ok, bindS_ok]
theorem LK.lst' {ds : List D} {h : Nat} (hd : ∀ d ∈ ds, LK d h) : LK (.lst ds) (h + 1) := by
  obtain ⟨qs, h1, h2, h3, h4⟩ := lk_all ds hd
  exact ⟨.list qs, by simp [D.py, h1], by simpa [PyData.canLay0] using h2, by simp [PyData.depth]; omega, by simpa [PyData.eqv] using h4⟩
theorem zip_pairs : ∀ xs ys : List Int, zip2 (xs.map D.int) (ys.map D.int) = (xs.zip ys).map fun z => Im.pr [.int z.1, .int z.2]
  | [], ys => by simp [zip2]
  | x :: xs, [] => by simp [zip2]
  | x :: xs, y :: ys => by
    rw [List.map_cons, List.map_cons, zip2, zip_pairs xs ys, List.zip_cons_cons, List.map_cons]
theorem tup_zipI {fa fb : F D} {i j : Nat} {e : F D} {as bs : List Int} (op : Int → Int → Int) (ha : fa σ M = .ok (stepT as) M) (hb : fb σ M = .ok (stepT bs) M) (hw : Wf M) (hl : as.length ≤ 1000)
    (he : ∀ s t : Int, ∀ M', e (((wipeA σ [i, j]).set i (some (.int s))).set j (some (.int t))) M' = .ok (.int (op s t)) M') :
    fCall gTuple (fCons (fTrim (fCompC (fIt gZip2 (fCons fa (fCons fb fNil))) [i, j] (.tup [i, j]) fYes e)) fNil) σ M = .ok (stepT (List.zipWith op as bs)) M := by
  have h := comp_mapI (fi := fIt gZip2 (fCons fa (fCons fb fNil))) (vs := [i, j]) (t := .tup [i, j]) (e := e) (σ := σ) (M := M) (as.zip bs) (fun z => Im.pr [.int z.1, .int z.2]) (fun z => .int (op z.1 z.2)) (by
    rw [← zip_pairs]
    simp only [ev_it, ev_cons, ha, bind_ok, hb, ev_nil]
    rfl) hw (by rw [List.length_zip]; omega) (fun z hz => ⟨rfl, _, rfl, fun M' _ => he z.1 z.2 M'⟩)
  refine (call1_ev (m := gTuple) h).trans (gTuple_lst.trans ?_)
  have : (as.zip bs).map (fun z => D.int (op z.1 z.2)) = (List.zipWith op as bs).map D.int := by
    rw [List.zip, List.map_zipWith, List.map_zipWith]
  rw [this]
  rfl
end QX
set_option maxRecDepth 100000
set_option maxHeartbeats 1000000
set_option exponentiation.threshold 5000
namespace QX
open PySem PySem.Spec PyProof.Rows L2 HX QX.Det
variable {M : Mem} {p k : Nat} {x : Cell} {σ : Sa} {ws : List (List (List Int))} {c : Int} {m : Mo}
end QX
set_option maxRecDepth 100000
set_option maxHeartbeats 1000000
set_option exponentiation.threshold 5000
namespace QX
open PySem PySem.Spec PyProof.Rows L2 HX QX.Det
variable {M : Mem} {p k : Nat} {x : Cell} {σ : Sa} {ws : List (List (List Int))} {c : Int} {m : Mo}
theorem LK.lst {ds : List D} {h : Nat} (hd : ∀ d ∈ ds, LK d h) : LK (.lst ds) (h + 1) := by
  obtain ⟨qs, a, b, e, f⟩ := lk_all ds hd
  exact ⟨.list qs, by simp only [D.py, a], by simp [PyData.canLay0, b], by simp only [PyData.depth]; omega, by simp [PyData.eqv, f]⟩
theorem bump_up {l : List Int} {i : Nat} {B d : Int} (hB : 0 ≤ B) (hd : d ≤ 1) (h : ∀ z ∈ l, z ≤ B) : ∀ z ∈ bump l i d, z ≤ B + 1 := fun z hz => by
  unfold HX.bump at hz
  rcases List.mem_or_eq_of_mem_set hz with hz | rfl
  · have := h z hz
    omega
  · by_cases hi : i < l.length
    · have := h _ (getD_mem hi)
      omega
    · rw [getD0 (by omega)]
      omega
theorem send_up {n : Nat} : ∀ (es : List Int) (p : List Int × List Int) (B : Int), 0 ≤ B → (∀ z ∈ p.1, z ≤ B) → (∀ z ∈ p.2, z ≤ B) → (∀ z ∈ (es.foldl (sendM n) p).1, z ≤ B + es.length) ∧ ∀ z ∈ (es.foldl (sendM n) p).2, z ≤ B + es.length
  | [], p, B, _, h1, h2 => ⟨fun z hz => by have := h1 z hz; simp; omega, fun z hz => by have := h2 z hz; simp; omega⟩
  | e :: es, p, B, hB, h1, h2 => by
    have a1 : ∀ z ∈ (sendM n p e).1, z ≤ B + 1 := fun z hz => by
      unfold sendM at hz
      split at hz
      · exact bump_up hB (by decide) h1 z hz
      · have := h1 z hz
        omega
    have a2 : ∀ z ∈ (sendM n p e).2, z ≤ B + 1 := fun z hz => by
      unfold sendM at hz
      split at hz
      · have := h2 z hz
        omega
      · exact bump_up hB (by decide) h2 z hz
    obtain ⟨b1, b2⟩ := send_up es (sendM n p e) (B + 1) (by omega) a1 a2
    rw [List.foldl_cons, List.length_cons]
    exact ⟨fun z hz => by have := b1 z hz; omega, fun z hz => by have := b2 z hz; omega⟩
structure Up (B : Int) (m : Mo) : Prop where
  w : ∀ z ∈ m.wt, z ≤ B
  h : ∀ z ∈ m.hd, z ≤ B
theorem Up.few {B : Int} (h : Up B m) (hm : MoOk ws c m) (hB : B ≤ 1000) : Few 1000 m := ⟨fun z hz => by have := h.w z hz; have := hm.wn z hz; omega, fun z hz => by have := h.h z hz; have := hm.hn z hz; omega⟩
theorem Up.handle {B : Int} {w : Nat} (h : Up B m) (hb : BoardOk ws c) (hB : 0 ≤ B) (hw : w < ws.length) : Up (B + 4) (handleM ws m w) := by
  have hl : (endsAt ws m.st w).length ≤ 3 := by
    unfold endsAt
    have hwk := hb.wheels _ (show ws.getD w [] ∈ ws by rw [List.getD_eq_getElem?_getD, List.getElem?_eq_getElem hw]; exact List.getElem_mem hw)
    by_cases hi : (m.st.getD w 0).toNat < (ws.getD w []).length
    · exact (hwk.2.2 _ (getT_mem hi)).1
    · have : (ws.getD w []).getD (m.st.getD w 0).toNat [] = [] := by rw [List.getD_eq_getElem?_getD, List.getElem?_eq_none (by omega)]; rfl
      rw [this]
      decide
  obtain ⟨b1, b2⟩ := send_up (n := ws.length) (endsAt ws m.st w) (bump m.wt w (-1), m.hd) (B + 1) (by omega) (bump_up hB (by decide) h.w) (fun z hz => by have := h.h z hz; omega)
  exact ⟨fun z hz => by have := b1 z hz; omega, fun z hz => by have := b2 z hz; omega⟩
end QX
set_option maxRecDepth 100000
set_option maxHeartbeats 1000000
namespace QX
open PySem PySem.Spec PyProof PyProof.Rows L2 HX QX.Det
variable {M : Mem} {p k : Nat} {x : Cell} {σ : Sa} {ws : List (List (List Int))} {c : Int} {d e : D} {q : Int} {ls : List (List Int)}
end QX
set_option maxRecDepth 100000
set_option maxHeartbeats 1000000
namespace QX
namespace Det
def blk (Row : Nat → R) (k m : Nat) : List R := (List.range m).map fun i => fun j => Row (k + j) (k + i)
def cut {α : Type} (a : Nat) (r : List α) : List α := r.take a ++ r.drop (a + 1)
theorem cut_len {α : Type} {a : Nat} {r : List α} (h : a < r.length) : (cut a r).length = r.length - 1 := by
  unfold cut
  rw [List.length_append, List.length_take, List.length_drop]
  omega
def nd : Nat → List (List Int) → Int
  | 0, _ => 1
  | _ + 1, [] => 1
  | n + 1, r :: rs => sm r.length fun a => (-1) ^ a * r.getD a 0 * nd n (rs.map (cut a))
end Det
end QX
set_option maxRecDepth 100000
set_option maxHeartbeats 1000000
set_option exponentiation.threshold 5000
namespace QX
open PySem PySem.Spec PyProof PyProof.Rows L2 HX QX.Det
variable {M : Mem} {p k : Nat} {x : Cell} {σ : Sa} {ws : List (List (List Int))} {c : Int} {q : Int} {ls : List (List Int)}
end QX
set_option maxRecDepth 100000
set_option maxHeartbeats 1000000
set_option exponentiation.threshold 5000
namespace QX
open PySem PySem.Spec PyProof PyProof.Rows L2 HX QX.Det
variable {M : Mem} {p k : Nat} {x : Cell} {σ : Sa} {ws : List (List (List Int))} {c : Int} {q : Int} {ls : List (List Int)}
theorem cut_mem {α : Type} {a : Nat} {r : List α} {z : α} (h : z ∈ cut a r) : z ∈ r := by
  unfold cut at h
  rcases List.mem_append.mp h with h | h
  · exact List.mem_of_mem_take h
  · exact List.mem_of_mem_drop h
structure Sq (n : Nat) (t : List (List Int)) : Prop where
  rect : Rect n n t
  big : ∀ l ∈ t, ∀ z ∈ l, z.natAbs ≤ 128
theorem Sq.cut {n a : Nat} {r : List Int} {rs : List (List Int)} (h : Sq (n + 1) (r :: rs)) (ha : a < n + 1) : Sq n (rs.map (cut a)) := by
  refine ⟨⟨by rw [List.length_map]; have := h.rect.len; simpa using this, fun l hl => ?_⟩, fun l hl z hz => ?_⟩
  · obtain ⟨l', hl', rfl⟩ := List.mem_map.mp hl
    have := h.rect.wid l' (by simp [hl'])
    rw [cut_len (by omega)]
    omega
  · obtain ⟨l', hl', rfl⟩ := List.mem_map.mp hl
    exact h.big l' (by simp [hl']) z (cut_mem hz)
end QX
set_option maxRecDepth 100000
set_option maxHeartbeats 1000000
set_option exponentiation.threshold 5000
namespace QX
open PySem PySem.Spec PyProof PyProof.Rows L2 HX QX.Det
variable {M : Mem} {p k : Nat} {x : Cell} {σ : Sa} {ws : List (List (List Int))} {c : Int} {q : Int} {a l : List Int}
def m2 (M : Mem) (a l : List Int) : Mem := M ++ [.lst (a.map D.int), .lst (l.map D.int)]
structure IqOk (ws : List (List (List Int))) (a l : List Int) : Prop where
  al : a.length = ws.length
  ar : ∀ i, i < ws.length → 0 ≤ a.getD i 0 ∧ a.getD i 0 < ((ws.getD i []).length : Int)
  ll : l.length = ws.length
  lr : ∀ z ∈ l, 0 ≤ z
end QX
set_option maxRecDepth 100000
set_option maxHeartbeats 1000000
set_option exponentiation.threshold 5000
namespace QX
open PySem PySem.Spec PyProof PyProof.Rows L2 HX QX.Det
variable {M : Mem} {p k : Nat} {x : Cell} {σ : Sa} {ws : List (List (List Int))} {c : Int} {q : Int} {a l : List Int}
end QX
set_option maxRecDepth 100000
set_option maxHeartbeats 1000000
set_option exponentiation.threshold 5000
namespace QX
open PySem PySem.Spec PyProof PyProof.Rows L2 HX QX.Det
variable {M M0 g G : Mem} {p k : Nat} {x y : Cell} {σ : Sa} {ws : List (List (List Int))} {c : Int} {N : Int} {es : List Int}
end QX
set_option maxRecDepth 100000
set_option maxHeartbeats 1000000
namespace QX
open PySem PySem.Spec PyProof PyProof.Rows L2 HX QX.Det
variable {M : Mem} {p k : Nat} {x : Cell} {σ : Sa} {ws : List (List (List Int))} {c : Int} {q : Int} {ls : List (List Int)} {st st0 S cn cu : List Int} {T : Int}
def zsL (n : Nat) : List Int := List.replicate n 0
theorem zs_at (n i : Nat) : (zsL n).getD i 0 = 0 := by
  unfold zsL
  rw [List.getD_eq_getElem?_getD, List.getElem?_replicate]
  split <;> rfl
theorem ext_at {a b : List Int} (hl : a.length = b.length) (h : ∀ i, i < a.length → a.getD i 0 = b.getD i 0) : a = b := by
  refine List.ext_getElem hl fun i h1 h2 => ?_
  have := h i h1
  rw [List.getD_eq_getElem?_getD, List.getD_eq_getElem?_getD, List.getElem?_eq_getElem h1, List.getElem?_eq_getElem h2] at this
  exact this
def Led (ws : List (List (List Int))) (c : Int) (st0 S st cn cu : List Int) : Prop := ∃ r, Rest ws (dropM c st0 S) r ∧ st = (runM ws (dropM c st0 S) r).st ∧ cn = cntL ws.length r ∧ cu = (runM ws (dropM c st0 S) r).hd
theorem plusL_comm7 {a b : List Int} (h : a.length = b.length) : plusL a b = plusL b a := ext_at (by rw [plusL_len h, plusL_len h.symm, h]) fun i _ => by rw [plusL_at h, plusL_at h.symm, Int.add_comm]
theorem Led.zero (h1 : StQ ws st0) : Led ws c st0 (zsL ws.length) st0 (zsL ws.length) (zsL c.toNat) := by
  refine ⟨[], ⟨trivial, fun u hu => zs_at _ _⟩, rfl, ?_, rfl⟩
  unfold cntL zsL
  refine List.ext_getElem (by simp) fun i h1 h2 => by simp
theorem Led.stQ (hb : BoardOk ws c) (h1 : StQ ws st0) (hS : DsQ ws T S) (h : Led ws c st0 S st cn cu) : StQ ws st := by
  obtain ⟨r, hr, rfl, _, _⟩ := h
  have h := (run_counts hb r _ (drop_ok hb h1 hS).toMoF hr.1.lt).1
  exact ⟨h.sl, h.sr⟩
theorem Led.lens (hb : BoardOk ws c) (h1 : StQ ws st0) (hS : DsQ ws T S) (h : Led ws c st0 S st cn cu) : cn.length = ws.length ∧ (cu.length : Int) = c := by
  obtain ⟨r, hr, _, rfl, rfl⟩ := h
  exact ⟨cntL_len, (run_counts hb r _ (drop_ok hb h1 hS).toMoF hr.1.lt).1.hl⟩
theorem Led.step (hb : BoardOk ws c) (h1 : StQ ws st0) (hS : DsQ ws T S) {b : List Int} (hbq : DsQ ws T b) (h : Led ws c st0 S st cn cu) {rb : List Nat} (hr : Rest ws (dropM c st b) rb) :
    Led ws c st0 (plusL S b) (runM ws (dropM c st b) rb).st (plusL cn (cntL ws.length rb)) (plusL cu (runM ws (dropM c st b) rb).hd) := by
  obtain ⟨cl, ul⟩ := h.lens hb h1 hS
  have h2 := h.stQ hb h1 hS
  have hl2 := (run_counts hb rb _ (drop_ok hb h2 hbq).toMoF hr.1.lt).1.hl
  obtain ⟨r, hr0, rfl, rfl, rfl⟩ := h
  obtain ⟨g1, g2⟩ := rest_parts hb h1 hS hbq hr0 hr
  refine ⟨r ++ rb, g1, by rw [g2], by rw [cntL_app], ?_⟩
  rw [g2]
  exact plusL_comm7 (by omega)
theorem Led.uniq (hb : BoardOk ws c) (h1 : StQ ws st0) (hS : DsQ ws T S) {st' cn' cu' : List Int} (h : Led ws c st0 S st cn cu) (h' : Led ws c st0 S st' cn' cu') : st = st' ∧ cn = cn' ∧ cu = cu' := by
  obtain ⟨r, hr, rfl, rfl, rfl⟩ := h
  obtain ⟨r', hr', rfl, rfl, rfl⟩ := h'
  have m0 := (drop_ok hb h1 hS).toMoF
  rw [Rest.same hb m0 hr hr']
  exact ⟨rfl, cntL_same (Rest.counts hb m0 hr hr'), rfl⟩
end QX
set_option maxRecDepth 100000
set_option maxHeartbeats 1000000
namespace QX
open PySem PySem.Spec PyProof PyProof.Rows L2 HX QX.Det
variable {M : Mem} {p k : Nat} {x : Cell} {σ : Sa} {ws : List (List (List Int))} {c : Int} {q : Int} {ls : List (List Int)} {st st0 S cn cu : List Int} {T : Int}
theorem m_both_eq {a b : List Int} (hw : Wf M) (hl : a.length ≤ 1000) : m_law_both_c530d4 [stepT a, stepT b] M = .ok (stepT (plusL a b)) M :=
  run_pure rfl (tup_zipI (fa := fVar 0) (fb := fVar 1) (σ := startA 4 [stepT a, stepT b]) (M := M) (as := a) (bs := b) (fun s t => s + t) (var_ev rfl) (var_ev rfl) hw hl (fun s t M' => (bin_ev (a := .int s) (b := .int t) (var_ev rfl) (var_ev rfl)).trans gAdd_int))
theorem rep0 {fb : F D} {n : Nat} (hb : fb σ M = .ok (.int (n : Int)) M) (hn : n ≤ 100) : fBin gMul (fTup (fCons (fC (.int 0)) fNil)) fb σ M = .ok (stepT (zsL n)) M := by
  refine (bin_ev (a := .tup [.int 0]) (b := .int (n : Int)) rfl hb).trans (gMul_tup.trans ((if_pos ?_).trans ?_))
  · have h1 : decide (-1000 ≤ (n : Int)) = true := by rw [decide_eq_true_eq]; omega
    have h2 : decide ((n : Int) ≤ 1000) = true := by rw [decide_eq_true_eq]; omega
    simp only [thou, h1, h2]
    rfl
  · rw [Int.toNat_natCast]
    have e : (List.replicate n [D.int 0]).flatten = (zsL n).map D.int := by
      unfold zsL
      clear hb hn
      induction n with
      | zero => rfl
      | succ n ih => rw [List.replicate_succ, List.flatten_cons, ih, List.replicate_succ]; rfl
    rw [e]
    rfl
theorem DsQ.more {T' : Int} {d : List Int} (h : DsQ ws T d) (ht : T ≤ T') : DsQ ws T' d := ⟨h.1, fun z hz => by have := h.2 z hz; omega⟩
end QX
set_option maxRecDepth 100000
set_option maxHeartbeats 1000000
set_option exponentiation.threshold 5000
namespace QX
open PySem PySem.Spec PyProof PyProof.Rows L2 HX QX.Det
variable {M : Mem} {σ : Sa} {ws : List (List (List Int))} {c : Int} {q : Int} {ls : List (List Int)} {st : List Int} {w : Nat}
theorem ix_st {xs : List Int} {k : Nat} (h : k < xs.length) : gIx (stepT xs) (.int (k : Int)) M = .ok (.int (xs.getD k 0)) M := by
  rw [stepT, gIx_tup, atI_nn (by omega), Int.toNat_natCast, List.getElem?_map, List.getElem?_eq_getElem h, List.getD_eq_getElem?_getD, List.getElem?_eq_getElem h]
  rfl
theorem takeS {fa fb : F D} {l : List Int} {n : Nat} (ha : fa σ M = .ok (stepT l) M) (hb : fb σ M = .ok (.int (n : Int)) M) : fSl fa fNoPart (fPart fb) σ M = .ok (stepT (l.take n)) M := by
  refine (sl_take (ds := l.map D.int) ha hb).trans ?_
  rw [← List.map_take]
  rfl
theorem dropS {fa fb : F D} {l : List Int} {n : Nat} (ha : fa σ M = .ok (stepT l) M) (hb : fb σ M = .ok (.int (n : Int)) M) : fSl fa (fPart fb) fNoPart σ M = .ok (stepT (l.drop n)) M := by
  refine (sl_drop (ds := l.map D.int) ha hb).trans ?_
  rw [← List.map_drop]
  rfl
theorem addS {fa fb : F D} {as bs : List Int} (ha : fa σ M = .ok (stepT as) M) (hb : fb σ M = .ok (stepT bs) M) (hl : as.length + bs.length ≤ 1000) : fBin gAdd fa fb σ M = .ok (stepT (as ++ bs)) M := by
  refine (bin_ev ha hb).trans ((gAdd_tup_ok (by rw [List.length_map, List.length_map]; exact hl)).trans ?_)
  rw [← List.map_append]
  rfl
theorem oneS {fa : F D} {z : Int} (ha : fa σ M = .ok (.int z) M) : fTup (fCons fa fNil) σ M = .ok (stepT [z]) M := tup1_ev ha
theorem lst4_ev {fa fb fc fd : F D} {M1 M2 M3 M4 : Mem} {a b c d : D} (ha : fa σ M = .ok a M1) (hb : fb σ M1 = .ok b M2) (hc : fc σ M2 = .ok c M3) (hd : fd σ M3 = .ok d M4) : fLst (fCons fa (fCons fb (fCons fc (fCons fd fNil)))) σ M = .ok (.lst [a, b, c, d]) M4 := by
  rw [ev_lst, ev_cons, ha, bind_ok, ev_cons, hb, bind_ok, ev_cons, hc, bind_ok, ev_cons, hd, bind_ok, ev_nil]
  rfl
theorem tup2S {fa fb : F D} {M1 M2 : Mem} {a b : D} (ha : fa σ M = .ok a M1) (hb : fb σ M1 = .ok b M2) : fTup (fCons fa (fCons fb fNil)) σ M = .ok (.tup [a, b]) M2 := tup2_ev ha hb
theorem put_set {l : List Int} {i : Nat} {z : Int} (h : i < l.length) : (l.take i ++ [z]) ++ l.drop (i + 1) = l.set i z := by
  rw [List.set_eq_take_append_cons_drop, if_pos h, List.append_assoc]
  rfl
def frD (s0 : List Int) (w0 : Nat) (now cups ends : List Int) : D := .lst [.tup [stepT s0, .int (w0 : Int)], stepT now, stepT cups, stepT ends]
theorem m_one_more_eq {l : List Int} {i : Nat} (hi : i < l.length) (hl : l.length ≤ 900) : m_one_more [stepT l, .int (i : Int)] M = .ok (stepT (bump l i 1)) M := by
  refine run_pure (n := 2) (k := 2) rfl ?_
  have e := addS (addS (takeS (σ := startA 2 [stepT l, .int (i : Int)]) (M := M) (fa := fVar 0) (fb := fVar 1) (l := l) (n := i) (var_ev rfl) (var_ev rfl)) (oneS (z := l.getD i 0 + 1) ((bin_ev (g := gAdd) (fa := fBin gIx (fVar 0) (fVar 1)) (fb := fC (.int 1)) (b := .int 1) ((bin_ev (a := stepT l) (b := .int (i : Int)) (var_ev rfl) (var_ev rfl)).trans (ix_st hi)) rfl).trans gAdd_int)) (by rw [List.length_take]; simp; omega)) (dropS (fa := fVar 0) (fb := fBin gAdd (fVar 1) (fC (.int 1))) (l := l) (n := i + 1) (var_ev rfl) ((bin_ev (g := gAdd) (a := .int (i : Int)) (b := .int 1) (var_ev rfl) rfl).trans (gAdd_int.trans (by norm_cast)))) (by rw [List.length_append, List.length_take, List.length_drop]; simp; omega)
  rw [put_set hi] at e
  exact e
theorem m_begun_eq (hW : Wf M) (hb : BoardOk ws c) (h1 : StQ ws st) (hw : w < ws.length) : m_begun [boardT ws c, stepT st, .int (w : Int)] M = .ok (frD st w (st.set w ((st.getD w 0 + 1) % ((ws.getD w []).length : Int))) (List.replicate c.toNat 0) (endsAt ws st w)) M := by
  have c0 := hb.c0
  have c4 := hb.c4
  have w6 := hb.w6
  have hl := h1.1
  have hws : w < st.length := by omega
  have hwm : ws.getD w [] ∈ ws := by rw [List.getD_eq_getElem?_getD, List.getElem?_eq_getElem hw]; exact List.getElem_mem hw
  have hwk := hb.wheels _ hwm
  have r := h1.2 w (st.getD w 0) (ws.getD w []) (by rw [List.getD_eq_getElem?_getD, List.getElem?_eq_getElem hws]; rfl) (by rw [List.getD_eq_getElem?_getD, List.getElem?_eq_getElem hw]; rfl)
  have s1 : sAsg (fVar 0) (.tup [3, 4]) (startA 7 [boardT ws c, stepT st, .int (w : Int)]) M = .ok (.nx [some (boardT ws c), some (stepT st), some (.int (w : Int)), some (wheelsT ws), some (.int c), none, none]) M := asg_ev (d := boardT ws c) (var_ev rfl) rfl
  have s2 : sSet 5 (fBin gIx (fVar 1) (fVar 2)) [some (boardT ws c), some (stepT st), some (.int (w : Int)), some (wheelsT ws), some (.int c), none, none] M = .ok (.nx [some (boardT ws c), some (stepT st), some (.int (w : Int)), some (wheelsT ws), some (.int c), some (.int (st.getD w 0)), none]) M := set_ev ((bin_ev (a := stepT st) (b := .int (w : Int)) (var_ev rfl) (var_ev rfl)).trans (ix_st hws))
  have s3 : sSet 6 (fBin gAdd (fBin gAdd (fSl (fVar 1) fNoPart (fPart (fVar 2))) (fTup (fCons (fBin gMod (fBin gAdd (fVar 5) (fC (.int 1))) (fCall gLen (fCons (fBin gIx (fVar 3) (fVar 2)) fNil))) fNil))) (fSl (fVar 1) (fPart (fBin gAdd (fVar 2) (fC (.int 1)))) fNoPart)) [some (boardT ws c), some (stepT st), some (.int (w : Int)), some (wheelsT ws), some (.int c), some (.int (st.getD w 0)), none] M = .ok (.nx [some (boardT ws c), some (stepT st), some (.int (w : Int)), some (wheelsT ws), some (.int c), some (.int (st.getD w 0)), some (stepT (st.set w ((st.getD w 0 + 1) % ((ws.getD w []).length : Int))))]) M := by
    have m1 : fBin gMod (fBin gAdd (fVar 5) (fC (.int 1))) (fCall gLen (fCons (fBin gIx (fVar 3) (fVar 2)) fNil)) [some (boardT ws c), some (stepT st), some (.int (w : Int)), some (wheelsT ws), some (.int c), some (.int (st.getD w 0)), none] M = .ok (.int ((st.getD w 0 + 1) % ((ws.getD w []).length : Int))) M := by
      refine (bin_ev ((bin_ev (g := gAdd) (a := .int (st.getD w 0)) (b := .int 1) (var_ev rfl) rfl).trans gAdd_int) ((call1_ev ((bin_ev (a := wheelsT ws) (b := .int (w : Int)) (var_ev rfl) (var_ev rfl)).trans (wheel_at hw))).trans (wheel_len _))).trans ?_
      rw [gMod_int, if_pos (by rw [decide_eq_true_eq]; omega)]
    have e := addS (addS (takeS (σ := [some (boardT ws c), some (stepT st), some (.int (w : Int)), some (wheelsT ws), some (.int c), some (.int (st.getD w 0)), none]) (M := M) (fa := fVar 1) (fb := fVar 2) (l := st) (n := w) (var_ev rfl) (var_ev rfl)) (oneS m1) (by rw [List.length_take]; simp; omega)) (dropS (fa := fVar 1) (fb := fBin gAdd (fVar 2) (fC (.int 1))) (l := st) (n := w + 1) (var_ev rfl) ((bin_ev (g := gAdd) (a := .int (w : Int)) (b := .int 1) (var_ev rfl) rfl).trans (gAdd_int.trans (by norm_cast)))) (by rw [List.length_append, List.length_take, List.length_drop]; simp; omega)
    rw [put_set hws] at e
    exact set_ev e
  have z : fBin gMul (fTup (fCons (fC (.int 0)) fNil)) (fVar 4) [some (boardT ws c), some (stepT st), some (.int (w : Int)), some (wheelsT ws), some (.int c), some (.int (st.getD w 0)), some (stepT (st.set w ((st.getD w 0 + 1) % ((ws.getD w []).length : Int))))] M = .ok (stepT (List.replicate c.toNat 0)) M := by
    have := rep0 (σ := [some (boardT ws c), some (stepT st), some (.int (w : Int)), some (wheelsT ws), some (.int c), some (.int (st.getD w 0)), some (stepT (st.set w ((st.getD w 0 + 1) % ((ws.getD w []).length : Int))))]) (M := M) (fb := fVar 4) (n := c.toNat) (var_ev (by show some (some (D.int c)) = some (some (D.int ((c.toNat : Nat) : Int))); rw [Int.toNat_of_nonneg c0])) (by omega)
    exact this
  have s4 := ret_ev (lst4_ev (tup2S (σ := [some (boardT ws c), some (stepT st), some (.int (w : Int)), some (wheelsT ws), some (.int c), some (.int (st.getD w 0)), some (stepT (st.set w ((st.getD w 0 + 1) % ((ws.getD w []).length : Int))))]) (M := M) (fa := fVar 1) (fb := fVar 2) (a := stepT st) (b := .int (w : Int)) (var_ev rfl) (var_ev rfl)) (fb := fVar 6) (b := stepT (st.set w ((st.getD w 0 + 1) % ((ws.getD w []).length : Int)))) (var_ev rfl) z ((bin_ev (g := gIx) (fa := fBin gIx (fVar 3) (fVar 2)) (fb := fVar 5) (b := .int (st.getD w 0)) ((bin_ev (a := wheelsT ws) (b := .int (w : Int)) (var_ev rfl) (var_ev rfl)).trans (wheel_at hw)) (var_ev rfl)).trans (step_at r.1 r.2)))
  exact (run_rt (n := 7) (k := 3) (b := b_begun) rfl ((seq_nx s1).trans ((seq_nx s2).trans ((seq_nx s3).trans s4)))).trans (trim_id rfl)
def kS (st : List Int) : NestedKey := .tup (st.map .num)
def kF (st : List Int) (w : Nat) : NestedKey := .tup [kS st, .num (w : Int)]
theorem nkA_ints : ∀ st : List Int, nkA (st.map D.int) = some (st.map .num)
  | [] => by rw [List.map_nil, nkA]; rfl
  | s :: st => by rw [List.map_cons, nkA, nkOf, nkA_ints st]; rfl
theorem nk_step : nkOf (stepT st) = some (kS st) := by rw [stepT, nkOf, nkA_ints]; rfl
theorem depth_ints : ∀ st : List Int, NestedKey.depthAll (st.map .num) = 0
  | [] => by rw [List.map_nil, NestedKey.depthAll]
  | s :: st => by rw [List.map_cons, NestedKey.depthAll, NestedKey.depth, depth_ints st]; rfl
theorem key_st : keyOf (stepT st) = some (st.map .num) := by
  unfold keyOf
  rw [nk_step]
  unfold kS
  dsimp only
  rw [NestedKey.depth, depth_ints, if_pos (by decide)]
theorem key_fall : keyOf (.tup [stepT st, .int (w : Int)]) = some [kS st, .num (w : Int)] := by
  unfold keyOf
  have : nkOf (.tup [stepT st, .int (w : Int)]) = some (.tup [kS st, .num (w : Int)]) := by
    rw [nkOf, nkA, nk_step, nkA, nkA, nkOf]
  rw [this]
  dsimp only
  simp only [NestedKey.depth, NestedKey.depthAll, kS, depth_ints]
  rfl
theorem num_inj : ∀ {a b : List Int}, a.map NestedKey.num = b.map NestedKey.num → a = b
  | [], [], _ => rfl
  | [], _ :: _, h => by simp at h
  | _ :: _, [], h => by simp at h
  | x :: a, y :: b, h => by
    rw [List.map_cons, List.map_cons] at h
    injection h with h1 h2
    injection h1 with h1
    rw [h1, num_inj h2]
theorem kS_inj {a b : List Int} (h : kS a = kS b) : a = b := by
  unfold kS at h
  injection h with h
  exact num_inj h
theorem kF_inj {a b : List Int} {v w : Nat} (h : kF a v = kF b w) : a = b ∧ v = w := by
  unfold kF at h
  injection h with h
  injection h with h1 h2
  injection h2 with h2
  injection h2 with h2
  exact ⟨kS_inj h1, by omega⟩
theorem dGet_none {kvs : List (NestedKey × D)} {k : NestedKey} : dGet kvs k = none ↔ ∀ p ∈ kvs, p.1 ≠ k := by
  unfold dGet
  rw [Option.map_eq_none_iff, List.find?_eq_none]
  simp
theorem dGet_some {kvs : List (NestedKey × D)} {k : NestedKey} {d : D} (h : dGet kvs k = some d) : (k, d) ∈ kvs := by
  unfold dGet at h
  obtain ⟨p, hp, rfl⟩ := Option.map_eq_some_iff.mp h
  have h1 := List.find?_some hp
  have h2 := List.mem_of_find?_eq_some hp
  have h3 : p.1 = k := of_decide_eq_true h1
  rw [← h3]
  exact h2
theorem dGet_put (kvs : List (NestedKey × D)) (k : NestedKey) (d : D) : dGet (dPut kvs k d) k = some d := by
  unfold dPut
  split
  · rename_i h
    have key : ∀ l : List (NestedKey × D), (dGet l k).isSome = true → dGet (l.map fun p => if p.1 = k then (p.1, d) else p) k = some d := fun l => by
      induction l with
      | nil => intro z; cases z
      | cons p l ih =>
        intro z
        by_cases e : p.1 = k
        · simp [dGet, List.find?_cons, e]
        · have h1 : dGet (p :: l) k = dGet l k := by simp [dGet, List.find?_cons, e]
          rw [h1] at z
          have h2 : dGet ((p :: l).map fun p => if p.1 = k then (p.1, d) else p) k = dGet (l.map fun p => if p.1 = k then (p.1, d) else p) k := by simp [dGet, List.find?_cons, e]
          rw [h2]
          exact ih z
    exact key kvs h
  · rename_i h
    have e : dGet kvs k = none := by
      cases z : dGet kvs k with
      | none => rfl
      | some y => rw [z] at h; exact absurd rfl h
    have hn := dGet_none.mp e
    unfold dGet
    rw [List.find?_append, List.find?_eq_none.mpr (fun p hp => by simpa using hn p hp)]
    simp
noncomputable def resF (ws : List (List (List Int))) (c : Int) (st : List Int) (w : Nat) : D := .tup [stepT (fallM ws c st w).st, stepT (fallM ws c st w).hd]
structure KOk (ws : List (List (List Int))) (c : Int) (kvs : List (NestedKey × D)) : Prop where
  all : ∀ p ∈ kvs, ∃ st w, StQ ws st ∧ w < ws.length ∧ p = (kF st w, resF ws c st w)
  nd : (kvs.map (·.1)).Nodup
theorem KOk.nil : KOk ws c [] := ⟨fun p h => absurd h List.not_mem_nil, List.nodup_nil⟩
theorem KOk.get {kvs : List (NestedKey × D)} (h : KOk ws c kvs) {d : D} (e : dGet kvs (kF st w) = some d) : d = resF ws c st w := by
  obtain ⟨s, v, _, _, e1⟩ := h.all _ (dGet_some e)
  have e2 := congrArg Prod.fst e1
  have e3 := congrArg Prod.snd e1
  obtain ⟨rfl, rfl⟩ := kF_inj (show kF st w = kF s v from e2)
  exact e3
theorem und_resF {n : Nat} : (resF ws c st w).und n = true := by simp [resF, D.und, D.undA, und_step]
theorem KOk.und {kvs : List (NestedKey × D)} (h : KOk ws c kvs) {n : Nat} : Cell.und n (.dic kvs) = true := by
  show D.undA n (kvs.map (·.2)) = true
  refine undA_iff.mpr fun d hd => ?_
  obtain ⟨p, hp, rfl⟩ := List.mem_map.mp hd
  obtain ⟨s, v, _, _, rfl⟩ := h.all p hp
  exact und_resF
theorem KOk.few {kvs : List (NestedKey × D)} (h : KOk ws c kvs) (hb : BoardOk ws c) : kvs.length ≤ 32768 := by
  have key : ∀ l : List (NestedKey × D), (∀ p ∈ l, ∃ st w, StQ ws st ∧ w < ws.length ∧ p.1 = kF st w) → ∃ ps : List (List Int × Nat), l.map (·.1) = ps.map (fun x => kF x.1 x.2) ∧ ∀ x ∈ ps, StQ ws x.1 ∧ x.2 < ws.length := fun l => by
    induction l with
    | nil => exact fun _ => ⟨[], rfl, fun x h => by cases h⟩
    | cons p l ih =>
      intro z
      obtain ⟨ps, e, hp⟩ := ih fun x hx => z x (List.mem_cons_of_mem _ hx)
      obtain ⟨s, v, h1, h2, e1⟩ := z p (List.mem_cons_self ..)
      refine ⟨(s, v) :: ps, by rw [List.map_cons, List.map_cons, e, e1], fun x hx => ?_⟩
      rcases List.mem_cons.mp hx with rfl | hx
      · exact ⟨h1, h2⟩
      · exact hp x hx
  obtain ⟨ps, e, hp⟩ := key kvs fun p hp => by
    obtain ⟨s, v, h1, h2, e⟩ := h.all p hp
    exact ⟨s, v, h1, h2, by rw [e]⟩
  have nd := h.nd
  rw [e, List.Nodup, List.pairwise_map] at nd
  have hl : kvs.length = ps.length := by
    have := congrArg List.length e
    rw [List.length_map, List.length_map] at this
    exact this
  rw [hl]
  have := nodup_few 32768 (ps.map codeP) (by
    rw [List.Nodup, List.pairwise_map]
    refine List.Pairwise.imp_of_mem (fun {a b} ha hb' q z => ?_) nd
    obtain ⟨a1, a2⟩ := hp a ha
    obtain ⟨b1, b2⟩ := hp b hb'
    obtain ⟨e1, e2⟩ := codeP_inj hb a1 b1 a2 b2 z
    exact q (by rw [e1, e2])) fun x hx => by
    obtain ⟨p, hp', rfl⟩ := List.mem_map.mp hx
    exact codeP_lt hb (hp p hp').1 (hp p hp').2
  rw [List.length_map] at this
  exact this
theorem KOk.put {kvs : List (NestedKey × D)} (h : KOk ws c kvs) (h1 : StQ ws st) (hw : w < ws.length) : KOk ws c (dPut kvs (kF st w) (resF ws c st w)) := by
  unfold dPut
  split
  · have e : kvs.map (fun p => if p.1 = kF st w then (p.1, resF ws c st w) else p) = kvs := by
      refine (List.map_congr_left fun p hp => ?_).trans (List.map_id kvs)
      obtain ⟨s, v, _, _, rfl⟩ := h.all p hp
      by_cases z : kF s v = kF st w
      · obtain ⟨rfl, rfl⟩ := kF_inj z
        rw [if_pos rfl]; rfl
      · rw [if_neg z]; rfl
    rw [e]
    exact h
  · rename_i hn
    have e : dGet kvs (kF st w) = none := by
      cases z : dGet kvs (kF st w) with
      | none => rfl
      | some y => rw [z] at hn; exact absurd rfl hn
    refine ⟨fun p hp => ?_, ?_⟩
    · rcases List.mem_append.mp hp with hp | hp
      · exact h.all p hp
      · exact ⟨st, w, h1, hw, List.mem_singleton.mp hp⟩
    · rw [List.map_append]
      refine List.nodup_append.mpr ⟨h.nd, by simp, fun a ha b hb z => ?_⟩
      obtain ⟨p, hp, rfl⟩ := List.mem_map.mp ha
      have hb' : b = kF st w := by simpa using hb
      exact dGet_none.mp e p hp (by rw [z, hb'])
end QX
set_option maxRecDepth 100000
set_option maxHeartbeats 1000000
set_option exponentiation.threshold 5000
namespace QX
open PySem PySem.Spec PyProof PyProof.Rows L2 HX QX.Det
variable {A M : Mem} {σ : Sa} {ws : List (List (List Int))} {c : Int} {q : Int} {ls : List (List Int)} {st st0 s0 now cups ends es : List Int} {w w0 w00 p : Nat} {e : Int} {kvs : List (NestedKey × D)} {bs : List D} {pre : List Nat}
def fbB : FS := (sSeq (sAsgL (fBin gIx (fVar 4) (fUn gNeg (fC (.int 1)))) [5, 6, 7, 8])
  (sIf (fTest (fBin (gEq false) (fVar 8) (fTup fNil)))
  (sSeq (sPutD (fVar 1) (fVar 5) (fTup (fCons (fVar 6) (fCons (fVar 7) fNil))))
  (sExpr (fMeth gPop (fVar 4) fNil)))
  (sIf (fTest (fBin (gCmp cGe) (fBin gIx (fVar 8) (fC (.int 0))) (fCall gLen (fCons (fVar 2) fNil))))
  (sSetIx (fVar 4) (fUn gNeg (fC (.int 1))) (fLst (fCons (fVar 5) (fCons (fVar 6) (fCons (fCall m_one_more (fCons (fVar 7) (fCons (fBin gSub (fBin gIx (fVar 8) (fC (.int 0))) (fCall gLen (fCons (fVar 2) fNil))) fNil))) (fCons (fSl (fVar 8) (fPart (fC (.int 1))) fNoPart) fNil))))))
  (sIf (fTest (fBin (gInN false) (fTup (fCons (fVar 6) (fCons (fBin gIx (fVar 8) (fC (.int 0))) fNil))) (fVar 1)))
  (sSeq (sAsg (fBin gGetD (fVar 1) (fTup (fCons (fVar 6) (fCons (fBin gIx (fVar 8) (fC (.int 0))) fNil)))) (.tup [9, 10]))
  (sSetIx (fVar 4) (fUn gNeg (fC (.int 1))) (fLst (fCons (fVar 5) (fCons (fVar 9) (fCons (fCall m_law_both_c530d4 (fCons (fVar 7) (fCons (fVar 10) fNil))) (fCons (fSl (fVar 8) (fPart (fC (.int 1))) fNoPart) fNil)))))))
  (sExpr (fMeth gAppend (fVar 4) (fCons (fCall m_begun (fCons (fVar 0) (fCons (fVar 6) (fCons (fBin gIx (fVar 8) (fC (.int 0))) fNil)))) fNil)))))))
theorem fall_body {fu : Nat} : b_fall fu = (sSeq (sSet 4 (fIf (fTest (fBin (gInN false) (fTup (fCons (fVar 2) (fCons (fVar 3) fNil))) (fVar 1))) (fNew fNil) (fNew (fCons (fCall m_begun (fCons (fVar 0) (fCons (fVar 2) (fCons (fVar 3) fNil)))) fNil))))
  (sSeq (sWhile fu (fTru (fVar 4)) fbB)
  (sRet (fBin gGetD (fVar 1) (fTup (fCons (fVar 2) (fCons (fVar 3) fNil))))))) := rfl
def fS (ws : List (List (List Int))) (c : Int) (p : Nat) (st0 : List Int) (w00 n : Nat) (o5 o6 o7 o8 o9 o10 : Option D) : Sa :=
  [some (boardT ws c), some (.ref p), some (stepT st0), some (.int (w00 : Int)), some (.ref n), o5, o6, o7, o8, o9, o10]
def fM (A : Mem) (p : Nat) (kvs : List (NestedKey × D)) (fs : List D) : Mem := A.set p (.dic kvs) ++ [.lst fs]
theorem fM_len {fs : List D} : (fM A p kvs fs).length = A.length + 1 := by rw [fM, List.length_append, List.length_set]; rfl
theorem fM_top {fs : List D} : (fM A p kvs fs)[A.length]? = some (.lst fs) := by
  rw [fM, List.getElem?_append_right (by rw [List.length_set]; exact Nat.le_refl _), List.length_set, Nat.sub_self]
  rfl
theorem fM_dic (hp : p < A.length) {fs : List D} : (fM A p kvs fs)[p]? = some (.dic kvs) := by
  rw [fM, List.getElem?_append_left (by rw [List.length_set]; exact hp), List.getElem?_set_self hp]
theorem fM_setT {fs gs : List D} : (fM A p kvs fs).set A.length (.lst gs) = fM A p kvs gs := by
  rw [fM, List.set_append_right _ _ (by rw [List.length_set]; exact Nat.le_refl _), List.length_set, Nat.sub_self]
  rfl
theorem fM_setD (hp : p < A.length) {fs : List D} {k2 : List (NestedKey × D)} : (fM A p kvs fs).set p (.dic k2) = fM A p k2 fs := by
  rw [fM, List.set_append_left _ _ (by rw [List.length_set]; exact hp), List.set_set]
  rfl
theorem atI_lastF {xs : List D} {x : D} : atI (xs ++ [x]) (-1) = some x := by
  unfold atI ixN
  rw [if_neg (by decide), if_pos (by rw [List.length_append]; simp; omega)]
  have : ((-1 : Int) + ((xs ++ [x]).length : Nat)).toNat = xs.length := by rw [List.length_append, List.length_singleton]; omega
  rw [this]
  simp
theorem ixN_last {n : Nat} : ixN (n + 1) (-1) = some n := by
  unfold ixN
  rw [if_neg (by decide), if_pos (by omega)]
  congr 1
  omega
theorem set_last {xs : List D} {x y : D} : (xs ++ [x]).set xs.length y = xs ++ [y] := by
  rw [List.set_append_right _ _ (Nat.le_refl _), Nat.sub_self]
  rfl
theorem neg1 : fUn gNeg (fC (.int 1)) σ M = .ok (.int (-1)) M := rfl
theorem und_frD {n : Nat} : (frD s0 w0 now cups ends).und n = true := by simp [frD, D.und, D.undA, und_step]
theorem fM_wf (hA : Wf A) (hk : KOk ws c kvs) {fs : List D} (hf : ∀ d ∈ fs, ∀ n, d.und n = true) : Wf (fM A p kvs fs) := by
  refine Wf.push (c := .lst fs) (hA.set hk.und) ?_
  exact undA_iff.mpr fun d hd => hf d hd _
section
variable {o5 o6 o7 o8 o9 o10 : Option D}
theorem fall_cond {fs : List D} : fTru (fVar 4) (fS ws c p st0 w00 A.length o5 o6 o7 o8 o9 o10) (fM A p kvs fs) = .ok (!fs.isEmpty) (fM A p kvs fs) := by
  rw [ev_tru, var_ev (d := .ref A.length) rfl, bind_ok]
  show (match seqOf (fM A p kvs fs) (.ref A.length) with | some ds => Res.ok (!ds.isEmpty) (fM A p kvs fs) | none => .bad) = _
  rw [seqOf_ref, fM_top]
theorem fall_open : sAsgL (fBin gIx (fVar 4) (fUn gNeg (fC (.int 1)))) [5, 6, 7, 8] (fS ws c p st0 w00 A.length o5 o6 o7 o8 o9 o10) (fM A p kvs (bs ++ [frD s0 w0 now cups ends])) = .ok (.nx (fS ws c p st0 w00 A.length (some (.tup [stepT s0, .int (w0 : Int)])) (some (stepT now)) (some (stepT cups)) (some (stepT ends)) o9 o10)) (fM A p kvs (bs ++ [frD s0 w0 now cups ends])) := by
  rw [ev_asgL, bin_ev (a := .ref A.length) (b := .int (-1)) (var_ev rfl) neg1, gIx_ref fM_top, atI_lastF]
  rfl
theorem end_0 : fBin gIx (fVar 8) (fC (.int 0)) (fS ws c p st0 w00 A.length o5 o6 o7 (some (stepT (e :: es))) o9 o10) M = .ok (.int e) M := (bin_ev (a := stepT (e :: es)) (b := .int 0) (var_ev rfl) rfl).trans (ix_st (xs := e :: es) (k := 0) (by simp))
theorem nil_ev : fTup fNil σ M = .ok (.tup []) M := rfl
theorem fall_a (hp : p < A.length) (hk : KOk ws c kvs) (hb : BoardOk ws c) (hs : solB ws c = some (q, ls)) (h : Fr ws c s0 w0 pre now cups []) :
    fbB (fS ws c p st0 w00 A.length o5 o6 o7 o8 o9 o10) (fM A p kvs (bs ++ [frD s0 w0 now cups []])) = .ok (.nx (fS ws c p st0 w00 A.length (some (.tup [stepT s0, .int (w0 : Int)])) (some (stepT now)) (some (stepT cups)) (some (stepT [])) o9 o10)) (fM A p (dPut kvs (kF s0 w0) (resF ws c s0 w0)) bs) := by
  obtain ⟨e1, e2⟩ := h.done hb hs
  have hl := hk.few hb
  unfold fbB
  refine (seq_nx fall_open).trans ((sif_ev (p := true) (M1 := fM A p kvs (bs ++ [frD s0 w0 now cups []])) (test_ev ((bin_ev (a := stepT []) (b := .tup []) (var_ev rfl) nil_ev).trans tup_nil))).trans ?_)
  rw [if_pos rfl]
  have s1 : sPutD (fVar 1) (fVar 5) (fTup (fCons (fVar 6) (fCons (fVar 7) fNil))) (fS ws c p st0 w00 A.length (some (.tup [stepT s0, .int (w0 : Int)])) (some (stepT now)) (some (stepT cups)) (some (stepT [])) o9 o10) (fM A p kvs (bs ++ [frD s0 w0 now cups []])) = .ok (.nx (fS ws c p st0 w00 A.length (some (.tup [stepT s0, .int (w0 : Int)])) (some (stepT now)) (some (stepT cups)) (some (stepT [])) o9 o10)) (fM A p (dPut kvs (kF s0 w0) (resF ws c s0 w0)) (bs ++ [frD s0 w0 now cups []])) := by
    unfold sPutD
    rw [tup2S (a := stepT now) (b := stepT cups) (var_ev rfl) (var_ev rfl), bindS_ok, var_ev (d := .ref p) rfl, bindS_ok, var_ev (d := .tup [stepT s0, .int (w0 : Int)]) rfl, bindS_ok]
    have : gPutD (.ref p) (.tup [stepT s0, .int (w0 : Int)]) (.tup [stepT now, stepT cups]) (fM A p kvs (bs ++ [frD s0 w0 now cups []])) = some (fM A p (dPut kvs (kF s0 w0) (resF ws c s0 w0)) (bs ++ [frD s0 w0 now cups []])) := by
      unfold gPutD
      dsimp only
      rw [key_fall, fM_dic hp]
      dsimp only
      rw [if_pos (by rw [Nat.blt_eq]; omega), fM_setD hp]
      unfold resF
      rw [e1, e2]
      rfl
    rw [this]
  refine (seq_nx s1).trans ?_
  refine expr_ev (d := frD s0 w0 now cups []) ?_
  rw [ev_meth, var_ev (d := .ref A.length) rfl, bind_ok, if_pos (by rw [isL_ref, fM_top]; rfl), ev_nil, bind_ok]
  unfold gPop
  dsimp only
  rw [fM_top]
  dsimp only
  rw [List.length_append, List.length_singleton, Nat.add_sub_cancel, List.getElem?_append_right (Nat.le_refl _), Nat.sub_self]
  dsimp only [List.getElem?_cons_zero]
  rw [fM_setT, List.dropLast_concat]
theorem ne_nilS : fTest (fBin (gEq false) (fVar 8) (fTup fNil)) (fS ws c p st0 w00 A.length o5 o6 o7 (some (stepT (e :: es))) o9 o10) M = .ok false M := test_ev ((bin_ev (a := stepT (e :: es)) (b := .tup []) (var_ev rfl) nil_ev).trans tup_nil)
theorem len_st (h0 : StQ ws st0) : fCall gLen (fCons (fVar 2) fNil) (fS ws c p st0 w00 A.length o5 o6 o7 o8 o9 o10) M = .ok (.int (ws.length : Int)) M := by
  refine (call1_ev (a := stepT st0) (var_ev rfl)).trans ?_
  show Res.ok (D.int ((st0.map D.int).length : Int)) M = _
  rw [List.length_map, h0.1]
theorem setTop {fv : F D} {d x : D} (hσ : σ[4]? = some (some (.ref A.length))) (hv : fv σ (fM A p kvs (bs ++ [x])) = .ok d (fM A p kvs (bs ++ [x]))) : sSetIx (fVar 4) (fUn gNeg (fC (.int 1))) fv σ (fM A p kvs (bs ++ [x])) = .ok (.nx σ) (fM A p kvs (bs ++ [d])) := by
  rw [ev_setIx, hv, bindS_ok, var_ev hσ, bindS_ok, neg1, bindS_ok]
  have : gSetIx (.ref A.length) (.int (-1)) d (fM A p kvs (bs ++ [x])) = some (fM A p kvs (bs ++ [d])) := by
    unfold gSetIx
    dsimp only
    rw [fM_top]
    dsimp only
    rw [List.length_append, List.length_singleton, ixN_last]
    dsimp only
    rw [set_last, fM_setT]
  rw [this]
theorem rest_ends : fSl (fVar 8) (fPart (fC (.int 1))) fNoPart (fS ws c p st0 w00 A.length o5 o6 o7 (some (stepT (e :: es))) o9 o10) M = .ok (stepT es) M := dropS (l := e :: es) (n := 1) (var_ev rfl) rfl
theorem fall_b (h0 : StQ ws st0) (hb : BoardOk ws c) (h : Fr ws c s0 w0 pre now cups (e :: es)) (he : (ws.length : Int) ≤ e) :
    fbB (fS ws c p st0 w00 A.length o5 o6 o7 o8 o9 o10) (fM A p kvs (bs ++ [frD s0 w0 now cups (e :: es)])) = .ok (.nx (fS ws c p st0 w00 A.length (some (.tup [stepT s0, .int (w0 : Int)])) (some (stepT now)) (some (stepT cups)) (some (stepT (e :: es))) o9 o10)) (fM A p kvs (bs ++ [frD s0 w0 now (bump cups (e - ws.length).toNat 1) es])) := by
  have r := h.en e (List.mem_cons_self ..)
  have hc := h.cl
  have c4 := hb.c4
  unfold fbB
  refine (seq_nx fall_open).trans ((sif_ev ne_nilS).trans ?_)
  rw [if_neg (by decide)]
  refine (sif_ev (p := true) (M1 := fM A p kvs (bs ++ [frD s0 w0 now cups (e :: es)])) (test_ev ((bin_ev end_0 (len_st h0)).trans ?_))).trans ?_
  · rw [gCmp_int, show cGe e (ws.length : Int) = true from decide_eq_true he]
  · rw [if_pos rfl]
    have es' : (e - (ws.length : Int)) = (((e - ws.length).toNat : Nat) : Int) := by omega
    refine setTop rfl (lst4_ev (var_ev rfl) (var_ev rfl) ((call2_ev (a := stepT cups) (b := .int (((e - ws.length).toNat : Nat) : Int)) (var_ev rfl) ((bin_ev end_0 (len_st h0)).trans (gSub_int.trans (by rw [← es'])))).trans (m_one_more_eq (by omega) (by omega))) rest_ends)
theorem key_e (he0 : 0 ≤ e) : fTup (fCons (fVar 6) (fCons (fBin gIx (fVar 8) (fC (.int 0))) fNil)) (fS ws c p st0 w00 A.length o5 (some (stepT now)) o7 (some (stepT (e :: es))) o9 o10) M = .ok (.tup [stepT now, .int ((e.toNat : Nat) : Int)]) M := by
  have := tup2S (σ := fS ws c p st0 w00 A.length o5 (some (stepT now)) o7 (some (stepT (e :: es))) o9 o10) (M := M) (fa := fVar 6) (a := stepT now) (var_ev rfl) end_0
  rw [this, Int.toNat_of_nonneg he0]
theorem in_e (hp : p < A.length) {fs : List D} : gInN false (.tup [stepT now, .int (w : Int)]) (.ref p) (fM A p kvs fs) = .ok (.bl (dGet kvs (kF now w)).isSome) (fM A p kvs fs) := by
  unfold gInN
  dsimp only
  rw [key_fall, fM_dic hp]
  rfl
theorem get_e (hp : p < A.length) {fs : List D} {d : D} (h : dGet kvs (kF now w) = some d) : gGetD (.ref p) (.tup [stepT now, .int (w : Int)]) (fM A p kvs fs) = .ok d (fM A p kvs fs) := by
  unfold gGetD
  dsimp only
  rw [key_fall, fM_dic hp]
  dsimp only
  rw [show dGet kvs (.tup [kS now, .num (w : Int)]) = some d from h]
theorem fall_c (hA : Wf A) (hp : p < A.length) (hk : KOk ws c kvs) (h0 : StQ ws st0) (hb : BoardOk ws c) (h : Fr ws c s0 w0 pre now cups (e :: es)) (he : e < (ws.length : Int)) (hg : dGet kvs (kF now e.toNat) = some (resF ws c now e.toNat)) (hu : ∀ d ∈ bs, ∀ n, d.und n = true) :
    fbB (fS ws c p st0 w00 A.length o5 o6 o7 o8 o9 o10) (fM A p kvs (bs ++ [frD s0 w0 now cups (e :: es)])) = .ok (.nx (fS ws c p st0 w00 A.length (some (.tup [stepT s0, .int (w0 : Int)])) (some (stepT now)) (some (stepT cups)) (some (stepT (e :: es))) (some (stepT (fallM ws c now e.toNat).st)) (some (stepT (fallM ws c now e.toNat).hd)))) (fM A p kvs (bs ++ [frD s0 w0 (fallM ws c now e.toNat).st (plusL cups (fallM ws c now e.toNat).hd) es])) := by
  have r := h.en e (List.mem_cons_self ..)
  have hc := h.cl
  have c4 := hb.c4
  have hW := fM_wf (p := p) (fs := bs ++ [frD s0 w0 now cups (e :: es)]) hA hk (fun d hd n => by
    rcases List.mem_append.mp hd with hd | hd
    · exact hu d hd n
    · rw [List.mem_singleton.mp hd]; exact und_frD)
  unfold fbB
  refine (seq_nx fall_open).trans ((sif_ev ne_nilS).trans ?_)
  rw [if_neg (by decide)]
  refine (sif_ev (p := false) (M1 := fM A p kvs (bs ++ [frD s0 w0 now cups (e :: es)])) (test_ev ((bin_ev end_0 (len_st h0)).trans ?_))).trans ?_
  · rw [gCmp_int, show cGe e (ws.length : Int) = false from decide_eq_false (by omega)]
  · rw [if_neg (by decide)]
    refine (sif_ev (p := true) (M1 := fM A p kvs (bs ++ [frD s0 w0 now cups (e :: es)])) (test_ev ((bin_ev (key_e r.1) (var_ev (d := .ref p) rfl)).trans ((in_e hp).trans (by rw [hg]; rfl))))).trans ?_
    rw [if_pos rfl]
    have s1 : sAsg (fBin gGetD (fVar 1) (fTup (fCons (fVar 6) (fCons (fBin gIx (fVar 8) (fC (.int 0))) fNil)))) (.tup [9, 10]) (fS ws c p st0 w00 A.length (some (.tup [stepT s0, .int (w0 : Int)])) (some (stepT now)) (some (stepT cups)) (some (stepT (e :: es))) o9 o10) (fM A p kvs (bs ++ [frD s0 w0 now cups (e :: es)])) = .ok (.nx (fS ws c p st0 w00 A.length (some (.tup [stepT s0, .int (w0 : Int)])) (some (stepT now)) (some (stepT cups)) (some (stepT (e :: es))) (some (stepT (fallM ws c now e.toNat).st)) (some (stepT (fallM ws c now e.toNat).hd)))) (fM A p kvs (bs ++ [frD s0 w0 now cups (e :: es)])) :=
      asg_ev (d := resF ws c now e.toNat) ((bin_ev (var_ev (d := .ref p) rfl) (key_e r.1)).trans (get_e hp hg)) rfl
    refine (seq_nx s1).trans ?_
    exact setTop rfl (lst4_ev (var_ev rfl) (var_ev rfl) ((call2_ev (a := stepT cups) (b := stepT (fallM ws c now e.toNat).hd) (var_ev rfl) (var_ev rfl)).trans (m_both_eq hW (by omega))) rest_ends)
theorem fall_d (hA : Wf A) (hp : p < A.length) (hk : KOk ws c kvs) (h0 : StQ ws st0) (hb : BoardOk ws c) (h : Fr ws c s0 w0 pre now cups (e :: es)) (hq : StQ ws now) (he : e < (ws.length : Int)) (hg : dGet kvs (kF now e.toNat) = none) (hu : ∀ d ∈ bs, ∀ n, d.und n = true) (hl : bs.length ≤ 32768) :
    fbB (fS ws c p st0 w00 A.length o5 o6 o7 o8 o9 o10) (fM A p kvs (bs ++ [frD s0 w0 now cups (e :: es)])) = .ok (.nx (fS ws c p st0 w00 A.length (some (.tup [stepT s0, .int (w0 : Int)])) (some (stepT now)) (some (stepT cups)) (some (stepT (e :: es))) o9 o10)) (fM A p kvs ((bs ++ [frD s0 w0 now cups (e :: es)]) ++ [frD now e.toNat (now.set e.toNat ((now.getD e.toNat 0 + 1) % ((ws.getD e.toNat []).length : Int))) (List.replicate c.toNat 0) (endsAt ws now e.toNat)])) := by
  have r := h.en e (List.mem_cons_self ..)
  have hW := fM_wf (p := p) (fs := bs ++ [frD s0 w0 now cups (e :: es)]) hA hk (fun d hd n => by
    rcases List.mem_append.mp hd with hd | hd
    · exact hu d hd n
    · rw [List.mem_singleton.mp hd]; exact und_frD)
  unfold fbB
  refine (seq_nx fall_open).trans ((sif_ev ne_nilS).trans ?_)
  rw [if_neg (by decide)]
  refine (sif_ev (p := false) (M1 := fM A p kvs (bs ++ [frD s0 w0 now cups (e :: es)])) (test_ev ((bin_ev end_0 (len_st h0)).trans ?_))).trans ?_
  · rw [gCmp_int, show cGe e (ws.length : Int) = false from decide_eq_false (by omega)]
  · rw [if_neg (by decide)]
    refine (sif_ev (p := false) (M1 := fM A p kvs (bs ++ [frD s0 w0 now cups (e :: es)])) (test_ev ((bin_ev (key_e r.1) (var_ev (d := .ref p) rfl)).trans ((in_e hp).trans (by rw [hg]; rfl))))).trans ?_
    rw [if_neg (by decide)]
    refine expr_ev (d := .non) ?_
    have hm := (call3_ev (σ := fS ws c p st0 w00 A.length (some (.tup [stepT s0, .int (w0 : Int)])) (some (stepT now)) (some (stepT cups)) (some (stepT (e :: es))) o9 o10) (m := m_begun) (fa := fVar 0) (fb := fVar 6) (fc := fBin gIx (fVar 8) (fC (.int 0))) (a := boardT ws c) (b := stepT now) (var_ev rfl) (var_ev rfl) (end_0 (M := fM A p kvs (bs ++ [frD s0 w0 now cups (e :: es)]))))
    have eq : (D.int e) = .int ((e.toNat : Nat) : Int) := by rw [Int.toNat_of_nonneg r.1]
    rw [eq, m_begun_eq hW hb hq (by omega)] at hm
    rw [ev_meth, var_ev (d := .ref A.length) rfl, bind_ok, if_pos (by rw [isL_ref, fM_top]; rfl), ev_cons, hm, bind_ok, ev_nil, bind_ok, bind_ok, gAppend_ref fM_top (by rw [List.length_append]; simp; omega), fM_setT]
end
def dropsTo (ws : List (List (List Int))) (c : Int) (ps : List (List Int × Nat)) : Prop := (∀ p ∈ ps, StQ ws p.1 ∧ p.2 < ws.length) ∧ ps.Pairwise fun a b => fallN ws c b.1 b.2 < fallN ws c a.1 a.2
theorem while_n {cnd : F Bool} {b : FS} {n k j : Nat} {σ1 σ2 : Sa} {M1 M2 : Mem} (h : ∀ fu, whileL cnd b n (k + fu) σ1 M1 = whileL cnd b n fu σ2 M2) {σ3 : Sa} {M3 : Mem} (h2 : ∀ fu, whileL cnd b n (j + fu) σ2 M2 = whileL cnd b n fu σ3 M3) : ∀ fu, whileL cnd b n (k + j + fu) σ1 M1 = whileL cnd b n fu σ3 M3 := fun fu => by
  rw [Nat.add_assoc, h, h2]
theorem fall_one {fs gs : List D} {k2 : List (NestedKey × D)} {σ1 σ2 : Sa} (hc : fTru (fVar 4) σ1 (fM A p kvs fs) = .ok true (fM A p kvs fs)) (hb : fbB σ1 (fM A p kvs fs) = .ok (.nx σ2) (fM A p k2 gs)) : ∀ fu, whileL (fTru (fVar 4)) fbB (A.length + 1) (1 + fu) σ1 (fM A p kvs fs) = whileL (fTru (fVar 4)) fbB (A.length + 1) fu σ2 (fM A p k2 gs) := fun fu => by
  rw [Nat.add_comm 1 fu]
  exact while_go hc hb fM_len
theorem fall_go (hA : Wf A) (hp : p < A.length) (hb : BoardOk ws c) (hs : solB ws c = some (q, ls)) (h0 : StQ ws st0) (k : Nat) : ∀ (kvs : List (NestedKey × D)) (bs : List D) (ps : List (List Int × Nat)) (s0 : List Int) (w0 : Nat) (pre : List Nat) (now cups ends : List Int) (o5 o6 o7 o8 o9 o10 : Option D),
    Fr ws c s0 w0 pre now cups ends → KOk ws c kvs → bs.length = ps.length → (∀ d ∈ bs, ∀ n, d.und n = true) → dropsTo ws c (ps ++ [(s0, w0)]) → 8 * (fallN ws c s0 w0 - (1 + pre.length)) + ends.length ≤ k →
    ∃ n kvs' r5 r6 r7 r8 r9 r10, n ≤ 8 * (fallN ws c s0 w0 - (1 + pre.length)) + ends.length + 1 ∧ KOk ws c kvs' ∧ dGet kvs' (kF s0 w0) = some (resF ws c s0 w0) ∧
      ∀ fu, whileL (fTru (fVar 4)) fbB (A.length + 1) (n + fu) (fS ws c p st0 w00 A.length o5 o6 o7 o8 o9 o10) (fM A p kvs (bs ++ [frD s0 w0 now cups ends])) = whileL (fTru (fVar 4)) fbB (A.length + 1) fu (fS ws c p st0 w00 A.length r5 r6 r7 r8 r9 r10) (fM A p kvs' bs) := by
  induction k using Nat.strongRecOn with
  | ind k ih =>
    intro kvs bs ps s0 w0 pre now cups ends o5 o6 o7 o8 o9 o10 h hk hl hu hd hm
    have hc : fTru (fVar 4) (fS ws c p st0 w00 A.length o5 o6 o7 o8 o9 o10) (fM A p kvs (bs ++ [frD s0 w0 now cups ends])) = .ok true (fM A p kvs (bs ++ [frD s0 w0 now cups ends])) := by
      rw [fall_cond]
      simp
    have hsh := h.short hb hs
    cases ends with
    | nil =>
      refine ⟨1, _, _, _, _, _, _, _, by omega, hk.put h.h1 h.hw, dGet_put _ _ _, fall_one hc (fall_a hp hk hb hs h)⟩
    | cons e es =>
      have r := h.en e (List.mem_cons_self ..)
      by_cases he : (ws.length : Int) ≤ e
      · obtain ⟨n, kvs', r5, r6, r7, r8, r9, r10, g1, g2, g3, g4⟩ := ih (8 * (fallN ws c s0 w0 - (1 + pre.length)) + es.length) (by rw [List.length_cons] at hm; omega) kvs bs ps s0 w0 pre now (bump cups (e - ws.length).toNat 1) es (some (.tup [stepT s0, .int (w0 : Int)])) (some (stepT now)) (some (stepT cups)) (some (stepT (e :: es))) o9 o10 (h.cup hb he) hk hl hu hd (Nat.le_refl _)
        exact ⟨1 + n, kvs', r5, r6, r7, r8, r9, r10, by rw [List.length_cons]; omega, g2, g3, while_n (fall_one hc (fall_b h0 hb h he)) g4⟩
      · have he' : e < (ws.length : Int) := by omega
        obtain ⟨hq, F2, l1, l2⟩ := h.step hb hs he'
        have hw : e.toNat < ws.length := by omega
        have pl : (pre ++ rowF ws c now e.toNat).length = pre.length + fallN ws c now e.toNat := by rw [List.length_append]; rfl
        -- where it is known
        have known : ∀ (kvs : List (NestedKey × D)) (o5 o6 o7 o8 o9 o10 : Option D), KOk ws c kvs → dGet kvs (kF now e.toNat) = some (resF ws c now e.toNat) →
            ∃ n kvs' r5 r6 r7 r8 r9 r10, n ≤ 8 * (fallN ws c s0 w0 - (1 + pre.length) - fallN ws c now e.toNat) + es.length + 2 ∧ KOk ws c kvs' ∧ dGet kvs' (kF s0 w0) = some (resF ws c s0 w0) ∧
              ∀ fu, whileL (fTru (fVar 4)) fbB (A.length + 1) (n + fu) (fS ws c p st0 w00 A.length o5 o6 o7 o8 o9 o10) (fM A p kvs (bs ++ [frD s0 w0 now cups (e :: es)])) = whileL (fTru (fVar 4)) fbB (A.length + 1) fu (fS ws c p st0 w00 A.length r5 r6 r7 r8 r9 r10) (fM A p kvs' bs) := fun kvs o5 o6 o7 o8 o9 o10 hk hg => by
          have hc : fTru (fVar 4) (fS ws c p st0 w00 A.length o5 o6 o7 o8 o9 o10) (fM A p kvs (bs ++ [frD s0 w0 now cups (e :: es)])) = .ok true (fM A p kvs (bs ++ [frD s0 w0 now cups (e :: es)])) := by
            rw [fall_cond]
            simp
          obtain ⟨n, kvs', r5, r6, r7, r8, r9, r10, g1, g2, g3, g4⟩ := ih (8 * (fallN ws c s0 w0 - (1 + (pre ++ rowF ws c now e.toNat).length)) + es.length) (by rw [pl]; rw [List.length_cons] at hm; omega) kvs bs ps s0 w0 (pre ++ rowF ws c now e.toNat) (fallM ws c now e.toNat).st (plusL cups (fallM ws c now e.toNat).hd) es (some (.tup [stepT s0, .int (w0 : Int)])) (some (stepT now)) (some (stepT cups)) (some (stepT (e :: es))) (some (stepT (fallM ws c now e.toNat).st)) (some (stepT (fallM ws c now e.toNat).hd)) F2 hk hl hu hd (Nat.le_refl _)
          rw [pl] at g1
          exact ⟨1 + n, kvs', r5, r6, r7, r8, r9, r10, by omega, g2, g3, while_n (fall_one hc (fall_c hA hp hk h0 hb h he' hg hu)) g4⟩
        cases hg : dGet kvs (kF now e.toNat) with
        | some d =>
          have hd' := hk.get hg
          subst hd'
          obtain ⟨n, kvs', r5, r6, r7, r8, r9, r10, g1, g2, g3, g4⟩ := known kvs o5 o6 o7 o8 o9 o10 hk hg
          exact ⟨n, kvs', r5, r6, r7, r8, r9, r10, by rw [List.length_cons]; omega, g2, g3, g4⟩
        | none =>
          have hfew := chain_few hb ps (fun x hx => hd.1 x (List.mem_append_left _ hx)) (List.pairwise_append.mp hd.2).1
          have hd2 : dropsTo ws c ((ps ++ [(s0, w0)]) ++ [(now, e.toNat)]) := by
            refine ⟨fun x hx => ?_, List.pairwise_append.mpr ⟨hd.2, by simp, fun a ha b hb' => ?_⟩⟩
            · rcases List.mem_append.mp hx with hx | hx
              · exact hd.1 x hx
              · rw [List.mem_singleton.mp hx]; exact ⟨hq, hw⟩
            · rw [List.mem_singleton.mp hb']
              have hlt : fallN ws c now e.toNat < fallN ws c s0 w0 := by omega
              rcases List.mem_append.mp ha with ha | ha
              · exact Nat.lt_trans hlt ((List.pairwise_append.mp hd.2).2.2 a ha (s0, w0) (List.mem_singleton.mpr rfl))
              · rw [List.mem_singleton.mp ha]; exact hlt
          have F3 := Fr.new hb hq hw
          have e3 : (endsAt ws now e.toNat).length ≤ 3 := by
            have hns : e.toNat < now.length := by rw [hq.1]; exact hw
            have rr := hq.2 e.toNat _ _ (List.getElem?_eq_getElem hns) (List.getElem?_eq_getElem hw)
            have hmm : endsAt ws now e.toNat ∈ ws.getD e.toNat [] := by
              unfold endsAt
              have ex : now.getD e.toNat 0 = now[e.toNat] := by rw [List.getD_eq_getElem?_getD, List.getElem?_eq_getElem hns]; rfl
              have ew : ws.getD e.toNat [] = ws[e.toNat] := by rw [List.getD_eq_getElem?_getD, List.getElem?_eq_getElem hw]; rfl
              rw [ex, ew, List.getD_eq_getElem?_getD, List.getElem?_eq_getElem (show now[e.toNat].toNat < ws[e.toNat].length by omega)]
              exact List.getElem_mem _
            have hwm : ws.getD e.toNat [] ∈ ws := by rw [List.getD_eq_getElem?_getD, List.getElem?_eq_getElem hw]; exact List.getElem_mem hw
            exact ((hb.wheels _ hwm).2.2 _ hmm).1
          obtain ⟨n1, k1, a5, a6, a7, a8, a9, a10, g1, g2, g3, g4⟩ := ih (8 * (fallN ws c now e.toNat - (1 + ([] : List Nat).length)) + (endsAt ws now e.toNat).length) (by rw [List.length_cons] at hm; simp only [List.length_nil]; omega) kvs (bs ++ [frD s0 w0 now cups (e :: es)]) (ps ++ [(s0, w0)]) now e.toNat [] _ _ _ (some (.tup [stepT s0, .int (w0 : Int)])) (some (stepT now)) (some (stepT cups)) (some (stepT (e :: es))) o9 o10 F3 hk (by rw [List.length_append, List.length_append, hl]; rfl) (fun d hd n => by
            rcases List.mem_append.mp hd with hd | hd
            · exact hu d hd n
            · rw [List.mem_singleton.mp hd]; exact und_frD) hd2 (Nat.le_refl _)
          obtain ⟨n2, k2, b5, b6, b7, b8, b9, b10, j1, j2, j3, j4⟩ := known k1 a5 a6 a7 a8 a9 a10 g2 g3
          simp only [List.length_nil] at g1
          exact ⟨1 + n1 + n2, k2, b5, b6, b7, b8, b9, b10, by rw [List.length_cons]; omega, j2, j3, while_n (while_n (fall_one hc (fall_d hA hp hk h0 hb h hq he' hg hu (by omega))) g4) j4⟩
theorem fallN_le (hb : BoardOk ws c) (hs : solB ws c = some (q, ls)) (h1 : StQ ws st) : ((fallN ws c st w : Nat) : Int) ≤ longB 1 := by
  have := row_short hb hs (T := 1) (by decide) (drop_ok hb h1 (oneQ (ws := ws) (w := w))) (fun x hx => (oneQ.2 x hx).2) (rowF_rest hb hs h1).1
  exact this
def fuelF (fu : Nat) : Prop := 8 * longB 1 + 100 < fu
theorem bigFuelF : fuelF bigFuel := by unfold fuelF longB wB bigFuel; decide +kernel
theorem m_fall_eq {fu : Nat} (hf : fuelF fu) (hA : Wf A) (hp : p < A.length) (hb : BoardOk ws c) (hs : solB ws c = some (q, ls)) (h0 : StQ ws st0) (hw : w00 < ws.length) (hd : A[p]? = some (.dic kvs)) (hk : KOk ws c kvs) :
    ∃ kvs', KOk ws c kvs' ∧ m_fall fu [boardT ws c, .ref p, stepT st0, .int (w00 : Int)] A = .ok (resF ws c st0 w00) (A.set p (.dic kvs')) := by
  have hset : A.set p (.dic kvs) = A := by
    refine List.ext_getElem? fun i => ?_
    by_cases z : p = i
    · subst z; rw [List.getElem?_set_self hp, hd]
    · rw [List.getElem?_set_ne z]
  have hkey : fTup (fCons (fVar 2) (fCons (fVar 3) fNil)) (startA 11 [boardT ws c, .ref p, stepT st0, .int (w00 : Int)]) A = .ok (.tup [stepT st0, .int (w00 : Int)]) A := tup2S (var_ev rfl) (var_ev rfl)
  have hin : fTest (fBin (gInN false) (fTup (fCons (fVar 2) (fCons (fVar 3) fNil))) (fVar 1)) (startA 11 [boardT ws c, .ref p, stepT st0, .int (w00 : Int)]) A = .ok (dGet kvs (kF st0 w00)).isSome A := by
    refine test_ev ((bin_ev hkey (var_ev (d := .ref p) rfl)).trans ?_)
    unfold gInN
    dsimp only
    rw [key_fall, hd]
    rfl
  have fin : ∀ (kv : List (NestedKey × D)) (o5 o6 o7 o8 o9 o10 : Option D), dGet kv (kF st0 w00) = some (resF ws c st0 w00) → sRet (fBin gGetD (fVar 1) (fTup (fCons (fVar 2) (fCons (fVar 3) fNil)))) (fS ws c p st0 w00 A.length o5 o6 o7 o8 o9 o10) (fM A p kv []) = .ok (.rt (resF ws c st0 w00)) (fM A p kv []) := fun kv o5 o6 o7 o8 o9 o10 hg =>
    ret_ev ((bin_ev (a := .ref p) (b := .tup [stepT st0, .int (w00 : Int)]) (var_ev rfl) (tup2S (var_ev rfl) (var_ev rfl))).trans (get_e hp hg))
  have stop : ∀ (kv : List (NestedKey × D)) (k : Nat) (o5 o6 o7 o8 o9 o10 : Option D), whileL (fTru (fVar 4)) fbB (A.length + 1) (k + 1) (fS ws c p st0 w00 A.length o5 o6 o7 o8 o9 o10) (fM A p kv []) = .ok (.nx (fS ws c p st0 w00 A.length o5 o6 o7 o8 o9 o10)) (fM A p kv []) := fun kv k o5 o6 o7 o8 o9 o10 => while_stop (by rw [fall_cond]; rfl)
  have done : ∀ (kv : List (NestedKey × D)), KOk ws c kv → b_fall fu (startA 11 [boardT ws c, .ref p, stepT st0, .int (w00 : Int)]) A = .ok (.rt (resF ws c st0 w00)) (fM A p kv []) → m_fall fu [boardT ws c, .ref p, stepT st0, .int (w00 : Int)] A = .ok (resF ws c st0 w00) (A.set p (.dic kv)) := fun kv hk e =>
    (run_rt (n := 11) (k := 4) rfl e).trans (trim_app (by rw [List.length_set]) (hA.set hk.und) und_resF)
  cases hg : dGet kvs (kF st0 w00) with
  | some d =>
    have hd' := hk.get hg
    subst hd'
    refine ⟨kvs, hk, done kvs hk ?_⟩
    rw [hg] at hin
    have s1 : sSet 4 (fIf (fTest (fBin (gInN false) (fTup (fCons (fVar 2) (fCons (fVar 3) fNil))) (fVar 1))) (fNew fNil) (fNew (fCons (fCall m_begun (fCons (fVar 0) (fCons (fVar 2) (fCons (fVar 3) fNil)))) fNil))) (startA 11 [boardT ws c, .ref p, stepT st0, .int (w00 : Int)]) A = .ok (.nx (fS ws c p st0 w00 A.length none none none none none none)) (fM A p kvs []) := by
      refine set_ev (d := .ref A.length) ?_
      rw [ev_if, hin, bind_ok]
      rw [if_pos (by rfl), fM, hset]
      rfl
    obtain ⟨k, rfl⟩ : ∃ k, fu = k + 1 := ⟨fu - 1, by unfold fuelF longB at hf; have := wB_pos; omega⟩
    have s2 : sWhile (k + 1) (fTru (fVar 4)) fbB (fS ws c p st0 w00 A.length none none none none none none) (fM A p kvs []) = .ok (.nx (fS ws c p st0 w00 A.length none none none none none none)) (fM A p kvs []) := by
      unfold sWhile
      rw [fM_len]
      exact stop _ _ _ _ _ _ _ _
    rw [fall_body]
    exact (seq_nx s1).trans ((seq_nx s2).trans (fin kvs _ _ _ _ _ _ hg))
  | none =>
    rw [hg] at hin
    have F := Fr.new hb h0 hw
    obtain ⟨n, kv, r5, r6, r7, r8, r9, r10, g1, g2, g3, g4⟩ := fall_go (w00 := w00) hA hp hb hs h0 _ kvs [] [] st0 w00 [] _ _ _ none none none none none none F hk rfl (fun d hd => by cases hd) ⟨fun x hx => by
      rw [List.nil_append] at hx
      rw [List.mem_singleton.mp hx]
      exact ⟨h0, hw⟩, by simp⟩ (Nat.le_refl _)
    refine ⟨kv, g2, done kv g2 ?_⟩
    have s1 : sSet 4 (fIf (fTest (fBin (gInN false) (fTup (fCons (fVar 2) (fCons (fVar 3) fNil))) (fVar 1))) (fNew fNil) (fNew (fCons (fCall m_begun (fCons (fVar 0) (fCons (fVar 2) (fCons (fVar 3) fNil)))) fNil))) (startA 11 [boardT ws c, .ref p, stepT st0, .int (w00 : Int)]) A = .ok (.nx (fS ws c p st0 w00 A.length none none none none none none)) (fM A p kvs ([] ++ [frD st0 w00 (st0.set w00 ((st0.getD w00 0 + 1) % ((ws.getD w00 []).length : Int))) (List.replicate c.toNat 0) (endsAt ws st0 w00)])) := by
      refine set_ev (d := .ref A.length) ?_
      rw [ev_if, hin, bind_ok, if_neg (by decide), ev_new, ev_cons, (call3_ev (a := boardT ws c) (b := stepT st0) (c := .int (w00 : Int)) (var_ev rfl) (var_ev rfl) (var_ev rfl)).trans (m_begun_eq hA hb h0 hw), bind_ok, ev_nil, bind_ok, bind_ok, fM, hset]
      rfl
    have e3 : (endsAt ws st0 w00).length ≤ 3 := by
      have hns : w00 < st0.length := by rw [h0.1]; exact hw
      have rr := h0.2 w00 _ _ (List.getElem?_eq_getElem hns) (List.getElem?_eq_getElem hw)
      have hmm : endsAt ws st0 w00 ∈ ws.getD w00 [] := by
        unfold endsAt
        have ex : st0.getD w00 0 = st0[w00] := by rw [List.getD_eq_getElem?_getD, List.getElem?_eq_getElem hns]; rfl
        have ew : ws.getD w00 [] = ws[w00] := by rw [List.getD_eq_getElem?_getD, List.getElem?_eq_getElem hw]; rfl
        rw [ex, ew, List.getD_eq_getElem?_getD, List.getElem?_eq_getElem (show st0[w00].toNat < ws[w00].length by omega)]
        exact List.getElem_mem _
      have hwm : ws.getD w00 [] ∈ ws := by rw [List.getD_eq_getElem?_getD, List.getElem?_eq_getElem hw]; exact List.getElem_mem hw
      exact ((hb.wheels _ hwm).2.2 _ hmm).1
    have hle := fallN_le hb hs h0 (w := w00)
    obtain ⟨k, rfl⟩ : ∃ k, fu = n + (k + 1) := ⟨fu - n - 1, by unfold fuelF at hf; simp only [List.length_nil] at g1; omega⟩
    have s2 : sWhile (n + (k + 1)) (fTru (fVar 4)) fbB (fS ws c p st0 w00 A.length none none none none none none) (fM A p kvs ([] ++ [frD st0 w00 (st0.set w00 ((st0.getD w00 0 + 1) % ((ws.getD w00 []).length : Int))) (List.replicate c.toNat 0) (endsAt ws st0 w00)])) = .ok (.nx (fS ws c p st0 w00 A.length r5 r6 r7 r8 r9 r10)) (fM A p kv []) := by
      unfold sWhile
      rw [fM_len, g4]
      exact stop _ _ _ _ _ _ _ _
    rw [fall_body]
    exact (seq_nx s1).trans ((seq_nx s2).trans (fin kv _ _ _ _ _ _ g3))
end QX
set_option maxRecDepth 100000
set_option maxHeartbeats 1000000
set_option exponentiation.threshold 5000
namespace QX
open PySem PySem.Spec PyProof PyProof.Rows L2 HX QX.Det
variable {A M : Mem} {σ : Sa} {ws : List (List (List Int))} {c : Int} {q : Int} {ls : List (List Int)} {st : List Int} {w p T j : Nat} {kvs : List (NestedKey × D)}
noncomputable def itS (ws : List (List (List Int))) (c : Int) (st : List Int) (w : Nat) : Nat → List Int
  | 0 => st
  | n + 1 => (fallM ws c (itS ws c st w n) w).st
theorem itS_q (hb : BoardOk ws c) (hs : solB ws c = some (q, ls)) (h : StQ ws st) : ∀ n, StQ ws (itS ws c st w n)
  | 0 => h
  | n + 1 => stQ_of (fallM_ok hb hs (itS_q hb hs h n)).toMoF
structure Lap (ws : List (List (List Int))) (c : Int) (st : List Int) (w T j : Nat) : Prop where
  lt : j < T
  eq : itS ws c st w T = itS ws c st w j
  ne : ∀ a b, a < b → b < T → itS ws c st w a ≠ itS ws c st w b
theorem Lap.uniq {T2 j2 : Nat} (h : Lap ws c st w T j) (h2 : Lap ws c st w T2 j2) : T = T2 ∧ j = j2 := by
  have e : T = T2 := by
    rcases Nat.lt_trichotomy T T2 with z | z | z
    · exact absurd h.eq.symm (h2.ne j T h.lt z)
    · exact z
    · exact absurd h2.eq.symm (h.ne j2 T2 h2.lt z)
  subst e
  refine ⟨rfl, ?_⟩
  have e2 : itS ws c st w j = itS ws c st w j2 := h.eq.symm.trans h2.eq
  rcases Nat.lt_trichotomy j j2 with z | z | z
  · exact absurd e2 (h.ne j j2 z h2.lt)
  · exact z
  · exact absurd e2.symm (h.ne j2 j z h.lt)
theorem few_stands (hb : BoardOk ws c) (hs : solB ws c = some (q, ls)) (h : StQ ws st) {n : Nat} (hn : ∀ a b, a < b → b < n → itS ws c st w a ≠ itS ws c st w b) : n ≤ 4096 := by
  have := nodup_few 4096 ((List.range n).map fun i => encS (itS ws c st w i)) (by
    rw [List.Nodup, List.pairwise_map]
    refine List.Pairwise.imp_of_mem (fun {a b} ha hb' q z => ?_) (List.pairwise_lt_range (n := n))
    exact hn a b q (List.mem_range.mp hb') (encS_inj _ _ (by rw [(itS_q hb hs h a).1, (itS_q hb hs h b).1]) (stQ_dig hb (itS_q hb hs h a)) (stQ_dig hb (itS_q hb hs h b)) z)) fun x hx => by
    obtain ⟨i, _, rfl⟩ := List.mem_map.mp hx
    exact stQ_enc hb (itS_q hb hs h i)
  rw [List.length_map, List.length_range] at this
  exact this
theorem Lap.few (h : Lap ws c st w T j) (hb : BoardOk ws c) (hs : solB ws c = some (q, ls)) (hq : StQ ws st) : T ≤ 4096 := few_stands hb hs hq h.ne
noncomputable def plc (ws : List (List (List Int))) (c : Int) (st : List Int) (w n : Nat) : List (NestedKey × D) := (List.range n).map fun i => (kS (itS ws c st w i), D.int (i : Int))
theorem plc_get {n : Nat} {s : List Int} : (dGet (plc ws c st w n) (kS s) = none ∧ ∀ i, i < n → itS ws c st w i ≠ s) ∨ ∃ i, i < n ∧ itS ws c st w i = s ∧ dGet (plc ws c st w n) (kS s) = some (.int (i : Int)) := by
  cases e : dGet (plc ws c st w n) (kS s) with
  | none =>
    refine .inl ⟨rfl, fun i hi z => ?_⟩
    exact dGet_none.mp e (kS (itS ws c st w i), .int (i : Int)) (List.mem_map.mpr ⟨i, List.mem_range.mpr hi, rfl⟩) (by rw [z])
  | some d =>
    obtain ⟨i, hi, e1⟩ := List.mem_map.mp (dGet_some e)
    have e2 := congrArg Prod.fst e1
    have e3 := congrArg Prod.snd e1
    exact .inr ⟨i, List.mem_range.mp hi, kS_inj e2, by rw [← show D.int (i : Int) = d from e3]⟩
theorem plc_put {n : Nat} (h : ∀ i, i < n → itS ws c st w i ≠ itS ws c st w n) : dPut (plc ws c st w n) (kS (itS ws c st w n)) (.int (n : Int)) = plc ws c st w (n + 1) := by
  have e : dGet (plc ws c st w n) (kS (itS ws c st w n)) = none := by
    rcases plc_get (n := n) (s := itS ws c st w n) with ⟨a, _⟩ | ⟨i, hi, e, _⟩
    · exact a
    · exact absurd e (h i hi)
  unfold dPut
  rw [e, if_neg (by decide), plc, plc, List.range_succ, List.map_append]
  rfl
theorem und_plc {m n : Nat} : Cell.und m (.dic (plc ws c st w n)) = true := by
  show D.undA m ((plc ws c st w n).map (·.2)) = true
  rw [plc, List.map_map]
  exact undA_map (fun _ => rfl) _
noncomputable def stsL (ws : List (List (List Int))) (c : Int) (st : List Int) (w n : Nat) : List D := (List.range n).map fun i => stepT (itS ws c st w i)
theorem stsL_succ {n : Nat} : stsL ws c st w (n + 1) = stsL ws c st w n ++ [stepT (itS ws c st w n)] := by rw [stsL, List.range_succ, List.map_append]; rfl
theorem stsL_len {n : Nat} : (stsL ws c st w n).length = n := by rw [stsL, List.length_map, List.length_range]
theorem und_sts {m n : Nat} : D.undA m (stsL ws c st w n) = true := undA_map (fun _ => und_step _) _
theorem trim_walk {A : Mem} {n : Nat} {x : Cell} {ds : List D} {i : Int} (hn : A.length = n) (h : Wf A) (hd : D.undA n ds = true) : trimR n (.ok (.tup [.ref (n + 1), .int i]) (A ++ [x, .lst ds])) = .ok (.tup [.lst ds, .int i]) A := by
  unfold trimR
  have hb : Nat.ble (A ++ [x, Cell.lst ds]).length n = false := by
    rw [List.length_append, hn]
    cases e : Nat.ble (n + [x, Cell.lst ds].length) n with
    | false => rfl
    | true => have := Nat.le_of_ble_eq_true e; simp at this; omega
  have hu : D.und n (.ref (n + 1)) = false := by
    simp only [D.und]
    cases e : Nat.blt (n + 1) n with
    | false => rfl
    | true => rw [Nat.blt_eq] at e; omega
  have hu2 : D.und n (.tup [.ref (n + 1), .int i]) = false := by
    simp only [D.und, D.undA] at hu ⊢
    rw [hu]
    rfl
  have hm : (A ++ [x, Cell.lst ds])[n + 1]? = some (.lst ds) := by
    rw [List.getElem?_append_right (by omega), hn, Nat.add_sub_cancel_left]
    rfl
  have hr1 : D.res 4 n (A ++ [x, Cell.lst ds]) (.ref (n + 1)) = some (.lst ds) := by
    rw [D.res, hu]
    simp only [Bool.false_eq_true, if_false]
    rw [hm]
    simp only [resL_und hd, Option.map_some]
  have hr2 : D.res 4 n (A ++ [x, Cell.lst ds]) (.int i) = some (.int i) := res_und rfl
  have hr : D.res 5 n (A ++ [x, Cell.lst ds]) (.tup [.ref (n + 1), .int i]) = some (.tup [.lst ds, .int i]) := by
    rw [D.res, hu2]
    simp only [Bool.false_eq_true, if_false, resL, hr1, hr2, Option.map_some]
  simp only [hb, Bool.false_eq_true, if_false, hr, closed_app hn h, if_true]
  rw [← hn, List.take_left]
def ptB (fu : Nat) : FS := (sSeq (sPutD (fVar 4) (fVar 2) (fCall gLen (fCons (fVar 5) fNil)))
  (sSeq (sExpr (fMeth gAppend (fVar 5) (fCons (fVar 2) fNil)))
  (sSet 2 (fBin gIx (fCall (m_fall fu) (fCons (fVar 0) (fCons (fVar 1) (fCons (fVar 2) (fCons (fVar 3) fNil))))) (fC (.int 0))))))
def ptC : F Bool := (fTest (fBin (gInN true) (fVar 2) (fVar 4)))
theorem path_body {fu : Nat} : b_path_of fu = (sSeq (sSet 4 fDNew)
  (sSeq (sSet 5 (fNew fNil))
  (sSeq (sWhile fu ptC (ptB fu))
  (sRet (fTup (fCons (fVar 5) (fCons (fBin gGetD (fVar 4) (fVar 2)) fNil))))))) := rfl
noncomputable def pM (A : Mem) (p : Nat) (kvs : List (NestedKey × D)) (ws : List (List (List Int))) (c : Int) (st : List Int) (w n : Nat) : Mem := (A.set p (.dic kvs)) ++ [.dic (plc ws c st w n), .lst (stsL ws c st w n)]
noncomputable def pS10 (ws : List (List (List Int))) (c : Int) (p : Nat) (st : List Int) (w n m : Nat) : Sa := [some (boardT ws c), some (.ref p), some (stepT (itS ws c st w n)), some (.int (w : Int)), some (.ref m), some (.ref (m + 1))]
section
variable {n : Nat}
theorem pM_len : (pM A p kvs ws c st w n).length = A.length + 2 := by rw [pM, List.length_append, List.length_set]; rfl
theorem pM_p (hp : p < A.length) : (pM A p kvs ws c st w n)[p]? = some (.dic kvs) := by
  rw [pM, List.getElem?_append_left (by rw [List.length_set]; exact hp), List.getElem?_set_self hp]
theorem pM_0 : (pM A p kvs ws c st w n)[A.length]? = some (.dic (plc ws c st w n)) := by
  rw [pM, List.getElem?_append_right (by rw [List.length_set]; exact Nat.le_refl _), List.length_set, Nat.sub_self]
  rfl
theorem pM_1 : (pM A p kvs ws c st w n)[A.length + 1]? = some (.lst (stsL ws c st w n)) := by
  rw [pM, List.getElem?_append_right (by rw [List.length_set]; omega), List.length_set, Nat.add_sub_cancel_left]
  rfl
theorem pM_setp (hp : p < A.length) {k2 : List (NestedKey × D)} : (pM A p kvs ws c st w n).set p (.dic k2) = pM A p k2 ws c st w n := by
  rw [pM, List.set_append_left _ _ (by rw [List.length_set]; exact hp), List.set_set]
  rfl
theorem pM_wf (hA : Wf A) (hk : KOk ws c kvs) : Wf (pM A p kvs ws c st w n) := by
  have h1 := Wf.push (c := .dic (plc ws c st w n)) (hA.set hk.und (p := p)) und_plc
  have h2 := Wf.push (c := .lst (stsL ws c st w n)) h1 und_sts
  rw [List.append_assoc] at h2
  exact h2
theorem ptC_eq (hc : ∀ a b, a < b → b < n → itS ws c st w a ≠ itS ws c st w b) : ptC (pS10 ws c p st w n A.length) (pM A p kvs ws c st w n) = .ok (!(dGet (plc ws c st w n) (kS (itS ws c st w n))).isSome) (pM A p kvs ws c st w n) := by
  refine test_ev ((bin_ev (a := stepT (itS ws c st w n)) (b := .ref A.length) (var_ev rfl) (var_ev rfl)).trans ?_)
  unfold gInN
  dsimp only
  rw [key_st, pM_0]
  rfl
theorem ptB_eq {fu : Nat} (hf : fuelF fu) (hA : Wf A) (hp : p < A.length) (hb : BoardOk ws c) (hs : solB ws c = some (q, ls)) (hq : StQ ws st) (hw : w < ws.length) (hk : KOk ws c kvs) (hn : n ≤ 5000) (hne : ∀ i, i < n → itS ws c st w i ≠ itS ws c st w n) :
    ∃ kv, KOk ws c kv ∧ ptB fu (pS10 ws c p st w n A.length) (pM A p kvs ws c st w n) = .ok (.nx (pS10 ws c p st w (n + 1) A.length)) (pM A p kv ws c st w (n + 1)) := by
  let M1 : Mem := (A.set p (.dic kvs)) ++ [.dic (plc ws c st w (n + 1)), .lst (stsL ws c st w n)]
  have s1 : sPutD (fVar 4) (fVar 2) (fCall gLen (fCons (fVar 5) fNil)) (pS10 ws c p st w n A.length) (pM A p kvs ws c st w n) = .ok (.nx (pS10 ws c p st w n A.length)) M1 := by
    unfold sPutD
    rw [(call1_ev (m := gLen) (a := .ref (A.length + 1)) (σ := pS10 ws c p st w n A.length) (M := pM A p kvs ws c st w n) (fa := fVar 5) (var_ev rfl)).trans (gLen_ref pM_1), stsL_len, bindS_ok, var_ev (d := .ref A.length) rfl, bindS_ok, var_ev (d := stepT (itS ws c st w n)) rfl, bindS_ok]
    have : gPutD (.ref A.length) (stepT (itS ws c st w n)) (.int (n : Int)) (pM A p kvs ws c st w n) = some M1 := by
      unfold gPutD
      dsimp only
      rw [key_st, pM_0]
      dsimp only
      rw [if_pos (by rw [Nat.blt_eq, plc, List.length_map, List.length_range]; omega)]
      have e := plc_put hne
      unfold kS at e
      rw [e]
      unfold pM
      rw [List.set_append_right _ _ (by rw [List.length_set]; exact Nat.le_refl _), List.length_set, Nat.sub_self]
      rfl
    rw [this]
  have l1 : M1[A.length + 1]? = some (.lst (stsL ws c st w n)) := by
    show (A.set p (.dic kvs) ++ _)[A.length + 1]? = _
    rw [List.getElem?_append_right (by rw [List.length_set]; omega), List.length_set, Nat.add_sub_cancel_left]
    rfl
  have s2 : sExpr (fMeth gAppend (fVar 5) (fCons (fVar 2) fNil)) (pS10 ws c p st w n A.length) M1 = .ok (.nx (pS10 ws c p st w n A.length)) (pM A p kvs ws c st w (n + 1)) := by
    refine expr_ev (d := .non) ?_
    rw [ev_meth, var_ev (d := .ref (A.length + 1)) rfl, bind_ok, if_pos (by rw [isL_ref, l1]; rfl), ev_cons, var_ev (d := stepT (itS ws c st w n)) rfl, bind_ok, ev_nil, bind_ok, bind_ok, gAppend_ref l1 (by rw [stsL_len]; omega)]
    show Res.ok D.non ((A.set p (.dic kvs) ++ [Cell.dic (plc ws c st w (n + 1)), Cell.lst (stsL ws c st w n)]).set (A.length + 1) _) = _
    rw [List.set_append_right _ _ (by rw [List.length_set]; omega), List.length_set, Nat.add_sub_cancel_left, ← stsL_succ]
    rfl
  obtain ⟨kv, hkv, e3⟩ := m_fall_eq (A := pM A p kvs ws c st w (n + 1)) (fu := fu) (p := p) (st0 := itS ws c st w n) (w00 := w) hf (pM_wf hA hk) (by rw [pM_len]; omega) hb hs (itS_q hb hs hq n) hw (pM_p hp) hk
  rw [pM_setp hp] at e3
  have s3 : sSet 2 (fBin gIx (fCall (m_fall fu) (fCons (fVar 0) (fCons (fVar 1) (fCons (fVar 2) (fCons (fVar 3) fNil))))) (fC (.int 0))) (pS10 ws c p st w n A.length) (pM A p kvs ws c st w (n + 1)) = .ok (.nx (pS10 ws c p st w (n + 1) A.length)) (pM A p kv ws c st w (n + 1)) := by
    refine set_ev ((bin_ev (b := .int 0) ((call_ev (ds := [boardT ws c, .ref p, stepT (itS ws c st w n), .int (w : Int)]) rfl).trans e3) rfl).trans ?_)
    show gIx (.tup [stepT (fallM ws c (itS ws c st w n) w).st, stepT (fallM ws c (itS ws c st w n) w).hd]) (.int 0) _ = _
    rw [gIx_tup, atI_0]
    rfl
  exact ⟨kv, hkv, (seq_nx s1).trans ((seq_nx s2).trans s3)⟩
end
theorem pt_while {fu : Nat} (hf : fuelF fu) (hA : Wf A) (hp : p < A.length) (hb : BoardOk ws c) (hs : solB ws c = some (q, ls)) (hq : StQ ws st) (hw : w < ws.length) : ∀ (k n : Nat) (kvs : List (NestedKey × D)), KOk ws c kvs → 4097 < n + k → (∀ a b, a < b → b < n → itS ws c st w a ≠ itS ws c st w b) →
    ∃ T j kv, Lap ws c st w T j ∧ KOk ws c kv ∧ whileL ptC (ptB fu) (A.length + 2) k (pS10 ws c p st w n A.length) (pM A p kvs ws c st w n) = .ok (.nx (pS10 ws c p st w T A.length)) (pM A p kv ws c st w T)
  | 0, n, kvs, hk, hn, hc => by
    have := few_stands hb hs hq hc
    omega
  | k + 1, n, kvs, hk, hn, hc => by
    have hfew := few_stands hb hs hq hc
    have c1 := ptC_eq (p := p) (kvs := kvs) (A := A) hc
    rcases plc_get (ws := ws) (c := c) (st := st) (w := w) (n := n) (s := itS ws c st w n) with ⟨e, hne⟩ | ⟨i, hi, e, eg⟩
    · rw [e] at c1
      obtain ⟨kv, hkv, b1⟩ := ptB_eq hf hA hp hb hs hq hw hk (by omega) hne
      obtain ⟨T, j, kv2, l1, l2, l3⟩ := pt_while hf hA hp hb hs hq hw k (n + 1) kv hkv (by omega) fun a b hab hbn => by
        by_cases z : b = n
        · rw [z]; exact hne a (by omega)
        · exact hc a b hab (by omega)
      exact ⟨T, j, kv2, l1, l2, (while_go c1 b1 pM_len).trans l3⟩
    · rw [eg] at c1
      exact ⟨n, i, kvs, ⟨hi, e.symm, hc⟩, hk, while_stop c1⟩
theorem m_path_eq {fu : Nat} (hf : fuelF fu) (hA : Wf A) (hp : p < A.length) (hb : BoardOk ws c) (hs : solB ws c = some (q, ls)) (hq : StQ ws st) (hw : w < ws.length) (hd : A[p]? = some (.dic kvs)) (hk : KOk ws c kvs) :
    ∃ T j kv, Lap ws c st w T j ∧ KOk ws c kv ∧ m_path_of fu [boardT ws c, .ref p, stepT st, .int (w : Int)] A = .ok (.tup [.lst (stsL ws c st w T), .int (j : Int)]) (A.set p (.dic kv)) := by
  have hset : A.set p (.dic kvs) = A := by
    refine List.ext_getElem? fun i => ?_
    by_cases z : p = i
    · subst z; rw [List.getElem?_set_self hp, hd]
    · rw [List.getElem?_set_ne z]
  obtain ⟨T, j, kv, l1, l2, l3⟩ := pt_while hf hA hp hb hs hq hw fu 0 kvs hk (by unfold fuelF longB at hf; have := wB_pos; have h2 : (4097 : Int) ≤ wB := by { unfold wB; decide +kernel }; omega) fun a b _ h => absurd h (Nat.not_lt_zero _)
  refine ⟨T, j, kv, l1, l2, ?_⟩
  have s1 : sSet 4 fDNew (startA 6 [boardT ws c, .ref p, stepT st, .int (w : Int)]) A = .ok (.nx [some (boardT ws c), some (.ref p), some (stepT st), some (.int (w : Int)), some (.ref A.length), none]) (A ++ [.dic []]) := set_ev rfl
  have s2 : sSet 5 (fNew fNil) [some (boardT ws c), some (.ref p), some (stepT st), some (.int (w : Int)), some (.ref A.length), none] (A ++ [.dic []]) = .ok (.nx (pS10 ws c p st w 0 A.length)) (pM A p kvs ws c st w 0) := by
    have e : (A ++ [Cell.dic []]).length = A.length + 1 := by simp
    refine set_ev (d := .ref (A.length + 1)) ?_
    rw [ev_new, ev_nil, bind_ok, if_pos (by decide), e]
    unfold pM
    rw [hset, List.append_assoc]
    rfl
  have s3 : sWhile fu ptC (ptB fu) (pS10 ws c p st w 0 A.length) (pM A p kvs ws c st w 0) = .ok (.nx (pS10 ws c p st w T A.length)) (pM A p kv ws c st w T) := by
    unfold sWhile
    rw [pM_len]
    exact l3
  have eg : dGet (plc ws c st w T) (kS (itS ws c st w T)) = some (.int (j : Int)) := by
    rcases plc_get (ws := ws) (c := c) (st := st) (w := w) (n := T) (s := itS ws c st w T) with ⟨_, hne⟩ | ⟨i, hi, e, eg⟩
    · exact absurd l1.eq.symm (hne j l1.lt)
    · have := (l1.uniq ⟨hi, e.symm, l1.ne⟩).2
      rw [this]
      exact eg
  have s4 : sRet (fTup (fCons (fVar 5) (fCons (fBin gGetD (fVar 4) (fVar 2)) fNil))) (pS10 ws c p st w T A.length) (pM A p kv ws c st w T) = .ok (.rt (.tup [.ref (A.length + 1), .int (j : Int)])) (pM A p kv ws c st w T) := by
    refine ret_ev (tup2S (var_ev rfl) ((bin_ev (a := .ref A.length) (b := stepT (itS ws c st w T)) (var_ev rfl) (var_ev rfl)).trans ?_))
    unfold gGetD
    dsimp only
    rw [key_st, pM_0]
    dsimp only
    rw [show dGet (plc ws c st w T) (.tup ((itS ws c st w T).map .num)) = some (.int (j : Int)) from eg]
  have sb : b_path_of fu (startA 6 [boardT ws c, .ref p, stepT st, .int (w : Int)]) A = .ok (.rt (.tup [.ref (A.length + 1), .int (j : Int)])) (pM A p kv ws c st w T) := by
    rw [path_body]
    exact (seq_nx s1).trans ((seq_nx s2).trans ((seq_nx s3).trans s4))
  have h2 := trim_walk (A := A.set p (.dic kv)) (n := A.length) (x := .dic (plc ws c st w T)) (ds := stsL ws c st w T) (i := (j : Int)) (by rw [List.length_set]) (hA.set l2.und) und_sts
  exact (run_rt (n := 6) (k := 4) rfl sb).trans h2
end QX
set_option maxRecDepth 100000
set_option maxHeartbeats 1000000
namespace QX
open PySem PySem.Spec PyProof PyProof.Rows L2 HX QX.Det
variable {A M : Mem} {p k : Nat} {x : Cell} {σ : Sa} {ws : List (List (List Int))} {c : Int} {m : Mo} {q : Int} {ls : List (List Int)} {T : Int}
end QX
set_option maxRecDepth 100000
set_option maxHeartbeats 1000000
set_option exponentiation.threshold 5000
namespace QX
open PySem PySem.Spec PyProof PyProof.Rows L2 HX QX.Det
variable {A M : Mem} {σ : Sa} {ws : List (List (List Int))} {c : Int} {q : Int} {ls : List (List Int)} {st : List Int} {w p T j : Nat}
end QX
set_option maxRecDepth 100000
set_option maxHeartbeats 1000000
set_option exponentiation.threshold 5000
namespace QX
open PySem PySem.Spec PyProof PyProof.Rows L2 HX QX.Det
variable {A M : Mem} {σ : Sa} {ws : List (List (List Int))} {c : Int} {q : Int} {ls : List (List Int)} {st : List Int} {w p T j n : Nat} {kvs : List (NestedKey × D)}
noncomputable def cupS (ws : List (List (List Int))) (c : Int) (st : List Int) (w : Nat) : Nat → List Int
  | 0 => List.replicate c.toNat 0
  | n + 1 => plusL (cupS ws c st w n) (fallM ws c (itS ws c st w n) w).hd
theorem fallHd_len (hb : BoardOk ws c) (hs : solB ws c = some (q, ls)) (h : StQ ws st) : (fallM ws c st w).hd.length = c.toNat := by
  have := (fallM_ok hb hs h (w := w)).hl
  omega
theorem cupS_len (hb : BoardOk ws c) (hs : solB ws c = some (q, ls)) (h : StQ ws st) : ∀ n, (cupS ws c st w n).length = c.toNat
  | 0 => List.length_replicate
  | n + 1 => by
    have ih := cupS_len hb hs h n
    rw [cupS, plusL_len (by rw [ih, fallHd_len hb hs (itS_q (w := w) hb hs h n)]), ih]
noncomputable def gn (ws : List (List (List Int))) (c : Int) (st : List Int) (w k i : Nat) : Int := (fallM ws c (itS ws c st w i) w).hd.getD k 0
theorem cupS_at (hb : BoardOk ws c) (hs : solB ws c = some (q, ls)) (h : StQ ws st) (k : Nat) : ∀ n, (cupS ws c st w n).getD k 0 = sumTo n (gn ws c st w k)
  | 0 => rep0g
  | n + 1 => by
    rw [cupS, plus_at (by rw [cupS_len hb hs h n, fallHd_len hb hs (itS_q (w := w) hb hs h n)]), cupS_at hb hs h k n]
    rfl
theorem lap_go (h : Lap ws c st w T j) : ∀ n, itS ws c st w (T + n) = itS ws c st w (j + n)
  | 0 => h.eq
  | n + 1 => by
    show (fallM ws c (itS ws c st w (T + n)) w).st = (fallM ws c (itS ws c st w (j + n)) w).st
    rw [lap_go h n]
theorem lap_far (h : Lap ws c st w T j) (r : Nat) : ∀ k, itS ws c st w (j + r + k * (T - j)) = itS ws c st w (j + r)
  | 0 => by rw [Nat.zero_mul, Nat.add_zero]
  | k + 1 => by
    have hlt := h.lt
    have e : j + r + (k + 1) * (T - j) = T + (r + k * (T - j)) := by rw [Nat.succ_mul]; omega
    rw [e, lap_go h, ← Nat.add_assoc, lap_far h r k]
theorem sum_lap {f : Nat → Int} (hf : ∀ n, f (T + n) = f (j + n)) (n : Nat) : sumTo (T + n) f = sumTo (j + n) f + (sumTo T f - sumTo j f) := by
  rw [sumTo_split, sumTo_split, sumTo_congr n (f := fun i => f (T + i)) (g := fun i => f (j + i)) fun u _ => hf u]
  omega
theorem sum_far {f : Nat → Int} (hlt : j < T) (hf : ∀ n, f (T + n) = f (j + n)) (r : Nat) : ∀ k : Nat, sumTo (j + r + k * (T - j)) f = sumTo (j + r) f + (k : Int) * (sumTo T f - sumTo j f)
  | 0 => by rw [Nat.zero_mul, Nat.add_zero]; simp
  | k + 1 => by
    have e : j + r + (k + 1) * (T - j) = T + (r + k * (T - j)) := by rw [Nat.succ_mul]; omega
    rw [e, sum_lap hf, ← Nat.add_assoc, sum_far hlt hf r k]
    have : ((k + 1 : Nat) : Int) * (sumTo T f - sumTo j f) = (k : Int) * (sumTo T f - sumTo j f) + (sumTo T f - sumTo j f) := by rw [Int.natCast_add, Int.add_mul]; simp
    rw [this]
    omega
theorem gn_lap (h : Lap ws c st w T j) (k n : Nat) : gn ws c st w k (T + n) = gn ws c st w k (j + n) := by
  unfold gn
  rw [lap_go h]
theorem far_parts (h : Lap ws c st w T j) {N : Nat} (hN : j ≤ N) : N = j + (N - j) % (T - j) + (N - j) / (T - j) * (T - j) ∧ (N - j) % (T - j) < T - j := by
  have hlt := h.lt
  have h1 := Nat.mod_add_div (N - j) (T - j)
  have h2 := Nat.mod_lt (N - j) (show 0 < T - j by omega)
  rw [Nat.mul_comm] at h1
  exact ⟨by omega, h2⟩
theorem gn_bd (hb : BoardOk ws c) (hs : solB ws c = some (q, ls)) (h : StQ ws st) (k i : Nat) : 0 ≤ gn ws c st w k i ∧ gn ws c st w k i ≤ 3 * (fallN ws c (itS ws c st w i) w : Nat) := by
  have hq := itS_q (w := w) hb hs h i
  have hr := rowF_rest hb hs hq (w := w)
  have m0 := drop_ok hb hq (oneQ (ws := ws) (w := w))
  have h1 := hd_few hb (rowF ws c (itS ws c st w i) w) _ m0.toMoF hr.1.lt k
  have h2 : (dropM c (itS ws c st w i) (oneL ws.length w)).hd.getD k 0 = 0 := rep0g
  rw [h2] at h1
  refine ⟨getD_nn (fallM_ok hb hs hq (w := w)).hn, ?_⟩
  unfold gn fallM fallN
  omega
theorem sumTo_bd {f : Nat → Int} {B : Int} : ∀ n : Nat, (∀ i, i < n → 0 ≤ f i ∧ f i ≤ B) → 0 ≤ sumTo n f ∧ sumTo n f ≤ n * B
  | 0, _ => ⟨Int.le_refl _, by show (0 : Int) ≤ ((0 : Nat) : Int) * B; simp⟩
  | n + 1, h => by
    obtain ⟨a, b⟩ := sumTo_bd n fun i hi => h i (by omega)
    have := h n (by omega)
    have e : ((n + 1 : Nat) : Int) * B = (n : Int) * B + B := by rw [Int.natCast_add, Int.add_mul]; simp
    rw [e]
    show 0 ≤ sumTo n f + f n ∧ sumTo n f + f n ≤ _
    omega
noncomputable def sumG (ws : List (List (List Int))) (c : Int) (w : Nat) (ss : List (List Int)) (a : List Int) : List Int := ss.foldl (fun a s => plusL a (fallM ws c s w).hd) a
theorem sumG_len (hb : BoardOk ws c) (hs : solB ws c = some (q, ls)) : ∀ (ss : List (List Int)) (a : List Int), (∀ s ∈ ss, StQ ws s) → a.length = c.toNat → (sumG ws c w ss a).length = c.toNat
  | [], _, _, h => h
  | s :: ss, a, hq, h => sumG_len hb hs ss _ (fun x hx => hq x (List.mem_cons_of_mem _ hx)) (by rw [plusL_len (by rw [h, fallHd_len hb hs (hq s (List.mem_cons_self ..))])]; exact h)
theorem sumG_it (hb : BoardOk ws c) (hs : solB ws c = some (q, ls)) (h : StQ ws st) : ∀ n, sumG ws c w ((List.range n).map (itS ws c st w)) (List.replicate c.toNat 0) = cupS ws c st w n
  | 0 => rfl
  | n + 1 => by
    rw [List.range_succ, List.map_append]
    unfold sumG
    rw [List.foldl_append]
    have := sumG_it hb hs h n
    unfold sumG at this
    rw [this]
    rfl
theorem sumG_from (hb : BoardOk ws c) (hs : solB ws c = some (q, ls)) (h : StQ ws st) (k : Nat) : ∀ m, (sumG ws c w ((List.range m).map fun i => itS ws c st w (j + i)) (List.replicate c.toNat 0)).getD k 0 = sumTo m fun i => gn ws c st w k (j + i)
  | 0 => rep0g
  | m + 1 => by
    have ih := sumG_from hb hs h k m
    have hl := sumG_len (w := w) hb hs ((List.range m).map fun i => itS ws c st w (j + i)) (List.replicate c.toNat 0) (fun s hs' => by
      obtain ⟨i, _, rfl⟩ := List.mem_map.mp hs'
      exact itS_q hb hs h _) List.length_replicate
    rw [List.range_succ, List.map_append]
    unfold sumG at ih hl ⊢
    rw [List.foldl_append]
    show (plusL _ (fallM ws c (itS ws c st w (j + m)) w).hd).getD k 0 = sumTo m _ + gn ws c st w k (j + m)
    rw [plus_at (by rw [hl, fallHd_len hb hs (itS_q (w := w) hb hs h _)]), ih]
    rfl
def caB (fu : Nat) : FS := sSet 4 (fCall m_law_both_c530d4 (fCons (fVar 4) (fCons (fBin gIx (fCall (m_fall fu) (fCons (fVar 0) (fCons (fVar 1) (fCons (fVar 5) (fCons (fVar 3) fNil))))) (fC (.int 1))) fNil)))
theorem along_body {fu : Nat} : b_cups_along fu = (sSeq (sSet 4 (fBin gMul (fTup (fCons (fC (.int 0)) fNil)) (fBin gIx (fVar 0) (fC (.int 1))))) (sSeq (sFor (fIter (fVar 2)) (.name 5) (caB fu)) (sRet (fVar 4)))) := rfl
theorem m_along_eq {fu : Nat} {ss : List (List Int)} (hf : fuelF fu) (hA : Wf A) (hp : p < A.length) (hb : BoardOk ws c) (hs : solB ws c = some (q, ls)) (hq : ∀ s ∈ ss, StQ ws s) (hw : w < ws.length) (hd : A[p]? = some (.dic kvs)) (hk : KOk ws c kvs) :
    ∃ kv, KOk ws c kv ∧ m_cups_along fu [boardT ws c, .ref p, .lst (ss.map stepT), .int (w : Int)] A = .ok (stepT (sumG ws c w ss (List.replicate c.toNat 0))) (A.set p (.dic kv)) := by
  have c0 := hb.c0
  have c4 := hb.c4
  have hset : A.set p (.dic kvs) = A := by
    refine List.ext_getElem? fun i => ?_
    by_cases z : p = i
    · subst z; rw [List.getElem?_set_self hp, hd]
    · rw [List.getElem?_set_ne z]
  have z0 : fBin gMul (fTup (fCons (fC (.int 0)) fNil)) (fBin gIx (fVar 0) (fC (.int 1))) (startA 6 [boardT ws c, .ref p, .lst (ss.map stepT), .int (w : Int)]) A = .ok (stepT (List.replicate c.toNat 0)) A := by
    have := rep0 (σ := startA 6 [boardT ws c, .ref p, .lst (ss.map stepT), .int (w : Int)]) (M := A) (fb := fBin gIx (fVar 0) (fC (.int 1))) (n := c.toNat) ((bin_ev (a := boardT ws c) (b := .int 1) (var_ev rfl) rfl).trans (board_1.trans (by rw [Int.toNat_of_nonneg c0]))) (by omega)
    exact this
  have s1 := set_ev (i := 4) z0
  obtain ⟨σ2, M2, f2, kv, hkv, rfl, o5, rfl⟩ := for_items (b := caB fu) (n := A.length) (i := 5) (σ := [some (boardT ws c), some (.ref p), some (.lst (ss.map stepT)), some (.int (w : Int)), some (stepT (List.replicate c.toNat 0)), none]) (M := A) (ds := ss.map stepT)
    (fun j σ N => ∃ kv, KOk ws c kv ∧ N = A.set p (.dic kv) ∧ ∃ o5, σ = [some (boardT ws c), some (.ref p), some (.lst (ss.map stepT)), some (.int (w : Int)), some (stepT (sumG ws c w (ss.take j) (List.replicate c.toNat 0))), o5]) ⟨kvs, hk, hset.symm, none, rfl⟩ (fun j σ N d hd hv => by
      obtain ⟨kv, hkv, rfl, o5, rfl⟩ := hv
      rw [List.getElem?_map] at hd
      cases e : ss[j]? with
      | none => rw [e] at hd; cases hd
      | some s =>
        rw [e] at hd
        cases hd
        have hsq := hq s (List.mem_of_getElem? e)
        have hW : Wf (A.set p (.dic kv)) := hA.set hkv.und
        obtain ⟨kv2, hkv2, e2⟩ := m_fall_eq (A := A.set p (.dic kv)) (fu := fu) (p := p) (st0 := s) (w00 := w) hf hW (by rw [List.length_set]; exact hp) hb hs hsq hw (by rw [List.getElem?_set_self hp]) hkv
        rw [List.set_set] at e2
        have hl := sumG_len (w := w) hb hs (ss.take j) (List.replicate c.toNat 0) (fun x hx => hq x (List.mem_of_mem_take hx)) List.length_replicate
        have b1 : caB fu [some (boardT ws c), some (.ref p), some (.lst (ss.map stepT)), some (.int (w : Int)), some (stepT (sumG ws c w (ss.take j) (List.replicate c.toNat 0))), some (stepT s)] (A.set p (.dic kv)) = .ok (.nx [some (boardT ws c), some (.ref p), some (.lst (ss.map stepT)), some (.int (w : Int)), some (stepT (plusL (sumG ws c w (ss.take j) (List.replicate c.toNat 0)) (fallM ws c s w).hd)), some (stepT s)]) (A.set p (.dic kv2)) := by
          have a1 : fBin gIx (fCall (m_fall fu) (fCons (fVar 0) (fCons (fVar 1) (fCons (fVar 5) (fCons (fVar 3) fNil))))) (fC (.int 1)) [some (boardT ws c), some (.ref p), some (.lst (ss.map stepT)), some (.int (w : Int)), some (stepT (sumG ws c w (ss.take j) (List.replicate c.toNat 0))), some (stepT s)] (A.set p (.dic kv)) = .ok (stepT (fallM ws c s w).hd) (A.set p (.dic kv2)) := by
            refine (bin_ev (b := .int 1) ((call_ev (ds := [boardT ws c, .ref p, stepT s, .int (w : Int)]) rfl).trans e2) rfl).trans ?_
            show gIx (.tup [stepT (fallM ws c s w).st, stepT (fallM ws c s w).hd]) (.int 1) _ = _
            rw [gIx_tup, atI_1]
          exact set_ev ((call2_ev (a := stepT (sumG ws c w (ss.take j) (List.replicate c.toNat 0))) (var_ev rfl) a1).trans (m_both_eq (hA.set hkv2.und) (by omega)))
        refine ⟨_, _, .inl b1, ?_⟩
        rw [gc_same (by rw [List.length_set])]
        refine ⟨kv2, hkv2, rfl, some (stepT s), ?_⟩
        have : ss.take (j + 1) = ss.take j ++ [s] := by rw [List.take_add_one, e]; rfl
        rw [this]
        unfold sumG
        rw [List.foldl_append]
        rfl)
  rw [List.length_map, List.take_length] at *
  have s2 : sFor (fIter (fVar 2)) (.name 5) (caB fu) [some (boardT ws c), some (.ref p), some (.lst (ss.map stepT)), some (.int (w : Int)), some (stepT (List.replicate c.toNat 0)), none] A = .ok (.nx [some (boardT ws c), some (.ref p), some (.lst (ss.map stepT)), some (.int (w : Int)), some (stepT (sumG ws c w ss (List.replicate c.toNat 0))), o5]) (A.set p (.dic kv)) := for_of (by rw [ev_iter, var_ev (d := .lst (ss.map stepT)) rfl]; rfl) f2
  refine ⟨kv, hkv, (run_rt (n := 6) (k := 4) (b := b_cups_along fu) rfl ?_).trans (trim_id (by rw [List.length_set]))⟩
  rw [along_body]
  exact (seq_nx s1).trans ((seq_nx s2).trans (ret_ev (var_ev rfl)))
end QX
set_option maxRecDepth 100000
set_option maxHeartbeats 1000000
set_option exponentiation.threshold 5000
namespace QX
open PySem PySem.Spec PyProof PyProof.Rows L2 HX QX.Det
variable {A M : Mem} {σ : Sa} {ws : List (List (List Int))} {c : Int} {q : Int} {ls : List (List Int)} {st : List Int} {w p T j n N : Nat} {kvs : List (NestedKey × D)}
theorem stsL_eq : stsL ws c st w T = ((List.range T).map (itS ws c st w)).map stepT := by rw [stsL, List.map_map]; rfl
theorem slL {fa fb : F D} {ds : List D} {k : Nat} (ha : fa σ M = .ok (.lst ds) M) (hb : fb σ M = .ok (.int (k : Int)) M) : fSl fa fNoPart (fPart fb) σ M = .ok (.lst (ds.take k)) M := by
  rw [ev_sl, ha, bind_ok, ev_nopart, bind_ok, ev_part, hb, bind_ok, bind_ok]
  show Res.ok (D.lst (cutD ds none (some (k : Int)))) M = _
  rw [cut_take]
theorem slR {fa fb : F D} {ds : List D} {k : Nat} (ha : fa σ M = .ok (.lst ds) M) (hb : fb σ M = .ok (.int (k : Int)) M) : fSl fa (fPart fb) fNoPart σ M = .ok (.lst (ds.drop k)) M := by
  rw [ev_sl, ha, bind_ok, ev_part, hb, bind_ok, bind_ok, ev_nopart, bind_ok]
  show Res.ok (D.lst (cutD ds (some (k : Int)) none)) M = _
  rw [cut_drop]
theorem ixSts (h : n < T) : gIx (.lst (stsL ws c st w T)) (.int (n : Int)) M = .ok (stepT (itS ws c st w n)) M := by
  rw [gIx_lst, atI_nn (by omega), Int.toNat_natCast, stsL, List.getElem?_map, List.getElem?_range h]
  rfl
theorem take_sts (h : n ≤ T) : (stsL ws c st w T).take n = ((List.range n).map (itS ws c st w)).map stepT := by
  rw [stsL_eq, ← List.map_take, ← List.map_take, List.take_range, Nat.min_eq_left h]
theorem drop_sts (h : j ≤ T) : (stsL ws c st w T).drop j = ((List.range (T - j)).map fun i => itS ws c st w (j + i)).map stepT := by
  have e : List.range T = List.range j ++ (List.range (T - j)).map (j + ·) := by rw [← List.range_add]; congr 1; omega
  rw [stsL_eq, e, List.map_append, List.map_append, List.drop_left' (by rw [List.length_map, List.length_map, List.length_range]), List.map_map, List.map_map, List.map_map]
  rfl
theorem call4S {m : List D → Mem → Res D} {fa fb fc fd : F D} {M1 M2 M3 M4 : Mem} {a b c d : D} (ha : fa σ M = .ok a M1) (hb : fb σ M1 = .ok b M2) (hc : fc σ M2 = .ok c M3) (hd : fd σ M3 = .ok d M4) : fCall m (fCons fa (fCons fb (fCons fc (fCons fd fNil)))) σ M = m [a, b, c, d] M4 := call_ev (by simp [ha, hb, hc, hd])
theorem far_cups (h : Lap ws c st w T j) (hb : BoardOk ws c) (hs : solB ws c = some (q, ls)) (hq : StQ ws st) (hN : j ≤ N) :
    List.zipWith (fun x y : Int => x + (((N - j) / (T - j) : Nat) : Int) * y) (cupS ws c st w (j + (N - j) % (T - j))) (sumG ws c w ((List.range (T - j)).map fun i => itS ws c st w (j + i)) (List.replicate c.toNat 0)) = cupS ws c st w N := by
  have hlt := h.lt
  obtain ⟨e1, e2⟩ := far_parts h hN
  have l1 := cupS_len (w := w) hb hs hq (j + (N - j) % (T - j))
  have l2 := sumG_len (w := w) hb hs ((List.range (T - j)).map fun i => itS ws c st w (j + i)) (List.replicate c.toNat 0) (fun s hs' => by
      obtain ⟨i, _, rfl⟩ := List.mem_map.mp hs'
      exact itS_q hb hs hq _) List.length_replicate
  have l3 := cupS_len (w := w) hb hs hq N
  refine List.ext_getElem (by rw [List.length_zipWith]; omega) fun k hk hk' => ?_
  have hkc : k < c.toNat := by rw [l3] at hk'; exact hk'
  rw [List.getElem_zipWith]
  have g1 := cupS_at (w := w) hb hs hq k (j + (N - j) % (T - j))
  have g2 := sumG_from (w := w) (j := j) hb hs hq k (T - j)
  have g3 := cupS_at (w := w) hb hs hq k N
  rw [List.getD_eq_getElem?_getD, List.getElem?_eq_getElem (by omega)] at g1 g2 g3
  have g1 : (cupS ws c st w (j + (N - j) % (T - j)))[k] = _ := g1
  have g2 : (sumG ws c w ((List.range (T - j)).map fun i => itS ws c st w (j + i)) (List.replicate c.toNat 0))[k] = _ := g2
  have g3 : (cupS ws c st w N)[k] = _ := g3
  rw [g1, g2, g3]
  have sp := sumTo_split j (f := gn ws c st w k) (T - j)
  rw [show j + (T - j) = T by omega] at sp
  have sf := sum_far hlt (f := gn ws c st w k) (fun n => gn_lap h k n) ((N - j) % (T - j)) ((N - j) / (T - j))
  rw [← e1] at sf
  rw [sf]
  have e3 : sumTo (T - j) (fun i => gn ws c st w k (j + i)) = sumTo T (gn ws c st w k) - sumTo j (gn ws c st w k) := by omega
  rw [e3]
def ffS (ws : List (List (List Int))) (c : Int) (p : Nat) (st : List Int) (w N : Nat) (os : List (Option D)) : Sa := some (boardT ws c) :: some (.ref p) :: some (stepT st) :: some (.int (w : Int)) :: some (.int (N : Int)) :: os
theorem m_far_eq {fu : Nat} (hf : fuelF fu) (hA : Wf A) (hp : p < A.length) (hb : BoardOk ws c) (hs : solB ws c = some (q, ls)) (hq : StQ ws st) (hw : w < ws.length) (hN : N ≤ 10 ^ 12) (hd : A[p]? = some (.dic kvs)) (hk : KOk ws c kvs) :
    ∃ kv, KOk ws c kv ∧ m_far_fall fu [boardT ws c, .ref p, stepT st, .int (w : Int), .int (N : Int)] A = .ok (.tup [stepT (itS ws c st w N), stepT (cupS ws c st w N)]) (A.set p (.dic kv)) := by
  have c4 := hb.c4
  obtain ⟨T, j, kv1, l1, hk1, e1⟩ := m_path_eq (A := A) hf hA hp hb hs hq hw hd hk
  have hlt := l1.lt
  have hT := l1.few hb hs hq
  have W1 : Wf (A.set p (.dic kv1)) := hA.set hk1.und
  have p1 : p < (A.set p (.dic kv1)).length := by rw [List.length_set]; exact hp
  have d1 : ∀ kv, (A.set p (.dic kv))[p]? = some (.dic kv) := fun kv => by rw [List.getElem?_set_self hp]
  have s1 : sAsg (fCall (m_path_of fu) (fCons (fVar 0) (fCons (fVar 1) (fCons (fVar 2) (fCons (fVar 3) fNil))))) (.tup [5, 6]) (startA 13 [boardT ws c, .ref p, stepT st, .int (w : Int), .int (N : Int)]) A = .ok (.nx (ffS ws c p st w N [some (.lst (stsL ws c st w T)), some (.int (j : Int)), none, none, none, none, none, none])) (A.set p (.dic kv1)) :=
    asg_ev ((call_ev (ds := [boardT ws c, .ref p, stepT st, .int (w : Int)]) rfl).trans e1) rfl
  have hits : ∀ n, ∀ s ∈ (List.range n).map (itS ws c st w), StQ ws s := fun n s hs' => by
    obtain ⟨i, _, rfl⟩ := List.mem_map.mp hs'
    exact itS_q hb hs hq i
  by_cases hNj : N < j
  · obtain ⟨kv2, hk2, e2⟩ := m_along_eq (A := A.set p (.dic kv1)) (ss := (List.range N).map (itS ws c st w)) hf W1 p1 hb hs (hits N) hw (d1 kv1) hk1
    rw [List.set_set, sumG_it hb hs hq] at e2
    have s2 : sIf (fTest (fBin (gCmp cLt) (fVar 4) (fVar 6))) (sRet (fTup (fCons (fBin gIx (fVar 5) (fVar 4)) (fCons (fCall (m_cups_along fu) (fCons (fVar 0) (fCons (fVar 1) (fCons (fSl (fVar 5) fNoPart (fPart (fVar 4))) (fCons (fVar 3) fNil))))) fNil)))) sNext (ffS ws c p st w N [some (.lst (stsL ws c st w T)), some (.int (j : Int)), none, none, none, none, none, none]) (A.set p (.dic kv1)) = .ok (.rt (.tup [stepT (itS ws c st w N), stepT (cupS ws c st w N)])) (A.set p (.dic kv2)) := by
      refine (sif_ev (p := true) (M1 := A.set p (.dic kv1)) (test_ev ((bin_ev (a := .int (N : Int)) (b := .int (j : Int)) (var_ev rfl) (var_ev rfl)).trans ?_))).trans ?_
      · rw [gCmp_int, show cLt (N : Int) (j : Int) = true from decide_eq_true (by omega)]
      · rw [if_pos rfl]
        refine ret_ev (tup2S ((bin_ev (a := .lst (stsL ws c st w T)) (b := .int (N : Int)) (var_ev rfl) (var_ev rfl)).trans (ixSts (by omega))) ((call4S (var_ev rfl) (var_ev rfl) (slL (k := N) (var_ev rfl) (var_ev rfl)) (var_ev rfl)).trans ?_))
        rw [take_sts (by omega)]
        exact e2
    refine ⟨kv2, hk2, (run_rt (n := 13) (k := 5) (b := b_far_fall fu) rfl ((seq_nx s1).trans (seq_rt s2))).trans (trim_id (by rw [List.length_set]))⟩
  · have hNj' : j ≤ N := by omega
    obtain ⟨f1, f2⟩ := far_parts l1 hNj'
    have hr : j + (N - j) % (T - j) < T := by omega
    obtain ⟨kv2, hk2, e2⟩ := m_along_eq (A := A.set p (.dic kv1)) (ss := (List.range (j + (N - j) % (T - j))).map (itS ws c st w)) hf W1 p1 hb hs (hits _) hw (d1 kv1) hk1
    rw [List.set_set, sumG_it hb hs hq] at e2
    obtain ⟨kv3, hk3, e3⟩ := m_along_eq (A := A.set p (.dic kv2)) (ss := (List.range (T - j)).map fun i => itS ws c st w (j + i)) hf (hA.set hk2.und) (by rw [List.length_set]; exact hp) hb hs (fun s hs' => by
      obtain ⟨i, _, rfl⟩ := List.mem_map.mp hs'
      exact itS_q hb hs hq _) hw (d1 kv2) hk2
    rw [List.set_set] at e3
    have s2 : sIf (fTest (fBin (gCmp cLt) (fVar 4) (fVar 6))) (sRet (fTup (fCons (fBin gIx (fVar 5) (fVar 4)) (fCons (fCall (m_cups_along fu) (fCons (fVar 0) (fCons (fVar 1) (fCons (fSl (fVar 5) fNoPart (fPart (fVar 4))) (fCons (fVar 3) fNil))))) fNil)))) sNext (ffS ws c p st w N [some (.lst (stsL ws c st w T)), some (.int (j : Int)), none, none, none, none, none, none]) (A.set p (.dic kv1)) = .ok (.nx (ffS ws c p st w N [some (.lst (stsL ws c st w T)), some (.int (j : Int)), none, none, none, none, none, none])) (A.set p (.dic kv1)) := by
      refine pass9 (test_ev ((bin_ev (a := .int (N : Int)) (b := .int (j : Int)) (var_ev rfl) (var_ev rfl)).trans ?_))
      rw [gCmp_int, show cLt (N : Int) (j : Int) = false from decide_eq_false (by omega)]
    have s3 : sDivm (fCons (fBin gSub (fVar 4) (fVar 6)) (fCons (fBin gSub (fCall gLen (fCons (fVar 5) fNil)) (fVar 6)) fNil)) (.tup [7, 8]) (ffS ws c p st w N [some (.lst (stsL ws c st w T)), some (.int (j : Int)), none, none, none, none, none, none]) (A.set p (.dic kv1)) = .ok (.nx (ffS ws c p st w N [some (.lst (stsL ws c st w T)), some (.int (j : Int)), some (.int (((N - j) / (T - j) : Nat) : Int)), some (.int (((N - j) % (T - j) : Nat) : Int)), none, none, none, none])) (A.set p (.dic kv1)) := by
      have a1 := (bin_ev (g := gSub) (fa := fVar 4) (fb := fVar 6) (σ := ffS ws c p st w N [some (.lst (stsL ws c st w T)), some (.int (j : Int)), none, none, none, none, none, none]) (M := A.set p (.dic kv1)) (a := .int (N : Int)) (b := .int (j : Int)) (var_ev rfl) (var_ev rfl)).trans gSub_int
      have a2 : fCall gLen (fCons (fVar 5) fNil) (ffS ws c p st w N [some (.lst (stsL ws c st w T)), some (.int (j : Int)), none, none, none, none, none, none]) (A.set p (.dic kv1)) = .ok (.int (T : Int)) (A.set p (.dic kv1)) := by
        refine (call1_ev (a := .lst (stsL ws c st w T)) (var_ev rfl)).trans ?_
        rw [gLen_lst, stsL_len]
      have a3 := (bin_ev (g := gSub) (fb := fVar 6) (b := .int (j : Int)) a2 (var_ev rfl)).trans gSub_int
      have i1 : ((N : Int) - j) = ((N - j : Nat) : Int) := by omega
      have i2 : ((T : Int) - j) = ((T - j : Nat) : Int) := by omega
      have hbits : Builtin.Int.intBits ((N - j : Nat) : Int) ≤ Builtin.Int.intBits ((T - j : Nat) : Int) + 4000 := by
        have h2 : (10 : Nat) ^ 12 < 2 ^ 2000 := by decide +kernel
        have := (intBits_le_iff (m := 2000) (x := ((N - j : Nat) : Int))).mpr (by rw [Int.natAbs_natCast]; omega)
        omega
      unfold sDivm
      rw [ev_cons, a1, bind_ok, ev_cons, a3, bind_ok, ev_nil, bind_ok, bind_ok, bindS_ok, i1, i2]
      dsimp only
      rw [if_pos (by rw [Bool.and_eq_true, decide_eq_true_eq, decide_eq_true_eq]; exact ⟨by omega, hbits⟩), ← Int.natCast_ediv, ← Int.natCast_emod]
      rfl
    have a5 : ∀ (os : List (Option D)) (Mx : Mem), fBin gAdd (fVar 6) (fVar 8) (ffS ws c p st w N (some (.lst (stsL ws c st w T)) :: some (.int (j : Int)) :: some (.int (((N - j) / (T - j) : Nat) : Int)) :: some (.int (((N - j) % (T - j) : Nat) : Int)) :: os)) Mx = .ok (.int ((j + (N - j) % (T - j) : Nat) : Int)) Mx := fun os Mx => (bin_ev (g := gAdd) (a := .int (j : Int)) (b := .int (((N - j) % (T - j) : Nat) : Int)) (var_ev rfl) (var_ev rfl)).trans (gAdd_int.trans (by rw [← Int.natCast_add]))
    have s4 : sSet 9 (fCall (m_cups_along fu) (fCons (fVar 0) (fCons (fVar 1) (fCons (fSl (fVar 5) fNoPart (fPart (fBin gAdd (fVar 6) (fVar 8)))) (fCons (fVar 3) fNil))))) (ffS ws c p st w N [some (.lst (stsL ws c st w T)), some (.int (j : Int)), some (.int (((N - j) / (T - j) : Nat) : Int)), some (.int (((N - j) % (T - j) : Nat) : Int)), none, none, none, none]) (A.set p (.dic kv1)) = .ok (.nx (ffS ws c p st w N [some (.lst (stsL ws c st w T)), some (.int (j : Int)), some (.int (((N - j) / (T - j) : Nat) : Int)), some (.int (((N - j) % (T - j) : Nat) : Int)), some (stepT (cupS ws c st w (j + (N - j) % (T - j)))), none, none, none])) (A.set p (.dic kv2)) := by
      refine set_ev ((call4S (var_ev rfl) (var_ev rfl) (slL (var_ev rfl) (a5 _ _)) (var_ev rfl)).trans ?_)
      rw [take_sts (by omega)]
      exact e2
    have s5 : sSet 10 (fCall (m_cups_along fu) (fCons (fVar 0) (fCons (fVar 1) (fCons (fSl (fVar 5) (fPart (fVar 6)) fNoPart) (fCons (fVar 3) fNil))))) (ffS ws c p st w N [some (.lst (stsL ws c st w T)), some (.int (j : Int)), some (.int (((N - j) / (T - j) : Nat) : Int)), some (.int (((N - j) % (T - j) : Nat) : Int)), some (stepT (cupS ws c st w (j + (N - j) % (T - j)))), none, none, none]) (A.set p (.dic kv2)) = .ok (.nx (ffS ws c p st w N [some (.lst (stsL ws c st w T)), some (.int (j : Int)), some (.int (((N - j) / (T - j) : Nat) : Int)), some (.int (((N - j) % (T - j) : Nat) : Int)), some (stepT (cupS ws c st w (j + (N - j) % (T - j)))), some (stepT (sumG ws c w ((List.range (T - j)).map fun i => itS ws c st w (j + i)) (List.replicate c.toNat 0))), none, none])) (A.set p (.dic kv3)) := by
      refine set_ev ((call4S (var_ev rfl) (var_ev rfl) (slR (k := j) (var_ev rfl) (var_ev rfl)) (var_ev rfl)).trans ?_)
      rw [drop_sts (by omega)]
      exact e3
    -- the numbers stay within what is multiplied
    have big : ∀ z ∈ sumG ws c w ((List.range (T - j)).map fun i => itS ws c st w (j + i)) (List.replicate c.toNat 0), z.natAbs < 2 ^ 2048 := fun z hz => by
      obtain ⟨k, hk', rfl⟩ := List.getElem_of_mem hz
      have g2 := sumG_from (w := w) (j := j) hb hs hq k (T - j)
      rw [List.getD_eq_getElem?_getD, List.getElem?_eq_getElem hk'] at g2
      have g2 : (sumG ws c w ((List.range (T - j)).map fun i => itS ws c st w (j + i)) (List.replicate c.toNat 0))[k] = _ := g2
      obtain ⟨b1, b2⟩ := sumTo_bd (f := fun i => gn ws c st w k (j + i)) (B := 3 * longB 1) (T - j) fun i _ => by
        have h1 := gn_bd (w := w) hb hs hq k (j + i)
        have h2 := fallN_le hb hs (itS_q (w := w) hb hs hq (j + i)) (w := w)
        omega
      have b3 : ((T - j : Nat) : Int) * (3 * longB 1) ≤ 4096 * (3 * longB 1) := Int.mul_le_mul_of_nonneg_right (by omega) (by unfold longB; have := wB_pos; omega)
      have b4 : (4096 : Int) * (3 * longB 1) < 2 ^ 2048 := by unfold longB wB; decide +kernel
      omega
    have hW3 : Wf (A.set p (.dic kv3)) := hA.set hk3.und
    have lc := cupS_len (w := w) hb hs hq (j + (N - j) % (T - j))
    have nb : (((N - j) / (T - j) : Nat) : Int).natAbs < 2 ^ 2048 := by
      have h1 := Nat.div_le_self (N - j) (T - j)
      have h2 : (10 : Nat) ^ 12 < 2 ^ 2048 := by decide +kernel
      rw [Int.natAbs_natCast]
      omega
    have hc := comp_mapI (fi := fIt gZip2 (fCons (fVar 9) (fCons (fVar 10) fNil))) (vs := [11, 12]) (t := .tup [11, 12]) (e := fBin gAdd (fVar 11) (fBin gMul (fVar 7) (fVar 12))) (σ := ffS ws c p st w N [some (.lst (stsL ws c st w T)), some (.int (j : Int)), some (.int (((N - j) / (T - j) : Nat) : Int)), some (.int (((N - j) % (T - j) : Nat) : Int)), some (stepT (cupS ws c st w (j + (N - j) % (T - j)))), some (stepT (sumG ws c w ((List.range (T - j)).map fun i => itS ws c st w (j + i)) (List.replicate c.toNat 0))), none, none]) (M := A.set p (.dic kv3)) ((cupS ws c st w (j + (N - j) % (T - j))).zip (sumG ws c w ((List.range (T - j)).map fun i => itS ws c st w (j + i)) (List.replicate c.toNat 0))) (fun z => Im.pr [.int z.1, .int z.2]) (fun z => .int (z.1 + (((N - j) / (T - j) : Nat) : Int) * z.2)) (by
      rw [← zip_pairs]
      rfl) hW3 (by rw [List.length_zip, lc]; omega) (fun z hz => ⟨rfl, _, rfl, fun M' _ => (bin_ev (g := gAdd) (a := .int z.1) (var_ev rfl) ((bin_ev (g := gMul) (a := .int (((N - j) / (T - j) : Nat) : Int)) (b := .int z.2) (var_ev rfl) (var_ev rfl)).trans (mul_ev nb (big z.2 (List.of_mem_zip hz).2)))).trans gAdd_int⟩)
    have s6 : sRet (fTup (fCons (fBin gIx (fVar 5) (fBin gAdd (fVar 6) (fVar 8))) (fCons (fCall gTuple (fCons (fTrim (fCompC (fIt gZip2 (fCons (fVar 9) (fCons (fVar 10) fNil))) [11, 12] (.tup [11, 12]) fYes (fBin gAdd (fVar 11) (fBin gMul (fVar 7) (fVar 12))))) fNil)) fNil))) (ffS ws c p st w N [some (.lst (stsL ws c st w T)), some (.int (j : Int)), some (.int (((N - j) / (T - j) : Nat) : Int)), some (.int (((N - j) % (T - j) : Nat) : Int)), some (stepT (cupS ws c st w (j + (N - j) % (T - j)))), some (stepT (sumG ws c w ((List.range (T - j)).map fun i => itS ws c st w (j + i)) (List.replicate c.toNat 0))), none, none]) (A.set p (.dic kv3)) = .ok (.rt (.tup [stepT (itS ws c st w N), stepT (cupS ws c st w N)])) (A.set p (.dic kv3)) := by
      refine ret_ev (tup2S ((bin_ev (a := .lst (stsL ws c st w T)) (var_ev rfl) (a5 _ _)).trans ((ixSts hr).trans ?_)) ((call1_ev (m := gTuple) hc).trans (gTuple_lst.trans ?_)))
      · have := lap_far l1 ((N - j) % (T - j)) ((N - j) / (T - j))
        rw [← f1] at this
        rw [this]
      · have e := far_cups l1 hb hs hq hNj'
        rw [← e, stepT, List.zip, List.map_zipWith, List.map_zipWith]
    refine ⟨kv3, hk3, (run_rt (n := 13) (k := 5) (b := b_far_fall fu) rfl ((seq_nx s1).trans ((seq_nx s2).trans ((seq_nx s3).trans ((seq_nx s4).trans ((seq_nx s5).trans s6)))))).trans (trim_id (by rw [List.length_set]))⟩
end QX
set_option maxRecDepth 100000
set_option maxHeartbeats 1000000
set_option exponentiation.threshold 5000
namespace QX
open PySem PySem.Spec PyProof PyProof.Rows L2 HX QX.Det
variable {M M0 g : Mem} {σ : Sa} {p k : Nat} {x y : Cell} {ws : List (List (List Int))} {c : Int}
def wv (W : Nat) (wts : List Int) (e : Int) : Int := if e < (W : Int) then wts.getD e.toNat 0 else 0
structure Wts (W : Nat) (wts : List Int) : Prop where
  l : wts.length = W
  p : ∀ z ∈ wts, 1 ≤ z ∧ z ≤ 4
theorem Wts.nn {W : Nat} {wts : List Int} (h : Wts W wts) (e : Int) : 0 ≤ wv W wts e := by
  unfold wv
  split
  · exact getD_nn fun z hz => by have := h.p z hz; omega
  · exact Int.le_refl _
def w3A : FS := (sSet 14 (fIf (fTest (fBin (gCmp cGt) (fBin gAdd (fVar 4) (fVar 3)) (fC (.int 0)))) (fCall m_law_draw_321cf4 (fCons (fVar 0) (fCons (fBin gAdd (fVar 4) (fVar 3)) fNil))) (fC (.int 0))))
def w3B : FS := (sSet 15 (fIf (fTest (fBin (gCmp cLt) (fVar 14) (fVar 4))) (fBin gIx (fVar 5) (fVar 14)) (fC (.int 0))))
def w3C : FS := (sIf (fTest (fBin (gCmp cLe) (fVar 15) (fVar 10))) (sPar 12 10 (fCons (fBin gAdd (fVar 12) (fTup (fCons (fVar 14) fNil))) (fCons (fBin gSub (fVar 10) (fVar 15)) fNil))) sNext)
def w3 : FS := sSeq w3A (sSeq w3B w3C)
def w2 : FS := (sSeq (sSet 12 (fTup fNil))
  (sSeq (sFor (fIt gRange1 (fCons (fCall m_law_draw_321cf4 (fCons (fVar 0) (fCons (fC (.int 4)) fNil))) fNil)) (.name 13) w3)
  (sExpr (fMeth gAppend (fVar 8) (fCons (fVar 12) fNil)))))
def w1 : FS := (sSeq (sPar 8 9 (fCons (fNew fNil) (fCons (fBin gAdd (fC (.int 1)) (fCall m_law_draw_321cf4 (fCons (fVar 0) (fCons (fVar 2) fNil)))) fNil)))
  (sSeq (sSet 10 (fBin gSub (fBin gMul (fBin gIx (fVar 5) (fVar 7)) (fVar 9)) (fC (.int 1))))
  (sSeq (sFor (fIt gRange1 (fCons (fVar 9) fNil)) (.name 11) w2)
  (sExpr (fMeth gAppend (fVar 6) (fCons (fCall gTuple (fCons (fVar 8) fNil)) fNil))))))
section
variable {most steps : Int} {C W r : Nat} {wts : List Int} {o7 o8 o9 o11 o13 o14 o15 : Option D}
structure WB (ws : List (List (List Int))) (c : Int) (wts : List Int) : Prop where
  b : BoardOk ws c
  w : Wts ws.length wts
  o : ∀ i, i < ws.length → (((ws.getD i []).flatten).map (wv ws.length wts)).sum < ((ws.getD i []).length : Int) * wts.getD i 0
end
end QX
set_option maxRecDepth 100000
set_option maxHeartbeats 1000000
set_option exponentiation.threshold 5000
namespace QX
open PySem PySem.Spec PyProof PyProof.Rows L2 HX QX.Det
variable {ws : List (List (List Int))} {c : Int} {q : Int} {ls : List (List Int)} {st : List Int} {w p T j n N : Nat}
end QX
set_option maxRecDepth 100000
set_option maxHeartbeats 1000000
set_option exponentiation.threshold 5000
namespace QX
open PySem PySem.Spec PyProof PyProof.Rows L2 HX QX.Det
variable {M A : Mem} {σ : Sa} {p k : Nat} {x y : Cell} {ws : List (List (List Int))} {c q : Int} {ls : List (List Int)} {st ms wd : List Int}
structure MsOk (ws : List (List (List Int))) (ms : List Int) : Prop where
  l1 : 1 ≤ ms.length
  l3 : ms.length ≤ 3
  r : ∀ z ∈ ms, 0 ≤ z ∧ z < (ws.length : Int)
structure WdOk (ms wd : List Int) : Prop where
  l : wd.length ≤ 20
  r : ∀ z ∈ wd, 0 ≤ z ∧ z < (ms.length : Int)
structure WdL (ms wd : List Int) : Prop where
  l : wd.length ≤ 6000
  r : ∀ z ∈ wd, 0 ≤ z ∧ z < (ms.length : Int)
def mo (ms : List Int) (z : Int) : Nat := (ms.getD z.toNat 0).toNat
theorem MsOk.at (h : MsOk ws ms) {z : Int} (h0 : 0 ≤ z) (h1 : z < (ms.length : Int)) : gIx (stepT ms) (.int z) M = .ok (.int ((mo ms z : Nat) : Int)) M ∧ mo ms z < ws.length := by
  have hl : z.toNat < ms.length := by omega
  have hr := h.r _ (List.getElem_mem hl)
  have e : ms.getD z.toNat 0 = ms[z.toNat] := by rw [List.getD_eq_getElem?_getD, List.getElem?_eq_getElem hl]; rfl
  refine ⟨?_, by unfold mo; rw [e]; omega⟩
  rw [stepT, gIx_tup, atI_nn h0, List.getElem?_map, List.getElem?_eq_getElem hl]
  unfold mo
  rw [e, Int.toNat_of_nonneg hr.1]
  rfl
noncomputable def stW (ws : List (List (List Int))) (c : Int) (ms st wd : List Int) : Nat → List Int
  | 0 => st
  | j + 1 => (fallM ws c (stW ws c ms st wd j) (mo ms (wd.getD j 0))).st
noncomputable def gnW (ws : List (List (List Int))) (c : Int) (ms st wd : List Int) (j : Nat) : List Int := (fallM ws c (stW ws c ms st wd j) (mo ms (wd.getD j 0))).hd
end QX
set_option maxRecDepth 100000
set_option maxHeartbeats 1000000
set_option exponentiation.threshold 5000
namespace QX
open PySem PySem.Spec PyProof PyProof.Rows L2 HX QX.Det
variable {ws : List (List (List Int))} {c : Int} {q : Int} {ls : List (List Int)} {st b : List Int} {w p T j n N : Nat}
end QX
set_option maxRecDepth 100000
set_option maxHeartbeats 1000000
set_option exponentiation.threshold 5000
namespace QX
open PySem PySem.Spec PyProof PyProof.Rows L2 HX QX.Det
variable {M A : Mem} {σ : Sa} {p k : Nat} {x y : Cell} {ws : List (List (List Int))} {c q : Int} {ls : List (List Int)} {st ms wd : List Int}
end QX
set_option maxRecDepth 100000
set_option maxHeartbeats 1000000
set_option exponentiation.threshold 5000
namespace QX
open PySem PySem.Spec PyProof.Rows L2 HX QX.Det
structure Duo where
  w1 : List (List (List Int))
  w2 : List (List (List Int))
  c : Int
  m1 : List Int
  m2 : List Int
def prodL (ws : List (List (List Int))) : Nat := ws.foldl (fun a w => a * w.length) 1
structure Duo.Ok (d : Duo) : Prop where
  b1 : BoardOk d.w1 d.c
  b2 : BoardOk d.w2 d.c
  s1 : ∃ q ls, solB d.w1 d.c = some (q, ls)
  s2 : ∃ q ls, solB d.w2 d.c = some (q, ls)
  k1 : MsOk d.w1 d.m1
  k2 : MsOk d.w2 d.m2
  eq : d.m1.length = d.m2.length
  l1 : d.w1.length ≤ 3
  l2 : d.w2.length ≤ 3
  p1 : prodL d.w1 ≤ 60
  p2 : prodL d.w2 ≤ 60
abbrev Pr := List Int × List Int
abbrev Kw := List (Pr × List Int)
variable {d : Duo} {p p' : Pr} {z n : Nat} {kw line : Kw}
noncomputable def Duo.g1 (d : Duo) (p : Pr) (z : Nat) : Mo := fallM d.w1 d.c p.1 (mo d.m1 (z : Int))
noncomputable def Duo.g2 (d : Duo) (p : Pr) (z : Nat) : Mo := fallM d.w2 d.c p.2 (mo d.m2 (z : Int))
noncomputable def Duo.nx (d : Duo) (p : Pr) (z : Nat) : Option Pr := if (d.g1 p z).hd = (d.g2 p z).hd then some ((d.g1 p z).st, (d.g2 p z).st) else none
def PrQ (d : Duo) (p : Pr) : Prop := StQ d.w1 p.1 ∧ StQ d.w2 p.2
inductive Out where
  | go (kw later : Kw) | ap (w : List Int)
def Out.bd : Out → (Kw → Kw → Out) → Out
  | .go k l, f => f k l
  | .ap w, _ => .ap w
noncomputable def stepP (d : Duo) (p : Pr) (way : List Int) (z : Nat) (kw later : Kw) : Out := match d.nx p z with
  | none => .ap (way ++ [(z : Int)])
  | some p' => if p' ∈ kw.map (·.1) then .go kw later else .go (kw ++ [(p', way ++ [(z : Int)])]) (later ++ [(p', way ++ [(z : Int)])])
noncomputable def placesB (d : Duo) (p : Pr) (way : List Int) (kw later : Kw) (j : Nat) : Out := (List.range j).foldl (fun o z => o.bd (stepP d p way z)) (.go kw later)
noncomputable def lineB (d : Duo) (n : Nat) (line kw : Kw) (j : Nat) : Out := (line.take j).foldl (fun o x => o.bd fun k l => placesB d x.1 x.2 k l n) (.go kw [])
noncomputable def roundsB (d : Duo) (n : Nat) : Nat → Kw → Kw → Option (Kw ⊕ List Int)
  | 0, _, _ => none
  | k + 1, kw, line => if line = [] then some (.inl kw) else match lineB d n line kw line.length with
    | .ap w => some (.inr w)
    | .go kw' later => roundsB d n k kw' later
structure KwQ (d : Duo) (r : Nat) (kw : Kw) : Prop where
  nd : (kw.map (·.1)).Nodup
  q : ∀ x ∈ kw, PrQ d x.1
  len : ∀ x ∈ kw, x.2.length ≤ r
  z : ∀ x ∈ kw, ∀ y ∈ x.2, 0 ≤ y ∧ y < 3
def codeD (p : Pr) : Nat := encS p.1 * 64 + encS p.2
theorem enc64 {ws : List (List (List Int))} {c : Int} {st : List Int} (hb : BoardOk ws c) (hl : ws.length ≤ 3) (h : StQ ws st) : encS st < 64 := by
  have h1 := encS_lt st (stQ_dig hb h)
  have h2 : 4 ^ st.length ≤ 4 ^ 3 := Nat.pow_le_pow_right (by decide) (by rw [h.1]; exact hl)
  have : (4 : Nat) ^ 3 = 64 := by decide
  omega
theorem codeD_inj (h : d.Ok) {a b : Pr} (ha : PrQ d a) (hb : PrQ d b) (e : codeD a = codeD b) : a = b := by
  have a1 := enc64 h.b1 h.l1 ha.1
  have a2 := enc64 h.b2 h.l2 ha.2
  have b1 := enc64 h.b1 h.l1 hb.1
  have b2 := enc64 h.b2 h.l2 hb.2
  unfold codeD at e
  have e1 := encS_inj a.1 b.1 (by rw [ha.1.1, hb.1.1]) (stQ_dig h.b1 ha.1) (stQ_dig h.b1 hb.1) (by omega)
  have e2 := encS_inj a.2 b.2 (by rw [ha.2.1, hb.2.1]) (stQ_dig h.b2 ha.2) (stQ_dig h.b2 hb.2) (by omega)
  exact Prod.ext e1 e2
theorem pairs_few (h : d.Ok) {ps : List Pr} (hn : ps.Nodup) (hq : ∀ p ∈ ps, PrQ d p) : ps.length ≤ 4096 := by
  have := nodup_few 4096 (ps.map codeD) (by
    rw [List.Nodup, List.pairwise_map]
    refine List.Pairwise.imp_of_mem (fun {a b} ha hb' q z => q (codeD_inj h (hq a ha) (hq b hb') z)) hn) fun x hx => by
    obtain ⟨p, hp', rfl⟩ := List.mem_map.mp hx
    have a1 := enc64 h.b1 h.l1 (hq p hp').1
    have a2 := enc64 h.b2 h.l2 (hq p hp').2
    unfold codeD
    omega
  rw [List.length_map] at this
  exact this
theorem KwQ.few {r : Nat} (k : KwQ d r kw) (h : d.Ok) : kw.length ≤ 4096 := by
  have := pairs_few h k.nd fun p hp => by
    obtain ⟨x, hx, rfl⟩ := List.mem_map.mp hp
    exact k.q x hx
  rw [List.length_map] at this
  exact this
theorem KwQ.mono {r s : Nat} (k : KwQ d r kw) (h : r ≤ s) : KwQ d s kw := ⟨k.nd, k.q, fun x hx => Nat.le_trans (k.len x hx) h, k.z⟩
structure StO (d : Duo) (r : Nat) (kw0 : Kw) (o : Out) : Prop where
  go : ∀ kw later, o = .go kw later → KwQ d (r + 1) kw ∧ kw = kw0 ++ later
  ap : ∀ w, o = .ap w → w.length ≤ r + 1 ∧ ∀ y ∈ w, 0 ≤ y ∧ y < 3
end QX
set_option maxRecDepth 100000
set_option maxHeartbeats 1000000
set_option exponentiation.threshold 5000
namespace QX
open PySem PySem.Spec PyProof.Rows L2 HX QX.Det
variable {M A : Mem} {σ : Sa} {d : Duo} {p p' : Pr} {z n : Nat} {kw line later : Kw}
end QX
set_option maxRecDepth 100000
set_option maxHeartbeats 1000000
set_option exponentiation.threshold 5000
namespace QX
open PySem PySem.Spec PyProof.Rows L2 HX QX.Det
variable {M A : Mem} {σ : Sa} {d : Duo} {p p' s0 : Pr} {z n fu : Nat} {kw line later : Kw} {k1 k2 : List (NestedKey × D)} {g : Mem} {ws : List (List (List Int))} {c : Int}
end QX
set_option maxRecDepth 100000
set_option maxHeartbeats 1000000
set_option exponentiation.threshold 5000
namespace QX
open PySem PySem.Spec PyProof.Rows L2 HX QX.Det
variable {ws : List (List (List Int))} {c : Int} {m : Mo} {q : Int} {ls : List (List Int)} {folk : Nat}
def beatN (ws : List (List (List Int))) (folk : Nat) (m : Mo) : Mo := beatM ws m (rowOf folk m)
def itB (ws : List (List (List Int))) (folk : Nat) (m : Mo) : Nat → Mo
  | 0 => m
  | n + 1 => beatN ws folk (itB ws folk m n)
theorem itB_add (k : Nat) : ∀ n : Nat, itB ws folk (itB ws folk m k) n = itB ws folk m (k + n)
  | 0 => rfl
  | n + 1 => by rw [itB, itB_add k n]; rfl
def BeatsTo (ws : List (List (List Int))) (folk : Nat) (m : Mo) (T : Nat) : Prop := (∀ j, j < T → rowOf folk (itB ws folk m j) ≠ []) ∧ rowOf folk (itB ws folk m T) = []
theorem BeatsTo.uniq {T U : Nat} (h : BeatsTo ws folk m T) (h' : BeatsTo ws folk m U) : T = U := by
  rcases Nat.lt_trichotomy T U with z | z | z
  · exact absurd h.2 (h'.1 T z)
  · exact z
  · exact absurd h'.2 (h.1 U z)
theorem BeatsTo.more {T k : Nat} (h : BeatsTo ws folk m T) (hk : k ≤ T) : BeatsTo ws folk (itB ws folk m k) (T - k) := by
  refine ⟨fun j hj => ?_, ?_⟩
  · rw [itB_add]; exact h.1 _ (by omega)
  · rw [itB_add, show k + (T - k) = T by omega]; exact h.2
end QX
set_option maxRecDepth 100000
set_option maxHeartbeats 1000000
namespace QX
open PySem PySem.Spec PyProof.Rows L2 HX
structure Ab3 (Z : Mem) (n0 n1 n2 : Nat) : Prop where
  l0 : n0 < Z.length
  l1 : n1 < Z.length
  l2 : n2 < Z.length
  d01 : n0 ≠ n1
  d02 : n0 ≠ n2
  d12 : n1 ≠ n2
variable {M Z : Mem} {n0 n1 n2 folk : Nat} {st wt hd : List Int} {σ : Sa} {ws : List (List (List Int))} {c : Int} {m : Mo}
end QX
set_option maxRecDepth 100000
set_option maxHeartbeats 1000000
namespace QX
open PySem
/- _law_links -/
/- _law_joined -/
/- law -/
end QX
set_option maxRecDepth 100000
set_option maxHeartbeats 1000000
namespace QX
open PySem
/- never_counts -/
/- end_of -/
/- _law_parts_right -/
/- law -/
end QX
set_option maxRecDepth 100000
set_option maxHeartbeats 1000000
namespace QX
open PySem
/- settled -/
/- rounds_more -/
/- beats_to_rest -/
/- beats -/
end QX
set_option maxRecDepth 100000
set_option maxHeartbeats 1000000
set_option exponentiation.threshold 5000
namespace QX
open PySem PySem.Spec PyProof.Rows L2 HX QX.Det
variable {M A Z : Mem} {σ : Sa} {ws : List (List (List Int))} {c : Int} {m : Mo}
section
variable {fa fb : F D} {i j : Nat} {e : F D} {as bs : List Int} {da db : D}
end
end QX
set_option maxRecDepth 100000
set_option maxHeartbeats 1000000
set_option exponentiation.threshold 5000
namespace QX
open PySem PySem.Spec PyProof.Rows L2 HX QX.Det
variable {M A Z : Mem} {σ : Sa} {ws : List (List (List Int))} {c : Int} {m : Mo} {q : Int} {ls : List (List Int)} {folk : Nat}
end QX
set_option maxRecDepth 100000
set_option maxHeartbeats 1000000
set_option exponentiation.threshold 5000
namespace QX
open PySem PySem.Spec PyProof.Rows L2 HX QX.Det
variable {M A Z : Mem} {σ : Sa} {ws : List (List (List Int))} {c : Int} {m : Mo} {q : Int} {ls : List (List Int)} {folk : Nat}
structure BtI (ws : List (List (List Int))) (c : Int) (folk : Nat) (m : Mo) (A : Mem) (n0 n1 n2 done d0 : Nat) (span : Int) (low hd : List Int) (Z : Mem) : Prop where
  ab : Ab3 Z n0 n1 n2
  wf : Wf Z
  pre : ∃ g, Z = A ++ g
  g0 : A.length ≤ n0
  g1 : A.length ≤ n1
  g2 : A.length ≤ n2
  dd : d0 ≤ done
  hl : (hd.length : Int) = c
  ne : ∀ j, j < done → rowOf folk (itB ws folk m j) ≠ []
  ll : low.length = ws.length
  l0 : ∀ u, u < ws.length → 0 ≤ low.getD u 0
  lb : ∀ t, d0 ≤ t → t < done → ∀ u, u < ws.length → low.getD u 0 ≤ (itB ws folk m t).wt.getD u 0
  s0 : 0 ≤ span
  s1 : span ≤ 2 ^ 1999
end QX
set_option maxRecDepth 100000
set_option maxHeartbeats 1000000
set_option exponentiation.threshold 5000
namespace QX
open PySem PySem.Spec PyProof.Rows L2 HX QX.Det
variable {M A Z : Mem} {σ : Sa} {ws : List (List (List Int))} {c : Int} {m : Mo} {q : Int} {ls : List (List Int)} {folk : Nat}
end QX
set_option maxRecDepth 100000
set_option maxHeartbeats 1000000
set_option exponentiation.threshold 5000
namespace QX
open PySem PySem.Spec PyProof.Rows L2 HX QX.Det
variable {M A : Mem} {σ : Sa} {d : Duo} {p p' s0 : Pr} {z n fu : Nat} {kw kw0 line later : Kw} {k1 k2 : List (NestedKey × D)} {g : Mem} {ws : List (List (List Int))} {c : Int}
def LineD (n : Nat) (g : Mem) (dl : D) (ds : List D) : Prop := ∀ (P e : Mem), P.length = n → listOf (P ++ (g ++ e)) dl = some ds
theorem LineD.lst {ds : List D} : LineD n g (.lst ds) ds := fun _ _ _ => rfl
theorem LineD.last {ds : List D} : LineD n (g ++ [.lst ds]) (.ref (n + g.length)) ds := fun P e h => by
  have : (P ++ (g ++ [Cell.lst ds] ++ e))[n + g.length]? = some (Cell.lst ds) := by
    rw [List.getElem?_append_right (by omega), h, Nat.add_sub_cancel_left, List.append_assoc, List.getElem?_append_right (Nat.le_refl _), Nat.sub_self]
    rfl
  rw [listOf_ref, this]
theorem LineD.more {dl : D} {ds : List D} (h : LineD n g dl ds) (e : Mem) : LineD n (g ++ e) dl ds := fun P e' hp => by rw [List.append_assoc]; exact h P _ hp
end QX
set_option maxRecDepth 100000
set_option maxHeartbeats 1000000
set_option exponentiation.threshold 5000
namespace QX
open PySem PySem.Spec PyProof.Rows L2 HX QX.Det
variable {M A : Mem} {σ : Sa} {d : Duo} {p p' s0 : Pr} {z n fu : Nat} {kw kw0 line later : Kw} {k1 k2 : List (NestedKey × D)} {g : Mem} {ws : List (List (List Int))} {c : Int}
structure PartD (d : Duo) (s0 : Pr) (v : Kw ⊕ List Int) : Prop where
  e : roundsB d d.m1.length 4098 [(s0, [])] [(s0, [])] = some v
  al : ∀ kw, v = .inl kw → KwQ d 5000 kw
  ap : ∀ w, v = .inr w → w.length ≤ 5000 ∧ ∀ y ∈ w, 0 ≤ y ∧ y < 3
end QX
set_option maxRecDepth 100000
set_option maxHeartbeats 1000000
set_option exponentiation.threshold 5000
namespace QX
open PySem PySem.Spec PyProof PyProof.Rows L2 HX QX.Det
variable {M A : Mem} {σ : Sa} {p k : Nat} {x y : Cell} {ws : List (List (List Int))} {c q : Int} {ls : List (List Int)} {st ms wd : List Int} {m : Mo} {T : Int}
end QX
set_option maxRecDepth 100000
set_option maxHeartbeats 1000000
set_option exponentiation.threshold 5000
namespace QX
open PySem PySem.Spec PyProof PyProof.Rows L2 HX QX.Det
variable {M A : Mem} {σ : Sa} {p k : Nat} {x y : Cell} {ws : List (List (List Int))} {c q : Int} {ls : List (List Int)} {st ms wd : List Int} {m : Mo} {T : Int}
end QX
set_option maxRecDepth 100000
set_option maxHeartbeats 1000000
set_option exponentiation.threshold 5000
namespace QX
open PySem PySem.Spec PyProof.Rows L2 HX QX.Det
variable {M A : Mem} {σ : Sa} {d : Duo} {p p' s0 : Pr} {z n fu : Nat} {kw kw0 line later : Kw} {g : Mem} {ws : List (List (List Int))} {c : Int}
noncomputable def rs1 (d : Duo) (p : Pr) (z : Nat) : D := .tup [stepT (d.g1 p z).st, stepT (d.g1 p z).hd]
noncomputable def rs2 (d : Duo) (p : Pr) (z : Nat) : D := .tup [stepT (d.g2 p z).st, stepT (d.g2 p z).hd]
end QX
set_option maxRecDepth 100000
set_option maxHeartbeats 1000000
set_option exponentiation.threshold 5000
namespace QX
open PySem PySem.Spec PyProof.Rows L2 HX QX.Det
variable {M A : Mem} {σ : Sa} {n k : Nat} {x : Cell} {ws : List (List (List Int))} {c : Int} {st ms wts : List Int}
def sumW (W : Nat) (wts : List Int) (w : List (List Int)) : Int := ((w.flatten).map (wv W wts)).sum
theorem getD_set_eq {α : Type} {l : List α} {i : Nat} {z d : α} (h : i < l.length) : (l.set i z).getD i d = z := by
  rw [List.getD_eq_getElem?_getD, List.getElem?_set_self h]
  rfl
theorem getD_set_ne {α : Type} {l : List α} {i j : Nat} {z d : α} (h : i ≠ j) : (l.set i z).getD j d = l.getD j d := by
  rw [List.getD_eq_getElem?_getD, List.getElem?_set_ne h, ← List.getD_eq_getElem?_getD]
theorem WB.set (h : WB ws c wts) {i : Nat} {w : List (List Int)} (hi : i < ws.length) (hw : WheelOk ((ws.length : Int) + c) w) (hs : sumW ws.length wts w < (w.length : Int) * wts.getD i 0) : WB (ws.set i w) c wts := by
  have hl : (ws.set i w).length = ws.length := List.length_set
  refine ⟨⟨by rw [hl]; exact h.b.w1, by rw [hl]; exact h.b.w6, h.b.c0, h.b.c4, fun v hv => ?_⟩, by rw [hl]; exact h.w, fun j hj => ?_⟩
  · rw [hl]
    rcases List.mem_or_eq_of_mem_set hv with z | z
    · exact h.b.wheels v z
    · rw [z]; exact hw
  · rw [hl] at hj ⊢
    by_cases e : i = j
    · subst e
      rw [getD_set_eq hi]
      exact hs
    · rw [getD_set_ne e]
      exact h.o j hj
theorem WB.at (h : WB ws c wts) {i : Nat} (hi : i < ws.length) : WheelOk ((ws.length : Int) + c) (ws.getD i []) ∧ sumW ws.length wts (ws.getD i []) < ((ws.getD i []).length : Int) * wts.getD i 0 := by
  refine ⟨?_, h.o i hi⟩
  rw [List.getD_eq_getElem?_getD, List.getElem?_eq_getElem hi]
  exact h.b.wheels _ (List.getElem_mem hi)
theorem StQ.at (h : StQ ws st) {i : Nat} (hi : i < ws.length) : 0 ≤ st.getD i 0 ∧ st.getD i 0 < ((ws.getD i []).length : Int) := by
  have hl : i < st.length := by rw [h.1]; exact hi
  exact h.2 i _ _ (by rw [List.getD_eq_getElem?_getD, List.getElem?_eq_getElem hl]; rfl) (by rw [List.getD_eq_getElem?_getD, List.getElem?_eq_getElem hi]; rfl)
theorem StQ.of (hl : st.length = ws.length) (h : ∀ i, i < ws.length → 0 ≤ st.getD i 0 ∧ st.getD i 0 < ((ws.getD i []).length : Int)) : StQ ws st := ⟨hl, fun i s w a b => by
  have hi := (List.getElem?_eq_some_iff.mp b).1
  have := h i hi
  rw [List.getD_eq_getElem?_getD, a, List.getD_eq_getElem?_getD, b] at this
  exact this⟩
theorem StQ.same (h : StQ ws st) {i : Nat} {w : List (List Int)} (hi : i < ws.length) (hz : st.getD i 0 < (w.length : Int)) : StQ (ws.set i w) st := by
  have hl : (ws.set i w).length = ws.length := List.length_set
  refine StQ.of (by rw [hl]; exact h.1) fun j hj => ?_
  rw [hl] at hj
  by_cases e : i = j
  · subst e
    rw [getD_set_eq hi]
    exact ⟨(h.at hi).1, hz⟩
  · rw [getD_set_ne e]
    exact h.at hj
theorem StQ.put (h : StQ ws st) {i : Nat} {w : List (List Int)} {z : Int} (hi : i < ws.length) (h0 : 0 ≤ z) (hz : z < (w.length : Int)) : StQ (ws.set i w) (st.set i z) := by
  have hl : (ws.set i w).length = ws.length := List.length_set
  refine StQ.of (by rw [hl, List.length_set]; exact h.1) fun j hj => ?_
  rw [hl] at hj
  by_cases e : i = j
  · subst e
    rw [getD_set_eq hi, getD_set_eq (by rw [h.1]; exact hi)]
    exact ⟨h0, hz⟩
  · rw [getD_set_ne e, getD_set_ne e]
    exact h.at hj
end QX
set_option maxRecDepth 100000
set_option maxHeartbeats 1000000
set_option exponentiation.threshold 5000
namespace QX
open PySem PySem.Spec PyProof.Rows L2 HX QX.Det
variable {M A : Mem} {σ : Sa} {n k : Nat} {x : Cell} {ws : List (List (List Int))} {c : Int} {st ms wts : List Int}
structure Oth (ws ws' : List (List (List Int))) (c : Int) (wts st' : List Int) : Prop where
  wb : WB ws' c wts
  l : ws'.length = ws.length
  q : StQ ws' st'
  s : (∃ i w, w.length ≤ 4 ∧ ws' = ws.set i w) ∨ ∀ i, ((ws'.getD i []).length = (ws.getD i []).length)
section
variable {way : Int} {i j : Nat}
end
end QX
set_option maxRecDepth 100000
set_option maxHeartbeats 1000000
namespace QX
open PySem
/- lame_ones -/
/- blocked_ones -/
/- off_ones -/
/- faults_of -/
/- all_faults -/
/- is_fault -/
/- need_fault -/
/- put_at -/
/- without_end -/
/- faulty -/
/- with_fault -/
/- is_seen -/
/- tells_just -/
/- fitting -/
/- parting -/
end QX
set_option maxRecDepth 100000
set_option maxHeartbeats 1000000
set_option exponentiation.threshold 5000
namespace QX
open PySem PySem.Spec PyProof.Rows L2 HX QX.Det
variable {M A : Mem} {σ : Sa} {n k : Nat} {x : Cell} {ws : List (List (List Int))} {c : Int} {st ms wts : List Int}
structure Turn2 (M : Mem) (t : Tg) (c : F Bool) (fi1 : F Ita) (vs1 : List Nat) (t1 : Tg) (c1 : F Bool) (e : F D) (σ : Sa) (im : Im) (ds : List D) : Prop where
  ex : ∃ σ1 ims p f, t.put im σ = some σ1 ∧ ds = (ims.filter p).map f ∧ ims.length ≤ 1000 ∧ ∀ acc, c σ1 (M ++ [.lst acc]) = .ok true (M ++ [.lst acc]) ∧ fi1 σ1 (M ++ [.lst acc]) = .ok ⟨ims, fun _ => true⟩ (M ++ [.lst acc]) ∧
    ∀ im1 ∈ ims, ∃ σ2, t1.put im1 (wipeA σ1 vs1) = some σ2 ∧ ∀ acc, c1 σ2 (M ++ [.lst acc]) = .ok (p im1) (M ++ [.lst acc]) ∧ (p im1 = true → e σ2 (M ++ [.lst acc]) = .ok (f im1) (M ++ [.lst acc]))
inductive Flt where
  | no | lame (w s : Nat) | blocked (e : Nat) | off (w s : Nat)
deriving DecidableEq
end QX
set_option maxRecDepth 100000
set_option maxHeartbeats 1000000
set_option exponentiation.threshold 5000
namespace QX
open PySem PySem.Spec PyProof.Rows L2 HX QX.Det
variable {M A : Mem} {σ : Sa} {n k : Nat} {x : Cell} {ws : List (List (List Int))} {c : Int} {st ms wts : List Int}
end QX
set_option maxRecDepth 100000
set_option maxHeartbeats 1000000
set_option exponentiation.threshold 5000
namespace QX
open PySem PySem.Spec PyProof.Rows L2 HX QX.Det
variable {M A : Mem} {σ : Sa} {n k : Nat} {x : Cell} {ws : List (List (List Int))} {c : Int} {st ms wts : List Int} {f : Flt}
end QX
set_option maxRecDepth 100000
set_option maxHeartbeats 1000000
namespace QX
open PySem
/- is_teller -/
/- _law_fault_right -/
/- _law_two_right -/
/- law -/
end QX
set_option maxRecDepth 100000
set_option maxHeartbeats 1000000
set_option exponentiation.threshold 5000
namespace QX
open PySem PySem.Spec PyProof.Rows L2 HX QX.Det
variable {M A : Mem} {σ : Sa} {n k : Nat} {x : Cell} {ws : List (List (List Int))} {c : Int} {st ms wts : List Int} {f g : Flt} {fs : List Flt}
end QX
set_option maxRecDepth 100000
set_option maxHeartbeats 1000000
set_option exponentiation.threshold 5000
namespace QX
open PySem PySem.Spec PyProof.Rows L2 HX QX.Det
variable {M A : Mem} {σ : Sa} {n k fu : Nat} {x : Cell} {ws : List (List (List Int))} {c : Int} {st ms wts wd : List Int} {f g : Flt} {fs : List Flt} {G : List (List Int)} {q : Int} {ls : List (List Int)}
structure Seen (c : Int) (wd : List Int) (G : List (List Int)) : Prop where
  l : G.length = wd.length
  c : ∀ g ∈ G, (g.length : Int) = c ∧ ∀ z ∈ g, 0 ≤ z
end QX
set_option maxRecDepth 100000
set_option maxHeartbeats 1000000
set_option exponentiation.threshold 5000
namespace QX
open PySem PySem.Spec PyProof.Rows L2 HX QX.Det
variable {d : Duo} {p p' s0 : Pr} {z n k : Nat} {kw line later : Kw} {way : List Int} {ws : List (List (List Int))} {c : Int} {st ms wd : List Int}
structure Path (d : Duo) (s0 p : Pr) (way : List Int) : Prop where
  r : ∀ z ∈ way, 0 ≤ z ∧ z < (d.m1.length : Int)
  p1 : p.1 = stW d.w1 d.c d.m1 s0.1 way way.length
  p2 : p.2 = stW d.w2 d.c d.m2 s0.2 way way.length
  g : ∀ j, j < way.length → gnW d.w1 d.c d.m1 s0.1 way j = gnW d.w2 d.c d.m2 s0.2 way j
structure Parts (d : Duo) (s0 : Pr) (w : List Int) : Prop where
  l : 1 ≤ w.length
  r : ∀ z ∈ w, 0 ≤ z ∧ z < (d.m1.length : Int)
  g : ∀ j, j + 1 < w.length → gnW d.w1 d.c d.m1 s0.1 w j = gnW d.w2 d.c d.m2 s0.2 w j
  ne : gnW d.w1 d.c d.m1 s0.1 w (w.length - 1) ≠ gnW d.w2 d.c d.m2 s0.2 w (w.length - 1)
structure StI (d : Duo) (s0 : Pr) (o : Out) : Prop where
  go : ∀ kw later, o = .go kw later → (∀ x ∈ kw, Path d s0 x.1 x.2) ∧ ∀ x ∈ later, Path d s0 x.1 x.2
  ap : ∀ w, o = .ap w → Parts d s0 w
def Clo (d : Duo) (p : Pr) (kw : Kw) (n : Nat) : Prop := ∀ z, z < n → ∃ p', d.nx p z = some p' ∧ p' ∈ kw.map (·.1)
theorem Clo.mono {kw' : Kw} (h : Clo d p kw n) (hs : ∀ x ∈ kw, x ∈ kw') : Clo d p kw' n := fun z hz => by
  obtain ⟨p', e, hm⟩ := h z hz
  obtain ⟨x, hx, rfl⟩ := List.mem_map.mp hm
  exact ⟨_, e, List.mem_map.mpr ⟨x, hs x hx, rfl⟩⟩
end QX
set_option maxRecDepth 100000
set_option maxHeartbeats 1000000
set_option exponentiation.threshold 5000
namespace QX
open PySem PySem.Spec PyProof.Rows L2 HX QX.Det
variable {M A : Mem} {σ : Sa} {d : Duo} {p q s0 : Pr} {kw kv line later : Kw} {n k : Nat}
end QX
set_option maxRecDepth 100000
set_option maxHeartbeats 1000000
namespace QX
open PySem PySem.Spec PyProof.Rows L2 HX
def ins {α : Type} (le : α → α → Bool) (a : α) : List α → List α
  | [] => [a]
  | b :: l => if le a b = true then a :: b :: l else b :: ins le a l
def isort {α : Type} (le : α → α → Bool) : List α → List α
  | [] => []
  | a :: l => ins le a (isort le l)
theorem ins_at {α : Type} {le : α → α → Bool} {a : α} : ∀ {l1 l2 : List α}, (∀ b ∈ l1, le a b = false) → (∀ b ∈ l2, le a b = true) → ins le a (l1 ++ l2) = l1 ++ a :: l2
  | [], [], _, _ => rfl
  | [], b :: l2, _, h2 => by
    show (if le a b = true then a :: b :: l2 else b :: ins le a l2) = _
    rw [if_pos (h2 b (by simp))]
    rfl
  | b :: l1, l2, h1, h2 => by
    show (if le a b = true then a :: b :: (l1 ++ l2) else b :: ins le a (l1 ++ l2)) = _
    rw [if_neg (by rw [h1 b (by simp)]; decide), ins_at (fun x hx => h1 x (by simp [hx])) h2]
    rfl
theorem merge_ins {α : Type} {le : α → α → Bool} (tr : ∀ a b c, le a b = true → le b c = true → le a c = true) (to : ∀ a b, (le a b || le b a) = true) : ∀ l : List α, l.mergeSort le = isort le l
  | [] => by simp [isort]
  | a :: l => by
    obtain ⟨l1, l2, e1, e2, h⟩ := List.mergeSort_cons (le := le) tr to a l
    have pw := List.pairwise_mergeSort (le := le) tr to (a :: l)
    rw [e1] at pw ⊢
    have h2 : ∀ b ∈ l2, le a b = true := fun b hb => by
      have := (List.pairwise_append.mp pw).2.1
      exact (List.pairwise_cons.mp this).1 b hb
    show l1 ++ a :: l2 = ins le a (isort le l)
    rw [← merge_ins tr to l, e2, ins_at (fun b hb => by have := h b hb; simpa using this) h2]
def isortD (es : List D) (ps : List PyData) : List D := (isort (PySem.W.dataLe false Prod.snd) (es.zip ps)).map Prod.fst
theorem sortD_is (es : List D) (ps : List PyData) : sortD es ps = isortD es ps := by
  unfold sortD isortD
  rw [merge_ins (le := PySem.W.dataLe false Prod.snd) (fun a b c h1 h2 => (PySem.W.sortLe_total (PyProof.Rows.listOrd PyProof.Rows.itemOrd) false fun b : D × PyData => PySem.W.keyToks b.2).trans a b c h1 h2) (fun a b => Bool.or_eq_true_iff.mpr ((PySem.W.sortLe_total (PyProof.Rows.listOrd PyProof.Rows.itemOrd) false fun b : D × PyData => PySem.W.keyToks b.2).total a b))]
def gSortD' : List D → Mem → Res D
  | [.ref n], M => (match M[n]? with | some (.dic kvs) => if sortOk (kvs.map fun p => nkPy p.1) = true then .ok (.ref M.length) (M ++ [.lst (isortD (kvs.map fun p => dK p.1) (kvs.map fun p => nkPy p.1))]) else .bad | _ => .bad)
  | _, _ => .bad
theorem gSortD_is : gSortD = gSortD' := by
  funext ds M
  unfold gSortD gSortD'
  simp only [sortD_is]
  all_goals rfl
def b_come_to' (fu : Nat) : FS :=
  (sSeq (sSet 3 (fDOne (fVar 2) (fC (.bl true))))
  (sSeq (sSet 4 (fNew (fCons (fVar 2) fNil)))
  (sSeq (sWhile fu (fTru (fVar 4))
  (sSeq (sSet 5 (fMeth gPop (fVar 4) fNil))
  (sFor (fIt gRange1 (fCons (fCall gLen (fCons (fBin gIx (fVar 0) (fC (.int 0))) fNil)) fNil)) (.name 6)
  (sSeq (sSet 7 (fBin gIx (fCall (m_fall fu) (fCons (fVar 0) (fCons (fVar 1) (fCons (fVar 5) (fCons (fVar 6) fNil))))) (fC (.int 0))))
  (sIf (fTest (fBin (gInN true) (fVar 7) (fVar 3)))
  (sSeq (sPutD (fVar 3) (fVar 7) (fC (.bl true)))
  (sExpr (fMeth gAppend (fVar 4) (fCons (fVar 7) fNil))))
  sNext)))))
  (sRet (fCall gTuple (fCons (fCall gSortD' (fCons (fVar 3) fNil)) fNil))))))
def m_come_to' (fu : Nat) : List D → Mem → Res D := runT 8 3 (b_come_to' fu)
theorem come_to_is (fu : Nat) : m_come_to fu = m_come_to' fu := by
  unfold m_come_to m_come_to'
  congr 1
  unfold b_come_to b_come_to'
  rw [gSortD_is]
def b_again_stands' (fu : Nat) : FS :=
  (sSeq (sSet 2 (fBin gMul (fTup (fCons (fC (.int 0)) fNil)) (fCall gLen (fCons (fBin gIx (fVar 0) (fC (.int 0))) fNil))))
  (sSeq (sFor (fIt gRange1 (fCons (fCall m_stands_in_all (fCons (fVar 0) fNil)) fNil)) (.name 3)
  (sFor (fIt gRange1 (fCons (fCall gLen (fCons (fBin gIx (fVar 0) (fC (.int 0))) fNil)) fNil)) (.name 4)
  (sSet 2 (fBin gIx (fCall (m_fall fu) (fCons (fVar 0) (fCons (fVar 1) (fCons (fVar 2) (fCons (fVar 4) fNil))))) (fC (.int 0))))))
  (sRet (fCall (m_come_to' fu) (fCons (fVar 0) (fCons (fVar 1) (fCons (fVar 2) fNil)))))))
def m_again_stands' (fu : Nat) : List D → Mem → Res D := runT 5 2 (b_again_stands' fu)
theorem again_stands_is (fu : Nat) : m_again_stands fu = m_again_stands' fu := by
  unfold m_again_stands m_again_stands'
  congr 1
  unfold b_again_stands b_again_stands'
  rw [come_to_is]
def b_all_again' (fu : Nat) : FS :=
  (sSeq (sExpr (fCall m_need_drain (fCons (fVar 0) fNil)))
  (sSeq (sExpr (fCall (fun ds M => m_need_few_stands (ds ++ [.int 600]) M) (fCons (fVar 0) fNil)))
  (sRet (fCall (m_again_stands' fu) (fCons (fVar 0) (fCons fDNew fNil))))))
def m_all_again' (fu : Nat) : List D → Mem → Res D := runT 1 1 (b_all_again' fu)
theorem all_again_is (fu : Nat) : m_all_again fu = m_all_again' fu := by
  unfold m_all_again m_all_again'
  congr 1
  unfold b_all_again b_all_again'
  rw [again_stands_is]
def b_back' (fu : Nat) : FS :=
  (sSeq (sExpr (fCall m_need_drain (fCons (fVar 0) fNil)))
  (sSeq (sExpr (fCall m_need_stand (fCons (fVar 0) (fCons (fVar 1) fNil))))
  (sSeq (sExpr (fCall m_need_wheel (fCons (fVar 0) (fCons (fVar 2) fNil))))
  (sSeq (sExpr (fCall (fun ds M => m_need_few_stands (ds ++ [.int 600]) M) (fCons (fVar 0) fNil)))
  (sSeq (sSet 3 fDNew)
  (sSeq (sIf (fTest (fBin gNinT (fVar 1) (fCall (m_again_stands' fu) (fCons (fVar 0) (fCons (fVar 3) fNil)))))
  (sRaise 8)
  sNext)
  (sRet (fBin gIx (fBin gIx (fCall (m_path_of fu) (fCons (fVar 0) (fCons (fVar 3) (fCons (fVar 1) (fCons (fVar 2) fNil))))) (fC (.int 0))) (fUn gNeg (fC (.int 1)))))))))))
def m_back' (fu : Nat) : List D → Mem → Res D := runT 4 3 (b_back' fu)
theorem back_is (fu : Nat) : m_back fu = m_back' fu := by
  unfold m_back m_back'
  congr 1
  unfold b_back b_back'
  rw [again_stands_is]
end QX
set_option maxRecDepth 100000
set_option maxHeartbeats 0
namespace QX
open PySem PySem.Spec PyProof PyProof.Rows L2 HX QX.Det
theorem told38Y (x y z : Int) : ((List.range 21).map fun (i : Nat) => (List.range 2).map fun (j : Nat) => (sSeq (Y381 bigFuel) (Y382 bigFuel)) [some (.ref 0), some (boardT [[[1], [2]]] 2), some (.int (i : Int)), some (.int (j : Int)), none] (pen1 x y z)) = (List.range 21).map fun _ => (List.range 2).map fun _ => (QX.RS.ok (.rt (.bl true)) (pen1 x y z)) := by kernel_rfl
end QX
set_option maxRecDepth 100000
set_option maxHeartbeats 0
namespace QX
open PySem PySem.Spec PyProof PyProof.Rows L2 HX QX.Det
def restD (fu : Nat) (A B : List D → Mem → Res D) : FS := (sSeq (sIf (fTest (fBin (gEq true) (fCall (m_dropped fu) (fCons (fVar 1) (fCons (fTup (fCons (fC (.int 0)) (fCons (fC (.int 0)) fNil))) (fCons (fTup (fCons (fVar 2) (fCons (fC (.int 0)) fNil))) fNil)))) (fTup (fCons (fTup (fCons (fC (.int 0)) (fCons (fBin gMod (fBin gMul (fC (.int 2)) (fVar 2)) (fC (.int 3))) fNil))) (fCons (fTup (fCons (fVar 2) (fCons (fBin gMul (fC (.int 2)) (fVar 2)) fNil))) (fCons (fTup (fCons (fBin gFdiv (fBin gMul (fC (.int 2)) (fVar 2)) (fC (.int 3))) fNil)) fNil)))))) (sRet (fC (.bl false))) sNext) (sSeq (sIf (fOrT (fTest (fBin (gEq true) (fCall m_how_many (fCons (fVar 1) fNil)) (fC (.int 3)))) (fTest (fBin (gEq true) (fCall A (fCons (fVar 1) fNil)) (fTup (fCons (fTup (fCons (fC (.int 0)) (fCons (fC (.int 0)) fNil))) (fCons (fTup (fCons (fC (.int 0)) (fCons (fC (.int 1)) fNil))) (fCons (fTup (fCons (fC (.int 0)) (fCons (fC (.int 2)) fNil))) fNil))))))) (sRet (fC (.bl false))) sNext) (sSeq (sIf (fTest (fBin (gEq true) (fCall B (fCons (fVar 1) (fCons (fTup (fCons (fC (.int 0)) (fCons (fC (.int 1)) fNil))) (fCons (fC (.int 0)) fNil)))) (fTup (fCons (fC (.int 0)) (fCons (fC (.int 2)) fNil))))) (sRet (fC (.bl false))) sNext) (sRet (fAnd (fBin (gEq false) (fCall (m_least_drops fu) (fCons (fVar 1) (fCons (fTup (fCons (fC (.int 0)) (fCons (fC (.int 0)) fNil))) (fCons (fTup (fCons (fC (.int 0)) (fCons (fC (.int 2)) fNil))) fNil)))) (fTup (fCons (fC (.str "drops")) (fCons (fTup (fCons (fC (.int 1)) (fCons (fC (.int 0)) fNil))) fNil)))) (fBin (gEq false) (fCall (m_round_of fu) (fCons (fVar 1) (fCons (fTup (fCons (fC (.int 0)) (fCons (fC (.int 0)) fNil))) (fCons (fC (.int 0)) fNil)))) (fTup (fCons (fC (.int 0)) (fCons (fC (.int 3)) fNil)))))))))
theorem restD_is (fu : Nat) : (sSeq (D381 fu) (sSeq (D382 fu) (sSeq (D383 fu) (D384 fu)))) = restD fu (m_all_again' fu) (m_back' fu) := by
  rw [← all_again_is, ← back_is]
  rfl
theorem told38D0 (x y z : Int) : ((List.range 7).map fun (i : Nat) => restD bigFuel (m_all_again' bigFuel) (m_back' bigFuel) [some (.ref 0), some (boardT [[[1, 1]], [[], [], [2]]] 1), some (.int ((0 + i : Nat) : Int))] (pen1 x y z)) = (List.range 7).map fun _ => (QX.RS.ok (.rt (.bl true)) (pen1 x y z)) := by kernel_rfl
theorem told38D1 (x y z : Int) : ((List.range 7).map fun (i : Nat) => restD bigFuel (m_all_again' bigFuel) (m_back' bigFuel) [some (.ref 0), some (boardT [[[1, 1]], [[], [], [2]]] 1), some (.int ((7 + i : Nat) : Int))] (pen1 x y z)) = (List.range 7).map fun _ => (QX.RS.ok (.rt (.bl true)) (pen1 x y z)) := by kernel_rfl
theorem told38D2 (x y z : Int) : ((List.range 7).map fun (i : Nat) => restD bigFuel (m_all_again' bigFuel) (m_back' bigFuel) [some (.ref 0), some (boardT [[[1, 1]], [[], [], [2]]] 1), some (.int ((14 + i : Nat) : Int))] (pen1 x y z)) = (List.range 7).map fun _ => (QX.RS.ok (.rt (.bl true)) (pen1 x y z)) := by kernel_rfl
end QX
set_option maxRecDepth 100000
set_option maxHeartbeats 0
namespace QX
open PySem PySem.Spec PyProof PyProof.Rows L2 HX QX.Det
def restI (fu : Nat) (A B : List D → Mem → Res D) : FS := (sSeq (sIf (fOrT (fTest (fBin (gEq true) (fCall (m_dropped fu) (fCons (fVar 1) (fCons (fTup (fCons (fC (.int 0)) fNil)) (fCons (fTup (fCons (fVar 2) fNil)) fNil)))) (fTup (fCons (fTup (fCons (fC (.int 0)) fNil)) (fCons (fTup (fCons (fBin gMul (fC (.int 2)) (fVar 2)) fNil)) (fCons (fTup (fCons (fVar 2) fNil)) fNil)))))) (fTest (fBin (gEq true) (fCall m_how_many (fCons (fVar 1) fNil)) (fC (.int 1))))) (sRet (fC (.bl false))) sNext) (sSeq (sIf (fTest (fBin (gEq true) (fCall (m_dropped fu) (fCons (fVar 1) (fCons (fTup (fCons (fC (.int 1)) fNil)) (fCons (fTup (fCons (fBin gAdd (fVar 2) (fC (.int 1))) fNil)) fNil)))) (fTup (fCons (fTup (fCons (fC (.int 0)) fNil)) (fCons (fTup (fCons (fBin gAdd (fBin gMul (fC (.int 2)) (fVar 2)) (fC (.int 1))) fNil)) (fCons (fTup (fCons (fBin gAdd (fVar 2) (fC (.int 1))) fNil)) fNil)))))) (sRet (fC (.bl false))) sNext) (sSeq (sIf (fTest (fBin (gEq true) (fCall A (fCons (fVar 1) fNil)) (fTup (fCons (fTup (fCons (fC (.int 0)) fNil)) fNil)))) (sRet (fC (.bl false))) sNext) (sSeq (sIf (fOrT (fTest (fBin (gEq true) (fCall (m_round_of fu) (fCons (fVar 1) (fCons (fTup (fCons (fC (.int 1)) fNil)) (fCons (fC (.int 0)) fNil)))) (fTup (fCons (fC (.int 1)) (fCons (fC (.int 1)) fNil))))) (fTest (fBin (gEq true) (fCall (m_least_drops fu) (fCons (fVar 1) (fCons (fTup (fCons (fC (.int 0)) fNil)) (fCons (fTup (fCons (fC (.int 1)) fNil)) fNil)))) (fTup (fCons (fC (.str "closed")) (fCons (fTup (fCons (fTup (fCons (fC (.int 0)) fNil)) fNil)) fNil)))))) (sRet (fC (.bl false))) sNext) (sSeq (sIf (fTest (fBin (gEq true) (fCall (m_least_drops fu) (fCons (fVar 1) (fCons (fTup (fCons (fC (.int 1)) fNil)) (fCons (fTup (fCons (fC (.int 1)) fNil)) fNil)))) (fTup (fCons (fC (.str "drops")) (fCons (fTup (fCons (fC (.int 0)) fNil)) fNil))))) (sRet (fC (.bl false))) sNext) (sRet (fBin (gEq false) (fCall (m_least_drops fu) (fCons (fVar 1) (fCons (fTup (fCons (fC (.int 1)) fNil)) (fCons (fTup (fCons (fC (.int 0)) fNil)) fNil)))) (fTup (fCons (fC (.str "drops")) (fCons (fTup (fCons (fC (.int 1)) fNil)) fNil))))))))))
theorem restI_is (fu : Nat) : (sSeq (I381 fu) (sSeq (I382 fu) (sSeq (I383 fu) (sSeq (I384 fu) (sSeq (I385 fu) (I386 fu)))))) = restI fu (m_all_again' fu) (m_back' fu) := by
  rw [← all_again_is, ← back_is]
  rfl
theorem told38I0 (x y z : Int) : ((List.range 5).map fun (i : Nat) => restI bigFuel (m_all_again' bigFuel) (m_back' bigFuel) [some (.ref 0), some (boardT [[[0], [1]]] 1), some (.int ((0 + i : Nat) : Int))] (pen1 x y z)) = (List.range 5).map fun _ => (QX.RS.ok (.rt (.bl true)) (pen1 x y z)) := by kernel_rfl
theorem told38I1 (x y z : Int) : ((List.range 5).map fun (i : Nat) => restI bigFuel (m_all_again' bigFuel) (m_back' bigFuel) [some (.ref 0), some (boardT [[[0], [1]]] 1), some (.int ((5 + i : Nat) : Int))] (pen1 x y z)) = (List.range 5).map fun _ => (QX.RS.ok (.rt (.bl true)) (pen1 x y z)) := by kernel_rfl
theorem told38I2 (x y z : Int) : ((List.range 5).map fun (i : Nat) => restI bigFuel (m_all_again' bigFuel) (m_back' bigFuel) [some (.ref 0), some (boardT [[[0], [1]]] 1), some (.int ((10 + i : Nat) : Int))] (pen1 x y z)) = (List.range 5).map fun _ => (QX.RS.ok (.rt (.bl true)) (pen1 x y z)) := by kernel_rfl
theorem told38I3 (x y z : Int) : ((List.range 5).map fun (i : Nat) => restI bigFuel (m_all_again' bigFuel) (m_back' bigFuel) [some (.ref 0), some (boardT [[[0], [1]]] 1), some (.int ((15 + i : Nat) : Int))] (pen1 x y z)) = (List.range 5).map fun _ => (QX.RS.ok (.rt (.bl true)) (pen1 x y z)) := by kernel_rfl
end QX
set_option maxRecDepth 100000
set_option maxHeartbeats 0
namespace QX
open PySem PySem.Spec PyProof PyProof.Rows L2 HX QX.Det
def restW (fu : Nat) (A B : List D → Mem → Res D) : FS := (sSeq (sAsg (fCall (m_dropped fu) (fCons (fVar 1) (fCons (fTup (fCons (fC (.int 0)) (fCons (fC (.int 0)) fNil))) (fCons (fTup (fCons (fBin gMul (fC (.int 4)) (fVar 2)) (fCons (fC (.int 0)) fNil))) fNil)))) (.tup [3, 4, 5])) (sSeq (sIf (fTest (fBin (gEq true) (fTup (fCons (fVar 3) (fCons (fVar 4) (fCons (fVar 5) fNil)))) (fTup (fCons (fTup (fCons (fC (.int 0)) (fCons (fC (.int 0)) fNil))) (fCons (fTup (fCons (fBin gMul (fC (.int 4)) (fVar 2)) (fCons (fBin gMul (fC (.int 2)) (fVar 2)) fNil))) (fCons (fTup (fCons (fBin gMul (fC (.int 2)) (fVar 2)) (fCons (fBin gMul (fC (.int 2)) (fVar 2)) fNil))) fNil)))))) (sRet (fC (.bl false))) sNext) (sSeq (sIf (fOrT (fTest (fBin (gEq true) (fCall m_how_many (fCons (fVar 1) fNil)) (fC (.int 4)))) (fOrT (fTest (fBin (gEq true) (fCall (m_round_of fu) (fCons (fVar 1) (fCons (fTup (fCons (fC (.int 0)) (fCons (fC (.int 0)) fNil))) (fCons (fC (.int 0)) fNil)))) (fTup (fCons (fC (.int 0)) (fCons (fC (.int 4)) fNil))))) (fTest (fBin (gEq true) (fCall (m_round_of fu) (fCons (fVar 1) (fCons (fTup (fCons (fC (.int 1)) (fCons (fC (.int 0)) fNil))) (fCons (fC (.int 1)) fNil)))) (fTup (fCons (fC (.int 0)) (fCons (fC (.int 2)) fNil))))))) (sRet (fC (.bl false))) sNext) (sRet (fAnd (fBin (gEq false) (fCall (m_least_drops fu) (fCons (fVar 1) (fCons (fTup (fCons (fC (.int 0)) (fCons (fC (.int 0)) fNil))) (fCons (fTup (fCons (fC (.int 1)) (fCons (fC (.int 0)) fNil))) fNil)))) (fTup (fCons (fC (.str "drops")) (fCons (fTup (fCons (fC (.int 1)) (fCons (fC (.int 1)) fNil))) fNil)))) (fBin (gEq false) (fCall B (fCons (fVar 1) (fCons (fTup (fCons (fC (.int 1)) (fCons (fC (.int 1)) fNil))) (fCons (fC (.int 0)) fNil)))) (fTup (fCons (fC (.int 0)) (fCons (fC (.int 0)) fNil)))))))))
theorem restW_is (fu : Nat) : (sSeq (W381 fu) (sSeq (W382 fu) (sSeq (W383 fu) (W384 fu)))) = restW fu (m_all_again' fu) (m_back' fu) := by
  rw [← all_again_is, ← back_is]
  rfl
theorem told38W (x y z : Int) : ((List.range 5).map fun (i : Nat) => restW bigFuel (m_all_again' bigFuel) (m_back' bigFuel) [some (.ref 0), some (boardT [[[1], [2]], [[], [3, 3]]] 2), some (.int (i : Int)), none, none, none] (pen1 x y z)) = (List.range 5).map fun _ => (QX.RS.ok (.rt (.bl true)) (pen1 x y z)) := by kernel_rfl
end QX
set_option maxRecDepth 100000
set_option maxHeartbeats 0
namespace QX
open PySem PySem.Spec PyProof PyProof.Rows L2 HX QX.Det
def H382r (fu : Nat) (A B : List D → Mem → Res D) : FS := (sIf (fOrT (fTest (fBin (gEq true) (fCall A (fCons (fVar 4) fNil)) (fCall gTuple (fCons (fTrim (fCompC (fIt gRange1 (fCons (fVar 1) fNil)) [5] (.name 5) fYes (fTup (fCons (fVar 5) fNil)))) fNil)))) (fTest (fBin (gEq true) (fCall m_how_many (fCons (fVar 4) fNil)) (fVar 1)))) (sRet (fC (.bl false))) sNext)
theorem H382r_is (fu : Nat) : H382 fu = H382r fu (m_all_again' fu) (m_back' fu) := by
  rw [← all_again_is, ← back_is]
  rfl
def H384r (fu : Nat) (A B : List D → Mem → Res D) : FS := (sIf (fOrT (fTest (fBin (gEq true) (fCall (m_round_of fu) (fCons (fVar 4) (fCons (fTup (fCons (fVar 3) fNil)) (fCons (fC (.int 0)) fNil)))) (fTup (fCons (fC (.int 0)) (fCons (fVar 1) fNil))))) (fTest (fBin (gEq true) (fCall B (fCons (fVar 4) (fCons (fTup (fCons (fC (.int 0)) fNil)) (fCons (fC (.int 0)) fNil)))) (fTup (fCons (fBin gSub (fVar 1) (fC (.int 1))) fNil))))) (sRet (fC (.bl false))) sNext)
theorem H384r_is (fu : Nat) : H384 fu = H384r fu (m_all_again' fu) (m_back' fu) := by
  rw [← all_again_is, ← back_is]
  rfl
abbrev bd38 (m : Nat) : D := boardT [(List.replicate m []) ++ [[1, 1]]] 1
abbrev fr38 (m a : Nat) (far : Int) : Sa := [some (.ref 0), some (.int ((m + 1 : Nat) : Int)), some (.int far), some (.int (a : Int)), some (bd38 m), none]
def ms38 : List (Nat × Nat) := [(0, 0), (1, 0), (1, 1), (2, 0), (2, 1), (2, 2), (3, 0), (3, 1), (3, 2), (3, 3)]
theorem told38H1 (x y z far : Int) : ((List.range 4).map fun (m : Nat) => (List.range 4).map fun (a : Nat) => H381 bigFuel [some (.ref 0), some (.int ((m + 1 : Nat) : Int)), some (.int far), some (.int (a : Int)), none, none] (pen1 x y z)) = (List.range 4).map fun (m : Nat) => (List.range 4).map fun (a : Nat) => QX.RS.ok (.nx (fr38 m (a % (m + 1)) far)) (pen1 x y z) := by kernel_rfl
theorem told38H2 (x y z far : Int) : (ms38.map fun t => H382r bigFuel (m_all_again' bigFuel) (m_back' bigFuel) (fr38 t.1 t.2 far) (pen1 x y z)) = ms38.map fun t => QX.RS.ok (.nx (fr38 t.1 t.2 far)) (pen1 x y z) := by kernel_rfl
theorem told38H4 (x y z far : Int) : (ms38.map fun t => H384r bigFuel (m_all_again' bigFuel) (m_back' bigFuel) (fr38 t.1 t.2 far) (pen1 x y z)) = ms38.map fun t => QX.RS.ok (.nx (fr38 t.1 t.2 far)) (pen1 x y z) := by kernel_rfl
theorem told38H5 (x y z far : Int) : (ms38.map fun t => H385 bigFuel (fr38 t.1 t.2 far) (pen1 x y z)) = ms38.map fun t => (QX.RS.ok (.rt (.bl true)) (pen1 x y z)) := by kernel_rfl
end QX
set_option maxRecDepth 100000
set_option maxHeartbeats 1000000
set_option exponentiation.threshold 5000
namespace QX
open PySem PySem.Spec PyProof PyProof.Rows L2 HX QX.Det
variable {A M : Mem} {σ : Sa} {ws : List (List (List Int))} {c : Int} {q : Int} {ls : List (List Int)} {st : List Int} {w p T j n : Nat}
section
variable {o4 o5 o6 o7 o8 o9 : Option D}
end
end QX
set_option maxRecDepth 100000
set_option maxHeartbeats 1000000
namespace QX
open PySem
/- _law_right -/
/- law -/
end QX
set_option maxRecDepth 100000
set_option maxHeartbeats 1000000
set_option exponentiation.threshold 5000
namespace QX
open PySem PySem.Spec PyProof.Rows L2 HX QX.Det
variable {ws : List (List (List Int))} {c : Int} {m : Mo} {q : Int} {ls : List (List Int)} {B : Int}
end QX
set_option maxRecDepth 100000
set_option maxHeartbeats 1000000
set_option exponentiation.threshold 5000
namespace QX
open PySem PySem.Spec PyProof PyProof.Rows L2 HX QX.Det
variable {A M : Mem} {σ : Sa} {ws : List (List (List Int))} {c : Int} {q : Int} {ls : List (List Int)} {st : List Int} {w p T j n N : Nat}
noncomputable def farD (ws : List (List (List Int))) (c : Int) (st : List Int) (w N : Nat) : D := .tup [stepT (itS ws c st w N), stepT (cupS ws c st w N)]
theorem und_farD {m : Nat} : (farD ws c st w n).und m = true := by simp [farD, D.und, D.undA, und_step]
theorem m_led_far_eq {fu : Nat} (hA : Wf A) (hf : fuelF fu) (hb : BoardOk ws c) (hs : solB ws c = some (q, ls)) (hq : StQ ws st) (hw : w < ws.length) (hN : N ≤ 10 ^ 12) : m_led_far fu [boardT ws c, stepT st, .int (w : Int), .int (N : Int)] A = .ok (farD ws c st w N) A := by
  have hA2 : Wf (A ++ [Cell.dic []]) := Wf.push (c := .dic []) hA rfl
  obtain ⟨kv, l2, e⟩ := m_far_eq (A := A ++ [Cell.dic []]) (p := A.length) (kvs := []) hf hA2 (by simp) hb hs hq hw hN (by simp) KOk.nil
  have eset : (A ++ [Cell.dic []]).set A.length (.dic kv) = A ++ [.dic kv] := by
    rw [List.set_append_right _ _ (Nat.le_refl _), Nat.sub_self]
    rfl
  rw [eset] at e
  have s1 : sExpr (fCall m_need_drain (fCons (fVar 0) fNil)) (startA 4 [boardT ws c, stepT st, .int (w : Int), .int (N : Int)]) A = .ok (.nx (startA 4 [boardT ws c, stepT st, .int (w : Int), .int (N : Int)])) A := expr_ev ((call1_ev (var_ev rfl)).trans (m_need_drain_eq hA hb hs))
  have s2 : sExpr (fCall m_need_stand (fCons (fVar 0) (fCons (fVar 1) fNil))) (startA 4 [boardT ws c, stepT st, .int (w : Int), .int (N : Int)]) A = .ok (.nx (startA 4 [boardT ws c, stepT st, .int (w : Int), .int (N : Int)])) A := expr_ev ((call2_ev (var_ev rfl) (var_ev rfl)).trans (m_need_stand_eq hA hb hq.1 hq.2))
  have s3 : sExpr (fCall m_need_wheel (fCons (fVar 0) (fCons (fVar 2) fNil))) (startA 4 [boardT ws c, stepT st, .int (w : Int), .int (N : Int)]) A = .ok (.nx (startA 4 [boardT ws c, stepT st, .int (w : Int), .int (N : Int)])) A := expr_ev ((call2_ev (var_ev rfl) (var_ev rfl)).trans (m_need_wheel_eq hw))
  have s4 : sIf (fNotT (fTest (fCall m_is_within (fCons (fVar 3) (fCons (fC (.int 0)) (fCons (fC (.int 1000000000000)) fNil)))))) (sRaise 9) sNext (startA 4 [boardT ws c, stepT st, .int (w : Int), .int (N : Int)]) A = .ok (.nx (startA 4 [boardT ws c, stepT st, .int (w : Int), .int (N : Int)])) A := by
    refine pass9 (not_ev (p := true) (test_ev ((call3_ev (a := .int (N : Int)) (b := .int 0) (c := .int 1000000000000) (var_ev rfl) rfl rfl).trans ((m_is_within_eq rfl).trans ?_))))
    have : inB 0 1000000000000 (.int (N : Int)) = true := by simp [inB]; omega
    rw [this]
  have h5 : (fCons (fVar 0) (fCons fDNew (fCons (fVar 1) (fCons (fVar 2) (fCons (fVar 3) fNil))))) (startA 4 [boardT ws c, stepT st, .int (w : Int), .int (N : Int)]) A = .ok [boardT ws c, .ref A.length, stepT st, .int (w : Int), .int (N : Int)] (A ++ [.dic []]) := rfl
  have s5 := ret_ev ((call_ev (m := m_far_fall fu) h5).trans e)
  have sb : b_led_far fu (startA 4 [boardT ws c, stepT st, .int (w : Int), .int (N : Int)]) A = .ok (.rt (farD ws c st w N)) (A ++ [.dic kv]) := (seq_nx s1).trans ((seq_nx s2).trans ((seq_nx s3).trans ((seq_nx s4).trans s5)))
  exact (run_rt (n := 4) (k := 4) rfl sb).trans (trim_app rfl hA und_farD)
end QX
set_option maxRecDepth 100000
set_option maxHeartbeats 1000000
set_option exponentiation.threshold 5000
namespace QX
open PySem PySem.Spec PyProof PyProof.Rows L2 HX QX.Det
variable {A M : Mem} {σ : Sa} {ws : List (List (List Int))} {c : Int} {q : Int} {ls : List (List Int)} {st : List Int} {w p T j n N : Nat}
theorem LK.farD : LK (farD ws c st w n) 3 := LK.tup (h := 2) fun d hd => by
  simp only [List.mem_cons, List.not_mem_nil, or_false] at hd
  rcases hd with rfl | rfl <;> exact (LK.step _).less (by omega)
theorem LK.ints (s : List Int) : LK (.lst (s.map D.int)) 1 := LK.lst' (h := 0) fun d hd => by
  obtain ⟨e, _, rfl⟩ := List.mem_map.mp hd
  exact LK.int
end QX
set_option maxRecDepth 100000
set_option maxHeartbeats 1000000
namespace QX
open PySem PySem.Spec PyProof.Rows L2 HX
theorem m_draw_big {p k : Nat} {n : Int} {M : Mem} {x : Cell} (hx : M[p]? = some x) (ho : PenOk (k + 1) x) (h1 : 1 ≤ n) (h2 : n ≤ 1000000000000000000) : ∃ z x', m_law_draw_321cf4 [.ref p, .int n] M = .ok (.int z) (M.set p x') ∧ 0 ≤ z ∧ z < n ∧ PenOk k x' := by
  cases x with
  | dic _ => exact ho.elim
  | lst ds =>
    obtain ⟨a, b, c, rfl, b0, b1, c0, c1⟩ := ho
    have hp : p < M.length := (List.getElem?_eq_some_iff.mp hx).1
    have g0 : gIx (.ref p) (.int 0) M = .ok (.int a) M := by rw [gIx_ref hx]; simp
    by_cases ha : 0 < a
    · refine ⟨a % n, .lst [.int (a / n), .int b, .int c], ?_, Int.emod_nonneg _ (by omega), Int.emod_lt_of_pos _ (by omega), _, _, _, rfl, b0, b1, c0, by omega⟩
      refine (run_rt (M1 := M.set p (.lst [.int (a / n), .int b, .int c])) (d := .int (a % n)) rfl (seq_rt ((sif_ev (p := true) (M1 := M) (test_ev ?_)).trans ((if_pos rfl).trans ?_)))).trans (trim_id (by simp))
      · simp [startA, g0, cGt, ha]
      · have hlog : n.natAbs.log2 < 9000 := Nat.lt_of_lt_of_le (PySem.Flt.log2_lt_of (by decide : 0 < 64) (by omega)) (by decide)
        have hb : Nat.blt n.natAbs.log2 9000 = true := by rw [Nat.blt_eq]; exact hlog
        refine (seq_nx (set_ev (M1 := M) (d := .int (a % n)) ?_)).trans ((seq_nx (σ1 := [some (.ref p), some (.int n), some (.int (a % n)), none]) (M1 := M.set p (.lst [.int (a / n), .int b, .int c])) ?_).trans (ret_ev ?_))
        · simp [startA, g0, show 0 < n by omega]
        · simp [startA, g0, show 0 < n by omega, hb, gSetIx, hx, ixN]
        · simp [startA]
    · have hM : ∀ d : D, (M.set p (.lst [.int a, .int b, d]))[p]? = some (.lst [.int a, .int b, d]) := fun d => List.getElem?_set_self hp
      have g1 : gIx (.ref p) (.int 2) M = .ok (.int c) M := by rw [gIx_ref hx]; simp
      let M1 := M.set p (.lst [.int a, .int b, .int (c + 1)])
      have e1 : gIx (.ref p) (.int 1) M1 = .ok (.int b) M1 := by rw [gIx_ref (hM _)]; simp; rfl
      have e2 : gIx (.ref p) (.int 2) M1 = .ok (.int (c + 1)) M1 := by rw [gIx_ref (hM _)]; simp; rfl
      let s1 := (b + 17 * (c + 1)) * (69621 + 2 * (c + 1)) % 2147483647
      let s2 := (s1 * s1 + 40503 * (c + 1) + 5) % 2147483629
      have a1 : 0 ≤ s1 ∧ s1 < 2147483647 := ⟨Int.emod_nonneg _ (by decide), Int.emod_lt_of_pos _ (by decide)⟩
      have a2 : 0 ≤ s2 ∧ s2 < 2147483629 := ⟨Int.emod_nonneg _ (by decide), Int.emod_lt_of_pos _ (by decide)⟩
      refine ⟨s2 * 48271 % 2147483647 / 32 % n, .lst [.int a, .int b, .int (c + 1)], ?_, Int.emod_nonneg _ (by omega), Int.emod_lt_of_pos _ (by omega), _, _, _, rfl, b0, b1, by omega, by omega⟩
      refine (run_rt (M1 := M1) (d := .int (s2 * 48271 % 2147483647 / 32 % n)) rfl ((seq_nx ((sif_ev (p := false) (M1 := M) (test_ev ?_)).trans (if_neg (by decide)))).trans ?_)).trans (trim_id (by simp [M1]))
      · simp [startA, g0, cGt, ha]
      · refine (seq_nx (M1 := M1) (σ1 := startA 4 [.ref p, .int n]) ?_).trans ((seq_nx (set_ev (M1 := M1) (d := .int s1) ?_)).trans ((seq_nx (set_ev (M1 := M1) (d := .int s2) ?_)).trans (ret_ev ?_)))
        · simp [startA, g1, gSetIx, hx, ixN, M1]
        · have m1 : mulOk 17 (c + 1) = true := mulOk_small (by omega) (by omega)
          have m2 : mulOk 2 (c + 1) = true := mulOk_small (by omega) (by omega)
          have m3 : mulOk (b + 17 * (c + 1)) (69621 + 2 * (c + 1)) = true := mulOk_small (by omega) (by omega)
          simp [startA, e1, e2, m1, m2, m3, s1]
        · have m1 : mulOk s1 s1 = true := mulOk_small (by omega) (by omega)
          have m2 : mulOk 40503 (c + 1) = true := mulOk_small (by omega) (by omega)
          simp [startA, e1, e2, m1, m2, s2]
        · have m1 : mulOk s2 48271 = true := mulOk_small (by omega) (by omega)
          have hb : Nat.log2 32 < 9000 := by decide +kernel
          simp [startA, m1, hb, show 0 < n by omega]
end QX
set_option maxRecDepth 100000
set_option maxHeartbeats 1000000
set_option exponentiation.threshold 5000
namespace QX
open PySem PySem.Spec PyProof PyProof.Rows L2 HX QX.Det
variable {M : Mem} {p k : Nat} {x : Cell} {σ : Sa} {a b : List (List Int)} {i j i' j' w : Nat} {ns : List Int} {d e : D}
section
variable {m : List D → Mem → Res D} {fa fb fc fd : F D} {da db dc dd : D}
end
theorem call4_ev45 {m : List D → Mem → Res D} {fa fb fc fd : F D} {a b c d : D} (ha : fa σ M = .ok a M) (hb : fb σ M = .ok b M) (hc : fc σ M = .ok c M) (hd : fd σ M = .ok d M) : fCall m (fCons fa (fCons fb (fCons fc (fCons fd fNil)))) σ M = m [a, b, c, d] M := call_ev (by simp [ha, hb, hc, hd])
theorem same45 {fa fb : F D} {d : D} {h : Nat} {s1 : FS} (e : LK d h) (hh : h ≤ 60) (ha : fa σ M = .ok d M) (hb : fb σ M = .ok d M) : sIf (fTest (fBin (gEq true) fa fb)) s1 sNext σ M = .ok (.nx σ) M :=
  pass9 (test_ev ((bin_ev ha hb).trans (same_eq e hh)))
end QX
set_option maxRecDepth 100000
set_option maxHeartbeats 1000000
set_option exponentiation.threshold 5000
namespace QX
open PySem PySem.Spec PyProof PyProof.Rows L2 HX QX.Det
variable {M : Mem} {p k m a N : Nat} {x : Cell} {σ : Sa} {far : Int}
def wsH (m : Nat) : List (List (List Int)) := [List.replicate m [] ++ [[1, 1]]]
theorem wsH_ok (h : m < 4) : BoardOk (wsH m) 1 := by
  match m, h with
  | 0, _ => exact ⟨by decide, by decide, by decide, by decide, by simp [wsH, WheelOk, EndsOk, List.replicate]⟩
  | 1, _ => exact ⟨by decide, by decide, by decide, by decide, by simp [wsH, WheelOk, EndsOk, List.replicate]⟩
  | 2, _ => exact ⟨by decide, by decide, by decide, by decide, by simp [wsH, WheelOk, EndsOk, List.replicate]⟩
  | 3, _ => exact ⟨by decide, by decide, by decide, by decide, by simp [wsH, WheelOk, EndsOk, List.replicate]⟩
  | _ + 4, h => omega
theorem wsH_so (h : m < 4) : (solB (wsH m) 1).isSome = true := by
  match m, h with
  | 0, _ => decide +kernel
  | 1, _ => decide +kernel
  | 2, _ => decide +kernel
  | 3, _ => decide +kernel
  | _ + 4, h => omega
theorem wsH_q (h : a ≤ m) : StQ (wsH m) [(a : Int)] := by
  refine ⟨rfl, fun n s v h1 h2 => ?_⟩
  match n, h1, h2 with
  | 0, h1, h2 =>
    cases h1; cases h2
    rw [List.length_append, List.length_replicate]
    exact ⟨by omega, by simp; omega⟩
theorem ms38_mem (hm : m < 4) (ha : a ≤ m) : (m, a) ∈ ms38 := by
  match m, a, hm, ha with
  | 0, 0, _, _ => decide
  | 1, 0, _, _ => decide
  | 1, 1, _, _ => decide
  | 2, 0, _, _ => decide
  | 2, 1, _, _ => decide
  | 2, 2, _, _ => decide
  | 3, 0, _, _ => decide
  | 3, 1, _, _ => decide
  | 3, 2, _, _ => decide
  | 3, 3, _, _ => decide
  | 0, _ + 1, _, h => omega
  | 1, _ + 2, _, h => omega
  | 2, _ + 3, _, h => omega
  | 3, _ + 4, _, h => omega
  | _ + 4, _, h, _ => omega
def one38 (t : Nat × Nat) : Bool :=
  let r := runM (wsH t.1) (dropM 1 [(t.2 : Int)] [1]) [0]
  decide (r.wt = [0]) && decide (r.st = [(((t.2 + 1) % (t.1 + 1) : Nat) : Int)]) && decide (r.hd = [if t.2 = t.1 then 2 else 0])
theorem ones38 : ms38.all one38 = true := by decide +kernel
theorem heap_one {q : Int} {ls : List (List Int)} (hm : m < 4) (ha : a ≤ m) (hs : solB (wsH m) 1 = some (q, ls)) : (fallM (wsH m) 1 [(a : Int)] 0).st = [(((a + 1) % (m + 1) : Nat) : Int)] ∧ (fallM (wsH m) 1 [(a : Int)] 0).hd = [if a = m then 2 else 0] := by
  have h := List.all_eq_true.mp ones38 _ (ms38_mem hm ha)
  unfold one38 at h
  simp only [Bool.and_eq_true, decide_eq_true_eq] at h
  have e1 : oneL (wsH m).length 0 = [1] := rfl
  have hr : Rest (wsH m) (dropM 1 [(a : Int)] (oneL (wsH m).length 0)) [0] := by
    rw [e1]
    refine ⟨⟨Nat.one_pos, Int.one_pos, trivial⟩, fun u hu => ?_⟩
    rw [h.1.1]
    have : u = 0 := by simpa [wsH] using hu
    rw [this]
    rfl
  have := (fall_same (wsH_ok hm) hs (wsH_q ha) (w := 0) hr).1
  rw [← this, e1]
  exact ⟨h.1.2, h.2⟩
theorem mod_next {m a n : Nat} (hm : m < 4) : ((a + n) % (m + 1) + 1) % (m + 1) = (a + (n + 1)) % (m + 1) ∧ ((a + n) / (m + 1) : Nat) + (if (a + n) % (m + 1) = m then 1 else 0) = (a + (n + 1)) / (m + 1) := by
  match m, hm with
  | 0, _ => constructor <;> (try split) <;> omega
  | 1, _ => constructor <;> (try split) <;> omega
  | 2, _ => constructor <;> (try split) <;> omega
  | 3, _ => constructor <;> (try split) <;> omega
  | _ + 4, h => omega
theorem heap_far {q : Int} {ls : List (List Int)} (hm : m < 4) (ha : a ≤ m) (hs : solB (wsH m) 1 = some (q, ls)) : ∀ n, itS (wsH m) 1 [(a : Int)] 0 n = [(((a + n) % (m + 1) : Nat) : Int)] ∧ cupS (wsH m) 1 [(a : Int)] 0 n = [((2 * ((a + n) / (m + 1)) : Nat) : Int)]
  | 0 => by
    rw [itS, cupS, Nat.add_zero, Nat.mod_eq_of_lt (by omega), Nat.div_eq_of_lt (by omega)]
    exact ⟨rfl, rfl⟩
  | n + 1 => by
    obtain ⟨h1, h2⟩ := heap_far hm ha hs n
    have hr : (a + n) % (m + 1) ≤ m := Nat.le_of_lt_succ (Nat.mod_lt _ (by omega))
    obtain ⟨g1, g2⟩ := heap_one hm hr hs
    obtain ⟨e1, e2⟩ := mod_next (m := m) (a := a) (n := n) hm
    rw [itS, cupS, h1, h2, g1, g2, e1]
    refine ⟨rfl, ?_⟩
    show [((2 * ((a + n) / (m + 1)) : Nat) : Int) + _] = _
    rw [← e2]
    split <;> simp <;> omega
theorem heap_led (hA : Wf M) (hm : m < 4) (ha : a ≤ m) (hN : N ≤ 10 ^ 12) : m_led_far bigFuel [bd38 m, stepT [(a : Int)], .int 0, .int (N : Int)] M = .ok (.tup [stepT [(((a + N) % (m + 1) : Nat) : Int)], stepT [((2 * ((a + N) / (m + 1)) : Nat) : Int)]]) M := by
  obtain ⟨⟨q, ls⟩, hs⟩ := Option.isSome_iff_exists.mp (wsH_so hm)
  obtain ⟨h1, h2⟩ := heap_far hm ha hs N
  have := m_led_far_eq (A := M) (fu := bigFuel) (w := 0) (N := N) hA bigFuelF (wsH_ok hm) hs (wsH_q ha) Nat.one_pos hN
  rw [farD, h1, h2] at this
  exact this
theorem lk_two {s t : List Int} : LK (.tup [stepT s, stepT t]) 2 := LK.tup fun d hd => by
  simp only [List.mem_cons, List.not_mem_nil, or_false] at hd
  rcases hd with rfl | rfl
  · exact LK.step _
  · exact LK.step _
theorem told38H3 (hA : Wf M) (hm : m < 4) (ha : a ≤ m) (hN : N ≤ 10 ^ 12) : H383 bigFuel (fr38 m a (N : Int)) M = .ok (.nx (fr38 m a (N : Int))) M := by
  have e1 : fBin gAdd (fVar 3) (fVar 2) (fr38 m a (N : Int)) M = .ok (.int ((a + N : Nat) : Int)) M := (bin_ev (a := .int (a : Int)) (b := .int (N : Int)) (var_ev rfl) (var_ev rfl)).trans (gAdd_int.trans (by rw [← Int.natCast_add]))
  have e2 : fBin gMod (fBin gAdd (fVar 3) (fVar 2)) (fVar 1) (fr38 m a (N : Int)) M = .ok (.int (((a + N) % (m + 1) : Nat) : Int)) M := (bin_ev (b := .int ((m + 1 : Nat) : Int)) e1 (var_ev rfl)).trans (by
    rw [gMod_int, if_pos (decide_eq_true (by omega)), ← Int.natCast_emod])
  have e3 : fBin gFdiv (fBin gAdd (fVar 3) (fVar 2)) (fVar 1) (fr38 m a (N : Int)) M = .ok (.int (((a + N) / (m + 1) : Nat) : Int)) M := (bin_ev (b := .int ((m + 1 : Nat) : Int)) e1 (var_ev rfl)).trans (by
    rw [gFdiv_int, if_pos, ← Int.natCast_ediv]
    rw [Bool.and_eq_true]
    refine ⟨decide_eq_true (by omega), ?_⟩
    match m, hm with
    | 0, _ => decide +kernel
    | 1, _ => decide +kernel
    | 2, _ => decide +kernel
    | 3, _ => decide +kernel
    | _ + 4, h => omega)
  have hd : (a + N) / (m + 1) ≤ 10 ^ 12 + 4 := Nat.le_trans (Nat.div_le_self _ _) (by omega)
  have hk : mulOk 2 (((a + N) / (m + 1) : Nat) : Int) = true := mulOk_small (by decide) (by rw [Int.natAbs_natCast]; exact Nat.lt_of_le_of_lt hd (by decide))
  have e4 : fBin gMul (fC (.int 2)) (fBin gFdiv (fBin gAdd (fVar 3) (fVar 2)) (fVar 1)) (fr38 m a (N : Int)) M = .ok (.int ((2 * ((a + N) / (m + 1)) : Nat) : Int)) M := (bin_ev (a := .int 2) rfl e3).trans (by
    rw [gMul_int, if_pos hk, Int.natCast_mul]
    rfl)
  have hl := heap_led hA hm ha hN
  exact same45 lk_two (by decide) ((call4_ev45 (a := bd38 m) (b := stepT [(a : Int)]) (c := .int 0) (d := .int (N : Int)) (var_ev rfl) (oneS (var_ev rfl)) rfl (var_ev rfl)).trans hl) (tup2_ev (oneS e2) (oneS e4))
theorem m_heap_eq (ho : PenOk (k + 3) x) : ∃ y, m_law_heap_right_7e4e6a bigFuel [.ref 0] [x] = .ok (.bl true) [y] ∧ PenOk k y := by
  obtain ⟨z1, x1, e1, a1, b1, o1⟩ := m_draw_eq (p := 0) (k := k + 2) (n := 4) (M := [x]) (x := x) rfl ho (by decide) (by decide)
  obtain ⟨z2, x2, e2, a2, b2, o2⟩ := m_draw_big (p := 0) (k := k + 1) (n := 1000000000000) (M := [x1]) (x := x1) rfl o1 (by decide) (by decide)
  obtain ⟨z3, x3, e3, a3, b3, o3⟩ := m_draw_eq (p := 0) (k := k) (n := 4) (M := [x2]) (x := x2) rfl o2 (by decide) (by decide)
  have e1' : m_law_draw_321cf4 [.ref 0, .int 4] [x] = .ok (.int z1) [x1] := e1
  have e2' : m_law_draw_321cf4 [.ref 0, .int 1000000000000] [x1] = .ok (.int z2) [x2] := e2
  have e3' : m_law_draw_321cf4 [.ref 0, .int 4] [x2] = .ok (.int z3) [x3] := e3
  obtain ⟨m, rfl⟩ := Int.eq_ofNat_of_zero_le a1
  obtain ⟨N, rfl⟩ := Int.eq_ofNat_of_zero_le a2
  obtain ⟨a, rfl⟩ := Int.eq_ofNat_of_zero_le a3
  have hm : m < 4 := by omega
  have ha4 : a < 4 := by omega
  have hN : N ≤ 10 ^ 12 := by omega
  have hA : Wf [x3] := fun c hc => by
    rw [List.mem_singleton.mp hc]
    exact o3.und
  have ha : a % (m + 1) ≤ m := Nat.le_of_lt_succ (Nat.mod_lt _ (by omega))
  refine ⟨x3, ?_, o3⟩
  obtain ⟨u, v, w, hx⟩ : ∃ u v w : Int, [x3] = pen1 u v w := by
    cases x3 with
    | dic _ => exact o3.elim
    | lst ds =>
      obtain ⟨u, v, w, rfl, _⟩ := o3
      exact ⟨u, v, w, rfl⟩
  have s0 : H380 bigFuel (startA 6 [.ref 0]) [x] = .ok (.nx [some (.ref 0), some (.int ((m + 1 : Nat) : Int)), some (.int (N : Int)), some (.int (a : Int)), none, none]) [x3] := by
    refine (par3_ev (a := .int ((m + 1 : Nat) : Int)) (b := .int (N : Int)) (c := .int (a : Int)) ((bin_ev (a := .int 1) (b := .int (m : Int)) rfl ((call2_ev (a := .ref 0) (b := .int 4) (var_ev rfl) rfl).trans e1')).trans (gAdd_int.trans (by rw [Int.natCast_add, Int.add_comm]; rfl))) ((call2_ev (a := .ref 0) (b := .int 1000000000000) (var_ev rfl) (by kernel_rfl)).trans e2') ((call2_ev (a := .ref 0) (b := .int 4) (var_ev rfl) rfl).trans e3')).trans ?_
    rfl
  have s1 : H381 bigFuel [some (.ref 0), some (.int ((m + 1 : Nat) : Int)), some (.int (N : Int)), some (.int (a : Int)), none, none] [x3] = .ok (.nx (fr38 m (a % (m + 1)) (N : Int))) [x3] := by
    rw [hx]
    have := map_at (told38H1 u v w (N : Int)) m (List.mem_range.mpr hm)
    obtain ⟨l, hl, e⟩ := this
    have hl' : l = m := by
      have h4 : (List.range 4).zip (List.range 4) = (List.range 4).map fun i => (i, i) := by decide
      rw [h4] at hl
      obtain ⟨i, _, hi⟩ := List.mem_map.mp hl
      cases hi
      rfl
    subst hl'
    obtain ⟨l2, hl2, e2⟩ := map_at e a (List.mem_range.mpr ha4)
    have hl2' : l2 = a := by
      have h4 : (List.range 4).zip (List.range 4) = (List.range 4).map fun i => (i, i) := by decide
      rw [h4] at hl2
      obtain ⟨i, _, hi⟩ := List.mem_map.mp hl2
      cases hi
      rfl
    subst hl2'
    exact e2
  have pick : ∀ {f g : Nat × Nat → RS}, ms38.map f = ms38.map g → f (m, a % (m + 1)) = g (m, a % (m + 1)) := fun {f g} h => (List.map_inj_left.mp h) _ (ms38_mem hm ha)
  have s2 : H382 bigFuel (fr38 m (a % (m + 1)) (N : Int)) [x3] = .ok (.nx (fr38 m (a % (m + 1)) (N : Int))) [x3] := by
    rw [hx, H382r_is]
    exact pick (told38H2 u v w (N : Int))
  have s3 := told38H3 hA hm ha hN
  have s4 : H384 bigFuel (fr38 m (a % (m + 1)) (N : Int)) [x3] = .ok (.nx (fr38 m (a % (m + 1)) (N : Int))) [x3] := by
    rw [hx, H384r_is]
    exact pick (told38H4 u v w (N : Int))
  have s5 : H385 bigFuel (fr38 m (a % (m + 1)) (N : Int)) [x3] = .ok (.rt (.bl true)) [x3] := by
    rw [hx]
    exact pick (told38H5 u v w (N : Int))
  exact (run_rt (n := 6) (k := 1) (b := b_law_heap_right_7e4e6a bigFuel) rfl (by
    rw [H38_body]
    exact (seq_nx s0).trans ((seq_nx s1).trans ((seq_nx s2).trans ((seq_nx s3).trans ((seq_nx s4).trans s5)))))).trans (trim_id rfl)
end QX
set_option maxRecDepth 100000
set_option maxHeartbeats 1000000
set_option exponentiation.threshold 5000
namespace QX
open PySem PySem.Spec PyProof PyProof.Rows L2 HX QX.Det
variable {M : Mem} {p k m a N : Nat} {x : Cell} {σ : Sa} {far : Int} {ns : List Int}
theorem pen_one {k : Nat} {x : Cell} (h : PenOk k x) : ∃ u v w : Int, [x] = pen1 u v w := by
  cases x with
  | dic _ => exact h.elim
  | lst ds =>
    obtain ⟨u, v, w, rfl, _⟩ := h
    exact ⟨u, v, w, rfl⟩
theorem draw1 {n : Int} (h1 : 1 ≤ n) (h2 : n ≤ 100) (ho : PenOk (k + 1) x) : ∃ (i : Nat) (y : Cell), m_law_draw_321cf4 [.ref 0, .int n] [x] = .ok (.int (i : Int)) [y] ∧ (i : Int) < n ∧ PenOk k y := by
  obtain ⟨z1, x1, e1, a1, b1, o1⟩ := m_draw_eq (p := 0) (k := k) (n := n) (M := [x]) (x := x) rfl ho h1 (by omega)
  obtain ⟨i, rfl⟩ := Int.eq_ofNat_of_zero_le a1
  exact ⟨i, x1, e1, b1, o1⟩
theorem m_turns38 (ho : PenOk (k + 2) x) : ∃ y, m_law_by_turns_right_47bbe0 bigFuel [.ref 0] [x] = .ok (.bl true) [y] ∧ PenOk k y := by
  obtain ⟨i, x1, e1, b1, o1⟩ := draw1 (n := 21) (by decide) (by decide) ho
  obtain ⟨j, x2, e2, b2, o2⟩ := draw1 (n := 2) (by decide) (by decide) o1
  refine ⟨x2, ?_, o2⟩
  obtain ⟨u, v, w, hx⟩ := pen_one o2
  have s0 : Y380 bigFuel (startA 5 [.ref 0]) [x] = .ok (.nx [some (.ref 0), some (boardT [[[1], [2]]] 2), some (.int (i : Int)), some (.int (j : Int)), none]) [x2] :=
    (par3_ev (a := boardT [[[1], [2]]] 2) (b := .int (i : Int)) (c := .int (j : Int)) rfl ((call2_ev (a := .ref 0) (b := .int 21) (var_ev rfl) rfl).trans e1) ((call2_ev (a := .ref 0) (b := .int 2) (var_ev rfl) rfl).trans e2)).trans rfl
  have s1 : (sSeq (Y381 bigFuel) (Y382 bigFuel)) [some (.ref 0), some (boardT [[[1], [2]]] 2), some (.int (i : Int)), some (.int (j : Int)), none] [x2] = .ok (.rt (.bl true)) [x2] := by
    rw [hx]
    exact List.map_inj_left.mp (List.map_inj_left.mp (told38Y u v w) i (List.mem_range.mpr (by omega))) j (List.mem_range.mpr (by omega))
  exact (run_rt (n := 5) (k := 1) (b := b_law_by_turns_right_47bbe0 bigFuel) rfl (by
    rw [Y38_body]
    exact (seq_nx s0).trans s1)).trans (trim_id rfl)
theorem m_double38 (ho : PenOk (k + 1) x) : ∃ y, m_law_double_right_e7521f bigFuel [.ref 0] [x] = .ok (.bl true) [y] ∧ PenOk k y := by
  obtain ⟨i, x1, e1, b1, o1⟩ := draw1 (n := 21) (by decide) (by decide) ho
  refine ⟨x1, ?_, o1⟩
  obtain ⟨u, v, w, hx⟩ := pen_one o1
  have s0 : D380 bigFuel (startA 3 [.ref 0]) [x] = .ok (.nx [some (.ref 0), some (boardT [[[1, 1]], [[], [], [2]]] 1), some (.int (i : Int))]) [x1] :=
    (par_ev (a := boardT [[[1, 1]], [[], [], [2]]] 1) (b := .int (i : Int)) rfl ((call2_ev (a := .ref 0) (b := .int 21) (var_ev rfl) rfl).trans e1)).trans rfl
  have s1 : (sSeq (D381 bigFuel) (sSeq (D382 bigFuel) (sSeq (D383 bigFuel) (D384 bigFuel)))) [some (.ref 0), some (boardT [[[1, 1]], [[], [], [2]]] 1), some (.int (i : Int))] [x1] = .ok (.rt (.bl true)) [x1] := by
    rw [hx, restD_is]
    rcases Nat.lt_or_ge i 7 with h0 | h0
    · obtain ⟨j, rfl⟩ : ∃ j, i = 0 + j := ⟨i - 0, by omega⟩
      exact List.map_inj_left.mp (told38D0 u v w) j (List.mem_range.mpr (by omega))
    rcases Nat.lt_or_ge i 14 with h1 | h1
    · obtain ⟨j, rfl⟩ : ∃ j, i = 7 + j := ⟨i - 7, by omega⟩
      exact List.map_inj_left.mp (told38D1 u v w) j (List.mem_range.mpr (by omega))
    rcases Nat.lt_or_ge i 21 with h2 | h2
    · obtain ⟨j, rfl⟩ : ∃ j, i = 14 + j := ⟨i - 14, by omega⟩
      exact List.map_inj_left.mp (told38D2 u v w) j (List.mem_range.mpr (by omega))
    exact absurd b1 (by omega)
  exact (run_rt (n := 3) (k := 1) (b := b_law_double_right_e7521f bigFuel) rfl (by
    rw [D38_body]
    exact (seq_nx s0).trans s1)).trans (trim_id rfl)
theorem m_itself38 (ho : PenOk (k + 1) x) : ∃ y, m_law_itself_right_050651 bigFuel [.ref 0] [x] = .ok (.bl true) [y] ∧ PenOk k y := by
  obtain ⟨i, x1, e1, b1, o1⟩ := draw1 (n := 20) (by decide) (by decide) ho
  refine ⟨x1, ?_, o1⟩
  obtain ⟨u, v, w, hx⟩ := pen_one o1
  have s0 : I380 bigFuel (startA 3 [.ref 0]) [x] = .ok (.nx [some (.ref 0), some (boardT [[[0], [1]]] 1), some (.int (i : Int))]) [x1] :=
    (par_ev (a := boardT [[[0], [1]]] 1) (b := .int (i : Int)) rfl ((call2_ev (a := .ref 0) (b := .int 20) (var_ev rfl) rfl).trans e1)).trans rfl
  have s1 : (sSeq (I381 bigFuel) (sSeq (I382 bigFuel) (sSeq (I383 bigFuel) (sSeq (I384 bigFuel) (sSeq (I385 bigFuel) (I386 bigFuel)))))) [some (.ref 0), some (boardT [[[0], [1]]] 1), some (.int (i : Int))] [x1] = .ok (.rt (.bl true)) [x1] := by
    rw [hx, restI_is]
    rcases Nat.lt_or_ge i 5 with h0 | h0
    · obtain ⟨j, rfl⟩ : ∃ j, i = 0 + j := ⟨i - 0, by omega⟩
      exact List.map_inj_left.mp (told38I0 u v w) j (List.mem_range.mpr (by omega))
    rcases Nat.lt_or_ge i 10 with h1 | h1
    · obtain ⟨j, rfl⟩ : ∃ j, i = 5 + j := ⟨i - 5, by omega⟩
      exact List.map_inj_left.mp (told38I1 u v w) j (List.mem_range.mpr (by omega))
    rcases Nat.lt_or_ge i 15 with h2 | h2
    · obtain ⟨j, rfl⟩ : ∃ j, i = 10 + j := ⟨i - 10, by omega⟩
      exact List.map_inj_left.mp (told38I2 u v w) j (List.mem_range.mpr (by omega))
    rcases Nat.lt_or_ge i 20 with h3 | h3
    · obtain ⟨j, rfl⟩ : ∃ j, i = 15 + j := ⟨i - 15, by omega⟩
      exact List.map_inj_left.mp (told38I3 u v w) j (List.mem_range.mpr (by omega))
    exact absurd b1 (by omega)
  exact (run_rt (n := 3) (k := 1) (b := b_law_itself_right_050651 bigFuel) rfl (by
    rw [I38_body]
    exact (seq_nx s0).trans s1)).trans (trim_id rfl)
theorem m_two38 (ho : PenOk (k + 1) x) : ∃ y, m_law_two_right_14dad7 bigFuel [.ref 0] [x] = .ok (.bl true) [y] ∧ PenOk k y := by
  obtain ⟨i, x1, e1, b1, o1⟩ := draw1 (n := 5) (by decide) (by decide) ho
  refine ⟨x1, ?_, o1⟩
  obtain ⟨u, v, w, hx⟩ := pen_one o1
  have s0 : W380 bigFuel (startA 6 [.ref 0]) [x] = .ok (.nx [some (.ref 0), some (boardT [[[1], [2]], [[], [3, 3]]] 2), some (.int (i : Int)), none, none, none]) [x1] :=
    (par_ev (a := boardT [[[1], [2]], [[], [3, 3]]] 2) (b := .int (i : Int)) rfl ((call2_ev (a := .ref 0) (b := .int 5) (var_ev rfl) rfl).trans e1)).trans rfl
  have s1 : (sSeq (W381 bigFuel) (sSeq (W382 bigFuel) (sSeq (W383 bigFuel) (W384 bigFuel)))) [some (.ref 0), some (boardT [[[1], [2]], [[], [3, 3]]] 2), some (.int (i : Int)), none, none, none] [x1] = .ok (.rt (.bl true)) [x1] := by
    rw [hx, restW_is]
    exact List.map_inj_left.mp (told38W u v w) i (List.mem_range.mpr (by omega))
  exact (run_rt (n := 6) (k := 1) (b := b_law_two_right_14dad7 bigFuel) rfl (by
    rw [W38_body]
    exact (seq_nx s0).trans s1)).trans (trim_id rfl)
theorem turn38 (hs : Has σ 4 [(2, .ref 0), (0, .scr ns)]) (ho : PenOk (k + 8) x) : ∃ y, L380_1_b bigFuel σ [x] = .ok (.nx σ) [y] ∧ PenOk k y := by
  obtain ⟨x1, e1, o1⟩ := m_heap_eq (k := k + 5) ho
  obtain ⟨x2, e2, o2⟩ := m_turns38 (k := k + 3) o1
  obtain ⟨x3, e3, o3⟩ := m_double38 (k := k + 2) o2
  obtain ⟨x4, e4, o4⟩ := m_itself38 (k := k + 1) o3
  obtain ⟨x5, e5, o5⟩ := m_two38 (k := k) o4
  have f : ∀ {m : List D → Mem → Res D} {x y : Cell}, m [.ref 0] [x] = .ok (.bl true) [y] → fNotT (fTest (fCall m (fCons (fVar 2) fNil))) σ [x] = .ok false [y] := fun {m x y} e => by
    rw [ev_notT, test_ev ((call1_ev (a := .ref 0) (var_ev (hs.at (by simp)))).trans e)]
    rfl
  have s0 : L380_1_0 bigFuel σ [x] = .ok (.nx σ) [x3] := by
    refine (sif_ev (p := false) (M1 := [x3]) ?_).trans rfl
    rw [ev_orT, f e1, bind_ok]
    show fOrT _ _ σ [x1] = _
    rw [ev_orT, f e2, bind_ok]
    exact f e3
  have s1 : L380_1_1 bigFuel σ [x3] = .ok (.nx σ) [x5] := by
    refine (sif_ev (p := false) (M1 := [x5]) ?_).trans rfl
    rw [ev_orT, f e4, bind_ok]
    exact f e5
  exact ⟨x5, (seq_nx s0).trans s1, o5⟩
theorem L380b_eq {j : Nat} (hs : Has σ 4 [(1, .int (j : Int)), (0, .scr ns)]) : ∃ σ' y, L380_b bigFuel σ [] = .ok (.nx σ') [y] ∧ Has σ' 4 [(0, .scr ns)] := by
  have hWx : ∀ {k : Nat} {x : Cell}, PenOk k x → Wf [x] := fun {k x} o c hc => by
    rw [List.mem_singleton.mp hc]
    exact o.und
  obtain ⟨x, e1, o1⟩ := m_pen_eq (c := ns.getD j 0) (M := [])
  have s0 : L380_0 bigFuel σ [] = .ok (.nx (σ.set 2 (some (.ref 0)))) [x] := set_ev ((call1_ev (M1 := []) (a := .int (ns.getD j 0)) ((call2_ev (a := .scr ns) (b := .int (j : Int)) (var_ev (hs.at (by simp))) (var_ev (hs.at (by simp)))).trans m_cell_at_eq)).trans e1)
  have hs0 : Has (σ.set 2 (some (.ref 0))) 4 [(2, .ref 0), (0, .scr ns)] := (hs.sub (l' := [(0, .scr ns)]) (by simp)).put (by decide) (by simp)
  generalize σ.set 2 (some (D.ref 0)) = σ0 at s0 hs0
  obtain ⟨σ2, M2, f2, y, rfl, o2, hs2⟩ := for_nums (b := L380_1_b bigFuel) (n := 1) (m := 3) (i := 3) (σ := σ0) (M := [x]) (fun j σ N => ∃ y, N = [y] ∧ PenOk (8 * (3 - j)) y ∧ Has σ 4 [(2, .ref 0), (0, .scr ns)]) ⟨x, rfl, o1.less (by omega), hs0⟩ (fun j σ N hj hv => by
    obtain ⟨y, rfl, oy, hs⟩ := hv
    have hs' : Has (σ.set 3 (some (.int (j : Int)))) 4 [(2, .ref 0), (0, .scr ns)] := hs.set (by simp)
    obtain ⟨y', g1, g2⟩ := turn38 (k := 8 * (3 - (j + 1))) (x := y) hs' (oy.less (by omega))
    refine ⟨_, _, .inl g1, ?_⟩
    rw [gc_same (n := 1) (σ := σ.set 3 (some (.int (j : Int)))) (M := [y']) rfl]
    exact ⟨y', rfl, g2, hs'⟩)
  exact ⟨σ2, y, (seq_nx s0).trans (for_of (range1_ev (M1 := [x]) (n := 3) (j := 3) rfl (by decide) (by decide) rfl) f2), hs2.sub (by simp)⟩
theorem law_true38 (ns : List Int) (hn : ns.length ≤ 63) : ∃ M, m_law_d1ab57 bigFuel [.scr ns] [] = .ok (.bl true) M := by
  have hr : ∃ m : Nat, L380_it bigFuel (startA 4 [.scr ns]) [] = .ok ⟨nums 0 m, fun _ => true⟩ [] := by
    refine ⟨_, range1_ev (j := if (if (4 : Int) < ns.length then 4 else (ns.length : Int)) > 1 then (if (4 : Int) < ns.length then 4 else (ns.length : Int)) else 1) ?_ ?_ ?_ rfl⟩
    · simp [startA]
    · split <;> (try split) <;> omega
    · split <;> (try split) <;> omega
  obtain ⟨m, hr⟩ := hr
  obtain ⟨σ2, M2, f2, rfl, hs2⟩ := for_nums (b := L380_b bigFuel) (n := 0) (m := m) (i := 1) (σ := startA 4 [.scr ns]) (M := []) (fun j σ N => N = [] ∧ Has σ 4 [(0, .scr ns)]) ⟨rfl, rfl, fun q hq => by
      simp only [List.mem_cons, List.mem_nil_iff, or_false] at hq
      rcases hq with rfl
      rfl⟩ (fun j σ N hj hv => by
    obtain ⟨rfl, hs⟩ := hv
    obtain ⟨σ', y, g1, g2⟩ := L380b_eq (ns := ns) (j := j) (σ := σ.set 1 (some (.int (j : Int)))) (hs.put (by decide) (by simp))
    refine ⟨σ', _, .inl g1, ?_⟩
    have := gc_app (n := 0) (σ := σ') (M := []) (g := [y]) rfl Wf.nil (by simp)
    rw [List.nil_append] at this
    rw [this]
    exact ⟨rfl, g2.keep (by simp [D.und])⟩)
  refine ⟨[], ?_⟩
  have sb : b_law_d1ab57 bigFuel (startA 4 [.scr ns]) [] = .ok (.rt (.bl true)) [] := by
    rw [L38_body]
    exact (seq_nx (for_of hr f2)).trans (ret_ev rfl)
  unfold m_law_d1ab57 runD
  rw [sb]
  simp
end QX
namespace Q38
theorem law_true (ns : List Int) (hn : ns.length ≤ 63) : ∃ M, QX.m_law_d1ab57 QX.bigFuel [.scr ns] [] = .ok (.bl true) M := QX.law_true38 ns hn
end Q38
set_option maxRecDepth 100000
set_option maxHeartbeats 1000000
open PySem PySem.W PyProof.Rows
set_option maxHeartbeats 0 in
theorem PySem.Challenge.cw_marblefall_k38_boards_by_hand_holds : PySem.Challenge.rw_marblefall_k38_boards_by_hand.Holds := by
  w_on; o_law; k_head; (case hw => w_witness2)
  k_fill
  refine HX.walk_ofTG (l := PySem.Challenge.rw_marblefall_k38_boards_by_hand) (n := 63) (k := 12) (x := "_law_script") rfl (by decide) rfl ⟨rfl, by decide, by decide⟩ ?I (fun w h Y => by first | exact PySem.W.kIn_of Y | exact PySem.W.km_in_of Y) ?F
  case I => first | rfl | decide +kernel
  case F =>
    intro w mg fa h KX G hmg tabs
    obtain ⟨t_MOST_WHEELS, g_MOST_WHEELS⟩ : ∃ t, mg "MOST_WHEELS" = some (.int 6 t) := by
      refine' HX.gint_mk KX G ?a
      (case a => k_is)
    obtain ⟨t_MOST_CUPS, g_MOST_CUPS⟩ : ∃ t, mg "MOST_CUPS" = some (.int 4 t) := by
      refine' HX.gint_mk KX G ?a
      (case a => k_is)
    obtain ⟨t_MOST_STEPS, g_MOST_STEPS⟩ : ∃ t, mg "MOST_STEPS" = some (.int 4 t) := by
      refine' HX.gint_mk KX G ?a
      (case a => k_is)
    obtain ⟨t_MOST_ENDS, g_MOST_ENDS⟩ : ∃ t, mg "MOST_ENDS" = some (.int 3 t) := by
      refine' HX.gint_mk KX G ?a
      (case a => k_is)
    obtain ⟨t_MOST_DROPPED, g_MOST_DROPPED⟩ : ∃ t, mg "MOST_DROPPED" = some (.int 20 t) := by
      refine' HX.gint_mk KX G ?a
      (case a => k_is)
    obtain ⟨t_MOST_FAR, g_MOST_FAR⟩ : ∃ t, mg "MOST_FAR" = some (.int 1000000000000 t) := by
      refine' HX.gint_mk KX G ?a
      (case a => k_is)
    refine' HX.def_cut (x := "_law_pen") (st := Q38.s__law_pen) (ps := ["_law_cell"]) KX G ?a ?l ?c ?k ?b (fun d__law_pen => ?z__law_pen)
    (case a => k_is); (case l => k_is); (case c => k_is); (case k => k_is); (case b => exact fun _ _ _ _ _ _ us hl => match us, hl with | [_], _ => rfl)
    refine' HX.def_cut (x := "_law_cell_at") (st := Q38.s__law_cell_at) (ps := ["_law_script", "_law_k"]) KX G ?a ?l ?c ?k ?b (fun d__law_cell_at => ?z__law_cell_at)
    (case a => k_is); (case l => k_is); (case c => k_is); (case k => k_is); (case b => exact fun _ _ _ _ _ _ us hl => match us, hl with | [_, _], _ => rfl)
    refine' HX.def_cut (x := "_law_draw") (st := Q38.s__law_draw) (ps := ["_law_pen_here", "_law_many"]) KX G ?a ?l ?c ?k ?b (fun d__law_draw => ?z__law_draw)
    (case a => k_is); (case l => k_is); (case c => k_is); (case k => k_is); (case b => exact fun _ _ _ _ _ _ us hl => match us, hl with | [_, _], _ => rfl)
    refine' HX.def_cut (x := "has_parts") (st := Q38.s_has_parts) (ps := ["thing", "least", "most"]) KX G ?a ?l ?c ?k ?b (fun d_has_parts => ?z_has_parts)
    (case a => k_is); (case l => k_is); (case c => k_is); (case k => k_is); (case b => exact fun _ _ _ _ _ _ us hl => match us, hl with | [_, _, _], _ => rfl)
    refine' HX.def_cut (x := "is_whole") (st := Q38.s_is_whole) (ps := ["thing"]) KX G ?a ?l ?c ?k ?b (fun d_is_whole => ?z_is_whole)
    (case a => k_is); (case l => k_is); (case c => k_is); (case k => k_is); (case b => exact fun _ _ _ _ _ _ us hl => match us, hl with | [_], _ => rfl)
    refine' HX.def_cut (x := "is_within") (st := Q38.s_is_within) (ps := ["thing", "least", "most"]) KX G ?a ?l ?c ?k ?b (fun d_is_within => ?z_is_within)
    (case a => k_is); (case l => k_is); (case c => k_is); (case k => k_is); (case b => exact fun _ _ _ _ _ _ us hl => match us, hl with | [_, _, _], _ => rfl)
    refine' HX.def_cut (x := "is_step") (st := Q38.s_is_step) (ps := ["thing", "ends"]) KX G ?a ?l ?c ?k ?b (fun d_is_step => ?z_is_step)
    (case a => k_is); (case l => k_is); (case c => k_is); (case k => k_is); (case b => exact fun _ _ _ _ _ _ us hl => match us, hl with | [_, _], _ => rfl)
    refine' HX.def_cut (x := "is_wheel") (st := Q38.s_is_wheel) (ps := ["thing", "ends"]) KX G ?a ?l ?c ?k ?b (fun d_is_wheel => ?z_is_wheel)
    (case a => k_is); (case l => k_is); (case c => k_is); (case k => k_is); (case b => exact fun _ _ _ _ _ _ us hl => match us, hl with | [_, _], _ => rfl)
    refine' HX.def_cut (x := "is_board") (st := Q38.s_is_board) (ps := ["thing"]) KX G ?a ?l ?c ?k ?b (fun d_is_board => ?z_is_board)
    (case a => k_is); (case l => k_is); (case c => k_is); (case k => k_is); (case b => exact fun _ _ _ _ _ _ us hl => match us, hl with | [_], _ => rfl)
    refine' HX.def_cut (x := "need_board") (st := Q38.s_need_board) (ps := ["thing"]) KX G ?a ?l ?c ?k ?b (fun d_need_board => ?z_need_board)
    (case a => k_is); (case l => k_is); (case c => k_is); (case k => k_is); (case b => exact fun _ _ _ _ _ _ us hl => match us, hl with | [_], _ => rfl)
    refine' HX.def_cut (x := "with_nought") (st := Q38.s_with_nought) (ps := ["line", "other", "place", "number"]) KX G ?a ?l ?c ?k ?b (fun d_with_nought => ?z_with_nought)
    (case a => k_is); (case l => k_is); (case c => k_is); (case k => k_is); (case b => exact fun _ _ _ _ _ _ us hl => match us, hl with | [_, _, _, _], _ => rfl)
    refine' HX.def_cut (x := "solved") (st := Q38.s_solved) (ps := ["table"]) KX G ?a ?l ?c ?k ?b (fun d_solved => ?z_solved)
    (case a => k_is); (case l => k_is); (case c => k_is); (case k => k_is); (case b => exact fun _ _ _ _ _ _ us hl => match us, hl with | [_], _ => rfl)
    refine' HX.def_cut (x := "turn_ends") (st := Q38.s_turn_ends) (ps := ["board"]) KX G ?a ?l ?c ?k ?b (fun d_turn_ends => ?z_turn_ends)
    (case a => k_is); (case l => k_is); (case c => k_is); (case k => k_is); (case b => exact fun _ _ _ _ _ _ us hl => match us, hl with | [_], _ => rfl)
    refine' HX.def_cut (x := "turn_table") (st := Q38.s_turn_table) (ps := ["board", "group"]) KX G ?a ?l ?c ?k ?b (fun d_turn_table => ?z_turn_table)
    (case a => k_is); (case l => k_is); (case c => k_is); (case k => k_is); (case b => exact fun _ _ _ _ _ _ us hl => match us, hl with | [_, _], _ => rfl)
    refine' HX.def_cut (x := "solved_board") (st := Q38.s_solved_board) (ps := ["board"]) KX G ?a ?l ?c ?k ?b (fun d_solved_board => ?z_solved_board)
    (case a => k_is); (case l => k_is); (case c => k_is); (case k => k_is); (case b => exact fun _ _ _ _ _ _ us hl => match us, hl with | [_], _ => rfl)
    refine' HX.def_cut (x := "need_drain") (st := Q38.s_need_drain) (ps := ["board"]) KX G ?a ?l ?c ?k ?b (fun d_need_drain => ?z_need_drain)
    (case a => k_is); (case l => k_is); (case c => k_is); (case k => k_is); (case b => exact fun _ _ _ _ _ _ us hl => match us, hl with | [_], _ => rfl)
    refine' HX.def_cut (x := "is_stand") (st := Q38.s_is_stand) (ps := ["board", "thing"]) KX G ?a ?l ?c ?k ?b (fun d_is_stand => ?z_is_stand)
    (case a => k_is); (case l => k_is); (case c => k_is); (case k => k_is); (case b => exact fun _ _ _ _ _ _ us hl => match us, hl with | [_, _], _ => rfl)
    refine' HX.def_cut (x := "need_stand") (st := Q38.s_need_stand) (ps := ["board", "thing"]) KX G ?a ?l ?c ?k ?b (fun d_need_stand => ?z_need_stand)
    (case a => k_is); (case l => k_is); (case c => k_is); (case k => k_is); (case b => exact fun _ _ _ _ _ _ us hl => match us, hl with | [_, _], _ => rfl)
    refine' HX.def_cut (x := "is_wheel_number") (st := Q38.s_is_wheel_number) (ps := ["board", "thing"]) KX G ?a ?l ?c ?k ?b (fun d_is_wheel_number => ?z_is_wheel_number)
    (case a => k_is); (case l => k_is); (case c => k_is); (case k => k_is); (case b => exact fun _ _ _ _ _ _ us hl => match us, hl with | [_, _], _ => rfl)
    refine' HX.def_cut (x := "need_wheel") (st := Q38.s_need_wheel) (ps := ["board", "thing"]) KX G ?a ?l ?c ?k ?b (fun d_need_wheel => ?z_need_wheel)
    (case a => k_is); (case l => k_is); (case c => k_is); (case k => k_is); (case b => exact fun _ _ _ _ _ _ us hl => match us, hl with | [_, _], _ => rfl)
    refine' HX.def_cut (x := "begun") (st := Q38.s_begun) (ps := ["board", "stand", "wheel"]) KX G ?a ?l ?c ?k ?b (fun d_begun => ?z_begun)
    (case a => k_is); (case l => k_is); (case c => k_is); (case k => k_is); (case b => exact fun _ _ _ _ _ _ us hl => match us, hl with | [_, _, _], _ => rfl)
    refine' HX.def_cut (x := "one_more") (st := Q38.s_one_more) (ps := ["numbers", "place"]) KX G ?a ?l ?c ?k ?b (fun d_one_more => ?z_one_more)
    (case a => k_is); (case l => k_is); (case c => k_is); (case k => k_is); (case b => exact fun _ _ _ _ _ _ us hl => match us, hl with | [_, _], _ => rfl)
    refine' HX.def_cut (x := "together") (st := Q38.s_together) (ps := ["some", "others"]) KX G ?a ?l ?c ?k ?b (fun d_together => ?z_together)
    (case a => k_is); (case l => k_is); (case c => k_is); (case k => k_is); (case b => exact fun _ _ _ _ _ _ us hl => match us, hl with | [_, _], _ => rfl)
    refine' HX.def_cut (x := "fall") (st := Q38.s_fall) (ps := ["board", "known", "stand", "wheel"]) KX G ?a ?l ?c ?k ?b (fun d_fall => ?z_fall)
    (case a => k_is); (case l => k_is); (case c => k_is); (case k => k_is); (case b => exact fun _ _ _ _ _ _ us hl => match us, hl with | [_, _, _, _], _ => rfl)
    refine' HX.def_cut (x := "path_of") (st := Q38.s_path_of) (ps := ["board", "known", "stand", "wheel"]) KX G ?a ?l ?c ?k ?b (fun d_path_of => ?z_path_of)
    (case a => k_is); (case l => k_is); (case c => k_is); (case k => k_is); (case b => exact fun _ _ _ _ _ _ us hl => match us, hl with | [_, _, _, _], _ => rfl)
    refine' HX.def_cut (x := "cups_along") (st := Q38.s_cups_along) (ps := ["board", "known", "stands", "wheel"]) KX G ?a ?l ?c ?k ?b (fun d_cups_along => ?z_cups_along)
    (case a => k_is); (case l => k_is); (case c => k_is); (case k => k_is); (case b => exact fun _ _ _ _ _ _ us hl => match us, hl with | [_, _, _, _], _ => rfl)
    refine' HX.def_cut (x := "far_fall") (st := Q38.s_far_fall) (ps := ["board", "known", "stand", "wheel", "many"]) KX G ?a ?l ?c ?k ?b (fun d_far_fall => ?z_far_fall)
    (case a => k_is); (case l => k_is); (case c => k_is); (case k => k_is); (case b => exact fun _ _ _ _ _ _ us hl => match us, hl with | [_, _, _, _, _], _ => rfl)
    refine' HX.def_cut (x := "led_far") (st := Q38.s_led_far) (ps := ["board", "stand", "wheel", "many"]) KX G ?a ?l ?c ?k ?b (fun d_led_far => ?z_led_far)
    (case a => k_is); (case l => k_is); (case c => k_is); (case k => k_is); (case b => exact fun _ _ _ _ _ _ us hl => match us, hl with | [_, _, _, _], _ => rfl)
    refine' HX.def_cut (x := "stands_in_all") (st := Q38.s_stands_in_all) (ps := ["board"]) KX G ?a ?l ?c ?k ?b (fun d_stands_in_all => ?z_stands_in_all)
    (case a => k_is); (case l => k_is); (case c => k_is); (case k => k_is); (case b => exact fun _ _ _ _ _ _ us hl => match us, hl with | [_], _ => rfl)
    refine' QX.defD_cut (x := "need_few_stands") (st := Q38.s_need_few_stands) (dvs := [L2.V.int 600]) (kws := []) KX G ?a ?l ?c ?k (QX.dfl_one ?dt) (.inl rfl) (fun d_need_few_stands => ?z_need_few_stands)
    (case a => k_is); (case l => k_is); (case c => k_is); (case k => k_is); (case dt => k_is)
    refine' HX.def_cut (x := "need_two_stands") (st := Q38.s_need_two_stands) (ps := ["board", "stand", "other"]) KX G ?a ?l ?c ?k ?b (fun d_need_two_stands => ?z_need_two_stands)
    (case a => k_is); (case l => k_is); (case c => k_is); (case k => k_is); (case b => exact fun _ _ _ _ _ _ us hl => match us, hl with | [_, _, _], _ => rfl)
    refine' HX.def_cut (x := "next_ways") (st := Q38.s_next_ways) (ps := ["board", "known", "ways", "fresh"]) KX G ?a ?l ?c ?k ?b (fun d_next_ways => ?z_next_ways)
    (case a => k_is); (case l => k_is); (case c => k_is); (case k => k_is); (case b => exact fun _ _ _ _ _ _ us hl => match us, hl with | [_, _, _, _], _ => rfl)
    refine' HX.def_cut (x := "least_drops") (st := Q38.s_least_drops) (ps := ["board", "stand", "other"]) KX G ?a ?l ?c ?k ?b (fun d_least_drops => ?z_least_drops)
    (case a => k_is); (case l => k_is); (case c => k_is); (case k => k_is); (case b => exact fun _ _ _ _ _ _ us hl => match us, hl with | [_, _, _], _ => rfl)
    refine' HX.def_cut (x := "come_to") (st := Q38.s_come_to) (ps := ["board", "known", "stand"]) KX G ?a ?l ?c ?k ?b (fun d_come_to => ?z_come_to)
    (case a => k_is); (case l => k_is); (case c => k_is); (case k => k_is); (case b => exact fun _ _ _ _ _ _ us hl => match us, hl with | [_, _, _], _ => rfl)
    refine' HX.def_cut (x := "again_stands") (st := Q38.s_again_stands) (ps := ["board", "known"]) KX G ?a ?l ?c ?k ?b (fun d_again_stands => ?z_again_stands)
    (case a => k_is); (case l => k_is); (case c => k_is); (case k => k_is); (case b => exact fun _ _ _ _ _ _ us hl => match us, hl with | [_, _], _ => rfl)
    refine' HX.def_cut (x := "all_again") (st := Q38.s_all_again) (ps := ["board"]) KX G ?a ?l ?c ?k ?b (fun d_all_again => ?z_all_again)
    (case a => k_is); (case l => k_is); (case c => k_is); (case k => k_is); (case b => exact fun _ _ _ _ _ _ us hl => match us, hl with | [_], _ => rfl)
    refine' HX.def_cut (x := "how_many") (st := Q38.s_how_many) (ps := ["board"]) KX G ?a ?l ?c ?k ?b (fun d_how_many => ?z_how_many)
    (case a => k_is); (case l => k_is); (case c => k_is); (case k => k_is); (case b => exact fun _ _ _ _ _ _ us hl => match us, hl with | [_], _ => rfl)
    refine' HX.def_cut (x := "round_of") (st := Q38.s_round_of) (ps := ["board", "stand", "wheel"]) KX G ?a ?l ?c ?k ?b (fun d_round_of => ?z_round_of)
    (case a => k_is); (case l => k_is); (case c => k_is); (case k => k_is); (case b => exact fun _ _ _ _ _ _ us hl => match us, hl with | [_, _, _], _ => rfl)
    refine' HX.def_cut (x := "back") (st := Q38.s_back) (ps := ["board", "stand", "wheel"]) KX G ?a ?l ?c ?k ?b (fun d_back => ?z_back)
    (case a => k_is); (case l => k_is); (case c => k_is); (case k => k_is); (case b => exact fun _ _ _ _ _ _ us hl => match us, hl with | [_, _, _], _ => rfl)
    refine' HX.def_cut (x := "_law_heap_right") (st := Q38.s__law_heap_right) (ps := ["_law_pen_here"]) KX G ?a ?l ?c ?k ?b (fun d__law_heap_right => ?z__law_heap_right)
    (case a => k_is); (case l => k_is); (case c => k_is); (case k => k_is); (case b => exact fun _ _ _ _ _ _ us hl => match us, hl with | [_], _ => rfl)
    refine' HX.def_cut (x := "loosened") (st := Q38.s_loosened) (ps := ["moment"]) KX G ?a ?l ?c ?k ?b (fun d_loosened => ?z_loosened)
    (case a => k_is); (case l => k_is); (case c => k_is); (case k => k_is); (case b => exact fun _ _ _ _ _ _ us hl => match us, hl with | [_], _ => rfl)
    refine' HX.def_cut (x := "fastened") (st := Q38.s_fastened) (ps := ["stand", "waiting", "held"]) KX G ?a ?l ?c ?k ?b (fun d_fastened => ?z_fastened)
    (case a => k_is); (case l => k_is); (case c => k_is); (case k => k_is); (case b => exact fun _ _ _ _ _ _ us hl => match us, hl with | [_, _, _], _ => rfl)
    refine' HX.def_cut (x := "first_reached") (st := Q38.s_first_reached) (ps := ["counts", "nevers"]) KX G ?a ?l ?c ?k ?b (fun d_first_reached => ?z_first_reached)
    (case a => k_is); (case l => k_is); (case c => k_is); (case k => k_is); (case b => exact fun _ _ _ _ _ _ us hl => match us, hl with | [_, _], _ => rfl)
    refine' HX.def_cut (x := "handle_marble") (st := Q38.s_handle_marble) (ps := ["board", "parts", "wheel"]) KX G ?a ?l ?c ?k ?b (fun d_handle_marble => ?z_handle_marble)
    (case a => k_is); (case l => k_is); (case c => k_is); (case k => k_is); (case b => exact fun _ _ _ _ _ _ us hl => match us, hl with | [_, _, _], _ => rfl)
    refine' HX.def_cut (x := "turn_on") (st := Q38.s_turn_on) (ps := ["board", "ends", "parts", "wheel", "many"]) KX G ?a ?l ?c ?k ?b (fun d_turn_on => ?z_turn_on)
    (case a => k_is); (case l => k_is); (case c => k_is); (case k => k_is); (case b => exact fun _ _ _ _ _ _ us hl => match us, hl with | [_, _, _, _, _], _ => rfl)
    refine' HX.def_cut (x := "gone_down") (st := Q38.s_gone_down) (ps := ["board", "moment", "nevers"]) KX G ?a ?l ?c ?k ?b (fun d_gone_down => ?z_gone_down)
    (case a => k_is); (case l => k_is); (case c => k_is); (case k => k_is); (case b => exact fun _ _ _ _ _ _ us hl => match us, hl with | [_, _, _], _ => rfl)
    refine' HX.def_cut (x := "are_marbles") (st := Q38.s_are_marbles) (ps := ["thing", "places"]) KX G ?a ?l ?c ?k ?b (fun d_are_marbles => ?z_are_marbles)
    (case a => k_is); (case l => k_is); (case c => k_is); (case k => k_is); (case b => exact fun _ _ _ _ _ _ us hl => match us, hl with | [_, _], _ => rfl)
    refine' HX.def_cut (x := "are_drops") (st := Q38.s_are_drops) (ps := ["board", "thing", "most"]) KX G ?a ?l ?c ?k ?b (fun d_are_drops => ?z_are_drops)
    (case a => k_is); (case l => k_is); (case c => k_is); (case k => k_is); (case b => exact fun _ _ _ _ _ _ us hl => match us, hl with | [_, _, _], _ => rfl)
    refine' HX.def_cut (x := "dropped") (st := Q38.s_dropped) (ps := ["board", "stand", "drops"]) KX G ?a ?l ?c ?k ?b (fun d_dropped => ?z_dropped)
    (case a => k_is); (case l => k_is); (case c => k_is); (case k => k_is); (case b => exact fun _ _ _ _ _ _ us hl => match us, hl with | [_, _, _], _ => rfl)
    refine' HX.def_cut (x := "_law_by_turns_right") (st := Q38.s__law_by_turns_right) (ps := ["_law_pen_here"]) KX G ?a ?l ?c ?k ?b (fun d__law_by_turns_right => ?z__law_by_turns_right)
    (case a => k_is); (case l => k_is); (case c => k_is); (case k => k_is); (case b => exact fun _ _ _ _ _ _ us hl => match us, hl with | [_], _ => rfl)
    refine' HX.def_cut (x := "_law_double_right") (st := Q38.s__law_double_right) (ps := ["_law_pen_here"]) KX G ?a ?l ?c ?k ?b (fun d__law_double_right => ?z__law_double_right)
    (case a => k_is); (case l => k_is); (case c => k_is); (case k => k_is); (case b => exact fun _ _ _ _ _ _ us hl => match us, hl with | [_], _ => rfl)
    refine' HX.def_cut (x := "_law_itself_right") (st := Q38.s__law_itself_right) (ps := ["_law_pen_here"]) KX G ?a ?l ?c ?k ?b (fun d__law_itself_right => ?z__law_itself_right)
    (case a => k_is); (case l => k_is); (case c => k_is); (case k => k_is); (case b => exact fun _ _ _ _ _ _ us hl => match us, hl with | [_], _ => rfl)
    refine' HX.def_cut (x := "_law_two_right") (st := Q38.s__law_two_right) (ps := ["_law_pen_here"]) KX G ?a ?l ?c ?k ?b (fun d__law_two_right => ?z__law_two_right)
    (case a => k_is); (case l => k_is); (case c => k_is); (case k => k_is); (case b => exact fun _ _ _ _ _ _ us hl => match us, hl with | [_], _ => rfl)
    refine' HX.def_cut (x := "law") (st := Q38.s_law) (ps := ["_law_script"]) KX G ?a ?l ?c ?k ?b (fun d_law => ?z_law)
    (case a => k_is); (case l => k_is); (case c => k_is); (case k => k_is); (case b => exact fun _ _ _ _ _ _ us hl => match us, hl with | [_], _ => rfl)
    have z_len : mg "len" = none := by
      refine' PySem.W.mg_none_of KX G ?a
      (case a => k_is)
    have z_isinstance : mg "isinstance" = none := by
      refine' PySem.W.mg_none_of KX G ?a
      (case a => k_is)
    have z_int : mg "int" = none := by
      refine' PySem.W.mg_none_of KX G ?a
      (case a => k_is)
    have z_bool : mg "bool" = none := by
      refine' PySem.W.mg_none_of KX G ?a
      (case a => k_is)
    have z_tuple : mg "tuple" = none := by
      refine' PySem.W.mg_none_of KX G ?a
      (case a => k_is)
    have z_list : mg "list" = none := by
      refine' PySem.W.mg_none_of KX G ?a
      (case a => k_is)
    have z_all : mg "all" = none := by
      refine' PySem.W.mg_none_of KX G ?a
      (case a => k_is)
    have z_range : mg "range" = none := by
      refine' PySem.W.mg_none_of KX G ?a
      (case a => k_is)
    have z_max : mg "max" = none := by
      refine' PySem.W.mg_none_of KX G ?a
      (case a => k_is)
    have z_min : mg "min" = none := by
      refine' PySem.W.mg_none_of KX G ?a
      (case a => k_is)
    have z_repr : mg "repr" = none := by
      refine' PySem.W.mg_none_of KX G ?a
      (case a => k_is)
    have B : HX.Bi mg := ⟨z_len, z_isinstance, z_int, z_bool, z_tuple, z_list, z_all, z_range, z_max, z_min, z_repr⟩
    have z_zip : mg "zip" = none := by
      refine' PySem.W.mg_none_of KX G ?a
      (case a => k_is)
    have z_enumerate : mg "enumerate" = none := by
      refine' PySem.W.mg_none_of KX G ?a
      (case a => k_is)
    have z_sum : mg "sum" = none := by
      refine' PySem.W.mg_none_of KX G ?a
      (case a => k_is)
    have B2 : HX.Bi2 mg := ⟨z_zip, z_enumerate, z_sum⟩
    have z_sorted : mg "sorted" = none := by
      refine' PySem.W.mg_none_of KX G ?a
      (case a => k_is)
    have z_set : mg "set" = none := by
      refine' PySem.W.mg_none_of KX G ?a
      (case a => k_is)
    have B3 : HX.Bi3 mg := ⟨z_sorted, z_set⟩
    have z_abs : mg "abs" = none := by
      refine' PySem.W.mg_none_of KX G ?a
      (case a => k_is)
    have z_divmod : mg "divmod" = none := by
      refine' PySem.W.mg_none_of KX G ?a
      (case a => k_is)
    have z_any : mg "any" = none := by
      refine' PySem.W.mg_none_of KX G ?a
      (case a => k_is)
    have B5 : QX.Bi5 mg := ⟨z_abs, z_divmod, z_any⟩
    refine' QX.err_mk (x := "NoBoard") KX G ?a ?kC ?ex ?sb ?ty (fun C_NoBoard R_NoBoard => ?zE_NoBoard)
    (case a => k_is); (case kC => k_is); (case ex => k_exc); (case sb => k_is); (case ty => k_is)
    refine' QX.err_mk (x := "NoStand") KX G ?a ?kC ?ex ?sb ?ty (fun C_NoStand R_NoStand => ?zE_NoStand)
    (case a => k_is); (case kC => k_is); (case ex => k_exc); (case sb => k_is); (case ty => k_is)
    refine' QX.err_mk (x := "NoWheel") KX G ?a ?kC ?ex ?sb ?ty (fun C_NoWheel R_NoWheel => ?zE_NoWheel)
    (case a => k_is); (case kC => k_is); (case ex => k_exc); (case sb => k_is); (case ty => k_is)
    refine' QX.err_mk (x := "NoDrain") KX G ?a ?kC ?ex ?sb ?ty (fun C_NoDrain R_NoDrain => ?zE_NoDrain)
    (case a => k_is); (case kC => k_is); (case ex => k_exc); (case sb => k_is); (case ty => k_is)
    refine' QX.err_mk (x := "NoDrops") KX G ?a ?kC ?ex ?sb ?ty (fun C_NoDrops R_NoDrops => ?zE_NoDrops)
    (case a => k_is); (case kC => k_is); (case ex => k_exc); (case sb => k_is); (case ty => k_is)
    refine' QX.err_mk (x := "NoAgain") KX G ?a ?kC ?ex ?sb ?ty (fun C_NoAgain R_NoAgain => ?zE_NoAgain)
    (case a => k_is); (case kC => k_is); (case ex => k_exc); (case sb => k_is); (case ty => k_is)
    refine' QX.err_mk (x := "NoNumber") KX G ?a ?kC ?ex ?sb ?ty (fun C_NoNumber R_NoNumber => ?zE_NoNumber)
    (case a => k_is); (case kC => k_is); (case ex => k_exc); (case sb => k_is); (case ty => k_is)
    obtain ⟨f, fd, F, hm, hb⟩ := d_law
    have e := hmg.symm.trans hm
    cases e
    refine QX.law_tg (S := ⟨_, [], (fun j => if j = 0 then C_NoBoard else if j = 1 then C_NoStand else if j = 3 then C_NoWheel else if j = 6 then C_NoDrain else if j = 7 then C_NoDrops else if j = 8 then C_NoAgain else if j = 9 then C_NoNumber else 0)⟩) (fd := fd) (m := (QX.m_law_d1ab57 QX.bigFuel)) rfl (fun s u hK => hb s [u] hK rfl) (fun base => Q38.law_all (S := ⟨_, [], (fun j => if j = 0 then C_NoBoard else if j = 1 then C_NoStand else if j = 3 then C_NoWheel else if j = 6 then C_NoDrain else if j = 7 then C_NoDrops else if j = 8 then C_NoAgain else if j = 9 then C_NoNumber else 0)⟩) F B B2 B3 B5 g_MOST_WHEELS g_MOST_CUPS g_MOST_STEPS g_MOST_ENDS g_MOST_DROPPED g_MOST_FAR R_NoBoard R_NoStand R_NoWheel R_NoDrain R_NoDrops R_NoAgain R_NoNumber d__law_pen d__law_cell_at d__law_draw d_has_parts d_is_whole d_is_within d_is_step d_is_wheel d_is_board d_need_board d_with_nought d_solved d_turn_ends d_turn_table d_solved_board d_need_drain d_is_stand d_need_stand d_is_wheel_number d_need_wheel d_begun d_one_more d_together d_fall d_path_of d_cups_along d_far_fall d_led_far d_stands_in_all d_need_few_stands d_need_two_stands d_next_ways d_least_drops d_come_to d_again_stands d_all_again d_how_many d_round_of d_back d__law_heap_right d_loosened d_fastened d_first_reached d_handle_marble d_turn_on d_gone_down d_are_marbles d_are_drops d_dropped d__law_by_turns_right d__law_double_right d__law_itself_right d__law_two_right) Q38.law_true


