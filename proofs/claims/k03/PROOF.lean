import PyProof.Rows.All
import Wide.All
import OpenK.AllK
import Wide.FinOn
import HandS.ForMost
import HandS.Flow
import HandS.IsInst
import HandS.Zip
import HandS.SortInts
import HandS.Defaults
import HandS.Conv
import HandS.Strs
import HandS.MakeKwOnly
import PyProof.ReprRoads
import HandS.SetFor
import HandS.SortKw
import KE.DataMinMax
import KE.KDictPairs
import PyProof.ReprLen
import HandS.Exc
import HandS.WordsExc
import HandS.ExcOwn
import HandS.ExcInit
import KE.KExcIs
import HandS.ExcIs
import HandS.ExcField
import KE.KTryMore
import KE.KExcInit
import PyProof.ExcBaseAll.IndexError
import PyProof.ExcBaseAll.RuntimeError
import PyProof.ExcBaseAll.OverflowError
import HandS.ExcBuiltin
import HandS.Codes
import HandS.Walk
import HandS.TupAny
import HandS.More
import KE.GoesMore
import PyProof.ReprBulk
import HandS.MakeKw
import HandS.FStr
import PySem.Challenge.RW_lesserhall_k03_halls_as_handed_in
set_option Elab.async false
set_option linter.all false
set_option maxRecDepth 100000

namespace Lh
open PySem PySem.Spec PyProof.Rows L2

/-! ### heaps -/
/-- all that was tracked is as it was, but for the box -/
def Ext (bx : Addr) (H H' : Hp) : Prop := ∀ a o, a ≠ bx → H a = some o → H' a = some o
theorem Ext.refl {bx : Addr} (H : Hp) : Ext bx H H := fun _ _ _ h => h
theorem Ext.trans {bx : Addr} {H H1 H2 : Hp} (a : Ext bx H H1) (b : Ext bx H1 H2) : Ext bx H H2 := fun x o n h => b x o n (a x o n h)
theorem Ext.of {bx : Addr} {H H' : Hp} (a : Same H H') : Ext bx H H' := fun x o _ h => a x o h
theorem Ext.new {bx : Addr} {H H' : Hp} {p : Addr} {o : HO} (e : Ext bx H H') (h : H p = none) : Ext bx H (upd H' p o) := fun x u n hx => by
  rw [upd_ne (ne_of_none hx h)]
  exact e x u n hx
theorem Ext.box {bx : Addr} {H H' : Hp} {o : HO} (e : Ext bx H H') : Ext bx H (upd H' bx o) := fun x u n hx => by
  rw [upd_ne n]
  exact e x u n hx
theorem Ext.free {bx : Addr} {H H' : Hp} (e : Ext bx H H') {l : Addr} (n : l ≠ bx) (h : H' l = Option.none) : H l = Option.none := by
  cases q : H l with
  | none => rfl
  | some o =>
    rw [e l o n q] at h
    cases h
theorem same_upd {H : Hp} {p : Addr} {o : HO} (h : H p = none) : Same H (upd H p o) := fun b x e => by
  rw [upd_ne (ne_of_none e h)]
  exact e
theorem same_mut {H H' : Hp} {p : Addr} {o : HO} (e : Same H H') (h : H p = none) : Same H (upd H' p o) := fun a u ha => by
  rw [upd_ne (ne_of_none ha h)]
  exact e a u ha

/-- the box: three ints, the last a count -/
def Box (bx : Addr) (c : Int) (H : Hp) : Prop := ∃ a b n : Int, H bx = some (.lst [.int a, .int b, .int n]) ∧ 0 ≤ a ∧ 0 ≤ b ∧ b < 2 ^ 62 ∧ 0 ≤ n ∧ n ≤ c
theorem Box.has {bx : Addr} {c : Int} {H : Hp} (h : Box bx c H) : ∃ o, H bx = some o := by
  obtain ⟨a, b, n, h, _⟩ := h
  exact ⟨_, h⟩
theorem Box.ne {bx : Addr} {c : Int} {H : Hp} (h : Box bx c H) {p : Addr} (n : H p = none) : p ≠ bx := by
  obtain ⟨o, h⟩ := h.has
  exact (ne_of_none h n).symm
theorem Box.neT {bx : Addr} {c : Int} {H : Hp} (h : Box bx c H) {p : Addr} {xs : List V} (n : H p = some (.tup xs)) : p ≠ bx := by
  obtain ⟨a, b, n', h, _⟩ := h
  exact ne_of n h (by intro z; cases z)
theorem Box.mono {bx : Addr} {c d : Int} {H : Hp} (h : Box bx c H) (e : c ≤ d) : Box bx d H := by
  obtain ⟨a, b, n, h, h1, h2, h3, h4, h5⟩ := h
  exact ⟨a, b, n, h, h1, h2, h3, h4, by omega⟩
theorem Box.same {bx : Addr} {c : Int} {H H' : Hp} (h : Box bx c H) (e : Same H H') : Box bx c H' := by
  obtain ⟨a, b, n, h, r⟩ := h
  exact ⟨a, b, n, e _ _ h, r⟩
theorem Box.new {bx : Addr} {c : Int} {H : Hp} (h : Box bx c H) {p : Addr} {o : HO} (n : H p = none) : Box bx c (upd H p o) := h.same (same_upd n)
theorem Box.at {bx : Addr} {c : Int} {H : Hp} (h : Box bx c H) {p : Addr} {o : HO} (n : p ≠ bx) : Box bx c (upd H p o) := by
  obtain ⟨a, b, m, h, r⟩ := h
  exact ⟨a, b, m, by rw [upd_ne n.symm]; exact h, r⟩

/-- a tuple, one whose object is known to bear no names among them -/
def TupAt (H : Hp) (a : Addr) (xs : List V) : Prop := H a = some (.tup xs) ∨ ∃ o : Obj, o.dict = none ∧ H a = some (.frz o (.tup xs))
theorem TupAt.sq {K : PySem.W.Frag} {H : Hp} {a : Addr} {xs : List V} (h : TupAt H a xs) : SqT K H a xs := by
  rcases h with h | ⟨o, _, h⟩
  · exact .inl (.inl h)
  · exact .inl (.inr ⟨o, h⟩)
theorem TupAt.ext {bx : Addr} {H H' : Hp} {a : Addr} {xs : List V} (e : Ext bx H H') (n : a ≠ bx) (h : TupAt H a xs) : TupAt H' a xs := by
  rcases h with h | ⟨o, d, h⟩
  · exact .inl (e _ _ n h)
  · exact .inr ⟨o, d, e _ _ n h⟩
theorem TupAt.ty {K : PySem.W.Frag} {H : Hp} {a : Addr} {xs : List V} (h : TupAt H a xs) : TyX K H (.ref a) (.type "tuple") := by
  rcases h with h | ⟨o, d, h⟩
  · exact .base (.tup h)
  · exact .fTuple h
/-! data in the heap, the box not among it -/
mutual
inductive Rp (bx : Addr) (H : Hp) : V → PyData → Prop
  | non : Rp bx H .non .none
  | bl (b : Bool) : Rp bx H (.bl b) (.bool b)
  | int (i : Int) : Rp bx H (.int i) (.int i)
  | str (x : Str) : Rp bx H (.str x) (.str x)
  | lst {a : Addr} {xs : List V} {ds : List PyData} : H a = some (.lst xs) → a ≠ bx → RpAll bx H xs ds → Rp bx H (.ref a) (.list ds)
  | tup {a : Addr} {xs : List V} {ds : List PyData} : TupAt H a xs → a ≠ bx → RpAll bx H xs ds → Rp bx H (.ref a) (.tuple ds)
inductive RpAll (bx : Addr) (H : Hp) : List V → List PyData → Prop
  | nil : RpAll bx H [] []
  | cons {v : V} {vs : List V} {d : PyData} {ds : List PyData} : Rp bx H v d → RpAll bx H vs ds → RpAll bx H (v :: vs) (d :: ds)
end
mutual
theorem Rp.ext {bx : Addr} {H H' : Hp} (e : Ext bx H H') : ∀ {v : V} {d : PyData}, Rp bx H v d → Rp bx H' v d
  | _, _, .non => .non
  | _, _, .bl b => .bl b
  | _, _, .int i => .int i
  | _, _, .str x => .str x
  | _, _, .lst h n r => .lst (e _ _ n h) n (RpAll.ext e r)
  | _, _, .tup h n r => .tup (h.ext e n) n (RpAll.ext e r)
theorem RpAll.ext {bx : Addr} {H H' : Hp} (e : Ext bx H H') : ∀ {vs : List V} {ds : List PyData}, RpAll bx H vs ds → RpAll bx H' vs ds
  | _, _, .nil => .nil
  | _, _, .cons h r => .cons (Rp.ext e h) (RpAll.ext e r)
end
mutual
theorem Rp.dp {bx : Addr} {K : PySem.W.Frag} {H : Hp} : ∀ {v : V} {d : PyData}, Rp bx H v d → Dp K H v d
  | _, _, .non => .non
  | _, _, .bl b => .bl b
  | _, _, .int i => .int i
  | _, _, .str x => .str x
  | _, _, .lst h n r => .lst (.inl (.inl h)) (RpAll.dp r)
  | _, _, .tup h n r => .tup h.sq (RpAll.dp r)
theorem RpAll.dp {bx : Addr} {K : PySem.W.Frag} {H : Hp} : ∀ {vs : List V} {ds : List PyData}, RpAll bx H vs ds → DpAll K H vs ds
  | _, _, .nil => .nil
  | _, _, .cons h r => .cons (Rp.dp h) (RpAll.dp r)
end
theorem RpAll.length {bx : Addr} {H : Hp} : ∀ {vs : List V} {ds : List PyData}, RpAll bx H vs ds → vs.length = ds.length
  | _, _, .nil => rfl
  | _, _, .cons _ r => by rw [List.length_cons, List.length_cons, r.length]
theorem RpAll.get {bx : Addr} {H : Hp} : ∀ {vs : List V} {ds : List PyData} {i : Nat} {d : PyData}, RpAll bx H vs ds → ds[i]? = some d → ∃ v, vs[i]? = some v ∧ Rp bx H v d
  | _, _, _, _, .nil, e => by simp at e
  | _, _, 0, _, .cons r _, e => by simp at e; subst e; exact ⟨_, rfl, r⟩
  | _, _, i + 1, d, .cons _ t, e => by
    obtain ⟨u, h1, h2⟩ := RpAll.get (i := i) (d := d) t (by simpa using e)
    exact ⟨u, by simpa using h1, h2⟩
theorem RpAll.append {bx : Addr} {H : Hp} : ∀ {vs ws : List V} {ds es : List PyData}, RpAll bx H vs ds → RpAll bx H ws es → RpAll bx H (vs ++ ws) (ds ++ es)
  | _, _, _, _, .nil, s => s
  | _, _, _, _, .cons r t, s => .cons r (RpAll.append t s)
theorem RpAll.ints {bx : Addr} {H : Hp} : ∀ (ns : List Int), RpAll bx H (ns.map V.int) (ns.map PyData.int)
  | [] => .nil
  | n :: r => .cons (.int n) (RpAll.ints r)
theorem RpAll.ofInts {bx : Addr} {H : Hp} : ∀ {ns : List Int} {vs : List V}, RpAll bx H vs (ns.map PyData.int) → vs = ns.map V.int
  | [], _, .nil => rfl
  | n :: r, _, .cons (.int _) t => by rw [RpAll.ofInts t]; rfl
end Lh

namespace Lh
open PySem PySem.Spec PyProof.Rows L2

/-! ### defs that want to know that no repr is under way around them -/
structure FnG (P : Program) (w : World) (K : PySem.W.Frag) (mg : Str → Option Value) (base : Heap) (k : Nat) (f : Addr) (fd : FuncData) (ps : List Str) (sp : Sp) : Prop where
  len : ∀ vs H Q E, sp vs H Q E → vs.length = ps.length
  run : ∀ (B : Around) (out : List Env) (t : Shared) (H : Hp) (args : Args) (us : List Value) (vs : List V) (Q : VK) (E : XK), Room k B → B.guards = some [] →
    Env0 P w K mg base B out t H → BindsTo t fd args (ps.zip us) → Vals vs us → sp vs H Q E → codeAny (model P w) B (.call (.ref f) args) (CR CX0 out P w H t Q E) t
section
variable {P : Program} {w : World} {K : PySem.W.Frag} {mg : Str → Option Value} {base : Heap}
theorem okG {x qual : Str} {st : Stmt} {f : Addr} {fd : FuncData} {N ps : List Str} {k : Nat} {sp : Sp} (F : Fun K x qual st f fd) (S : FnScope N ps (defScope st)) (len : ∀ vs H Q E, sp vs H Q E → vs.length = ps.length)
    (body : ∀ (cd : Value) (B : Around) (out : List Env) (t : Shared) (H : Hp) (vs : List V) (Q : VK) (E : XK), Room k (B.deeper (envOfC qual (defScope st) t.heap.objs.size f cd)) →
      (B.deeper (envOfC qual (defScope st) t.heap.objs.size f cd)).guards = some [] → sp vs H Q E →
      ∃ r, PSs (cxOf CX0 P w K mg base N qual (defScope st) f cd B out t H E).nox (defBody st) r ∧ r { nx := fun _ H' => Q .non H', rt := Q } (start N vs) H) : FnG P w K mg base (k + 1) f fd ps sp := by
  obtain ⟨oc, od, kV, doc, pm, an, cd, ct, osl, rfl, lk, hcd⟩ := F.ex
  refine ⟨len, fun B out t H args us vs Q E hr hG e0 hb r hsp => ?_⟩
  have hl := len _ _ _ _ hsp
  have kx : K.In t.heap := e0.mod.kin.keeps fun b o e => (e0.bs b o e).1
  have li : t.heap.NoLimit := e0.mod.nolimit.keeps fun b o e => (e0.bs b o e).1
  have kind : ∀ y ∈ ps.zip us, (defScope st).names.lookup y.1 = some .local ∨ ((defScope st).names.lookup y.1 = some .cell ∧ ((cellsFrom (t.heap.objs.size + 1) (defScope st).names []).lookup y.1).isSome = true) := by
    rintro ⟨n, v⟩ hy
    rcases S.par n (List.of_mem_zip hy).1 with q | q
    · exact .inl q
    · exact .inr ⟨q, PySem.W.cellsFrom_some _ _ _ (.inl q)⟩
  refine codeAny_call_function hr.depth (kx _ _ lk) rfl S.co S.gen rfl (PySem.W.codeRec_of kx hcd) (hb _ _ _ _ ?_)
  refine wpAny_newFunctionEnv_cells S.kind kind fun env he t1 x => ?_
  subst he
  refine ⟨li.keeps x.toInCall.keep, codeAny_func ?_⟩
  obtain ⟨rd, h0, hq⟩ := body cd B out t H vs Q E (hr.deeper _) hG hsp
  have hrd := h0.nox
  have I : Inv (cxOf CX0 P w K mg base N qual (defScope st) f cd B out t H E) [] (start N vs) H t1 := inv_start S hr.hd e0 hl r x
  refine wpAny_mono (hrd.run [] t1 (start N vs) H _ I hq) (fun fl t' hs => ?_) fun e t' hs => hs
  have fin : ∀ {σ' : L2.St} {H' : Hp} {v : V} {u : Value}, Inv (cxOf CX0 P w K mg base N qual (defScope st) f cd B out t H E) [] σ' H' t' → RelV v u → Q v H' → CE out P w H t Q u t' := by
    intro σ' H' v u J rv q
    exact ⟨v, H', J.os, J.bare, J.base, J.hok, rv, q⟩
  cases fl with
  | ret u =>
    obtain ⟨v, σ', H', J, rv, q⟩ := hs
    exact fin J rv q
  | next =>
    obtain ⟨σ', H', J, q⟩ := hs
    exact fin (v := V.non) (u := Value.none) J rfl q
  | brk => obtain ⟨_, _, _, q⟩ := hs; exact False.elim q
  | cont => obtain ⟨_, _, _, q⟩ := hs; exact False.elim q
end
section
variable {X : Cx} {k n : Nat} {f : Addr} {fd : FuncData} {ps ks : List Str} {sp : Sp} {x : Str} {p pos : Pos} {e : Expr} {es : List Expr} {kws : List Keyword} {t tk : TA} {g : List Value → List Value → List Value} {gV : List V → List V → List V}
theorem pe_callG (F : FnG X.prog X.w X.K X.mg X.base k f fd ps sp) (hr : Room k X.A) (hG : X.A.guards = some []) (hg : Gl X x) (hm : X.mg x = some (.ref f)) (hk : PySem.W.keepIn X.K (.ref f) = true) (hb : Binds X.K fd ps [])
    (ha : PA X (e :: es) t) (hdb : (x == ("__debug__" : Str)) = false := by decide) (he : starEach (e :: es) X.env = (false, eval e X.env) :: starEach es X.env := by rfl) (hpl : (backTo pos (starEach es X.env)).any (·.1) = false := by rfl) :
    PE X (.Call (.Name x p) (e :: es) [] pos) (tCall sp [] E0 t) := by
  refine ⟨fun pins s σ H Q I h => ?_⟩
  refine wpAny_Call_Name_kw (ld_glob I hg hm ?_ hdb)
  refine PySem.W.callWith_K (h₀ := X.base) I.ok.mod.kin hk (thn (ha.run pos pins s σ H _ I h) fun us s1 ⟨vs, H1, I1, r, q⟩ => ⟨I1.kIn, ?_⟩) he hpl
  have r2 : Vals (vs ++ []) (us ++ []) := r.append .nil
  have hl : (us ++ []).length = ps.length := by rw [← r2.length]; exact F.len _ _ _ _ q
  refine wpAny_call (codeAny_mono (F.run X.A X.stack s1 H1 ⟨us, []⟩ (us ++ []) (vs ++ []) Q E0 hr hG I1.env0 (hb s1 us I1.kIn hl) r2 q) fun r s' hq => ?_)
  cases r with
  | error e => exact False.elim hq
  | ok fl =>
    cases fl with
    | ret u => exact I1.after hq
    | next => exact False.elim hq
    | brk => exact False.elim hq
    | cont => exact False.elim hq
/-- f(k = v, ..): keywords alone -/
theorem pe_callN0 (F : FnOk X.prog X.w X.K X.mg X.base CX0 k f fd ps sp) (hr : Room k X.A) (hg : Gl X x) (hm : X.mg x = some (.ref f)) (hk : PySem.W.keepIn X.K (.ref f) = true) (hb : KBn X.K fd ps 0 ks g gV)
    (hkw : PK X kws tk) (hall : (backToKw pos (keywordEach kws X.env)).all (·.1.isSome) = true := by rfl) (hks : (backToKw pos (keywordEach kws X.env)).filterMap (·.1) = ks := by rfl)
    (hdb : (x == ("__debug__" : Str)) = false := by decide)
    (hpl : ((backTo pos (starEach [] X.env)).any (·.1) || (backToKw pos (keywordEach kws X.env)).any (·.1.isNone)) = false := by rfl) :
    PE X (.Call (.Name x p) [] kws pos) (tCallN 0 ks.length sp gV E0 tNil tk) := by
  refine ⟨fun pins s σ H Q I h => ?_⟩
  refine wpAny_Call_Name_kw (ld_glob I hg hm ?_ hdb)
  refine PySem.W.callWith_KW0 (h₀ := X.base) I.ok.mod.kin hk hall ?_ hpl
  refine thn (hkw.run pos pins s σ H _ I h) fun ws s2 ⟨zs, H2, I2, rz, l1, l2, q2⟩ => ⟨I2.kIn, ?_⟩
  rw [hks]
  exact run_fnN (us := []) (vs := []) F hr hb pass0 I2 .nil rz rfl l2 q2
end
/-- values put in another order -/
def permV {α : Type} (js : List Nat) (xs : List α) : List α := js.filterMap fun j => xs[j]?
theorem permV_rel (js : List Nat) : ∀ {vs : List V} {us : List Value}, Vals vs us → Vals (permV js vs) (permV js us) := by
  intro vs us r
  induction js with
  | nil => exact .nil
  | cons j js ih =>
    unfold permV
    rw [List.filterMap_cons, List.filterMap_cons]
    cases e : vs[j]? with
    | none =>
      rw [r.none_of e]
      exact ih
    | some v =>
      obtain ⟨u, e1, e2⟩ := r.get e
      rw [e1]
      exact .cons e2 ih

/-! ### the law's call -/
theorem law_callG {P : Program} {w : World} {K : PySem.W.Frag} {mg mb : Str → Option Value} {k : Nat} {fa a : Addr} {fd : FuncData} {x : Str} {sp : Sp} {t : Shared} {vs : List Value} {ns : List Int}
    (kx : K.In t.heap) (hns : t.heap.Ns mainGlobals mg) (hb : t.heap.Ns builtinsNs mb) (hbb : ∀ x : Str, x ≠ "__name__" → mb x = bootBuiltins x) (li : t.heap.NoLimit) (hg : t.gens = #[])
    (ha : t.heap.get? a = some { cls := .type "list", data := .seq vs.toArray }) (hi : IntsAre vs ns) (hl : ns.length ≤ sizeLine) (hr : Room k callerA)
    (F : ∀ base : Heap, K.In base → base.Ns mainGlobals mg → FnG P w K mg base k fa fd [x] sp) (bd : ∀ (s : Shared) (u : Value), BindsTo s fd ⟨[u], []⟩ [(x, u)])
    (hsp : ∀ H : Hp, Only H → SqL K H a (ns.map V.int) → sp [.ref a] H (fun v _ => v = .bl true) fun _ _ _ => False) :
    codeAny (model P w) callerA (.call (.ref fa) ⟨[.ref a], []⟩) (fun r t' => r = .ok (.ret (.bool true)) ∧ OldK t.heap t'.heap ∧ t'.os = t.os ∧ AllBare t'.gens) t := by
  have rv := vals_ints hi
  have lenV := hi.length
  have core : ∀ H : Hp, Only H → SqL K H a (ns.map V.int) → HOk P w H t.heap → (∀ b, H b ≠ none → b = a) → (H a ≠ none → K.lookup a = none) →
      codeAny (model P w) callerA (.call (.ref fa) ⟨[.ref a], []⟩) (fun r t' => r = .ok (.ret (.bool true)) ∧ OldK t.heap t'.heap ∧ t'.os = t.os ∧ AllBare t'.gens) t := by
    intro H hO hS ok hA hK
    have bo : ∀ {b : Addr} {o : Obj}, t.heap.get? b = some o → H b = none → (hidT t.heap H).get? b = some o := fun e n => hidT_get e n
    have nd : ∀ {b : Addr} {o : Obj} {es : Array DictEntry} {ep : Nat}, t.heap.get? b = some o → o.data = .dict es ep → H b = none := by
      intro b o es ep e d
      cases q : H b with
      | none => rfl
      | some u =>
        have e' : b = a := hA b (by rw [q]; simp)
        subst e'
        rw [ha] at e; cases e
        have d2 : Data.seq vs.toArray _ = Data.dict es ep := d
        cases d2
    have nk : ∀ {b : Addr} {m : Str → Option Value}, t.heap.Ns b m → (hidT t.heap H).Ns b m := by
      rintro b m ⟨o, es, ep, e, d, r⟩
      exact ⟨o, es, ep, bo e (nd e d), d, r⟩
    have kb : K.In (hidT t.heap H) := by
      intro b o e
      refine bo (kx b o e) ?_
      cases q : H b with
      | none => rfl
      | some u =>
        have e' : b = a := hA b (by rw [q]; simp)
        subst e'
        rw [hK (by rw [q]; simp)] at e; cases e
    have hM : Mod K mg (hidT t.heap H) := by
      obtain ⟨mc, h1, h2⟩ := li
      exact ⟨kb, nk hns, ⟨mb, nk hb, hbb⟩, ⟨mc, nk h1, h2⟩⟩
    have e0 : Env0 P w K mg (hidT t.heap H) callerA [] t H := by
      refine ⟨rfl, hM, fun b o e => of_hidT e, Nat.le_of_eq (hidT_size _ _), trivial, ?_, ok, .of_eq hg⟩
      intro b hb
      exact absurd (show b ∈ ([] : List Addr) from hb) (by simp)
    refine codeAny_mono ((F _ kb (nk hns)).run callerA [] t H ⟨[.ref a], []⟩ [.ref a] [.ref a] _ _ hr rfl e0 (bd t (.ref a)) (.cons rfl .nil) (hsp H hO hS)) ?_
    intro r t' h
    cases r with
    | error e => exact False.elim h
    | ok fl =>
      cases fl with
      | next => exact False.elim h
      | brk => exact False.elim h
      | cont => exact False.elim h
      | ret u =>
        obtain ⟨v, H', os, bare, un, ok', r', q⟩ := h
        have q2 : v = .bl true := q
        subst q2
        obtain rfl : u = Value.bool true := r'
        refine ⟨rfl, OldK.of_keep fun b o e => ?_, os, bare⟩
        cases q : H b with
        | none =>
          refine un.keep b o e q ?_ (by simp)
          intro z
          exact absurd (show b ∈ ([] : List Addr) from z) (by simp)
        | some u =>
          rcases hO b with z | ⟨ob, xs, z⟩
          · rw [q] at z; cases z
          · have z2 := un.frzs b ob _ z
            obtain ⟨e1, _⟩ := ok b _ z
            obtain ⟨e2, _⟩ := ok' b _ z2
            rw [e] at e1; cases e1
            exact e2
  cases hk : K.lookup a with
  | some o =>
    have e := kx a o hk
    rw [ha] at e
    cases e
    refine core (fun _ => none) (fun _ => .inl rfl) (.inr ⟨_, vs.toArray, _, hk, rfl, rfl, rfl, by rw [List.size_toArray, lenV]; exact hl, by simpa using rv⟩) ?_ (fun b z => absurd rfl z) fun z => absurd rfl z
    intro b u z
    have z2 : (none : Option HO) = some u := z
    cases z2
  | none =>
    refine core (fun b => if b = a then some (.frz { cls := .type "list", data := .seq vs.toArray } (.lst (ns.map V.int))) else none) (fun b => ?_) (.inl (.inr ⟨_, if_pos rfl⟩)) (fun b u z => ?_) (fun b z => ?_) fun _ => hk
    · by_cases hb : b = a
      · exact .inr ⟨_, _, if_pos hb⟩
      · exact .inl (if_neg hb)
    · by_cases hb : b = a
      · have z2 := (if_pos hb).symm.trans z
        cases z2
        subst hb
        exact ⟨ha, by rw [List.length_map]; exact hl, vs, _, rv, ha⟩
      · have z2 := (if_neg hb).symm.trans z
        cases z2
    · by_cases hb : b = a
      · exact hb
      · exact absurd (if_neg hb) z
theorem walk_G {l : PySem.W.OpenLaw} {n k : Nat} {q : Program} {loose : List Str} {XP : (Str → Option Value) → Heap → Prop} {YP : World → Heap → Prop} {d : DefRec} {K : Params → PySem.W.Frag} {sp : World → Sp} {x : Str}
    (hn : l.most = some n) (hn2 : n ≤ sizeLine) (hdf : d.params.defaults = []) (hr : Room k callerA)
    (hY : ∀ (w : World) (h : Heap), YP w h → (K w.params).In h)
    (F : ∀ (w : World) (mg : Str → Option Value) (fa : Addr) (h : Heap), (K w.params).In h → h.Ns mainGlobals mg → mg d.name = some (.ref fa) →
      ∃ fd : FuncData, (∀ (s : Shared) (u : Value), BindsTo s fd ⟨[u], []⟩ [(x, u)]) ∧
        ∀ base : Heap, (K w.params).In base → base.Ns mainGlobals mg → FnG l.prog w (K w.params) mg base k fa fd [x] (sp w))
    (hsp : ∀ (w : World) (H : Hp) (a : Addr) (ns : List Int), ns.length ≤ n → Only H → SqL (K w.params) H a (ns.map V.int) → sp w [.ref a] H (fun v _ => v = .bl true) fun _ _ _ => False) :
    PySem.W.WalkO q loose XP YP l.row.toRowW d [] (fun f vs => PySem.call f vs) := by
  refine Att.attach_call hn hdf ?_
  intro w s₀ t mg mb fa o pm cd doc a vs ns G Y ho hd hcd hmg hobj hints hlen hg
  obtain ⟨fd, hb, hF⟩ := F w mg fa _ (hY w _ Y) G.T.g hmg
  exact law_callG (hY w _ Y) G.T.g G.T.b G.T.builtins G.T.nolimit hg hobj hints (Nat.le_trans hlen hn2) hr hF hb (fun H hO hS => hsp w H a ns hlen hO hS)
end Lh

namespace Lh
open PySem PySem.Spec PyProof.Rows L2
/-! ### set(numbers), numbers a list -/
/-- a set as it is first laid -/
abbrev bareSet (w : World) : Obj := { cls := .type "set", dict := none, data := .set #[] 0 (.fresh 0 0 (!w.params.followText "set-order")) }
/-- the set at the heap's end holds just ns, all else is kept -/
def Filled (w : World) (s t : Shared) (ns : List Int) : Prop := ∃ (g : Heap) (tk c : Nat), t = { s with heap := g, toks := tk } ∧ SetR w g s.heap.objs.size (fun j => decide (j ∈ ns)) c ∧ c ≤ ns.length ∧ ∀ b o, s.heap.get? b = some o → g.get? b = some o
theorem ints_at : ∀ {us : List Value} {ns : List Int}, IntsAre us ns → us.length = ns.length ∧ ∀ (i : Nat) (v : Value), us[i]? = some v → ∃ k t, ns[i]? = some k ∧ v = .int k t
  | _, _, .nil => ⟨rfl, fun i v e => absurd e (by simp)⟩
  | _, _, .cons n t r => by
    obtain ⟨h1, h2⟩ := ints_at r
    refine ⟨congrArg (· + 1) h1, fun i v e => ?_⟩
    cases i with
    | zero => exact ⟨n, t, rfl, (Option.some.inj e).symm⟩
    | succ i => exact h2 i v e
section
variable {P : Program} {w : World} {A : Around} {E : Value → Shared → Prop} {s : Shared} {l : Addr} {items : Array Value} {ns : List Int}
set_option maxHeartbeats 3200000 in
theorem set_init (hh : A.handled = none) (hl : s.heap.IsList l items) (hi : IntsAre items.toList ns) (hb : ns.length + 1 < scanBound) :
    codeAny (model P w) A (.call (.builtin "set.__init__") ⟨[.ref s.heap.objs.size, .ref l], []⟩) (wants (fun r t => r = .none ∧ Filled w s t ns) E) { s with heap := s.heap.push (bareSet w) } := by
  obtain ⟨hsz, hat⟩ := ints_at hi
  rw [Array.length_toList] at hsz
  have top : (s.heap.push (bareSet w)).get? s.heap.objs.size = some (bareSet w) := Heap.get?_push_size _ rfl
  refine codeAny_call_builtin F.called_set.init.plain F.entry_set_init (check_set_init_1 ⟨_, top, rfl⟩ ?_)
  have hl0 := hl
  obtain ⟨⟨k, dc, da, sl⟩, ho, ek, n, ed⟩ := hl
  dsimp only at ek ed
  subst ek ed
  have lt := Heap.lt_size ho
  have ho2 : (s.heap.push (bareSet w)).get? l = _ := Heap.get?_push_of_some _ ho
  have f1 := F.sub_list_set
  have f2 := F.sub_list_frozenset
  have f3 : (Value.type "list" == Value.type "dict") = false := by decide
  unfold Builtin.«set.__init__»
  unfold noKeywords
  unfold Builtin.Frozenset.updateFrom
  generalize ei : pyIter = it
  wp_walk
  subst ei
  have sz : (s.heap.push (bareSet w)).objs.size = s.heap.objs.size + 1 := Heap.size_push ..
  refine wpAny_pyIter_list (hl0.push _) (wpAny_bind (wpAny_runValue ?_))
  have wk := fun (B : Around) (hB : B.handled = none) => (Walks.list (prog := P) (w := w) (A := B) hB (s.heap.push (bareSet w)).objs.size l (by rw [sz]; exact Nat.ne_of_lt (Nat.lt_succ_of_lt lt)) items).toS
  refine set_update_ints (wk _ (by simp [hh])) s.heap.objs.size (by rw [sz]; exact fun z => (List.mem_cons.mp z).elim (Nat.ne_of_lt (Nat.lt_succ_self _)) fun z => Nat.ne_of_gt lt (List.mem_singleton.mp z)) ns hsz hb (fun i v e => hat i v (by rw [Array.getElem?_toList]; exact e)) items.size 0 _ (by omega) (Nat.zero_le _) ⟨⟨_, Heap.get?_push_size _ rfl, rfl, rfl⟩, (hl0.push _).push _⟩ ⟨0, Nat.le_refl 0, setR_new_at (Heap.get?_push_of_some _ top)⟩ ?_
  rintro ⟨g, g2, d2, tk, o2⟩ c mv hc R
  cases (show g2 = s.gens from mv.gens)
  cases (show d2 = s.drawn from mv.drawn)
  cases (show o2 = s.os from mv.os)
  refine wpAny_pure (show wpAny _ _ (ret Value.none) _ _ _ from wpAny_pure ⟨rfl, g, tk, c, rfl, R, by omega, fun b o e => ?_⟩)
  have lb := Heap.lt_size e
  exact mv.heap b o (by rw [sz]; exact fun z => (List.mem_cons.mp z).elim (Nat.ne_of_lt lb) fun z => Nat.ne_of_lt (Nat.lt_succ_of_lt lb) (List.mem_singleton.mp z)) (Heap.get?_push_of_some _ (Heap.get?_push_of_some _ e))
set_option maxHeartbeats 3200000 in
theorem set_of_list (ns : List Int) {Q : Value → Shared → Prop} (hh : A.handled = none) (hl : s.heap.IsList l items) (hi : IntsAre items.toList ns) (hb : ns.length + 1 < scanBound) (q : ∀ t, Filled w s t ns → Q (.ref s.heap.objs.size) t) :
    wpAny (model P w) A (call (.type "set") [.ref l]) Q E s := by
  have c1 := F.called_set.made
  have c2 := F.called_set.sub
  have c3 := F.called_set.notType
  have c4 := F.called_set.canCreate
  have c5 := F.typeCall_set_1 (.ref l)
  have c6 := F.called_set.init.lookup
  have c7 := F.called_set.init.bind (.ref s.heap.objs.size)
  obtain ⟨m1, m2, c8⟩ := F.called_set.mro
  refine wpAny_call (codeAny_of_tree (show wpAny _ _ (callAny (.type "set") _) _ _ _ from wpAny_pure ⟨Code.quiet_builtin _ (by decide +kernel), codeAny_builtin F.entry_type_call ?_⟩))
  rw [Around.under_plain (weight_type_call_type "set" [.ref l] []) rfl]
  repeat any_goals first | assumption | wp_step
  refine codeAny_mono (code_set_led1 (.ref l) (E := E) (Q₁ := fun x t => x = .ref s.heap.objs.size ∧ t = { s with heap := s.heap.push (bareSet w) }) ⟨rfl, rfl⟩) ?_
  rintro (e | fl) t ht
  · exact ht
  cases fl with
  | next => exact ht.elim
  | brk => exact ht.elim
  | cont => exact ht.elim
  | ret x =>
    obtain ⟨rfl, rfl⟩ := ht
    have ty : Shared.TypeIs { s with heap := s.heap.push (bareSet w) } (.ref s.heap.objs.size) "set" := ⟨_, Heap.get?_push_size _ rfl, rfl⟩
    repeat any_goals first | assumption | wp_step
    refine codeAny_mono (set_init (E := E) (by simp [hh]) hl hi hb) ?_
    rintro (e | fl) t2 ht2
    · exact ht2
    cases fl with
    | next => exact ht2.elim
    | brk => exact ht2.elim
    | cont => exact ht2.elim
    | ret y =>
      obtain ⟨rfl, f⟩ := ht2
      repeat any_goals first | assumption | wp_step
      exact q _ f
end
end Lh

namespace Lh
open PySem PySem.Spec PyProof.Rows L2
section
variable {X : Cx}
/-- repr of data -/
def rRepr (K : PySem.W.Frag) : List V → Hp → VK → Prop := fun xs H Q => ∃ (a : Addr) (d : PyData), xs = [.ref a] ∧ Dp K H (.ref a) d ∧ d.showable = true ∧ d.hasDict = false ∧ d.depth ≤ 60 ∧ d.shown.length ≤ sizeLine ∧ Q (.str d.shown) H
theorem call_reprD (hG : X.A.guards = some []) (hu : X.A.units + 64 < cLine) : CallR X (.builtin "repr") (rRepr X.K) := by
  intro pins s σ H xs us Q I r h
  obtain ⟨a, d, rfl, hd, h1, h2, h3, h4, q⟩ := h
  have e := Vals.ref1 r
  subst e
  obtain ⟨as, rd⟩ := Dp.reads I d (.ref a) (.ref a) hd rfl
  exact repr_of_reads' rd h1 (fun z => by rw [h2] at z; cases z) hG (by omega) (fun b o e => e) (fun h' u tk hk => ⟨.str d.shown, H, I.kept hk, ⟨u, rfl⟩, q⟩) h4
/-- max(numbers, default=d) of a list of ints -/
def rMaxD (K : PySem.W.Frag) : List V → List V → Hp → VK → Prop := fun xs zs H Q => ∃ (a : Addr) (ns : List Int) (d : Int), xs = [.ref a] ∧ zs = [.int d] ∧ SqL K H a (ns.map V.int) ∧
  ∀ m, (ns = [] → m = d) → (ns ≠ [] → m ∈ ns ∧ ∀ y ∈ ns, y ≤ m) → Q (.int m) H
theorem foldl_max (ns : List Int) : ∀ n : Int, (ns.foldl max n = n ∨ ns.foldl max n ∈ ns) ∧ n ≤ ns.foldl max n ∧ ∀ y ∈ ns, y ≤ ns.foldl max n := by
  induction ns with
  | nil => intro n; exact ⟨.inl rfl, Int.le_refl _, fun y h => absurd h (by simp)⟩
  | cons m r ih =>
    intro n
    obtain ⟨h1, h2, h3⟩ := ih (max n m)
    rw [List.foldl_cons]
    refine ⟨?_, by omega, fun y hy => ?_⟩
    · rcases h1 with h1 | h1
      · by_cases c : n ≤ m
        · right; rw [h1]; rw [Int.max_eq_right c]; exact List.mem_cons_self
        · left; rw [h1]; omega
      · right; exact List.mem_cons_of_mem _ h1
    · rcases List.mem_cons.mp hy with rfl | hy
      · omega
      · exact h3 y hy
theorem cr_maxD (hc : X.calm = true) (hu : X.A.units + 64 < cLine) : CallRK X (.builtin "max") [Str.ofString "default"] (rMaxD X.K) := by
  intro pins s σ H xs zs us ws Q I r rz h
  obtain ⟨a, ns, d, rfl, rfl, hs, q⟩ := h
  obtain ⟨its, rv, hl, _⟩ := I.list hs
  rw [Vals.ref1 r]
  cases rz with
  | cons rd rt =>
    cases rt
    obtain ⟨td, rfl⟩ := rd
    obtain ⟨as, ra⟩ := Dp.readsAll I (ns.map PyData.int) _ its (RpAll.dp (bx := 0) (RpAll.ints ns)) rv
    have dpt : ∀ l : List Int, PyData.depthAll (l.map PyData.int) = 0 := fun l => by
      induction l with
      | nil => rfl
      | cons x r ih => rw [List.map_cons]; show max 0 (PyData.depthAll (r.map PyData.int)) = 0; rw [ih]; rfl
    refine PySem.W.max_list_default (I.ok.hd hc) hl.isList (vs := its.toArray) (xs := ns.map PyData.int) (by simpa using ra) ⟨fun x hx y hy => ?_, fun x hx => ?_⟩ (by rw [dpt]; omega) (fun e h' tk hk => ?_) (fun y ys i v h' tk bs e hv rd hk => ?_)
    · obtain ⟨i, _, rfl⟩ := List.mem_map.mp hx
      obtain ⟨j, _, rfl⟩ := List.mem_map.mp hy
      rfl
    · obtain ⟨i, _, rfl⟩ := List.mem_map.mp hx
      intro z; cases z
    · have e0 : ns = [] := List.map_eq_nil_iff.mp e
      exact ⟨.int d, H, I.kept hk, ⟨_, rfl⟩, q d (fun _ => rfl) (fun z => absurd e0 z)⟩
    · cases ns with
      | nil => cases e
      | cons n r =>
        rw [List.map_cons] at e
        cases e
        rw [PySem.W.maxD_ints] at rd
        cases rd
        obtain ⟨h1, h2, h3⟩ := foldl_max r n
        refine ⟨.int (r.foldl max n), H, I.kept hk, ⟨_, rfl⟩, q _ (fun z => by cases z) (fun _ => ⟨?_, fun y hy => ?_⟩)⟩
        · rcases h1 with h1 | h1
          · rw [h1]; exact List.mem_cons_self
          · exact List.mem_cons_of_mem _ h1
        · rcases List.mem_cons.mp hy with rfl | hy
          · exact h2
          · exact h3 y hy
/-- set(numbers) of a list of ints -/
def rSetL (K : PySem.W.Frag) (w : World) : List V → Hp → VK → Prop := fun xs H Q => ∃ (a : Addr) (ns : List Int), xs = [.ref a] ∧ SqL K H a (ns.map V.int) ∧ ns.length ≤ 1000 ∧
  ∀ (p : Addr) (c : Nat) (ks : List Int), H p = none → ks.Nodup → ks.length = c → c ≤ ns.length → (∀ k, k ∈ ks ↔ k ∈ ns) → Q (.ref p) (upd H p (SetO w p (fun j => decide (j ∈ ns)) c))
theorem cr_setL (hc : X.calm = true) : CallR X (.type "set") (rSetL X.K X.w) := by
  intro pins s σ H xs us Q I r h
  obtain ⟨a, ns, rfl, hs, hl, q⟩ := h
  obtain ⟨its, rv, pl, _⟩ := I.list hs
  rw [Vals.ref1 r]
  refine set_of_list ns (I.ok.hd hc) pl.isList (by simpa using RZ.intsAre_vals rv) (by unfold scanBound; omega) ?_
  rintro t ⟨h', tk, c, rfl, R, hle, hk⟩
  have R' := R
  obtain ⟨o, es, ep, t, ho, _, _, _, nd, hm, _, _, hn, _⟩ := R'
  refine ⟨.ref s.heap.objs.size, upd H s.heap.objs.size (SetO X.w s.heap.objs.size (fun j => decide (j ∈ ns)) c), I.laid (t' := tk) hk (Nat.le_refl _) (setO_new R), rfl, ?_⟩
  refine q _ c (es.toList.map keyOf) (I.hok.fresh (Nat.le_refl _)) nd (by rw [List.length_map, Array.length_toList]; exact hn) hle fun k => ?_
  rw [← hm k]
  exact decide_eq_true_iff
/-- len of such a set -/
def rLenSet (w : World) : List V → Hp → VK → Prop := fun xs H Q => ∃ (a : Addr) (S : Int → Bool) (c : Nat), xs = [.ref a] ∧ H a = some (SetO w a S c) ∧ c ≤ 1000 ∧ Q (.int (c : Int)) H
theorem cr_lenSet : CallR X (.builtin "len") (rLenSet X.w) := by
  intro pins s σ H xs us Q I r h
  obtain ⟨a, S, c, rfl, ha, hl, q⟩ := h
  rw [Vals.ref1 r]
  obtain ⟨o, es, ep, t, ho, hx, hd, _, _, _, _, hf, hn, _⟩ := setO_get I ha
  refine call_len_set ho hx hd hf (by rw [hn]; omega) ⟨.int (c : Int), H, I.tok _, ⟨_, by rw [hn]⟩, q⟩
/-- tuple(numbers) of a list: a new tuple, whose object bears no names -/
theorem call_tupleF : CallR X (.type "tuple") (fun xs H Q => ∃ p ys, xs = [.ref p] ∧ SqL X.K H p ys ∧ ∀ l (o : Obj), H l = none → o.dict = none → Q (.ref l) (upd H l (.frz o (.tup ys)))) := by
  intro pins s σ H xs us Q I r h
  obtain ⟨p, ys, rfl, hq, q⟩ := h
  rw [Vals.ref1 r]
  obtain ⟨its, rv, pl, hz⟩ := I.list hq
  have hlen := rv.length
  refine call_tuple_list pl.isList (fun h' kp => ?_) (by simp only [List.size_toArray]; omega)
  have J : Inv X pins σ H { s with heap := h' } := I.kept (t' := s.toks) kp
  have J2 := J.laid (t' := s.toks) (o := .frz { cls := .type "tuple", data := .seq its.toArray } (.tup ys)) (h' := h'.push { cls := .type "tuple", data := .seq its.toArray })
    (fun b o e => Heap.get?_push_of_some _ e) (Nat.le_refl _) ⟨Heap.get?_push_size _ rfl, hz, its, rv, IsTup.new _ _⟩
  exact ⟨.ref h'.objs.size, _, J2, rfl, q _ _ (J.hok.fresh (Nat.le_refl _)) rfl⟩
/-- dict(pairs) of such a tuple of pairs -/
theorem call_dictT (hc : X.calm = true) : CallR X (.type "dict") (fun xs H Q => ∃ (a : Addr) (o : Obj) (ps : List Addr) (kvs : List (Key × V)), xs = [.ref a] ∧ o.dict = none ∧ H a = some (.frz o (.tup (ps.map V.ref))) ∧ Paired (fun p kv => SqT X.K H p [kV kv.1, kv.2]) ps kvs ∧
    ∀ p, H p = none → Q (.ref p) (upd H p (.dK (mergeK [] kvs)))) := by
  intro pins s σ H xs us Q I r h
  obtain ⟨a, o, ps, kvs, rfl, hod, ha, hp, q⟩ := h
  rw [Vals.ref1 r]
  obtain ⟨hget, hz, its, rv, o', ho', hcls, n, hdat⟩ := I.hok a _ ha
  rw [hget] at ho'
  cases ho'
  have ei := refs_at rv
  subst ei
  rw [List.length_map] at hz
  obtain ⟨prs, rel, hl, hpr⟩ := pairs_of I hp
  have ch : ∀ j : Fin prs.length, ∃ u b, ps[j.val]? = some b ∧ IsTup s.heap b #[u, prs[j].2] ∧ keyIs prs[j].1 u = true := fun j => by
    obtain ⟨b, u, e1, e2, e3⟩ := hpr j.val prs[j] (List.getElem?_eq_getElem j.isLt)
    exact ⟨u, b, e1, e2, e3⟩
  let us : Fin prs.length → Value := fun j => Classical.choose (ch j)
  have hus : ∀ j, ∃ b, ps[j.val]? = some b ∧ IsTup s.heap b #[us j, prs[j].2] ∧ keyIs prs[j].1 (us j) = true := fun j => Classical.choose_spec (ch j)
  let qs : List (Value × Value) := List.ofFn fun j : Fin prs.length => (us j, prs[j].2)
  have qlen : qs.length = prs.length := List.length_ofFn
  have qat : ∀ i k v, qs[i]? = some (k, v) → ∃ h : i < prs.length, k = us ⟨i, h⟩ ∧ v = prs[i].2 := fun i k v e => by
    have hi : i < prs.length := by
      have := (List.getElem?_eq_some_iff.mp e).1
      rw [qlen] at this
      exact this
    refine ⟨hi, ?_⟩
    rw [List.getElem?_ofFn, dif_pos hi] at e
    cases e
    exact ⟨rfl, rfl⟩
  refine PySem.call_dict_pairs (knd := mixKind X.prog X.w) (kvs := prs) (PairArg.tuple (prog := X.prog) (w := X.w) a (ps.map Value.ref).toArray (fun j => ps.getD j 0) qs) (I.ok.hd hc) ⟨⟨o, n, hget, hcls, hod, hdat⟩, ?_, fun j k v e => ?_⟩ ⟨qlen.symm, fun i k v e => ?_⟩ (by rw [qlen, hl]; exact hz) (fun h' tk hd' hk => ?_)
  · rw [qlen, hl]; simp
  · obtain ⟨hj, rfl, rfl⟩ := qat j k v e
    obtain ⟨b, e1, e2, _⟩ := hus ⟨j, hj⟩
    have eb : ps.getD j 0 = b := by rw [List.getD_eq_getElem?_getD, e1]; rfl
    dsimp only
    rw [eb]
    refine ⟨?_, .inl e2⟩
    simp only [List.getElem?_toArray, List.getElem?_map]
    rw [e1]; rfl
  · obtain ⟨hj, rfl, rfl⟩ := qat i k v e
    obtain ⟨b, e1, e2, e3⟩ := hus ⟨i, hj⟩
    exact ⟨prs[i].1, List.getElem?_eq_getElem hj, e3⟩
  · have hm : (s.heap.objs.size == sysModules) = false := beq_eq_false_iff_ne.mpr (Nat.ne_of_gt I.big)
    have hlen : (mergeK [] kvs).length ≤ sizeLine := by
      refine Nat.le_trans (length_mergeK kvs []) ?_
      rw [List.length_nil, Nat.zero_add, rel.length, hl]
      exact hz
    exact ⟨.ref s.heap.objs.size, upd H s.heap.objs.size (.dK (mergeK [] kvs)), I.laid (t' := tk) (fun b o e => hk b o (by simp) e) (Nat.le_refl _) (show ObjOk X.prog X.w _ _ _ (.dK (mergeK [] kvs)) from ⟨hlen, hm, merged [] prs, KV.merge rel .nil, hd'⟩), rfl, q _ (I.hok.fresh (Nat.le_refl _))⟩
end
end Lh

namespace Lh
open PySem PySem.Spec PyProof.Rows L2
/-! ### an exception that a suite keeps under another name -/
/-- at a: an exception that was caught, of that class, its fields at d -/
def exK (a : Addr) (cls : Value) (d : Option Addr) : HO := .ext fun h => ∃ (oe : Obj) (vs : Array Value), h.get? a = some oe ∧ Zc cls d oe ∧ oe.data = .fields vs
theorem exK_at {P : Program} {w : World} {H : Hp} {h : Heap} {a : Addr} {cls : Value} {d : Option Addr} (hok : HOk P w H h) (e : H a = some (exK a cls d)) :
    ∃ (oe : Obj) (vs : Array Value), h.get? a = some oe ∧ Zc cls d oe ∧ oe.data = .fields vs := by
  have x : ObjOk P w H h a (.ext fun h => ∃ (oe : Obj) (vs : Array Value), h.get? a = some oe ∧ Zc cls d oe ∧ oe.data = .fields vs) := hok a _ e
  exact x.1
theorem Inv_track {X : Cx} {pins : List (Addr × Obj)} {σ : L2.St} {H : Hp} {s : Shared} {a : Addr} {oe : Obj} {vs : Array Value} {cls : Value} {d : Option Addr} (I : Inv X pins σ H s) (ha : s.heap.get? a = some oe)
    (hz : Zc cls d oe) (hd : oe.data = .fields vs) (na : H a = none) (n0 : X.s_0.heap.get? a = none) (hp : ∀ p ∈ X.pn ++ pins, p.1 ≠ a) : Inv X pins σ (upd H a (exK a cls d)) s := by
  have nL : a ≠ X.env.locals := by
    intro z
    obtain ⟨m, ⟨o, es, ep, ho, hdd, _⟩, _⟩ := I.loc
    rw [← z, ha] at ho
    cases ho
    rw [hd] at hdd
    cases hdd
  have nC : ∀ x c, X.env.cells.lookup x = some c → c ≠ a := by
    intro x c e z
    obtain ⟨v, o, ho, hc⟩ := I.cell x c e
    rw [z, ha] at ho
    cases ho
    rw [hd] at hc
    cases hc
  have ne0 : ∀ b o, X.s_0.heap.get? b = some o → b ≠ a := fun b o e z => by
    rw [z, n0] at e
    cases e
  have neS : ∀ {b : Addr} {u : HO}, H b = some u → b ≠ a := fun e => ne_of_none e na
  refine ⟨I.ok, I.os, I.bare, ⟨I.base.keep, I.base.slot, fun b o e n hx => by rw [upd_ne (ne0 b o e)]; exact I.base.free b o e n hx, I.base.there, fun b xs e => ?_, fun b o u e => ?_, fun b ps e => ?_⟩, I.loc, I.cell,
    by rw [upd_ne nL.symm]; exact I.free, fun x c e => by rw [upd_ne (nC x c e)]; exact I.freeC x c e, fun p h => ?_, fun b u e => ?_, I.len⟩
  · exact (upd_ne (neS (I.base.tups b xs e))).trans (I.base.tups b xs e)
  · exact (upd_ne (neS (I.base.frzs b o u e))).trans (I.base.frzs b o u e)
  · exact let ⟨m, q⟩ := I.base.tbls b ps e; ⟨m, (upd_ne (neS q)).trans q⟩
  · obtain ⟨e, n, r⟩ := I.pin p h
    exact ⟨e, by rw [upd_ne (hp p h)]; exact n, r⟩
  · by_cases hb : b = a
    · subst hb
      rw [upd_same] at e
      cases e
      exact ⟨⟨oe, vs, ha, hz, hd⟩, ⟨oe, ha⟩, fun h1 h2 ⟨o, v, q, r⟩ k => ⟨o, v, k o q, r⟩⟩
    · rw [upd_ne hb] at e
      exact (I.hok b u e).stay (fun c v hc q => q) (fun c q => by rw [upd_ne (neS q)]; exact q) fun c xs q => by rw [upd_ne (neS q)]; exact q
theorem fly_keeps {base h h' : Heap} {l : List Env} {e : Addr} {Z : Obj → Prop} (k : ∀ b o, h.get? b = some o → h'.get? b = some o) (f : HandSPX.FlyingZ base l e Z h) : HandSPX.FlyingZ base l e Z h' := by
  obtain ⟨f1, f2, f3, oe, vs, T, oT, ts, he, hz, hd, h1, hn, hT, hoT, hdT, h3⟩ := f
  exact ⟨fun b o q => k b o (f1 b o q), f2, f3.of_keeps (fun b o q _ => ⟨o, k b o q, rfl⟩), oe, vs, T, oT, ts, k _ _ he, hz, hd, h1, hn, hT, k _ _ hoT, hdT, h3⟩
/-- what 'except (x, ..) as n: suite' wishes of an exception whose class the test meets; behind it the exception is kept -/
def wKeep (Mt : Value → Prop) (i : Nat) (ts : Addr → Value → Option Addr → TS) (D : Ends) : WX := fun cls d σ H =>
  Mt cls ∧ ∀ a, H a = none → ts a cls d { nx := fun σ' H' => D.nx (σ'.set i none) (upd H' a (exK a cls d)), rt := fun _ _ => False, bk := fun _ _ => False, ct := fun _ _ => False } (σ.set i (some (.ref a))) H
section
variable {X : Cx} {pins : List (Addr × Obj)} {σ : L2.St} {H : Hp} {sI : Shared} {B h3 : Heap} {a : Addr} {Z : Obj → Prop}
/-- where an exception that landed stands: on no frame, on no pin, and it is new to the def -/
structure Apart (X : Cx) (pins : List (Addr × Obj)) (a : Addr) : Prop where
  loc : a ≠ X.env.locals
  fs : a ∉ X.fs
  new : X.s_0.heap.get? a = none
  pin : ∀ p ∈ X.pn ++ pins, p.1 ≠ a
theorem Apart.of (hst : X.stack = X.env :: X.outer) (hfm : X.env.frame = some X.env.locals) (hex : X.ex = []) (J : Inv X pins σ H sI) (ground : ∀ b o, sI.heap.get? b = some o → b ∉ frs X.stack → B.get? b = some o)
    (fl : HandSPX.FlyingZ B (X.env :: X.outer) a Z h3) : Apart X pins a := by
  obtain ⟨oa, va, ga, _, da⟩ := fl.there
  have off : a ∉ frs (X.env :: X.outer) := by
    intro hm
    obtain ⟨_, u, gu, hu⟩ := fl.2.2.1.mem hm
    cases ga.symm.trans gu
    exact hu _ da
  have other : ∀ {b o}, sI.heap.get? b = some o → b ∉ frs X.stack → b ≠ a := by
    intro b o gb nb z
    cases (ground b o gb nb).symm.trans (z ▸ fl.2.1)
  constructor
  · exact fun z => off (List.mem_filterMap.mpr ⟨X.env, .head _, hfm.trans (congrArg some z.symm)⟩)
  · exact fun z => let ⟨v, hv, q⟩ := List.mem_filterMap.mp z; off (List.mem_filterMap.mpr ⟨v, .tail _ hv, q⟩)
  · match g0 : X.s_0.heap.get? a with
    | none => rfl
    | some o =>
      obtain ⟨u, gu⟩ := J.base.there a o g0 (by simp [hex])
      exact absurd rfl (other gu (hst ▸ off))
  · intro p hp
    obtain ⟨gp, _, n1, n2, _⟩ := J.pin p hp
    exact other gp fun z => (List.mem_cons.mp (J.stkSub _ z)).elim n1 n2
variable {x y z n : Str} {c1 c2 c3 : Value} {i : Nat} {body suite : List Stmt} {b₀ : Stmt} {p1 p2 p3 pt pos pos' : Pos} {tb : WX → TS} {ts : Addr → Value → Option Addr → TS}
/-- a class by its name, read while an exception is handled -/
theorem named {s : Shared} {oa : Obj} {va : Array Value} (J : Inv X pins σ H s) (ga : s.heap.get? a = some oa) (da : oa.data = .fields va) (na : H a = none) (ap : Apart X pins a) {z : Str} {c : Value} {np : Pos} (hz : Names X z c)
    {Q E : Value → Shared → Prop} (q : Q c s) : wpAny (model X.prog X.w) (X.A.mark (some (.ref a))) (eval (.Name z np) X.env) Q E s := by
  have S := J.suite ga da na ap.loc ap.fs
  rcases hz with ⟨g1, g2, g3 | ⟨g3, g4, g5⟩⟩
  · exact ld_glob (X := X.suite a ((a, oa) :: (X.pn ++ pins))) S g1 g3 q g2
  · exact ld_blt (X := X.suite a ((a, oa) :: (X.pn ++ pins))) S g1 g3 g4 q g5 g2
/-- behind the suite the exception is tracked -/
theorem kept_on (ok : X.Ok) (hN : X.N.Nodup) (hi : X.N[i]? = some n) (hln : X.env.kindOf n = some .local) (ap : Apart X pins a) {oa : Obj} {va : Array Value} {cls : Value} {d : Option Addr} (hz : Zc cls d oa) (da : oa.data = .fields va)
    {σ6 : L2.St} {H6 : Hp} {s6 : Shared} (S : Inv (X.suite a ((a, oa) :: (X.pn ++ pins))) [] σ6 H6 s6) {Q : Shared → Prop} {E : Value → Shared → Prop} (q : ∀ s7, Inv X pins (σ6.set i none) (upd H6 a (exK a cls d)) s7 → Q s7) :
    wpAny (model X.prog X.w) X.A (do bindName X.env n .none; unbindBehindTheSuite X.env n pos') (fun _ s7 => Q s7) E s6 := by
  have pin' : ∀ p ∈ X.pn ++ ((a, oa) :: pins), p ∈ ((a, oa) :: (X.pn ++ pins)) ++ [] := fun p hp => by
    simp only [List.mem_append, List.mem_cons, List.append_nil] at hp ⊢
    rcases hp with z | z | z
    · exact .inr (.inl z)
    · exact .inl z
    · exact .inr (.inr z)
  have J : Inv X ((a, oa) :: pins) σ6 H6 s6 := ⟨ok, S.os, S.bare, S.base, S.loc, S.cell, S.free, S.freeC, fun p hp => S.pin p (pin' p hp), S.hok, S.len⟩
  refine gone_ok J hN hi hln fun s7 J7 => ?_
  have here := J7.pin (a, oa) (by simp)
  exact q s7 (Inv_track (J7.pins_of fun p hp => J7.pin p (by simp [hp])) here.1 hz da here.2.1 ap.new ap.pin)
/-- a clause's test says yes to exceptions of the classes Mt, and changes nothing but that it makes something -/
def Tests (X : Cx) (tst : Expr) (Mt : Value → Prop) : Prop := ∀ {pins : List (Addr × Obj)} {σ : L2.St} {H : Hp} {s : Shared} {a : Addr} {oa : Obj} {va : Array Value} {cls : Value} {d : Option Addr}, Inv X pins σ H s → s.heap.get? a = some oa → Zc cls d oa →
  oa.data = .fields va → H a = none → Apart X pins a → Mt cls → ∀ {R : Bool → Shared → Prop} {E : Value → Shared → Prop}, (∀ g, (∀ b o, s.heap.get? b = some o → g.get? b = some o) → R true { s with heap := g }) →
  wpAny (model X.prog X.w) (X.A.mark (some (.ref a))) (eval tst X.env) (fun c t => wpAny (model X.prog X.w) (X.A.mark (some (.ref a))) (excMatches (.ref a) c) R E t) E s
theorem tests2 (hc1 : Names X x c1) (hc2 : Names X y c2) {cx : Nat} : Tests X (.Tuple [.Name x p1, .Name y p2] cx pt) (fun cls => PySem.W.exmAny X.K cls [c1, c2] = some true) := by
  intro pins σ H s a oa va cls d I ga za da na ap one R E q
  refine wpAny_Tuple_spliced ?_
  show wpAny _ _ (spliced [(false, eval (.Name x p1) X.env), (false, eval (.Name y p2) X.env)]) _ _ _
  refine Calls.spliced_cons (named I ga da na ap hc1 (Calls.spliced_cons (named I ga da na ap hc2 (Calls.spliced_nil ⟨by show 2 ≤ sizeLine; decide, ?_⟩))))
  have old : ∀ b o, s.heap.get? b = some o → (s.heap.push { cls := .type "tuple", data := .seq [c1, c2].toArray }).get? b = some o := fun _ _ z => Heap.get?_push_of_some _ z
  have knd : PySem.W.Looks (model X.prog X.w) (s.heap.push { cls := .type "tuple", data := .seq [c1, c2].toArray }) (typeOf (.ref a)) cls := fun _ _ _ _ k q => wpAny_typeOf_ref (k _ _ (old _ _ ga)) (za.1.symm ▸ q)
  exact (PySem.W.exm_tup2 (M := model X.prog X.w) (I.kIn.keeps old) knd (Heap.get?_push_size s.heap rfl) one).here (q _ old)
theorem tests3 (hc1 : Names X x c1) (hc2 : Names X y c2) (hc3 : Names X z c3) {cx : Nat} : Tests X (.Tuple [.Name x p1, .Name y p2, .Name z p3] cx pt) (fun cls => PySem.W.exmAny X.K cls [c1, c2, c3] = some true) := by
  intro pins σ H s a oa va cls d I ga za da na ap one R E q
  refine wpAny_Tuple_spliced ?_
  show wpAny _ _ (spliced [(false, eval (.Name x p1) X.env), (false, eval (.Name y p2) X.env), (false, eval (.Name z p3) X.env)]) _ _ _
  refine Calls.spliced_cons (named I ga da na ap hc1 (Calls.spliced_cons (named I ga da na ap hc2 (Calls.spliced_cons (named I ga da na ap hc3 (Calls.spliced_nil ⟨by show 3 ≤ sizeLine; decide, ?_⟩))))))
  have old : ∀ b o, s.heap.get? b = some o → (s.heap.push { cls := .type "tuple", data := .seq [c1, c2, c3].toArray }).get? b = some o := fun _ _ z => Heap.get?_push_of_some _ z
  have knd : PySem.W.Looks (model X.prog X.w) (s.heap.push { cls := .type "tuple", data := .seq [c1, c2, c3].toArray }) (typeOf (.ref a)) cls := fun _ _ _ _ k q => wpAny_typeOf_ref (k _ _ (old _ _ ga)) (za.1.symm ▸ q)
  exact (PySem.W.exm_tup3 (M := model X.prog X.w) (I.kIn.keeps old) knd (Heap.get?_push_size s.heap rfl) one).here (q _ old)
set_option maxHeartbeats 2000000 in
theorem ps_try_keep {tst : Expr} {Mt : Value → Prop} (hst : X.stack = X.env :: X.outer) (hfm : X.env.frame = some X.env.locals) (hex : X.ex = []) (hN : X.N.Nodup) (hi : X.N[i]? = some n) (hln : X.env.kindOf n = some .local) (htst : Tests X tst Mt)
    (hbody : ∀ (W : WX) (pn : List (Addr × Obj)) (xe : Value → Shared → Prop), Takes (X.tr pn xe) W → PassesOwn (model X.prog X.w) X.A X.env xe → PSs (X.tr pn xe) body (tb W))
    (hsuite : ∀ (a : Addr) (oa : Obj) (cls : Value) (d : Option Addr) (pn : List (Addr × Obj)), Zc cls d oa → (∃ va, oa.data = .fields va) → PSs (X.suite a ((a, oa) :: pn)) (b₀ :: suite) (ts a cls d)) :
    PS X (.Try body [.ExceptHandler (some tst) (some n) (b₀ :: suite) pos'] [] [] pos) (fun D σ H => tb (wKeep Mt i ts D) D σ H) := by
  constructor
  intro pins s σ H D I want
  have ok := I.ok
  have frm : X.A.frames = some (X.env :: X.outer) := ok.frames.trans (congrArg some hst)
  refine wpAny_Try_except (wpAny_mono ((hbody (wKeep Mt i ts D) (X.pn ++ pins)
      (fun e t1 => wpAny (model X.prog X.w) X.A (noteFrame e X.env) (fun _ t2 => wpAny (model X.prog X.w) X.A (setFlight e none) (fun _ t3 => wpAny (model X.prog X.w) X.A (handleBy e X.env
        [.ExceptHandler (some tst) (some n) (b₀ :: suite) pos']) (SP X pins D) X.xe t3) X.xe t2) X.xe t1)
      (fun u t air => ?_) PassesOwn.looking).run [] s σ H D (I.toTry _) want) (fun fl t fin => ?_) fun _ _ z => z)
  case refine_2 =>
    cases fl with
    | next => exact let ⟨σ1, H1, I1, q⟩ := fin; wpAny_execs_nil ⟨σ1, H1, I1.ofTry ok, q⟩
    | brk => exact let ⟨σ1, H1, I1, q⟩ := fin; ⟨σ1, H1, I1.ofTry ok, q⟩
    | cont => exact let ⟨σ1, H1, I1, q⟩ := fin; ⟨σ1, H1, I1.ofTry ok, q⟩
    | ret u => exact let ⟨v, σ1, H1, I1, r, q⟩ := fin; ⟨v, σ1, H1, I1.ofTry ok, r, q⟩
  case refine_1 =>
    obtain ⟨a, B, t0, _, σ1, H1, cls, d, rfl, I0, ground, up, sky, na, os, bare, one, then_⟩ := air
    have I1 : Inv X pins σ1 H1 t0 := I0.ofTry ok
    refine Sky.land (L := X.env.locals) Zc.steady frm hfm (hst ▸ sky) fun g fl upg => ?_
    have ap := Apart.of hst hfm hex I1 ground fl
    have I3 : Inv X pins σ1 H1 { t with heap := g } := I1.landed ground fl.1 (up.trans upg) os bare
    obtain ⟨oa, va, ga, za, da⟩ := fl.there
    refine wpAny_handleBy_cons (codeAny_handlers_test (htst I3 ga za da na ap one fun g' old => ?_)) (fun z => nomatch z)
    refine codeAny_handlers_suite_as ?_
    refine HandSPX.lands_againZ (fly_keeps old fl) fun g4 fl4 up4 => ?_
    have I4 : Inv X pins σ1 H1 { t with heap := g4 } := I1.landed ground fl4.1 (((up.trans upg).trans (.of_keeps old)).trans up4) os bare
    obtain ⟨ob, vb, gb, zb, db⟩ := fl4.there
    refine store_ok (X := X.suite a ((a, ob) :: (X.pn ++ pins))) (v := .ref a) (I4.suite gb db na ap.loc ap.fs) hN hi (.inl hln) rfl (fun s5 S5 => ?_) (.inr hln)
    refine wpAny_mono ((hsuite a ob cls d (X.pn ++ pins) zb ⟨_, db⟩).run [] s5 _ H1 _ S5 (then_ a na)) (fun fw s6 fin => ?_) fun _ _ z => False.elim z
    cases fw with
    | next => exact let ⟨σ6, H6, S6, q⟩ := fin; kept_on ok hN hi hln ap zb db S6 fun s7 I7 => ⟨_, _, I7, q⟩
    | brk => exact let ⟨_, _, _, q⟩ := fin; q.elim
    | cont => exact let ⟨_, _, _, q⟩ := fin; q.elim
    | ret u => exact let ⟨_, _, _, _, _, q⟩ := fin; q.elim
end
section
variable {X : Cx}
/-- an exception that is kept, with its fields, as the library's words have it -/
theorem inst_of {pins : List (Addr × Obj)} {σ : L2.St} {H : Hp} {s : Shared} {a C dd : Addr} {fs : List (Str × V)} (I : Inv X pins σ H s) (ha : H a = some (exK a (.ref C) (some dd))) (hd : H dd = some (.xd fs)) :
    ∃ (ox od : Obj) (mA : Str → Option Value), PySem.W.InstAt s.heap a ox C (some od) ∧ (∀ f, RelO (fs.lookup f) (mA f)) ∧ ∀ f, PySem.W.lookIn f od = some (mA f) := by
  obtain ⟨oe, vs, he, hz, hdat⟩ := exK_at I.hok ha
  obtain ⟨mA, hns, hr⟩ : ∃ mA, s.heap.Ns1 dd mA ∧ ∀ f, RelO (fs.lookup f) (mA f) := I.hok dd _ hd
  obtain ⟨od, ho, hl⟩ := lookIn_ns hns
  exact ⟨oe, od, mA, ⟨he, hz.1, by unfold PySem.W.notCls; rw [hdat] <;> rfl, by rw [hz.2]; exact ho⟩, hr, hl⟩
/-- isinstance(e, c), e an exception that is kept -/
def rIsX (K : PySem.W.Frag) : List V → Hp → VK → Prop := fun xs H Q => ∃ (a C dd : Addr) (fs : List (Str × V)) (c : V) (cv : Value) (b : Bool), xs = [.ref a, c] ∧ H a = some (exK a (.ref C) (some dd)) ∧ H dd = some (.xd fs) ∧ ExcC K C ∧
  (∀ u, RelV c u → u = cv) ∧ PySem.W.kitOne K (.ref C) cv = some b ∧ Q (.bl b) H
theorem call_isX : CallR X (.builtin "isinstance") (rIsX X.K) := by
  intro pins s σ H xs us Q I r h
  obtain ⟨a, C, dd, fs, c, cv, b, rfl, ha, hd, F, hcv, e, q⟩ := h
  obtain ⟨ox, od, mA, J, _⟩ := inst_of I ha hd
  cases r with
  | cons rx rr =>
    cases rr with
    | cons rt rr =>
      cases rr
      cases rx
      cases hcv _ rt
      have F1 := PySem.W.any_some F.hd
      obtain ⟨cd, hc, _⟩ := F1
      exact PySem.W.kia_one (PySem.W.kitx_exc (by rw [hc]; rfl) F.hg F.hk F.hs F.ha F.hn F.ht F.hm) I.kIn J e (fun z => nomatch z) fun tk => ⟨.bl b, H, I.kept (t' := tk) fun _ _ z => z, rfl, q⟩
/-- isinstance(e, (c, ..)) -/
def rIsXT (K : PySem.W.Frag) : List V → Hp → VK → Prop := fun xs H Q => ∃ (a C dd p : Addr) (fs : List (Str × V)) (cs : List V) (cvs : List Value) (b : Bool), xs = [.ref a, .ref p] ∧ H a = some (exK a (.ref C) (some dd)) ∧ H dd = some (.xd fs) ∧ ExcC K C ∧ H p = some (.tup cs) ∧
  (∀ us, Vals cs us → us = cvs) ∧ PySem.W.kitAny K (.ref C) cvs = some b ∧ Q (.bl b) H
theorem call_isXT : CallR X (.builtin "isinstance") (rIsXT X.K) := by
  intro pins s σ H xs us Q I r h
  obtain ⟨a, C, dd, p, fs, cs, cvs, b, rfl, ha, hd, F, hp, hcv, e, q⟩ := h
  obtain ⟨ox, od, mA, J, _⟩ := inst_of I ha hd
  cases r with
  | cons rx rr =>
    cases rr with
    | cons rt rr =>
      cases rr
      cases rx
      cases rt
      obtain ⟨its, rv, o, ho, hc, n, hdat⟩ := (I.hok p _ hp).2
      cases hcv _ rv
      obtain ⟨oc, od', oda, osl⟩ := o
      dsimp only at hc hdat
      subst hc hdat
      obtain ⟨cd, hcl, _⟩ := PySem.W.any_some F.hd
      exact PySem.W.kia_tup (PySem.W.kitx_exc (by rw [hcl]; rfl) F.hg F.hk F.hs F.ha F.hn F.ht F.hm) I.kIn J ho e (fun z => nomatch z) fun tk => ⟨.bl b, H, I.kept (t' := tk) fun _ _ z => z, rfl, q⟩
/-- two words of one call, whichever is at hand -/
theorem call_or {f : Value} {r1 r2 : List V → Hp → VK → Prop} (h1 : CallR X f r1) (h2 : CallR X f r2) : CallR X f (fun xs H Q => r1 xs H Q ∨ r2 xs H Q) := by
  intro pins s σ H xs us Q I r h
  exact h.elim (h1 pins s σ H xs us Q I r) (h2 pins s σ H xs us Q I r)
/-- e.f, e an exception that is kept -/
def tXk (K : PySem.W.Frag) (f : Str) (te : TE) : TE := fun σ H Q => te σ H fun x H1 => ∃ (a C dd : Addr) (fs : List (Str × V)) (v : V), x = .ref a ∧ H1 a = some (exK a (.ref C) (some dd)) ∧ H1 dd = some (.xd fs) ∧ XfC K C ∧
  PySem.W.findIn K (.ref C) f = some none ∧ fs.lookup f = some v ∧ Q v H1
theorem pe_xk {e : Expr} {te : TE} {pos : Pos} {f : Str} (he : PE X e te) (hb : attributeBase e f X.env (eval e X.env) = eval e X.env := by rfl) : PE X (.Attribute e f pos) (tXk X.K f te) := by
  refine ⟨fun pins s σ H Q I h => attr_of hb (thn (he.run pins s σ H _ I h) fun u s1 hh => ?_)⟩
  obtain ⟨x, H1, I1, rx, a, C, dd, fs, v, rfl, ha, hd, T, hno, l, q⟩ := hh
  cases rx
  obtain ⟨ox, od, mA, J, hr, hl⟩ := inst_of I1 ha hd
  obtain ⟨u, hu, ru⟩ := RelO.some_of (v := v) (o := mA f) (by rw [← l]; exact hr f)
  have fo := PySem.W.findObj_own T.hdC hno rfl ((hl f).trans (congrArg some hu))
  exact HandSPX.exc_get I1.kIn J T.ga T.gg T.exC fo (handed_of ru) ⟨v, H1, I1.tok _, ru, q⟩
/-- what lets no exception out, of a def that may -/
theorem pass_none : Passes (L2.CX X.prog X.w) X (fun _ _ _ => False) := fun _ _ _ _ _ _ _ c => by
  obtain ⟨_, _, _, _, _, _, _, _, _, _, _, _, w⟩ := c
  exact w.elim
end
theorem kit_not {K : PySem.W.Frag} {C D : Addr} (hd : PySem.W.hasDictIn K D = true) (ht : PySem.W.typeIn K (.ref D) = some (.type "type")) (h : PySem.W.subIn K (.ref C) (.ref D) = some false) (hs : PySem.W.subIn K (.ref C) (.ref C) = some true) :
    PySem.W.kitOne K (.ref C) (.ref D) = some false := by
  have ne : (Value.ref C == Value.ref D) = false := by
    refine Bool.eq_false_iff.mpr fun z => ?_
    rw [← beq_iff_eq.mp z, hs] at h
    cases h
  obtain ⟨cd, hc, _⟩ := PySem.W.any_some hd
  unfold PySem.W.kitOne PySem.W.kitCls
  rw [ne, if_neg Bool.false_ne_true]
  dsimp only
  rw [hc, ht]
  exact h
theorem kit_type {K : PySem.W.Frag} {C : Addr} {T : String} {b : Bool} (hm : PySem.W.kitMeta T = true) (h : PySem.W.subIn K (.ref C) (.type T) = some b) : PySem.W.kitOne K (.ref C) (.type T) = some b := by
  have ne : (Value.ref C == Value.type T) = false := by simp
  unfold PySem.W.kitOne PySem.W.kitCls
  rw [ne, if_neg Bool.false_ne_true]
  dsimp only
  rw [hm, if_pos rfl]
  exact h
/-- a def that may raise, called where it doesn't -/
theorem fn_calm {P : Program} {w : World} {K : PySem.W.Frag} {mg : Str → Option Value} {base : Heap} {k : Nat} {f : Addr} {fd : FuncData} {ps : List Str} {sp : Sp} (F : FnOk P w K mg base (L2.CX P w) k f fd ps sp) :
    FnOk P w K mg base CX0 k f fd ps (fun vs H Q _ => sp vs H Q (fun _ _ _ => False)) := by
  refine ⟨fun vs H Q _ q => F.len vs H Q _ q, fun B out t H args us vs Q E a b c d e => codeAny_mono (F.run B out t H args us vs Q _ a b c d e) fun r t' h => ?_⟩
  cases r with
  | ok fl =>
    cases fl with
    | ret u => exact h
    | next => exact h
    | brk => exact h
    | cont => exact h
  | error e =>
    obtain ⟨_, _, _, _, _, _, _, _, _, _, _, _, no⟩ := h
    exact no.elim
theorem exm_three {K : PySem.W.Frag} {cls c1 c2 c3 : Value} {b1 b2 b3 : Bool} (h1 : PySem.W.exmOne K cls c1 = some b1) (h2 : PySem.W.exmOne K cls c2 = some b2) (h3 : PySem.W.exmOne K cls c3 = some b3) : PySem.W.exmAny K cls [c1, c2, c3] = some (b1 || (b2 || b3)) := by
  unfold PySem.W.exmAny
  rw [h1]
  unfold PySem.W.exmAny
  rw [h2]
  unfold PySem.W.exmAny
  rw [h3]
  unfold PySem.W.exmAny
  simp
theorem exm_two {K : PySem.W.Frag} {cls c1 c2 : Value} {b1 b2 : Bool} (h1 : PySem.W.exmOne K cls c1 = some b1) (h2 : PySem.W.exmOne K cls c2 = some b2) : PySem.W.exmAny K cls [c1, c2] = some (b1 || b2) := by
  unfold PySem.W.exmAny
  rw [h1]
  unfold PySem.W.exmAny
  rw [h2]
  unfold PySem.W.exmAny
  simp
/-- __init__(self, v): nothing but ValueError's own and self.f = v -/
def spInitF (C : Addr) (f : Str) : Sp := fun vs H Q _ => ∃ (a : Addr) (v : V), vs = [.ref a, v] ∧ H a = some (exo a C none) ∧ ∀ dx, H dx = none → dx ≠ a → Q .non (upd (upd H dx (exd dx [(f, v)])) a (exo a C (some dx)))
end Lh

set_option maxHeartbeats 4000000
namespace LhX
open PySem PySem.Builtin PySem.Builtin.ObjectAttr PyProof.Rows
/-! ### exceptions of own classes over any class that Python has -/
section
variable {P : Program} {w : World} {A : Around} {E : Value → Shared → Prop} {R : Result → Shared → Prop} {h0 : Heap} {gs : Array GenState} {dr : Drawn} {n0 : Nat} {oo : OsState}
/-- the first name that goes into an empty dict -/
theorem first_in {M : Model} {dd : Addr} {f : Str} {tk : Tok} {u : Value} {Q : Fin → Shared → Prop} (empty : h0.Ns dd (fun _ => none))
    (back : ∀ h1 tk1, h1.Ns1 dd (fun y => if y = f then some u else none) → Heap.SameBut dd h0 h1 → Q (.done (.ret .none)) ⟨h1, gs, dr, tk1, oo⟩) :
    wpAny M A (storeInDict dd (.str f tk) f u) Q E ⟨h0, gs, dr, n0, oo⟩ := by
  unfold storeInDict newKeyGuard
  apply wpAny_bind
  apply wpAny_pure
  apply wpAny_bind
  refine wpAny_nsSet1 (Heap.Ns1.of_empty empty) ?_
  intro h1 now same
  obtain ⟨od, _, _, at_, data, few⟩ := now.count (Within.cons f u Within.nil)
  apply wpAny_bind
  refine wpAny_lookBehind at_ ?_ ?_
  · rw [data]
    exact pastItsLine_dict (Nat.le_trans few (Nat.le_add_left 1 sizeLine))
  · wp_walk
    exact back h1 _ now same
/-- an own class: its own names for bases first, then those of the class that it stands over -/
structure Over (mro bm : List Value) : Prop where
  has : ∀ x : String, mro.contains (.type x) = bm.contains (.type x)
  pass : ∀ self : Value, refuseLoop self "__setattr__" mro = pure ()
  some_ : mro.isEmpty = false
theorem over_one {bm : List Value} {C : Addr} (p : ∀ self : Value, refuseLoop self "__setattr__" bm = pure ()) : Over (.ref C :: bm) bm where
  has := fun x => by rw [List.contains_cons]; rfl
  pass := fun self => by rw [refuseLoop_ref]; exact p self
  some_ := rfl
/-- self.f = u, where self has no dict yet -/
theorem put_first {K : W.Frag} {f : Str} {tk : Tok} {u : Value} {x C : Addr} {vals : Array Value} {cd : ClassData} {bm : List Value}
    (kin : K.In h0) (here : h0.get? x = some { cls := .ref C, data := .fields vals }) (isC : W.clsIn K C = some cd) (ov : Over cd.mro bm) (ob : bm.contains (.type "object") = true) (dy : cd.hasDict = true) (noF : W.findIn K (.ref C) f = some none)
    (back : ∀ h1 tk1 dd, (∀ b o, b ≠ x → h0.get? b = some o → h1.get? b = some o) → h0.objs.size ≤ dd → dd ≠ x → h1.get? x = some { cls := .ref C, dict := some dd, data := .fields vals } →
      h1.Ns1 dd (fun y => if y = f then some u else none) → R (.ok (.ret .none)) ⟨h1, gs, dr, tk1, oo⟩) :
    codeAny (model P w) A (.call (.builtin "object.__setattr__") ⟨[.ref x, .str f tk, u], []⟩) R ⟨h0, gs, dr, n0, oo⟩ := by
  have inst : W.InstAt h0 x { cls := .ref C, data := .fields vals } C none := ⟨here, rfl, rfl, trivial⟩
  have facts := F.store_object
  have apart : x ≠ h0.objs.size := Nat.ne_of_lt (Heap.lt_size here)
  have isO : W.mroIn K C (.type "object") = some true := by
    unfold W.mroIn
    rw [isC, Option.bind_some, if_neg (by rw [ov.some_]; decide), ov.has, ob]
  have lookO : W.Looks (model P w) h0 (isInstance (.ref x) (.type "object")) true := inst.type.andThen (W.looks_mroIn kin isO)
  have lookM : W.Looks (model P w) h0 (mroOf (.ref C)) cd.mro := (W.looks_clsIn kin isC).andThen .now
  have lookC : W.Looks (model P w) h0 (classData C) cd := W.looks_clsIn kin isC
  have lookN : W.Looks (model P w) h0 (storeTaker? none) none := .now
  have lookF := W.looks_findIn (M := model P w) kin noF
  refine codeAny_call_builtin facts.slot.plain facts.entry ?_
  refine @W.check_slot (model P w) _ _ ⟨h0, gs, dr, n0, oo⟩ "object.__setattr__" "object" "__setattr__" (.ref x) [.str f tk, u] [] _ facts.kind facts.split lookO (facts.args (.ref x) (.str f tk) u) ?_
  rw [W.osa_eq, refuse_eq]
  apply wpAny_bind
  apply wpAny_bind
  refine inst.type.at ?_
  apply wpAny_bind
  refine lookM.at ?_
  rw [ov.pass]
  apply wpAny_pure
  apply wpAny_bind
  refine inst.type.at ?_
  apply wpAny_bind
  refine lookF.at ?_
  apply wpAny_bind
  refine lookN.at ?_
  show wpAny _ _ (storeInOwnDict (.ref x) (.ref C) (.str f tk) f u false) _ _ _
  cases cd with
  | mk c1 c2 c3 c4 c5 c6 c7 c8 c9 c10 c11 =>
    have dy : c6 = true := dy
    subst dy
    unfold storeInOwnDict ownDictForStores
    repeat (first | with_reducible refine first_in ?_ ?_ | with_reducible refine wpAny_loadPart_at here ?_ | with_reducible refine lookC.at ?_ | wp_step)
    · refine ⟨_, #[], _, (Heap.get?_update_ne _ _ _ _ apart.symm).trans (Heap.get?_push_at rfl rfl), rfl, ?_, fun _ => rfl⟩
      intro e he
      simp at he
    · intro h1 tk1 now same
      have pushed : ∀ b o, h0.get? b = some o → (h0.push { cls := .type "dict", data := .dict #[] }).get? b = some o := fun b o e => Heap.get?_push_of_some _ e
      refine back h1 tk1 h0.objs.size ?_ (Nat.le_refl _) apart.symm ?_ now
      · intro b o nb e
        rw [same.2 b (Nat.ne_of_lt (Heap.lt_size e)), Heap.get?_update_ne _ _ _ _ nb]
        exact pushed b o e
      · rw [same.2 x apart]
        exact Heap.get?_update_self _ (pushed _ _ here) rfl
end
end LhX
namespace Lh
open PySem PySem.Spec PyProof.Rows L2 PySem.Builtin PySem.Builtin.ObjectAttr
/-- an own exception class over the class B of Python's -/
structure OvC (K : PySem.W.Frag) (C : Addr) (B newId initId : String) (bm : List Value) : Prop where
  facts : PySem.ExcBaseFacts B newId initId bm
  obj : bm.contains (.type "object") = true
  cls : ∃ nm qn N bs rest sn sub ab col dd a0 a1 a2 a3 a5, K.lookup C = some (excClassObj nm qn C N bs rest true sn sub ab col dd a0 a1 a2 a3 a5 newId) ∧ (∀ x : String, rest.contains (.type x) = bm.contains (.type x)) ∧ LhX.Over (.ref C :: rest) bm
  setter : PySem.W.findIn K (Value.ref C) "__setattr__" = some (some (Value.builtin "object.__setattr__"))
  isExc : PySem.W.subIn K (Value.ref C) (Value.type "BaseException") = some true
  itsType : PySem.W.typeIn K (Value.ref C) = some (Value.type "type")
  stays : PySem.W.keepIn K (Value.ref C) = true
section
variable {X : Cx} {pins : List (Addr × Obj)} {σ : L2.St} {H : Hp} {s : Shared} {a C : Addr} {f : Str} {y : V} {u : Value} {B newId initId : String} {bm : List Value} {A : Around} {E : Value → Shared → Prop}
theorem upd_back {H : Hp} {a : Addr} {o : HO} (e : H a = some o) : upd H a o = H := by
  funext b
  by_cases z : b = a
  · subst z
    rw [upd_same, e]
  · exact upd_ne z
/-- self.f = y -/
theorem own_put {Q : Unit → Shared → Prop} (T : OvC X.K C B newId initId bm) (I : Inv X pins σ H s) (e : H a = some (exo a C none)) (no : PySem.W.findIn X.K (.ref C) f = some none) (ry : L2.RelV y u)
    (back : ∀ dx s1, H dx = none → dx ≠ a → Inv X pins σ (upd (upd H dx (exd dx [(f, y)])) a (exo a C (some dx))) s1 → Q () s1) : wpAny (model X.prog X.w) A (setAttr (.ref a) f u) Q E s := by
  obtain ⟨nm, qn, N, bs, rest, sn, sub, ab, col, dd, a0, a1, a2, a3, a5, look, _, ov⟩ := T.cls
  have isC : PySem.W.clsIn X.K C = some { name := nm, bases := bs, mro := .ref C :: rest, ns := N, qualname := qn, hasDict := true, slotNames := sn, subclasses := sub, abstract := ab, collection := col, hasDel := false } := by
    unfold PySem.W.clsIn
    rw [look] <;> rfl
  obtain ⟨tt, here⟩ := exo_at I.hok e
  cases s with
  | mk h0 g0 d0 t0 o0 =>
  refine PySem.W.set_plain I.kIn (ox := { cls := .ref C, dict := none, data := .fields #[.ref tt, .none, .none, .none, .bool false, .none] }) (od := none) ⟨here, rfl, rfl, trivial⟩ T.setter ?_
  refine LhX.put_first I.kIn here isC ov T.obj rfl no ?_
  intro h1 tk1 dx kept big ne hx hn
  have free : H dx = none := I.hok.fresh big
  have nd : ∀ {b : Addr} {o : Obj}, h0.get? b = some o → b ≠ dx := fun {b o} z => Nat.ne_of_lt (Nat.lt_of_lt_of_le (Heap.lt_size z) big)
  have na : ∀ {b : Addr}, H b = none → b ≠ a := fun {b} n z => by subst z; exact absurd e (by rw [n]; intro q; cases q)
  have stays : ∀ {b : Addr} {o : HO}, H b = some o → (∀ d, o ≠ exo a C d) → (upd (upd H dx (exd dx [(f, y)])) a (exo a C (some dx))) b = some o := fun {b o} hb df => by
    have n1 : b ≠ a := fun z => by subst z; exact df none (Option.some.inj (hb.symm.trans e))
    rw [upd_ne n1, upd_ne (ne_of_none hb free)]
    exact hb
  have un : Un X.fs [] H (upd (upd H dx (exd dx [(f, y)])) a (exo a C (some dx))) h0 h1 := {
    keep := fun b o z n _ _ => kept b o (na n) z
    slot := fun b o z n _ _ => ⟨_, kept b o (na n) z⟩
    free := fun b o z n _ => (upd_ne (na n)).trans ((upd_ne (nd z)).trans n)
    there := fun b o z _ => by
      by_cases c : b = a
      · subst c; exact ⟨_, hx⟩
      · exact ⟨_, kept b o c z⟩
    tups := fun b xs z => stays z fun d => exo_tup.symm
    frzs := fun b o v z => stays z fun d => exo_frz.symm
    tbls := fun b ps z => ⟨#[], by rw [stays z fun d => exo_tbl.symm]; simp⟩ }
  refine back dx _ free ne (I.un (t' := tk1) un fun b o z => ?_)
  by_cases c : b = a
  · subst c
    rw [upd_same] at z
    cases z
    exact exo_ok hx
  rw [upd_ne c] at z
  by_cases c2 : b = dx
  · subst c2
    rw [upd_same] at z
    cases z
    exact exd_ok hn (relO_put (fs := []) ry fun _ => True.intro)
  rw [upd_ne c2] at z
  refine (I.hok b o z).stay (fun b2 v hc k => kept b2 v ?_ k) (fun b2 hc => stays hc fun d => exo_own.symm) (fun b2 xs hc => stays hc fun d => exo_tup.symm)
  rcases hc with rfl | hc
  · exact c
  · exact at_ne e hc exo_own
/-- B.__init__(self, ..) -/
theorem own_start {us : List Value} {Q : Value → Shared → Prop} (T : OvC X.K C B newId initId bm) (I : Inv X pins σ H s) (e : H a = some (exo a C none)) (few : us.length ≤ sizeLine) (back : ∀ s1, Inv X pins σ H s1 → Q .none s1) :
    wpAny (model X.prog X.w) A (call (.builtin initId) (.ref a :: us)) Q E s := by
  obtain ⟨nm, qn, N, bs, rest, sn, sub, ab, col, dd, a0, a1, a2, a3, a5, look, has, _⟩ := T.cls
  obtain ⟨tt, here⟩ := exo_at I.hok e
  cases s with
  | mk h0 g0 d0 t0 o0 =>
  refine wpAny_call (PySem.HandSPX.init_base T.facts has (I.kIn _ _ look) here few ?_)
  intro h1 t1 kept hx
  have J := I.write (t' := t0) (x := a) (e := a) (o := exo a C none) (by rw [e]; exact True.intro) (.inl rfl) kept ⟨_, hx⟩ (exo_ok hx)
  rw [upd_back e] at J
  exact back _ J
end
theorem ty_IndexError : typeOf (.type "IndexError") = pure (.type "type") := by kernel_rfl
theorem ty_RuntimeError : typeOf (.type "RuntimeError") = pure (.type "type") := by kernel_rfl
theorem ty_OverflowError : typeOf (.type "OverflowError") = pure (.type "type") := by kernel_rfl
theorem boot_RuntimeError : bootBuiltins "RuntimeError" = some (.type "RuntimeError") := by decide +kernel
/-- B.__init__(self, ..), B a class of Python's -/
def tBase (K : PySem.W.Frag) (B initId : String) (ta : TA) : TE := fun σ H Q => ta σ H fun vs H1 => ∃ (a C : Addr) (ws : List V), vs = .ref a :: ws ∧ ws.length ≤ 1000 ∧ (∃ newId bm, OvC K C B newId initId bm) ∧ H1 a = some (exo a C none) ∧ Q .non H1
/-- self.f = e, the first of an exception -/
def tPut (K : PySem.W.Frag) (f : Str) (to te : TE) : TS := fun D σ H => te σ H fun y H1 => to σ H1 fun x H2 => ∃ a C : Addr, x = .ref a ∧ (∃ B newId initId bm, OvC K C B newId initId bm) ∧ PySem.W.findIn K (.ref C) f = some none ∧
  H2 a = some (exo a C none) ∧ ∀ dx, H2 dx = none → dx ≠ a → D.nx σ (upd (upd H2 dx (exd dx [(f, y)])) a (exo a C (some dx)))
section
variable {X : Cx} {B newId initId : String} {bm : List Value} {e o : Expr} {es : List Expr} {ta : TA} {to te : TE} {f : Str} {p p' p1 p2 pos : Pos}
theorem pe_base {pl : Sem Bool} (ty : typeOf (.type B) = pure (.type "type")) (boot : bootBuiltins (Str.ofString B) = some (.type B)) (hg : Gl X (Str.ofString B)) (hm : X.mg (Str.ofString B) = none)
    (vI : PySem.W.findCls X.K (.type B) (.type "type") "__init__" = some (.val (.builtin initId))) (ha : PA X (e :: es) ta) (n1 : Str.ofString B ≠ "__name__") (n2 : (Str.ofString B == ("__debug__" : Str)) = false) (st : Manifest.isStub B = false) (hh : PySem.W.handedIn (.builtin initId) = true)
    (call : eval (.Call (.Attribute (.Name (Str.ofString B) p1) "__init__" p2) (e :: es) [] pos) X.env = (do
      let ov ← eval (.Name (Str.ofString B) p1) X.env
      standAt p2.atName
      let (f, first) ← holding [ov] (getMethod ov "__init__" pl)
      callWith pos f first (backTo pos (starEach (e :: es) X.env)) (backToKw pos (keywordEach [] X.env))) := by rfl)
    (each : starEach (e :: es) X.env = (false, eval e X.env) :: starEach es X.env := by rfl) (plain : (backTo pos (starEach es X.env)).any (·.1) = false := by rfl) :
    PE X (.Call (.Attribute (.Name (Str.ofString B) p1) "__init__" p2) (e :: es) [] pos) (tBase X.K B initId ta) := by
  constructor
  intro pins s σ H Q I h
  refine PySem.W.methodCall_KW (ld_blt I hg hm boot ?_ n1 n2) call
  obtain ⟨m, fr⟩ := I.fr
  refine PySem.W.method_type fr I.ok.mod.kin ty st vI hh ?_
  show wpAny _ _ (callWith pos (Value.builtin initId) [] (backTo pos (starEach (e :: es) X.env)) []) _ _ _
  refine PyProof.Rows.callWith_method1 (thn (ha.run pos pins _ σ H _ (I.tok _) h) ?_) each plain
  rintro us s1 ⟨vs, H1, I1, r1, a, C, ws, ev, few, ⟨newId, bm, T⟩, ea, q⟩
  subst ev
  cases r1 with
  | @cons _ u0 _ ur ra rr =>
    cases (show u0 = Value.ref a from ra)
    refine own_start T I1 ea ?_ fun s2 J => ⟨.non, H1, J, rfl, q⟩
    rw [← Paired.length rr]
    exact Nat.le_of_lt (small1000 few)
theorem ps_put (ho : PE X o to) (he : PE X e te) (hs : swapsWith e (some (.Attribute o f p')) pos.line X.env = pure false := by rfl) : PS X (.Assign [.Attribute o f p'] e pos) (tPut X.K f to te) := by
  constructor
  intro pins s σ H D I h
  refine plainObj_wpAny_Assign_Attribute (thn (he.run pins s σ H _ I h) ?_) hs
  rintro v s1 ⟨y, H1, I1, r1, q1⟩
  refine thn (ho.run pins s1 σ H1 _ I1 q1) ?_
  rintro u s2 ⟨x, H2, I2, r2, a, C, rfl, ⟨_, _, _, _, T⟩, no, ea, q⟩
  cases (show u = Value.ref a from r2)
  exact own_put T I2 ea no r1 fun dx s3 n ne J => ⟨σ, _, J, q dx n ne⟩
/-- C(e, ..) of such a class, for a raise -/
theorem pmk_own {CX : CXT} {x : Str} {C fI : Addr} {k : Nat} {fd : FuncData} {ps : List Str} {sp : Sp} {ds : List Value} {dvs : List V} (T : OvC X.K C B newId initId bm) (iC : PySem.W.findIn X.K (.ref C) "__init__" = some (some (.ref fI))) (tI : PySem.W.typeIn X.K (.ref fI) = some (.type "function"))
    (F1 : FnOk X.prog X.w X.K X.mg X.base CX k fI fd ps sp) (hr : Room (k + 1) X.A)
    (hb : Binds X.K fd ps ds) (hd : Vals dvs ds) (hx : Passes CX X (fun _ _ _ => False)) (hg : Gl X x)
    (hm : X.mg x = some (.ref C)) (ha : PA X (e :: es) ta)
    (ndb : (x == ("__debug__" : Str)) = false := by decide) (each : starEach (e :: es) X.env = (false, eval e X.env) :: starEach es X.env := by rfl) (plain : (backTo pos (starEach es X.env)).any (·.1) = false := by rfl) :
    PMk X (.Call (.Name x p) (e :: es) [] pos) (tMkO C sp dvs ta) := by
  intro pins s σ H Q I h
  obtain ⟨nm, qn, N, bs, rest, sn, sub, ab, col, dd, a0, a1, a2, a3, a5, look, has, _⟩ := T.cls
  refine wpAny_Call_Name_kw (ld_glob I hg hm ?_ ndb)
  refine PySem.W.callWith_K (h₀ := X.base) I.ok.mod.kin T.stays (thn (ha.run pos pins s σ H _ I h) ?_) each plain
  rintro us s1 ⟨vs, H1, I1, r1, few, q1⟩
  refine ⟨I1.kIn, ?_⟩
  show wpAny _ _ (call (.ref C) us) _ _ _
  cases s1 with
  | mk h1 g1 d1 t1 o1 =>
  have le1 : h1.objs.size ≤ h1.objs.size + 1 := Nat.le_add_right _ 1
  obtain ⟨a, ea⟩ : ∃ a, h1.objs.size + 1 = a := ⟨_, rfl⟩
  have na : H1 a = none := by rw [← ea]; exact I1.hok.fresh le1
  have spa := q1 a na
  obtain ⟨hN, eN⟩ : ∃ hN, (h1.push (PySem.W.kdv_tup us)).push (PySem.HandSPX.excO C h1.objs.size) = hN := ⟨_, rfl⟩
  have grow : ∀ b o, h1.get? b = some o → hN.get? b = some o := fun b o z => by
    rw [← eN]
    exact Heap.get?_push_of_some _ (Heap.get?_push_of_some _ z)
  have there : hN.get? a = some (PySem.HandSPX.excO C h1.objs.size) := by
    rw [← eN, ← ea]
    heap_get
  have I2 : Inv X pins σ (upd H1 a (exo a C none)) ⟨hN, g1, d1, t1, o1⟩ := I1.laid (t' := t1) (a := a) (o := exo a C none) (h' := hN) grow (by rw [← ea]; exact le1) (exo_ok there)
  have rel : Vals (V.ref a :: (vs ++ dvs)) (Value.ref a :: (us ++ ds)) := .cons rfl (r1.append hd)
  have len : (Value.ref a :: us ++ ds).length = ps.length := (rel.length.symm.trans (F1.len _ _ _ _ spa))
  have fewU : us.length ≤ sizeLine := by
    rw [← Paired.length r1]
    exact Nat.le_of_lt (small1000 few)
  refine wpAny_call (PySem.HandSPX.call_own T.facts has (I1.kIn _ _ look) (PySem.W.looks_findIn I1.kIn iC) (fun self => PySem.W.bind_fn I1.kIn self tI) fewU ?_)
  rw [ea, eN]
  refine codeAny_mono (F1.run _ X.stack _ _ ⟨Value.ref a :: us, []⟩ (Value.ref a :: (us ++ ds)) _ _ (fun _ _ _ => False) (hr.make C us []) (I2.env0.make C us []) (hb _ (Value.ref a :: us) I2.kIn len) rel spa) ?_
  intro r s2 back
  cases r with
  | error er => exact hx pins σ _ _ er s2 I2 back
  | ok fl =>
    cases fl with
    | ret u =>
      obtain ⟨v, H2, os2, bare2, un2, hok2, rv, ev, d, fs, e1, e2, e3, q2⟩ := back
      subst ev
      cases s2 with
      | mk h2 g2 d2 t2 o2 => exact ⟨rv, mk_end (raises_own T.isExc T.itsType) I1 (by rw [← ea]; exact le1) grow un2 hok2 os2 bare2 e1 e2 e3 q2⟩
    | _ => exact False.elim back
end
/-- such an exception's own __init__, that keeps one thing -/
def spInitO (C : Addr) (f : Str) : Sp := spInitF C f
end Lh

namespace Lh
open PySem PySem.Spec PyProof.Rows L2
def topS (i : Nat) : Stmt := PySem.Challenge.pw_lesserhall_k03_halls_as_handed_in.main.body.getD i (.Pass ⟨0, 0, 0, 0⟩)
abbrev s_BadHall_init : Stmt := inClass (topS 1) 0
abbrev n_BadHall_init : List Str := ["self", "person"]
abbrev p_BadHall_init : List Str := ["self", "person"]
theorem sc_BadHall_init : FnScope n_BadHall_init p_BadHall_init (defScope s_BadHall_init) := ⟨rfl, rfl, rfl, by decide +kernel, rfl, by decide +kernel, by decide +kernel⟩
abbrev s_NoPerson_init : Stmt := inClass (topS 3) 0
abbrev n_NoPerson_init : List Str := ["self", "person"]
abbrev p_NoPerson_init : List Str := ["self", "person"]
theorem sc_NoPerson_init : FnScope n_NoPerson_init p_NoPerson_init (defScope s_NoPerson_init) := ⟨rfl, rfl, rfl, by decide +kernel, rfl, by decide +kernel, by decide +kernel⟩
abbrev s_is_number : Stmt := topS 6
abbrev n_is_number : List Str := ["thing"]
abbrev p_is_number : List Str := ["thing"]
theorem sc_is_number : FnScope n_is_number p_is_number (defScope s_is_number) := ⟨rfl, rfl, rfl, by decide +kernel, rfl, by decide +kernel, by decide +kernel⟩
abbrev s_is_person : Stmt := topS 7
abbrev n_is_person : List Str := ["many", "thing"]
abbrev p_is_person : List Str := ["many", "thing"]
theorem sc_is_person : FnScope n_is_person p_is_person (defScope s_is_person) := ⟨rfl, rfl, rfl, by decide +kernel, rfl, by decide +kernel, by decide +kernel⟩
abbrev s_are_persons : Stmt := topS 8
abbrev n_are_persons : List Str := ["many", "thing", "one"]
abbrev p_are_persons : List Str := ["many", "thing"]
theorem sc_are_persons : FnScope n_are_persons p_are_persons (defScope s_are_persons) := ⟨rfl, rfl, rfl, by decide +kernel, rfl, by decide +kernel, by decide +kernel⟩
abbrev s_rises : Stmt := topS 9
abbrev n_rises : List Str := ["things", "one", "other"]
abbrev p_rises : List Str := ["things"]
theorem sc_rises : FnScope n_rises p_rises (defScope s_rises) := ⟨rfl, rfl, rfl, by decide +kernel, rfl, by decide +kernel, by decide +kernel⟩
abbrev s_is_rule : Stmt := topS 12
abbrev n_is_rule : List Str := ["many", "thing", "parts", "part", "piece"]
abbrev p_is_rule : List Str := ["many", "thing"]
theorem sc_is_rule : FnScope n_is_rule p_is_rule (defScope s_is_rule) := ⟨rfl, rfl, rfl, by decide +kernel, rfl, by decide +kernel, by decide +kernel⟩
abbrev s_is_part : Stmt := topS 13
abbrev n_is_part : List Str := ["many", "part", "thing"]
abbrev p_is_part : List Str := ["many", "part", "thing"]
theorem sc_is_part : FnScope n_is_part p_is_part (defScope s_is_part) := ⟨rfl, rfl, rfl, by decide +kernel, rfl, by decide +kernel, by decide +kernel⟩
abbrev s_are_ties : Stmt := topS 14
abbrev n_are_ties : List Str := ["many", "thing", "one", "person", "weight"]
abbrev p_are_ties : List Str := ["many", "thing"]
theorem sc_are_ties : FnScope n_are_ties p_are_ties (defScope s_are_ties) := ⟨rfl, rfl, rfl, by decide +kernel, rfl, by decide +kernel, by decide +kernel⟩
abbrev s_is_tie : Stmt := topS 15
abbrev n_is_tie : List Str := ["many", "thing"]
abbrev p_is_tie : List Str := ["many", "thing"]
theorem sc_is_tie : FnScope n_is_tie p_is_tie (defScope s_is_tie) := ⟨rfl, rfl, rfl, by decide +kernel, rfl, by decide +kernel, by decide +kernel⟩
abbrev s_seen_by : Stmt := topS 16
abbrev n_seen_by : List Str := ["rule", "word", "person", "weight"]
abbrev p_seen_by : List Str := ["rule"]
theorem sc_seen_by : FnScope n_seen_by p_seen_by (defScope s_seen_by) := ⟨rfl, rfl, rfl, by decide +kernel, rfl, by decide +kernel, by decide +kernel⟩
abbrev s_Hall_init : Stmt := inClass (topS 18) 0
abbrev n_Hall_init : List Str := ["self", "rules", "person", "rule"]
abbrev p_Hall_init : List Str := ["self", "rules"]
theorem sc_Hall_init : FnScope n_Hall_init p_Hall_init (defScope s_Hall_init) := ⟨rfl, rfl, rfl, by decide +kernel, rfl, by decide +kernel, by decide +kernel⟩
abbrev s_Hall_must_have : Stmt := inClass (topS 18) 1
abbrev n_Hall_must_have : List Str := ["self", "person"]
abbrev p_Hall_must_have : List Str := ["self", "person"]
theorem sc_Hall_must_have : FnScope n_Hall_must_have p_Hall_must_have (defScope s_Hall_must_have) := ⟨rfl, rfl, rfl, by decide +kernel, rfl, by decide +kernel, by decide +kernel⟩
abbrev s_Hall_rules : Stmt := inClass (topS 18) 2
abbrev n_Hall_rules : List Str := ["self"]
abbrev p_Hall_rules : List Str := ["self"]
theorem sc_Hall_rules : FnScope n_Hall_rules p_Hall_rules (defScope s_Hall_rules) := ⟨rfl, rfl, rfl, by decide +kernel, rfl, by decide +kernel, by decide +kernel⟩
abbrev s_Hall_rule : Stmt := inClass (topS 18) 3
abbrev n_Hall_rule : List Str := ["self", "person"]
abbrev p_Hall_rule : List Str := ["self", "person"]
theorem sc_Hall_rule : FnScope n_Hall_rule p_Hall_rule (defScope s_Hall_rule) := ⟨rfl, rfl, rfl, by decide +kernel, rfl, by decide +kernel, by decide +kernel⟩
abbrev s_Hall_sees : Stmt := inClass (topS 18) 4
abbrev n_Hall_sees : List Str := ["self", "person"]
abbrev p_Hall_sees : List Str := ["self", "person"]
theorem sc_Hall_sees : FnScope n_Hall_sees p_Hall_sees (defScope s_Hall_sees) := ⟨rfl, rfl, rfl, by decide +kernel, rfl, by decide +kernel, by decide +kernel⟩
abbrev s_Hall_seers : Stmt := inClass (topS 18) 5
abbrev n_Hall_seers : List Str := ["self", "person", "other", "rule"]
abbrev p_Hall_seers : List Str := ["self", "person"]
theorem sc_Hall_seers : FnScope n_Hall_seers p_Hall_seers (defScope s_Hall_seers) := ⟨rfl, rfl, rfl, by decide +kernel, rfl, by decide +kernel, by decide +kernel⟩
abbrev s_Hall_eq : Stmt := inClass (topS 18) 6
abbrev n_Hall_eq : List Str := ["self", "other"]
abbrev p_Hall_eq : List Str := ["self", "other"]
theorem sc_Hall_eq : FnScope n_Hall_eq p_Hall_eq (defScope s_Hall_eq) := ⟨rfl, rfl, rfl, by decide +kernel, rfl, by decide +kernel, by decide +kernel⟩
abbrev s_Hall_len : Stmt := inClass (topS 18) 7
abbrev n_Hall_len : List Str := ["self"]
abbrev p_Hall_len : List Str := ["self"]
theorem sc_Hall_len : FnScope n_Hall_len p_Hall_len (defScope s_Hall_len) := ⟨rfl, rfl, rfl, by decide +kernel, rfl, by decide +kernel, by decide +kernel⟩
abbrev s_Hall_repr : Stmt := inClass (topS 18) 8
abbrev n_Hall_repr : List Str := ["self"]
abbrev p_Hall_repr : List Str := ["self"]
theorem sc_Hall_repr : FnScope n_Hall_repr p_Hall_repr (defScope s_Hall_repr) := ⟨rfl, rfl, rfl, by decide +kernel, rfl, by decide +kernel, by decide +kernel⟩
abbrev s_dip : Stmt := topS 20
abbrev n_dip : List Str := ["_law_script", "_law_k", "_law_cell"]
abbrev p_dip : List Str := ["_law_script", "_law_k"]
theorem sc_dip : FnScope n_dip p_dip (defScope s_dip) := ⟨rfl, rfl, rfl, by decide +kernel, rfl, by decide +kernel, by decide +kernel⟩
abbrev s_take : Stmt := topS 21
abbrev n_take : List Str := ["_law_box", "_law_many", "_law_found", "_law_once", "_law_pair"]
abbrev p_take : List Str := ["_law_box", "_law_many"]
theorem sc_take : FnScope n_take p_take (defScope s_take) := ⟨rfl, rfl, rfl, by decide +kernel, rfl, by decide +kernel, by decide +kernel⟩
abbrev s_folded : Stmt := topS 22
abbrev n_folded : List Str := ["_law_script", "_law_many", "_law_cells", "_law_k", "_law_cell"]
abbrev p_folded : List Str := ["_law_script", "_law_many"]
theorem sc_folded : FnScope n_folded p_folded (defScope s_folded) := ⟨rfl, rfl, rfl, by decide +kernel, rfl, by decide +kernel, by decide +kernel⟩
abbrev s_one_of : Stmt := topS 23
abbrev n_one_of : List Str := ["_law_box", "_law_pool"]
abbrev p_one_of : List Str := ["_law_box", "_law_pool"]
theorem sc_one_of : FnScope n_one_of p_one_of (defScope s_one_of) := ⟨rfl, rfl, rfl, by decide +kernel, rfl, by decide +kernel, by decide +kernel⟩
abbrev s_strewn : Stmt := topS 24
abbrev n_strewn : List Str := ["_law_box", "_law_pool", "_law_found", "_law_one"]
abbrev p_strewn : List Str := ["_law_box", "_law_pool"]
theorem sc_strewn : FnScope n_strewn p_strewn (defScope s_strewn) := ⟨rfl, rfl, rfl, by decide +kernel, rfl, by decide +kernel, by decide +kernel⟩
abbrev s_same : Stmt := topS 25
abbrev n_same : List Str := ["_law_found", "_law_due", "_law_one", "_law_two"]
abbrev p_same : List Str := ["_law_found", "_law_due"]
theorem sc_same : FnScope n_same p_same (defScope s_same) := ⟨rfl, rfl, rfl, by decide +kernel, rfl, by decide +kernel, by decide +kernel⟩
abbrev s_some : Stmt := topS 26
abbrev n_some : List Str := ["_law_box", "_law_pool", "_law_odds", "_law_one"]
abbrev p_some : List Str := ["_law_box", "_law_pool", "_law_odds"]
theorem sc_some : FnScope n_some p_some (defScope s_some) := ⟨rfl, rfl, rfl, by decide +kernel, rfl, by decide +kernel, by decide +kernel⟩
abbrev s_sum_rule : Stmt := topS 27
abbrev n_sum_rule : List Str := ["_law_box", "_law_seen_here", "_law_far", "_law_own", "_law_ties", "_law_one"]
abbrev p_sum_rule : List Str := ["_law_box", "_law_seen_here", "_law_far"]
theorem sc_sum_rule : FnScope n_sum_rule p_sum_rule (defScope s_sum_rule) := ⟨rfl, rfl, rfl, by decide +kernel, rfl, by decide +kernel, by decide +kernel⟩
abbrev s_rule : Stmt := topS 28
abbrev n_rule : List Str := ["_law_box", "_law_many", "_law_pool", "_law_far", "_law_seen_here", "_law_way"]
abbrev p_rule : List Str := ["_law_box", "_law_many", "_law_pool", "_law_far"]
theorem sc_rule : FnScope n_rule p_rule (defScope s_rule) := ⟨rfl, rfl, rfl, by decide +kernel, rfl, by decide +kernel, by decide +kernel⟩
abbrev s_hall : Stmt := topS 29
abbrev n_hall : List Str := ["_law_box", "_law_many", "_law_book", "_law_one", "_law_seen_here", "_law_other"]
abbrev p_hall : List Str := ["_law_box"]
theorem sc_hall : FnScope n_hall p_hall (defScope s_hall) := ⟨rfl, rfl, rfl, by decide +kernel, rfl, by decide +kernel, by decide +kernel⟩
abbrev s_flat : Stmt := topS 30
abbrev n_flat : List Str := ["_law_box", "_law_most", "_law_many", "_law_order", "_law_book", "_law_k", "_law_one"]
abbrev p_flat : List Str := ["_law_box", "_law_most"]
theorem sc_flat : FnScope n_flat p_flat (defScope s_flat) := ⟨rfl, rfl, rfl, by decide +kernel, rfl, by decide +kernel, by decide +kernel⟩
abbrev s_seen : Stmt := topS 31
abbrev n_seen : List Str := ["_law_rule_here", "_law_one"]
abbrev p_seen : List Str := ["_law_rule_here"]
theorem sc_seen : FnScope n_seen p_seen (defScope s_seen) := ⟨rfl, rfl, rfl, by decide +kernel, rfl, by decide +kernel, by decide +kernel⟩
abbrev s_no_person : Stmt := topS 32
abbrev n_no_person : List Str := ["_law_hall_here", "_law_word", "_law_one", "_law_caught", "_law_told", "error"]
abbrev p_no_person : List Str := ["_law_hall_here", "_law_word", "_law_one"]
theorem sc_no_person : FnScope n_no_person p_no_person (defScope s_no_person) := ⟨rfl, rfl, rfl, by decide +kernel, rfl, by decide +kernel, by decide +kernel⟩
abbrev s_bad : Stmt := topS 33
abbrev n_bad : List Str := ["_law_book", "_law_caught", "error"]
abbrev p_bad : List Str := ["_law_book"]
theorem sc_bad : FnScope n_bad p_bad (defScope s_bad) := ⟨rfl, rfl, rfl, by decide +kernel, rfl, by decide +kernel, by decide +kernel⟩
abbrev s_right : Stmt := topS 34
abbrev n_right : List Str := ["_law_box", "_law_turn", "_law_book", "_law_many", "_law_given", "_law_hall_here", "_law_one", "_law_seen_here", "_law_other", "_law_weight", "_law_seers", "_law_its", "_law_told", "_law_name", "_law_at", "_law_spots", "_law_k", "_law_odds", "_law_odd", "_law_word"]
abbrev p_right : List Str := ["_law_box"]
theorem sc_right : FnScope n_right p_right (defScope s_right) := ⟨rfl, rfl, rfl, by decide +kernel, rfl, by decide +kernel, by decide +kernel⟩
abbrev s_law : Stmt := topS 35
abbrev n_law : List Str := ["_law_script", "_law_cells", "_law_k"]
abbrev p_law : List Str := ["_law_script"]
theorem sc_law : FnScope n_law p_law (defScope s_law) := ⟨rfl, rfl, rfl, by decide +kernel, rfl, by decide +kernel, by decide +kernel⟩
structure FnT (K : PySem.W.Frag) (nm qual : Str) (st : Stmt) (ps : List Str) where
  f : Addr
  fd : FuncData
  F : Fun K nm qual st f fd
  b : Binds K fd ps []
structure Txt (K : PySem.W.Frag) (mg : Str → Option Value) (w : World) where
  t_BadHall_init : FnT K "__init__" "BadHall.__init__" s_BadHall_init p_BadHall_init
  t_NoPerson_init : FnT K "__init__" "NoPerson.__init__" s_NoPerson_init p_NoPerson_init
  t_is_number : FnT K "is_number" "is_number" s_is_number p_is_number
  g_is_number : mg "is_number" = some (.ref t_is_number.f)
  t_is_person : FnT K "is_person" "is_person" s_is_person p_is_person
  g_is_person : mg "is_person" = some (.ref t_is_person.f)
  t_are_persons : FnT K "are_persons" "are_persons" s_are_persons p_are_persons
  g_are_persons : mg "are_persons" = some (.ref t_are_persons.f)
  t_rises : FnT K "rises" "rises" s_rises p_rises
  g_rises : mg "rises" = some (.ref t_rises.f)
  t_is_rule : FnT K "is_rule" "is_rule" s_is_rule p_is_rule
  g_is_rule : mg "is_rule" = some (.ref t_is_rule.f)
  t_is_part : FnT K "is_part" "is_part" s_is_part p_is_part
  g_is_part : mg "is_part" = some (.ref t_is_part.f)
  t_are_ties : FnT K "are_ties" "are_ties" s_are_ties p_are_ties
  g_are_ties : mg "are_ties" = some (.ref t_are_ties.f)
  t_is_tie : FnT K "is_tie" "is_tie" s_is_tie p_is_tie
  g_is_tie : mg "is_tie" = some (.ref t_is_tie.f)
  t_seen_by : FnT K "seen_by" "seen_by" s_seen_by p_seen_by
  g_seen_by : mg "seen_by" = some (.ref t_seen_by.f)
  t_Hall_init : FnT K "__init__" "Hall.__init__" s_Hall_init p_Hall_init
  kb_Hall_init : KBn K t_Hall_init.fd p_Hall_init 1 ["rules"] (fun us ws => us ++ ws) (fun vs zs => vs ++ zs)
  t_Hall_must_have : FnT K "must_have" "Hall.must_have" s_Hall_must_have p_Hall_must_have
  t_Hall_rules : FnT K "rules" "Hall.rules" s_Hall_rules p_Hall_rules
  t_Hall_rule : FnT K "rule" "Hall.rule" s_Hall_rule p_Hall_rule
  t_Hall_sees : FnT K "sees" "Hall.sees" s_Hall_sees p_Hall_sees
  kb_Hall_sees : KBn K t_Hall_sees.fd p_Hall_sees 1 ["person"] (fun us ws => us ++ ws) (fun vs zs => vs ++ zs)
  t_Hall_seers : FnT K "seers" "Hall.seers" s_Hall_seers p_Hall_seers
  t_Hall_eq : FnT K "__eq__" "Hall.__eq__" s_Hall_eq p_Hall_eq
  t_Hall_len : FnT K "__len__" "Hall.__len__" s_Hall_len p_Hall_len
  t_Hall_repr : FnT K "__repr__" "Hall.__repr__" s_Hall_repr p_Hall_repr
  t_dip : FnT K "_law_dip" "_law_dip" s_dip p_dip
  g_dip : mg "_law_dip" = some (.ref t_dip.f)
  t_take : FnT K "_law_take" "_law_take" s_take p_take
  g_take : mg "_law_take" = some (.ref t_take.f)
  t_folded : FnT K "_law_folded" "_law_folded" s_folded p_folded
  g_folded : mg "_law_folded" = some (.ref t_folded.f)
  t_one_of : FnT K "_law_one_of" "_law_one_of" s_one_of p_one_of
  g_one_of : mg "_law_one_of" = some (.ref t_one_of.f)
  t_strewn : FnT K "_law_strewn" "_law_strewn" s_strewn p_strewn
  g_strewn : mg "_law_strewn" = some (.ref t_strewn.f)
  t_same : FnT K "_law_same" "_law_same" s_same p_same
  g_same : mg "_law_same" = some (.ref t_same.f)
  t_some : FnT K "_law_some" "_law_some" s_some p_some
  g_some : mg "_law_some" = some (.ref t_some.f)
  t_sum_rule : FnT K "_law_sum_rule" "_law_sum_rule" s_sum_rule p_sum_rule
  g_sum_rule : mg "_law_sum_rule" = some (.ref t_sum_rule.f)
  t_rule : FnT K "_law_rule" "_law_rule" s_rule p_rule
  g_rule : mg "_law_rule" = some (.ref t_rule.f)
  t_hall : FnT K "_law_hall" "_law_hall" s_hall p_hall
  g_hall : mg "_law_hall" = some (.ref t_hall.f)
  t_flat : FnT K "_law_flat" "_law_flat" s_flat p_flat
  g_flat : mg "_law_flat" = some (.ref t_flat.f)
  t_seen : FnT K "_law_seen" "_law_seen" s_seen p_seen
  g_seen : mg "_law_seen" = some (.ref t_seen.f)
  t_no_person : FnT K "_law_no_person" "_law_no_person" s_no_person p_no_person
  g_no_person : mg "_law_no_person" = some (.ref t_no_person.f)
  t_bad : FnT K "_law_bad" "_law_bad" s_bad p_bad
  g_bad : mg "_law_bad" = some (.ref t_bad.f)
  t_right : FnT K "_law_right" "_law_right" s_right p_right
  g_right : mg "_law_right" = some (.ref t_right.f)
  t_law : FnT K "law" "law" s_law p_law
  g_law : mg "law" = some (.ref t_law.f)
  C_Hall : Addr
  g_Hall : mg "Hall" = some (.ref C_Hall)
  cl_Hall : Cls K C_Hall
  mk_Hall : Mk K C_Hall t_Hall_init.f
  me_Hall_init : Meth K C_Hall "__init__" t_Hall_init.f
  me_Hall_must_have : Meth K C_Hall "must_have" t_Hall_must_have.f
  me_Hall_rules : Meth K C_Hall "rules" t_Hall_rules.f
  me_Hall_rule : Meth K C_Hall "rule" t_Hall_rule.f
  me_Hall_sees : Meth K C_Hall "sees" t_Hall_sees.f
  me_Hall_seers : Meth K C_Hall "seers" t_Hall_seers.f
  me_Hall_eq : Meth K C_Hall "__eq__" t_Hall_eq.f
  me_Hall_len : Meth K C_Hall "__len__" t_Hall_len.f
  me_Hall_repr : Meth K C_Hall "__repr__" t_Hall_repr.f
  na_Hall_kept : NoAttr K C_Hall "kept"
  ne_Hall : PySem.W.findIn K (.ref C_Hall) "__ne__" = some (some (.builtin "object.__ne__"))
  is_Hall : C8.InsC K C_Hall
  ty_Hall : PySem.W.typeIn K (.ref C_Hall) = some (.type "type")
  C_BadRow : Addr
  g_BadRow : mg "BadRow" = some (.ref C_BadRow)
  C_NoRest : Addr
  g_NoRest : mg "NoRest" = some (.ref C_NoRest)
  C_BadHall : Addr
  g_BadHall : mg "BadHall" = some (.ref C_BadHall)
  C_NoPerson : Addr
  g_NoPerson : mg "NoPerson" = some (.ref C_NoPerson)
  ox_BadHall : OexC K C_BadHall
  me_BadHall_init : Meth K C_BadHall "__init__" t_BadHall_init.f
  ti_BadHall : PySem.W.typeIn K (.ref t_BadHall_init.f) = some (.type "function")
  na_BadHall_person : PySem.W.findIn K (.ref C_BadHall) "person" = some none
  xf_BadHall : XfC K C_BadHall
  xc_BadHall : ExcC K C_BadHall
  em_BadHall_NoPerson : PySem.W.exmOne K (.ref C_BadHall) (.ref C_NoPerson) = some false
  em_BadHall_NoRest : PySem.W.exmOne K (.ref C_BadHall) (.ref C_NoRest) = some false
  em_BadHall_BadHall : PySem.W.exmOne K (.ref C_BadHall) (.ref C_BadHall) = some true
  em_BadHall_BadRow : PySem.W.exmOne K (.ref C_BadHall) (.ref C_BadRow) = some false
  ki_BadHall_NoPerson : PySem.W.kitOne K (.ref C_BadHall) (.ref C_NoPerson) = some false
  ki_BadHall_IndexError : PySem.W.kitOne K (.ref C_BadHall) (.type "IndexError") = some false
  ki_BadHall_BadHall : PySem.W.kitOne K (.ref C_BadHall) (.ref C_BadHall) = some true
  ki_BadHall_ValueError : PySem.W.kitOne K (.ref C_BadHall) (.type "ValueError") = some true
  ox_NoPerson : OvC K C_NoPerson "IndexError" "IndexError.__new__" "IndexError.__init__" [.type "IndexError", .type "LookupError", .type "Exception", .type "BaseException", .type "object"]
  me_NoPerson_init : Meth K C_NoPerson "__init__" t_NoPerson_init.f
  ti_NoPerson : PySem.W.typeIn K (.ref t_NoPerson_init.f) = some (.type "function")
  na_NoPerson_person : PySem.W.findIn K (.ref C_NoPerson) "person" = some none
  xf_NoPerson : XfC K C_NoPerson
  xc_NoPerson : ExcC K C_NoPerson
  em_NoPerson_NoPerson : PySem.W.exmOne K (.ref C_NoPerson) (.ref C_NoPerson) = some true
  em_NoPerson_NoRest : PySem.W.exmOne K (.ref C_NoPerson) (.ref C_NoRest) = some false
  em_NoPerson_BadHall : PySem.W.exmOne K (.ref C_NoPerson) (.ref C_BadHall) = some false
  em_NoPerson_BadRow : PySem.W.exmOne K (.ref C_NoPerson) (.ref C_BadRow) = some false
  ki_NoPerson_NoPerson : PySem.W.kitOne K (.ref C_NoPerson) (.ref C_NoPerson) = some true
  ki_NoPerson_IndexError : PySem.W.kitOne K (.ref C_NoPerson) (.type "IndexError") = some true
  ki_NoPerson_BadHall : PySem.W.kitOne K (.ref C_NoPerson) (.ref C_BadHall) = some false
  ki_NoPerson_ValueError : PySem.W.kitOne K (.ref C_NoPerson) (.type "ValueError") = some false
  vi_IndexError : PySem.W.findCls K (.type "IndexError") (.type "type") "__init__" = some (.val (.builtin "IndexError.__init__"))
  vi_ValueError : PySem.W.findCls K (.type "ValueError") (.type "type") "__init__" = some (.val (.builtin "ValueError.__init__"))
  D_PARTS : Addr
  g_PARTS : mg "PARTS" = some (.ref D_PARTS)
  es_PARTS : Array DictEntry
  en_PARTS : Nat
  kd_PARTS : KDict K w D_PARTS es_PARTS en_PARTS
  t_PARTS_held : Addr
  dk_PARTS_held : PySem.W.nsIn K D_PARTS "held" = some (some (.ref t_PARTS_held))
  sq_PARTS_held : ∀ H, SqT K H t_PARTS_held [.str "number"]
  t_PARTS_sum : Addr
  dk_PARTS_sum : PySem.W.nsIn K D_PARTS "sum" = some (some (.ref t_PARTS_sum))
  sq_PARTS_sum : ∀ H, SqT K H t_PARTS_sum [.str "number", .str "ties"]
  t_PARTS_cap : Addr
  dk_PARTS_cap : PySem.W.nsIn K D_PARTS "cap" = some (some (.ref t_PARTS_cap))
  sq_PARTS_cap : ∀ H, SqT K H t_PARTS_cap [.str "number", .str "ties", .str "number"]
  t_PARTS_kinds : Addr
  dk_PARTS_kinds : PySem.W.nsIn K D_PARTS "kinds" = some (some (.ref t_PARTS_kinds))
  sq_PARTS_kinds : ∀ H, SqT K H t_PARTS_kinds [.str "number", .str "seen"]
  t_PARTS_next : Addr
  dk_PARTS_next : PySem.W.nsIn K D_PARTS "next" = some (some (.ref t_PARTS_next))
  sq_PARTS_next : ∀ H, SqT K H t_PARTS_next [.str "seen"]
  t_PARTS_free : Addr
  dk_PARTS_free : PySem.W.nsIn K D_PARTS "free" = some (some (.ref t_PARTS_free))
  sq_PARTS_free : ∀ H, SqT K H t_PARTS_free [.str "seen"]
  dn_PARTS : PySem.W.nsIn K D_PARTS "" = some none
  m_IndexError : mg "IndexError" = none
  m_ValueError : mg "ValueError" = none
  m_abs : mg "abs" = none
  m_all : mg "all" = none
  m_bool : mg "bool" = none
  m_enumerate : mg "enumerate" = none
  m_int : mg "int" = none
  m_isinstance : mg "isinstance" = none
  m_len : mg "len" = none
  m_list : mg "list" = none
  m_max : mg "max" = none
  m_range : mg "range" = none
  m_repr : mg "repr" = none
  m_sorted : mg "sorted" = none
  m_str : mg "str" = none
  m_tuple : mg "tuple" = none
  m_zip : mg "zip" = none
abbrev Txt.f_BadHall_init {K : PySem.W.Frag} {mg : Str → Option Value} {w : World} (T : Txt K mg w) : Addr := T.t_BadHall_init.f
abbrev Txt.fd_BadHall_init {K : PySem.W.Frag} {mg : Str → Option Value} {w : World} (T : Txt K mg w) : FuncData := T.t_BadHall_init.fd
theorem Txt.F_BadHall_init {K : PySem.W.Frag} {mg : Str → Option Value} {w : World} (T : Txt K mg w) : Fun K "__init__" "BadHall.__init__" s_BadHall_init T.f_BadHall_init T.fd_BadHall_init := T.t_BadHall_init.F
theorem Txt.b_BadHall_init {K : PySem.W.Frag} {mg : Str → Option Value} {w : World} (T : Txt K mg w) : Binds K T.fd_BadHall_init p_BadHall_init [] := T.t_BadHall_init.b
abbrev Txt.f_NoPerson_init {K : PySem.W.Frag} {mg : Str → Option Value} {w : World} (T : Txt K mg w) : Addr := T.t_NoPerson_init.f
abbrev Txt.fd_NoPerson_init {K : PySem.W.Frag} {mg : Str → Option Value} {w : World} (T : Txt K mg w) : FuncData := T.t_NoPerson_init.fd
theorem Txt.F_NoPerson_init {K : PySem.W.Frag} {mg : Str → Option Value} {w : World} (T : Txt K mg w) : Fun K "__init__" "NoPerson.__init__" s_NoPerson_init T.f_NoPerson_init T.fd_NoPerson_init := T.t_NoPerson_init.F
theorem Txt.b_NoPerson_init {K : PySem.W.Frag} {mg : Str → Option Value} {w : World} (T : Txt K mg w) : Binds K T.fd_NoPerson_init p_NoPerson_init [] := T.t_NoPerson_init.b
abbrev Txt.f_is_number {K : PySem.W.Frag} {mg : Str → Option Value} {w : World} (T : Txt K mg w) : Addr := T.t_is_number.f
abbrev Txt.fd_is_number {K : PySem.W.Frag} {mg : Str → Option Value} {w : World} (T : Txt K mg w) : FuncData := T.t_is_number.fd
theorem Txt.F_is_number {K : PySem.W.Frag} {mg : Str → Option Value} {w : World} (T : Txt K mg w) : Fun K "is_number" "is_number" s_is_number T.f_is_number T.fd_is_number := T.t_is_number.F
theorem Txt.b_is_number {K : PySem.W.Frag} {mg : Str → Option Value} {w : World} (T : Txt K mg w) : Binds K T.fd_is_number p_is_number [] := T.t_is_number.b
abbrev Txt.f_is_person {K : PySem.W.Frag} {mg : Str → Option Value} {w : World} (T : Txt K mg w) : Addr := T.t_is_person.f
abbrev Txt.fd_is_person {K : PySem.W.Frag} {mg : Str → Option Value} {w : World} (T : Txt K mg w) : FuncData := T.t_is_person.fd
theorem Txt.F_is_person {K : PySem.W.Frag} {mg : Str → Option Value} {w : World} (T : Txt K mg w) : Fun K "is_person" "is_person" s_is_person T.f_is_person T.fd_is_person := T.t_is_person.F
theorem Txt.b_is_person {K : PySem.W.Frag} {mg : Str → Option Value} {w : World} (T : Txt K mg w) : Binds K T.fd_is_person p_is_person [] := T.t_is_person.b
abbrev Txt.f_are_persons {K : PySem.W.Frag} {mg : Str → Option Value} {w : World} (T : Txt K mg w) : Addr := T.t_are_persons.f
abbrev Txt.fd_are_persons {K : PySem.W.Frag} {mg : Str → Option Value} {w : World} (T : Txt K mg w) : FuncData := T.t_are_persons.fd
theorem Txt.F_are_persons {K : PySem.W.Frag} {mg : Str → Option Value} {w : World} (T : Txt K mg w) : Fun K "are_persons" "are_persons" s_are_persons T.f_are_persons T.fd_are_persons := T.t_are_persons.F
theorem Txt.b_are_persons {K : PySem.W.Frag} {mg : Str → Option Value} {w : World} (T : Txt K mg w) : Binds K T.fd_are_persons p_are_persons [] := T.t_are_persons.b
abbrev Txt.f_rises {K : PySem.W.Frag} {mg : Str → Option Value} {w : World} (T : Txt K mg w) : Addr := T.t_rises.f
abbrev Txt.fd_rises {K : PySem.W.Frag} {mg : Str → Option Value} {w : World} (T : Txt K mg w) : FuncData := T.t_rises.fd
theorem Txt.F_rises {K : PySem.W.Frag} {mg : Str → Option Value} {w : World} (T : Txt K mg w) : Fun K "rises" "rises" s_rises T.f_rises T.fd_rises := T.t_rises.F
theorem Txt.b_rises {K : PySem.W.Frag} {mg : Str → Option Value} {w : World} (T : Txt K mg w) : Binds K T.fd_rises p_rises [] := T.t_rises.b
abbrev Txt.f_is_rule {K : PySem.W.Frag} {mg : Str → Option Value} {w : World} (T : Txt K mg w) : Addr := T.t_is_rule.f
abbrev Txt.fd_is_rule {K : PySem.W.Frag} {mg : Str → Option Value} {w : World} (T : Txt K mg w) : FuncData := T.t_is_rule.fd
theorem Txt.F_is_rule {K : PySem.W.Frag} {mg : Str → Option Value} {w : World} (T : Txt K mg w) : Fun K "is_rule" "is_rule" s_is_rule T.f_is_rule T.fd_is_rule := T.t_is_rule.F
theorem Txt.b_is_rule {K : PySem.W.Frag} {mg : Str → Option Value} {w : World} (T : Txt K mg w) : Binds K T.fd_is_rule p_is_rule [] := T.t_is_rule.b
abbrev Txt.f_is_part {K : PySem.W.Frag} {mg : Str → Option Value} {w : World} (T : Txt K mg w) : Addr := T.t_is_part.f
abbrev Txt.fd_is_part {K : PySem.W.Frag} {mg : Str → Option Value} {w : World} (T : Txt K mg w) : FuncData := T.t_is_part.fd
theorem Txt.F_is_part {K : PySem.W.Frag} {mg : Str → Option Value} {w : World} (T : Txt K mg w) : Fun K "is_part" "is_part" s_is_part T.f_is_part T.fd_is_part := T.t_is_part.F
theorem Txt.b_is_part {K : PySem.W.Frag} {mg : Str → Option Value} {w : World} (T : Txt K mg w) : Binds K T.fd_is_part p_is_part [] := T.t_is_part.b
abbrev Txt.f_are_ties {K : PySem.W.Frag} {mg : Str → Option Value} {w : World} (T : Txt K mg w) : Addr := T.t_are_ties.f
abbrev Txt.fd_are_ties {K : PySem.W.Frag} {mg : Str → Option Value} {w : World} (T : Txt K mg w) : FuncData := T.t_are_ties.fd
theorem Txt.F_are_ties {K : PySem.W.Frag} {mg : Str → Option Value} {w : World} (T : Txt K mg w) : Fun K "are_ties" "are_ties" s_are_ties T.f_are_ties T.fd_are_ties := T.t_are_ties.F
theorem Txt.b_are_ties {K : PySem.W.Frag} {mg : Str → Option Value} {w : World} (T : Txt K mg w) : Binds K T.fd_are_ties p_are_ties [] := T.t_are_ties.b
abbrev Txt.f_is_tie {K : PySem.W.Frag} {mg : Str → Option Value} {w : World} (T : Txt K mg w) : Addr := T.t_is_tie.f
abbrev Txt.fd_is_tie {K : PySem.W.Frag} {mg : Str → Option Value} {w : World} (T : Txt K mg w) : FuncData := T.t_is_tie.fd
theorem Txt.F_is_tie {K : PySem.W.Frag} {mg : Str → Option Value} {w : World} (T : Txt K mg w) : Fun K "is_tie" "is_tie" s_is_tie T.f_is_tie T.fd_is_tie := T.t_is_tie.F
theorem Txt.b_is_tie {K : PySem.W.Frag} {mg : Str → Option Value} {w : World} (T : Txt K mg w) : Binds K T.fd_is_tie p_is_tie [] := T.t_is_tie.b
abbrev Txt.f_seen_by {K : PySem.W.Frag} {mg : Str → Option Value} {w : World} (T : Txt K mg w) : Addr := T.t_seen_by.f
abbrev Txt.fd_seen_by {K : PySem.W.Frag} {mg : Str → Option Value} {w : World} (T : Txt K mg w) : FuncData := T.t_seen_by.fd
theorem Txt.F_seen_by {K : PySem.W.Frag} {mg : Str → Option Value} {w : World} (T : Txt K mg w) : Fun K "seen_by" "seen_by" s_seen_by T.f_seen_by T.fd_seen_by := T.t_seen_by.F
theorem Txt.b_seen_by {K : PySem.W.Frag} {mg : Str → Option Value} {w : World} (T : Txt K mg w) : Binds K T.fd_seen_by p_seen_by [] := T.t_seen_by.b
abbrev Txt.f_Hall_init {K : PySem.W.Frag} {mg : Str → Option Value} {w : World} (T : Txt K mg w) : Addr := T.t_Hall_init.f
abbrev Txt.fd_Hall_init {K : PySem.W.Frag} {mg : Str → Option Value} {w : World} (T : Txt K mg w) : FuncData := T.t_Hall_init.fd
theorem Txt.F_Hall_init {K : PySem.W.Frag} {mg : Str → Option Value} {w : World} (T : Txt K mg w) : Fun K "__init__" "Hall.__init__" s_Hall_init T.f_Hall_init T.fd_Hall_init := T.t_Hall_init.F
theorem Txt.b_Hall_init {K : PySem.W.Frag} {mg : Str → Option Value} {w : World} (T : Txt K mg w) : Binds K T.fd_Hall_init p_Hall_init [] := T.t_Hall_init.b
abbrev Txt.f_Hall_must_have {K : PySem.W.Frag} {mg : Str → Option Value} {w : World} (T : Txt K mg w) : Addr := T.t_Hall_must_have.f
abbrev Txt.fd_Hall_must_have {K : PySem.W.Frag} {mg : Str → Option Value} {w : World} (T : Txt K mg w) : FuncData := T.t_Hall_must_have.fd
theorem Txt.F_Hall_must_have {K : PySem.W.Frag} {mg : Str → Option Value} {w : World} (T : Txt K mg w) : Fun K "must_have" "Hall.must_have" s_Hall_must_have T.f_Hall_must_have T.fd_Hall_must_have := T.t_Hall_must_have.F
theorem Txt.b_Hall_must_have {K : PySem.W.Frag} {mg : Str → Option Value} {w : World} (T : Txt K mg w) : Binds K T.fd_Hall_must_have p_Hall_must_have [] := T.t_Hall_must_have.b
abbrev Txt.f_Hall_rules {K : PySem.W.Frag} {mg : Str → Option Value} {w : World} (T : Txt K mg w) : Addr := T.t_Hall_rules.f
abbrev Txt.fd_Hall_rules {K : PySem.W.Frag} {mg : Str → Option Value} {w : World} (T : Txt K mg w) : FuncData := T.t_Hall_rules.fd
theorem Txt.F_Hall_rules {K : PySem.W.Frag} {mg : Str → Option Value} {w : World} (T : Txt K mg w) : Fun K "rules" "Hall.rules" s_Hall_rules T.f_Hall_rules T.fd_Hall_rules := T.t_Hall_rules.F
theorem Txt.b_Hall_rules {K : PySem.W.Frag} {mg : Str → Option Value} {w : World} (T : Txt K mg w) : Binds K T.fd_Hall_rules p_Hall_rules [] := T.t_Hall_rules.b
abbrev Txt.f_Hall_rule {K : PySem.W.Frag} {mg : Str → Option Value} {w : World} (T : Txt K mg w) : Addr := T.t_Hall_rule.f
abbrev Txt.fd_Hall_rule {K : PySem.W.Frag} {mg : Str → Option Value} {w : World} (T : Txt K mg w) : FuncData := T.t_Hall_rule.fd
theorem Txt.F_Hall_rule {K : PySem.W.Frag} {mg : Str → Option Value} {w : World} (T : Txt K mg w) : Fun K "rule" "Hall.rule" s_Hall_rule T.f_Hall_rule T.fd_Hall_rule := T.t_Hall_rule.F
theorem Txt.b_Hall_rule {K : PySem.W.Frag} {mg : Str → Option Value} {w : World} (T : Txt K mg w) : Binds K T.fd_Hall_rule p_Hall_rule [] := T.t_Hall_rule.b
abbrev Txt.f_Hall_sees {K : PySem.W.Frag} {mg : Str → Option Value} {w : World} (T : Txt K mg w) : Addr := T.t_Hall_sees.f
abbrev Txt.fd_Hall_sees {K : PySem.W.Frag} {mg : Str → Option Value} {w : World} (T : Txt K mg w) : FuncData := T.t_Hall_sees.fd
theorem Txt.F_Hall_sees {K : PySem.W.Frag} {mg : Str → Option Value} {w : World} (T : Txt K mg w) : Fun K "sees" "Hall.sees" s_Hall_sees T.f_Hall_sees T.fd_Hall_sees := T.t_Hall_sees.F
theorem Txt.b_Hall_sees {K : PySem.W.Frag} {mg : Str → Option Value} {w : World} (T : Txt K mg w) : Binds K T.fd_Hall_sees p_Hall_sees [] := T.t_Hall_sees.b
abbrev Txt.f_Hall_seers {K : PySem.W.Frag} {mg : Str → Option Value} {w : World} (T : Txt K mg w) : Addr := T.t_Hall_seers.f
abbrev Txt.fd_Hall_seers {K : PySem.W.Frag} {mg : Str → Option Value} {w : World} (T : Txt K mg w) : FuncData := T.t_Hall_seers.fd
theorem Txt.F_Hall_seers {K : PySem.W.Frag} {mg : Str → Option Value} {w : World} (T : Txt K mg w) : Fun K "seers" "Hall.seers" s_Hall_seers T.f_Hall_seers T.fd_Hall_seers := T.t_Hall_seers.F
theorem Txt.b_Hall_seers {K : PySem.W.Frag} {mg : Str → Option Value} {w : World} (T : Txt K mg w) : Binds K T.fd_Hall_seers p_Hall_seers [] := T.t_Hall_seers.b
abbrev Txt.f_Hall_eq {K : PySem.W.Frag} {mg : Str → Option Value} {w : World} (T : Txt K mg w) : Addr := T.t_Hall_eq.f
abbrev Txt.fd_Hall_eq {K : PySem.W.Frag} {mg : Str → Option Value} {w : World} (T : Txt K mg w) : FuncData := T.t_Hall_eq.fd
theorem Txt.F_Hall_eq {K : PySem.W.Frag} {mg : Str → Option Value} {w : World} (T : Txt K mg w) : Fun K "__eq__" "Hall.__eq__" s_Hall_eq T.f_Hall_eq T.fd_Hall_eq := T.t_Hall_eq.F
theorem Txt.b_Hall_eq {K : PySem.W.Frag} {mg : Str → Option Value} {w : World} (T : Txt K mg w) : Binds K T.fd_Hall_eq p_Hall_eq [] := T.t_Hall_eq.b
abbrev Txt.f_Hall_len {K : PySem.W.Frag} {mg : Str → Option Value} {w : World} (T : Txt K mg w) : Addr := T.t_Hall_len.f
abbrev Txt.fd_Hall_len {K : PySem.W.Frag} {mg : Str → Option Value} {w : World} (T : Txt K mg w) : FuncData := T.t_Hall_len.fd
theorem Txt.F_Hall_len {K : PySem.W.Frag} {mg : Str → Option Value} {w : World} (T : Txt K mg w) : Fun K "__len__" "Hall.__len__" s_Hall_len T.f_Hall_len T.fd_Hall_len := T.t_Hall_len.F
theorem Txt.b_Hall_len {K : PySem.W.Frag} {mg : Str → Option Value} {w : World} (T : Txt K mg w) : Binds K T.fd_Hall_len p_Hall_len [] := T.t_Hall_len.b
abbrev Txt.f_Hall_repr {K : PySem.W.Frag} {mg : Str → Option Value} {w : World} (T : Txt K mg w) : Addr := T.t_Hall_repr.f
abbrev Txt.fd_Hall_repr {K : PySem.W.Frag} {mg : Str → Option Value} {w : World} (T : Txt K mg w) : FuncData := T.t_Hall_repr.fd
theorem Txt.F_Hall_repr {K : PySem.W.Frag} {mg : Str → Option Value} {w : World} (T : Txt K mg w) : Fun K "__repr__" "Hall.__repr__" s_Hall_repr T.f_Hall_repr T.fd_Hall_repr := T.t_Hall_repr.F
theorem Txt.b_Hall_repr {K : PySem.W.Frag} {mg : Str → Option Value} {w : World} (T : Txt K mg w) : Binds K T.fd_Hall_repr p_Hall_repr [] := T.t_Hall_repr.b
abbrev Txt.f_dip {K : PySem.W.Frag} {mg : Str → Option Value} {w : World} (T : Txt K mg w) : Addr := T.t_dip.f
abbrev Txt.fd_dip {K : PySem.W.Frag} {mg : Str → Option Value} {w : World} (T : Txt K mg w) : FuncData := T.t_dip.fd
theorem Txt.F_dip {K : PySem.W.Frag} {mg : Str → Option Value} {w : World} (T : Txt K mg w) : Fun K "_law_dip" "_law_dip" s_dip T.f_dip T.fd_dip := T.t_dip.F
theorem Txt.b_dip {K : PySem.W.Frag} {mg : Str → Option Value} {w : World} (T : Txt K mg w) : Binds K T.fd_dip p_dip [] := T.t_dip.b
abbrev Txt.f_take {K : PySem.W.Frag} {mg : Str → Option Value} {w : World} (T : Txt K mg w) : Addr := T.t_take.f
abbrev Txt.fd_take {K : PySem.W.Frag} {mg : Str → Option Value} {w : World} (T : Txt K mg w) : FuncData := T.t_take.fd
theorem Txt.F_take {K : PySem.W.Frag} {mg : Str → Option Value} {w : World} (T : Txt K mg w) : Fun K "_law_take" "_law_take" s_take T.f_take T.fd_take := T.t_take.F
theorem Txt.b_take {K : PySem.W.Frag} {mg : Str → Option Value} {w : World} (T : Txt K mg w) : Binds K T.fd_take p_take [] := T.t_take.b
abbrev Txt.f_folded {K : PySem.W.Frag} {mg : Str → Option Value} {w : World} (T : Txt K mg w) : Addr := T.t_folded.f
abbrev Txt.fd_folded {K : PySem.W.Frag} {mg : Str → Option Value} {w : World} (T : Txt K mg w) : FuncData := T.t_folded.fd
theorem Txt.F_folded {K : PySem.W.Frag} {mg : Str → Option Value} {w : World} (T : Txt K mg w) : Fun K "_law_folded" "_law_folded" s_folded T.f_folded T.fd_folded := T.t_folded.F
theorem Txt.b_folded {K : PySem.W.Frag} {mg : Str → Option Value} {w : World} (T : Txt K mg w) : Binds K T.fd_folded p_folded [] := T.t_folded.b
abbrev Txt.f_one_of {K : PySem.W.Frag} {mg : Str → Option Value} {w : World} (T : Txt K mg w) : Addr := T.t_one_of.f
abbrev Txt.fd_one_of {K : PySem.W.Frag} {mg : Str → Option Value} {w : World} (T : Txt K mg w) : FuncData := T.t_one_of.fd
theorem Txt.F_one_of {K : PySem.W.Frag} {mg : Str → Option Value} {w : World} (T : Txt K mg w) : Fun K "_law_one_of" "_law_one_of" s_one_of T.f_one_of T.fd_one_of := T.t_one_of.F
theorem Txt.b_one_of {K : PySem.W.Frag} {mg : Str → Option Value} {w : World} (T : Txt K mg w) : Binds K T.fd_one_of p_one_of [] := T.t_one_of.b
abbrev Txt.f_strewn {K : PySem.W.Frag} {mg : Str → Option Value} {w : World} (T : Txt K mg w) : Addr := T.t_strewn.f
abbrev Txt.fd_strewn {K : PySem.W.Frag} {mg : Str → Option Value} {w : World} (T : Txt K mg w) : FuncData := T.t_strewn.fd
theorem Txt.F_strewn {K : PySem.W.Frag} {mg : Str → Option Value} {w : World} (T : Txt K mg w) : Fun K "_law_strewn" "_law_strewn" s_strewn T.f_strewn T.fd_strewn := T.t_strewn.F
theorem Txt.b_strewn {K : PySem.W.Frag} {mg : Str → Option Value} {w : World} (T : Txt K mg w) : Binds K T.fd_strewn p_strewn [] := T.t_strewn.b
abbrev Txt.f_same {K : PySem.W.Frag} {mg : Str → Option Value} {w : World} (T : Txt K mg w) : Addr := T.t_same.f
abbrev Txt.fd_same {K : PySem.W.Frag} {mg : Str → Option Value} {w : World} (T : Txt K mg w) : FuncData := T.t_same.fd
theorem Txt.F_same {K : PySem.W.Frag} {mg : Str → Option Value} {w : World} (T : Txt K mg w) : Fun K "_law_same" "_law_same" s_same T.f_same T.fd_same := T.t_same.F
theorem Txt.b_same {K : PySem.W.Frag} {mg : Str → Option Value} {w : World} (T : Txt K mg w) : Binds K T.fd_same p_same [] := T.t_same.b
abbrev Txt.f_some {K : PySem.W.Frag} {mg : Str → Option Value} {w : World} (T : Txt K mg w) : Addr := T.t_some.f
abbrev Txt.fd_some {K : PySem.W.Frag} {mg : Str → Option Value} {w : World} (T : Txt K mg w) : FuncData := T.t_some.fd
theorem Txt.F_some {K : PySem.W.Frag} {mg : Str → Option Value} {w : World} (T : Txt K mg w) : Fun K "_law_some" "_law_some" s_some T.f_some T.fd_some := T.t_some.F
theorem Txt.b_some {K : PySem.W.Frag} {mg : Str → Option Value} {w : World} (T : Txt K mg w) : Binds K T.fd_some p_some [] := T.t_some.b
abbrev Txt.f_sum_rule {K : PySem.W.Frag} {mg : Str → Option Value} {w : World} (T : Txt K mg w) : Addr := T.t_sum_rule.f
abbrev Txt.fd_sum_rule {K : PySem.W.Frag} {mg : Str → Option Value} {w : World} (T : Txt K mg w) : FuncData := T.t_sum_rule.fd
theorem Txt.F_sum_rule {K : PySem.W.Frag} {mg : Str → Option Value} {w : World} (T : Txt K mg w) : Fun K "_law_sum_rule" "_law_sum_rule" s_sum_rule T.f_sum_rule T.fd_sum_rule := T.t_sum_rule.F
theorem Txt.b_sum_rule {K : PySem.W.Frag} {mg : Str → Option Value} {w : World} (T : Txt K mg w) : Binds K T.fd_sum_rule p_sum_rule [] := T.t_sum_rule.b
abbrev Txt.f_rule {K : PySem.W.Frag} {mg : Str → Option Value} {w : World} (T : Txt K mg w) : Addr := T.t_rule.f
abbrev Txt.fd_rule {K : PySem.W.Frag} {mg : Str → Option Value} {w : World} (T : Txt K mg w) : FuncData := T.t_rule.fd
theorem Txt.F_rule {K : PySem.W.Frag} {mg : Str → Option Value} {w : World} (T : Txt K mg w) : Fun K "_law_rule" "_law_rule" s_rule T.f_rule T.fd_rule := T.t_rule.F
theorem Txt.b_rule {K : PySem.W.Frag} {mg : Str → Option Value} {w : World} (T : Txt K mg w) : Binds K T.fd_rule p_rule [] := T.t_rule.b
abbrev Txt.f_hall {K : PySem.W.Frag} {mg : Str → Option Value} {w : World} (T : Txt K mg w) : Addr := T.t_hall.f
abbrev Txt.fd_hall {K : PySem.W.Frag} {mg : Str → Option Value} {w : World} (T : Txt K mg w) : FuncData := T.t_hall.fd
theorem Txt.F_hall {K : PySem.W.Frag} {mg : Str → Option Value} {w : World} (T : Txt K mg w) : Fun K "_law_hall" "_law_hall" s_hall T.f_hall T.fd_hall := T.t_hall.F
theorem Txt.b_hall {K : PySem.W.Frag} {mg : Str → Option Value} {w : World} (T : Txt K mg w) : Binds K T.fd_hall p_hall [] := T.t_hall.b
abbrev Txt.f_flat {K : PySem.W.Frag} {mg : Str → Option Value} {w : World} (T : Txt K mg w) : Addr := T.t_flat.f
abbrev Txt.fd_flat {K : PySem.W.Frag} {mg : Str → Option Value} {w : World} (T : Txt K mg w) : FuncData := T.t_flat.fd
theorem Txt.F_flat {K : PySem.W.Frag} {mg : Str → Option Value} {w : World} (T : Txt K mg w) : Fun K "_law_flat" "_law_flat" s_flat T.f_flat T.fd_flat := T.t_flat.F
theorem Txt.b_flat {K : PySem.W.Frag} {mg : Str → Option Value} {w : World} (T : Txt K mg w) : Binds K T.fd_flat p_flat [] := T.t_flat.b
abbrev Txt.f_seen {K : PySem.W.Frag} {mg : Str → Option Value} {w : World} (T : Txt K mg w) : Addr := T.t_seen.f
abbrev Txt.fd_seen {K : PySem.W.Frag} {mg : Str → Option Value} {w : World} (T : Txt K mg w) : FuncData := T.t_seen.fd
theorem Txt.F_seen {K : PySem.W.Frag} {mg : Str → Option Value} {w : World} (T : Txt K mg w) : Fun K "_law_seen" "_law_seen" s_seen T.f_seen T.fd_seen := T.t_seen.F
theorem Txt.b_seen {K : PySem.W.Frag} {mg : Str → Option Value} {w : World} (T : Txt K mg w) : Binds K T.fd_seen p_seen [] := T.t_seen.b
abbrev Txt.f_no_person {K : PySem.W.Frag} {mg : Str → Option Value} {w : World} (T : Txt K mg w) : Addr := T.t_no_person.f
abbrev Txt.fd_no_person {K : PySem.W.Frag} {mg : Str → Option Value} {w : World} (T : Txt K mg w) : FuncData := T.t_no_person.fd
theorem Txt.F_no_person {K : PySem.W.Frag} {mg : Str → Option Value} {w : World} (T : Txt K mg w) : Fun K "_law_no_person" "_law_no_person" s_no_person T.f_no_person T.fd_no_person := T.t_no_person.F
theorem Txt.b_no_person {K : PySem.W.Frag} {mg : Str → Option Value} {w : World} (T : Txt K mg w) : Binds K T.fd_no_person p_no_person [] := T.t_no_person.b
abbrev Txt.f_bad {K : PySem.W.Frag} {mg : Str → Option Value} {w : World} (T : Txt K mg w) : Addr := T.t_bad.f
abbrev Txt.fd_bad {K : PySem.W.Frag} {mg : Str → Option Value} {w : World} (T : Txt K mg w) : FuncData := T.t_bad.fd
theorem Txt.F_bad {K : PySem.W.Frag} {mg : Str → Option Value} {w : World} (T : Txt K mg w) : Fun K "_law_bad" "_law_bad" s_bad T.f_bad T.fd_bad := T.t_bad.F
theorem Txt.b_bad {K : PySem.W.Frag} {mg : Str → Option Value} {w : World} (T : Txt K mg w) : Binds K T.fd_bad p_bad [] := T.t_bad.b
abbrev Txt.f_right {K : PySem.W.Frag} {mg : Str → Option Value} {w : World} (T : Txt K mg w) : Addr := T.t_right.f
abbrev Txt.fd_right {K : PySem.W.Frag} {mg : Str → Option Value} {w : World} (T : Txt K mg w) : FuncData := T.t_right.fd
theorem Txt.F_right {K : PySem.W.Frag} {mg : Str → Option Value} {w : World} (T : Txt K mg w) : Fun K "_law_right" "_law_right" s_right T.f_right T.fd_right := T.t_right.F
theorem Txt.b_right {K : PySem.W.Frag} {mg : Str → Option Value} {w : World} (T : Txt K mg w) : Binds K T.fd_right p_right [] := T.t_right.b
abbrev Txt.f_law {K : PySem.W.Frag} {mg : Str → Option Value} {w : World} (T : Txt K mg w) : Addr := T.t_law.f
abbrev Txt.fd_law {K : PySem.W.Frag} {mg : Str → Option Value} {w : World} (T : Txt K mg w) : FuncData := T.t_law.fd
theorem Txt.F_law {K : PySem.W.Frag} {mg : Str → Option Value} {w : World} (T : Txt K mg w) : Fun K "law" "law" s_law T.f_law T.fd_law := T.t_law.F
theorem Txt.b_law {K : PySem.W.Frag} {mg : Str → Option Value} {w : World} (T : Txt K mg w) : Binds K T.fd_law p_law [] := T.t_law.b
end Lh

namespace Lh
open PySem PySem.Spec PyProof.Rows L2
section
variable {P : Program} {w : World} {K : PySem.W.Frag} {mg : Str → Option Value} {base : Heap}
theorem ok_NoPerson_init (T : Txt K mg w) : FnOk P w K mg base CX0 1 T.f_NoPerson_init T.fd_NoPerson_init p_NoPerson_init (spInitF T.C_NoPerson "person") := by
  refine T.F_NoPerson_init.ok sc_NoPerson_init (fun vs H Q E h => ?_) (fun cdv A outer s H vs Q E hr h => ?_)
  · obtain ⟨a, v, rfl, _⟩ := h
    rfl
  · obtain ⟨a, v, rfl, ha, q⟩ := h
    refine ⟨_, (pss_cons (ps_expr (pe_base (B := "IndexError") ty_IndexError boot_IndexError (by rfl) T.m_IndexError T.vi_IndexError (pa_cons (pv 0) (pa_cons pe_str pa_nil)) (by decide) (by decide) (by decide +kernel) (by decide +kernel)))
      (pss_one (ps_put (pv 0) (pv 1)))), ?_⟩
    refine ⟨.ref a, rfl, a, T.C_NoPerson, _, rfl, by show 1 ≤ 1000; decide, ⟨_, _, T.ox_NoPerson⟩, ha, ?_⟩
    exact ⟨v, rfl, .ref a, rfl, a, T.C_NoPerson, rfl, ⟨_, _, _, _, T.ox_NoPerson⟩, T.na_NoPerson_person, ha, q⟩
end
end Lh

namespace Lh
open PySem PySem.Spec PyProof.Rows L2
section
variable {P : Program} {w : World} {K : PySem.W.Frag} {mg : Str → Option Value} {base : Heap}
/-- what an expression comes to, then what follows -/
theorem use {te : TE} {σ : L2.St} {H : Hp} {Q : VK} (R : V → Hp → Prop) (h : ∀ Q' : VK, (∀ v H', R v H' → Q' v H') → te σ H Q') (hq : ∀ v H', R v H' → Q v H') : te σ H Q := h Q hq
/-! ### the draws -/
def spTake : Sp := fun vs H Q _ => ∃ (bx : Addr) (c m : Int), vs = [.ref bx, .int m] ∧ 0 < m ∧ m ≤ 1000000 ∧ c ≤ 1000000000 ∧ Box bx c H ∧
  ∀ (r : Int) (H' : Hp), 0 ≤ r → r < m → Ext bx H H' → Box bx (c + 1) H' → Q (.int r) H'
theorem ok_take (T : Txt K mg w) : FnOk P w K mg base CX0 1 T.f_take T.fd_take p_take spTake := by
  refine T.F_take.ok sc_take (fun vs H Q E h => ?_) (fun cdv A outer s H vs Q E hr h => ?_)
  · obtain ⟨bx, c, m, rfl, _⟩ := h
    rfl
  · obtain ⟨bx, c, m, rfl, m0, m1, c1, ⟨a, b, n, hb, a0, b0, b1, n0, n1⟩, q⟩ := h
    refine ⟨_, (pss_cons (ps_if (pt_cmpR op_gt (pe_ix ix_list (pv 0) pe_int (fun _ _ => rfl)) pe_int (nomark _))
        (pss_cons (ps_set (i := 2) sc_take.nd rfl (.inl rfl) (pe_op op_mod (pe_ix ix_list (pv 0) pe_int (fun _ _ => rfl)) (pv 1)))
        (pss_cons (ps_asg (pe_op op_fdiv (pe_ix ix_list (pv 0) pe_int (fun _ _ => rfl)) (pv 1)) (pg_sub (pv 0) pe_int set_list))
        (pss_one (ps_ret (pv 2)))))
        pss_nil)
      (pss_cons (ps_asg (pe_op op_add (pe_ix ix_list (pv 0) pe_int (fun _ _ => rfl)) pe_int) (pg_sub (pv 0) pe_int set_list))
      (pss_cons (ps_set (i := 3) sc_take.nd rfl (.inl rfl) (pe_op op_mod (pe_op op_pow (pe_op op_add (pe_ix ix_list (pv 0) pe_int (fun _ _ => rfl)) (pe_op op_mul pe_int (pe_ix ix_list (pv 0) pe_int (fun _ _ => rfl)))) pe_int) pe_int))
      (pss_cons (ps_set (i := 4) sc_take.nd rfl (.inl rfl) (pe_op op_mod (pe_op op_mul (pe_op op_add (pe_op op_add (pv 3) (pe_ix ix_list (pv 0) pe_int (fun _ _ => rfl))) (pe_op op_fdiv (pe_ix ix_list (pv 0) pe_int (fun _ _ => rfl)) pe_int)) (pe_op op_add (pe_op op_add (pe_op op_mod (pv 3) pe_int) pe_int) (pe_ix ix_list (pv 0) pe_int (fun _ _ => rfl)))) pe_int))
      (pss_one (ps_ret (pe_op op_mod (pe_op op_fdiv (pe_op op_mod (pe_op op_add (pe_op op_mul (pv 4) pe_int) (pv 3)) pe_int) pe_int) (pv 1)))))))), ?_⟩
    have i0 : ∀ x y z : V, atI [x, y, z] 0 = some x := fun _ _ _ => rfl
    have i1 : ∀ x y z : V, atI [x, y, z] 1 = some y := fun _ _ _ => rfl
    have i2 : ∀ x y z : V, atI [x, y, z] 2 = some z := fun _ _ _ => rfl
    have hS : SqL K H bx [.int a, .int b, .int n] := .inl (.inl hb)
    refine ⟨.ref bx, rfl, bx, _, 0, _, rfl, rfl, hS, i0 _ _ _, a, 0, rfl, rfl, _, rfl, ite2 (fun e => ?_) (fun e => ?_)⟩
    · refine ⟨.ref bx, rfl, bx, _, 0, _, rfl, rfl, hS, i0 _ _ _, .int m, rfl, a, m, rfl, rfl, m0, ?_⟩
      refine ⟨.ref bx, rfl, bx, _, 0, _, rfl, rfl, hS, i0 _ _ _, .int m, rfl, a, m, rfl, rfl, ⟨m0, by omega⟩, ?_⟩
      refine ⟨.ref bx, rfl, bx, _, 0, 0, rfl, rfl, hb, rfl, ?_⟩
      refine ⟨.int (a % m), rfl, q _ _ (Int.emod_nonneg _ (by omega)) (Int.emod_lt_of_pos _ m0) (Ext.refl _).box ⟨a / m, b, n, upd_same, Int.ediv_nonneg a0 (by omega), b0, b1, n0, by omega⟩⟩
    · have n2 : n + 1 ≤ 1000000001 := by omega
      refine ⟨.ref bx, rfl, bx, _, 2, _, rfl, rfl, hS, i2 _ _ _, n, 1, rfl, rfl, .ref bx, rfl, bx, _, 2, 2, rfl, rfl, hb, rfl, ?_⟩
      generalize hH1 : upd H bx (.lst (List.set [V.int a, .int b, .int n] 2 (.int (n + 1)))) = H1
      have hb1 : H1 bx = some (.lst [.int a, .int b, .int (n + 1)]) := by rw [← hH1]; exact upd_same
      have hS1 : SqL K H1 bx [.int a, .int b, .int (n + 1)] := .inl (.inl hb1)
      have bB : Box bx (c + 1) H1 := ⟨a, b, n + 1, hb1, a0, b0, b1, by omega, by omega⟩
      have eE : Ext bx H H1 := by rw [← hH1]; exact (Ext.refl _).box
      refine ⟨.ref bx, rfl, bx, _, 1, _, rfl, rfl, hS1, i1 _ _ _, .ref bx, rfl, bx, _, 2, _, rfl, rfl, hS1, i2 _ _ _, 39373, n + 1, rfl, rfl, .inl ⟨by decide, by decide⟩, b, _, rfl, rfl, _, 5, rfl, rfl, ⟨by decide, by decide, ?_⟩, _, 2147483647, rfl, rfl, by show (0 : Int) < 2147483647; decide, ?_⟩
      · omega
      dsimp only
      generalize hx : (b + 39373 * (n + 1)) ^ (5 : Int).toNat % 2147483647 = x
      have x0 : 0 ≤ x := by rw [← hx]; exact Int.emod_nonneg _ (by decide)
      have x1 : x < 2147483647 := by rw [← hx]; exact Int.emod_lt_of_pos _ (by decide)
      have d0 : 0 ≤ b / 1000003 := Int.ediv_nonneg b0 (by decide)
      have d1 : b / 1000003 ≤ b := Int.ediv_le_self _ b0
      have e0 : 0 ≤ x % 40009 := Int.emod_nonneg _ (by decide)
      have e1 : x % 40009 < 40009 := Int.emod_lt_of_pos _ (by decide)
      refine ⟨.int x, rfl, .ref bx, rfl, bx, _, 2, _, rfl, rfl, hS1, i2 _ _ _, x, n + 1, rfl, rfl, .ref bx, rfl, bx, _, 1, _, rfl, rfl, hS1, i1 _ _ _, b, 1000003, rfl, rfl, ⟨by decide, by decide⟩, _, _, rfl, rfl,
        .int x, rfl, x, 40009, rfl, rfl, by show (0 : Int) < 40009; decide, _, 7, rfl, rfl, .ref bx, rfl, bx, _, 2, _, rfl, rfl, hS1, i2 _ _ _, _, n + 1, rfl, rfl, _, _, rfl, rfl, .inr ⟨?_, ?_⟩, _, 2147483629, rfl, rfl, by show (0 : Int) < 2147483629; decide, ?_⟩
      · omega
      · omega
      dsimp only
      generalize hy : (x + (n + 1) + b / 1000003) * (x % 40009 + 7 + (n + 1)) % 2147483629 = y
      have y0 : 0 ≤ y := by rw [← hy]; exact Int.emod_nonneg _ (by decide)
      have y1 : y < 2147483629 := by rw [← hy]; exact Int.emod_lt_of_pos _ (by decide)
      refine ⟨.int y, rfl, y, 48271, rfl, rfl, .inr ⟨by decide, by decide⟩, .int x, rfl, _, x, rfl, rfl, _, 2147483587, rfl, rfl, by show (0 : Int) < 2147483587; decide, _, 64, rfl, rfl, ⟨by decide, by decide⟩, .int m, rfl, _, m, rfl, rfl, m0, ?_⟩
      exact q _ _ (Int.emod_nonneg _ (by omega)) (Int.emod_lt_of_pos _ m0) eE bB
def spDip (K : PySem.W.Frag) : Sp := fun vs H Q _ => ∃ (a : Addr) (ns : List Int) (k : Nat), vs = [.ref a, .int k] ∧ SqL K H a (ns.map V.int) ∧ k ≤ 1000 ∧
  ∀ (bx : Addr) (H' : Hp), Same H H' → H bx = none → Box bx 0 H' → Q (.ref bx) H'
theorem ok_dip (T : Txt K mg w) : FnOk P w K mg base CX0 1 T.f_dip T.fd_dip p_dip (spDip K) := by
  refine T.F_dip.ok sc_dip (fun vs H Q E h => ?_) (fun cdv A outer s H vs Q E hr h => ?_)
  · obtain ⟨a, ns, k, rfl, _⟩ := h
    rfl
  · obtain ⟨a, ns, k, rfl, hS, hk, q⟩ := h
    refine ⟨_, (pss_cons (ps_set (i := 2) sc_dip.nd rfl (.inl rfl) (pe_ifExp (pt_cmpR op_lt (pv 1) (pe_callB call_len_seq (by rfl) T.m_len (by decide +kernel) (pa_cons (pv 0) pa_nil)) (nomark _)) (pe_ix ix_list (pv 0) (pv 1) (fun _ _ => rfl)) pe_int))
      (pss_one (ps_ret (pe_lst (pa_cons (pe_op op_mul (pe_callB call_abs (by rfl) T.m_abs (by decide +kernel) (pa_cons (pv 2) pa_nil)) (pe_callTy call_int1 (by rfl) T.m_int (by decide +kernel) (pa_cons (pe_cmpR op_ge (pe_callB call_abs (by rfl) T.m_abs (by decide +kernel) (pa_cons (pv 2) pa_nil)) (pe_op op_pow pe_int pe_int) (nomark _)) pa_nil))) (pa_cons (pe_op op_add (pe_op op_add (pe_op op_mod (pv 2) pe_int) (pe_op op_mul pe_int (pv 1))) pe_int) (pa_cons pe_int pa_nil))))))), ?_⟩
    show tIf _ _ _ _ _ _
    refine use (fun v H' => ∃ x : Int, v = .int x ∧ H' = H) (fun Q' hQ => ?_) ?_
    · refine ⟨.int k, rfl, .ref a, rfl, a, _, rfl, .inl hS, k, _, rfl, rfl, _, rfl, ite2 (fun e => ?_) (fun e => ?_)⟩
      · have hk2 : k < ns.length := by
          have := of_decide_eq_true e
          rw [List.length_map] at this
          omega
        exact ⟨.ref a, rfl, .int k, rfl, a, _, k, .int ns[k], rfl, rfl, hS, atI_nat (by rw [List.getElem?_map, List.getElem?_eq_getElem hk2]; rfl), hQ _ _ ⟨_, rfl, rfl⟩⟩
      · exact hQ _ _ ⟨0, rfl, rfl⟩
    · rintro v H' ⟨x, rfl, rfl⟩
      have m0 : 0 ≤ x % 2305843009213693951 := Int.emod_nonneg _ (by decide)
      have m1 : x % 2305843009213693951 < 2305843009213693951 := Int.emod_lt_of_pos _ (by decide)
      refine ⟨.int x, rfl, x, rfl, .int x, rfl, x, rfl, 10, 18, rfl, rfl, ⟨by decide, by decide, by decide⟩, _, _, rfl, rfl, .inr ⟨_, rfl, ?_⟩⟩
      have bnd : ∀ b : Bool, (0 : Int) ≤ (if b then 1 else 0) ∧ (if b then (1 : Int) else 0) ≤ 1 := fun b => by cases b <;> decide
      refine ⟨_, _, rfl, rfl, .inr ⟨Int.lt_of_lt_of_le (by decide) (bnd _).1, Int.lt_of_le_of_lt (bnd _).2 (by decide)⟩, .int x, rfl, x, 2305843009213693951, rfl, rfl, by show (0 : Int) < 2305843009213693951; decide, .int k, rfl, 39373, k, rfl, rfl, .inl ⟨by decide, by decide⟩, _, _, rfl, rfl, _, 17, rfl, rfl, by show 3 ≤ sizeLine; decide, fun p hp => ?_⟩
      refine q p _ (same_upd hp) hp ⟨_, _, 0, upd_same, ?_, ?_, ?_, by decide, by decide⟩
      · refine Int.mul_nonneg ?_ (bnd _).1
        split <;> omega
      · show 0 ≤ x % 2305843009213693951 + 39373 * (k : Int) + 17
        omega
      · show x % 2305843009213693951 + 39373 * (k : Int) + 17 < 2 ^ 62
        omega
end
end Lh

namespace Lh
open PySem PySem.Spec PyProof.Rows L2
def cutI {α : Type} (xs : List α) (lo hi : Option Int) : List α := (xs.drop (HT.sIx xs.length 0 lo)).take (HT.sIx xs.length xs.length hi - HT.sIx xs.length 0 lo)
theorem cut_map {α : Type} (f : α → V) (xs : List α) (lo hi : Option Int) : cutV (xs.map f) lo hi = (cutI xs lo hi).map f := by
  unfold cutV cutI
  rw [List.length_map, List.map_take, List.map_drop]
theorem cutI_head {α : Type} (xs : List α) : (cutI xs none (some 3)).length = min 3 xs.length := by
  unfold cutI
  rw [HT.sIx_none, show HT.sIx xs.length xs.length (some 3) = min 3 xs.length from HT.sIx_nat xs.length _ 3, List.length_take, List.length_drop]
  omega
theorem cutI_tail {α : Type} (xs : List α) (h : xs.length ≤ 3) : (cutI xs (some 3) (some 63)).length = 0 := by
  unfold cutI
  rw [show HT.sIx xs.length 0 (some 3) = min 3 xs.length from HT.sIx_nat xs.length _ 3, List.length_take, List.length_drop]
  omega
section
variable {P : Program} {w : World} {K : PySem.W.Frag} {mg : Str → Option Value} {base : Heap}
def spFolded (K : PySem.W.Frag) : Sp := fun vs H Q _ => ∃ (a : Addr) (ns : List Int), vs = [.ref a, .int 3] ∧ SqL K H a (ns.map V.int) ∧ ns.length ≤ 63 ∧
  ∀ (p : Addr) (ms : List Int) (H' : Hp), Same H H' → H p = none → H' p = some (.lst (ms.map V.int)) → ms.length ≤ 3 → Q (.ref p) H'
theorem ok_folded (T : Txt K mg w) : FnOk P w K mg base CX0 1 T.f_folded T.fd_folded p_folded (spFolded K) := by
  refine T.F_folded.ok sc_folded (fun vs H Q E h => ?_) (fun cdv A outer s H vs Q E hr h => ?_)
  · obtain ⟨a, ns, rfl, _⟩ := h
    rfl
  · obtain ⟨a, ns, rfl, hS, hl, q⟩ := h
    refine ⟨_, (pss_cons (ps_set (i := 2) sc_folded.nd rfl (.inl rfl) (pe_callTy call_list_of (by rfl) T.m_list (by decide +kernel) (pa_cons (pe_slice sl_list (pv 0) po_none (po_some (pv 1))) pa_nil)))
      (pss_cons (ps_for PassesOwn.never rfl (pi_enum (by rfl) T.m_enumerate (pa_cons (pe_slice sl_list (pv 0) (po_some (pv 1)) (po_some pe_int)) pa_nil)) (pg_tup rfl (pgs_cons (pg_name (i := 3) sc_folded.nd rfl (.inl rfl)) (pgs_cons (pg_name (i := 4) sc_folded.nd rfl (.inl rfl)) pgs_nil)))
        (pss_one (ps_asg (pe_op op_add (pe_ix ix_list (pv 2) (pe_op op_mod (pv 3) (pv 1)) (fun _ _ => rfl)) (pe_op op_mul (pv 4) (pe_op op_add (pv 3) pe_int))) (pg_sub (pv 2) (pe_op op_mod (pv 3) (pv 1)) set_list))))
      (pss_one (ps_ret (pv 2))))), ?_⟩
    -- the cells
    refine ⟨.ref a, rfl, .int 3, rfl, 3, rfl, a, _, rfl, hS, fun c nc => ?_⟩
    have s1 := same_upd (o := .lst (cutV (ns.map V.int) none (some 3))) nc
    refine ⟨c, _, rfl, .inl (.inl (.inl upd_same)), fun l nl => ?_⟩
    have s2 := s1.trans (same_upd (o := .lst (cutV (ns.map V.int) none (some 3))) nl)
    have nlH : H l = none := s1.free nl
    -- the rest of the script
    refine ⟨.ref a, rfl, .int 3, rfl, 3, rfl, 63, rfl, a, _, rfl, s2.seq hS, fun d nd => ?_⟩
    have s3 := s2.trans (same_upd (o := .lst (cutV (ns.map V.int) (some 3) (some 63))) nd)
    have nld : l ≠ d := ne_of_none upd_same nd
    refine ⟨d, _, rfl, .inl (.inl upd_same), ?_⟩
    rw [cut_map V.int, cut_map V.int] at *
    refine for_it (walk_enum (xs := (cutI ns (some 3) (some 63)).map V.int)) (fun i σ H3 => ∃ (y3 y4 : Option V) (ms : List Int), σ = [some (.ref a), some (.int 3), some (.ref l), y3, y4] ∧ Same H H3 ∧ H3 d = some (.lst ((cutI ns (some 3) (some 63)).map V.int)) ∧ H3 l = some (.lst (ms.map V.int)) ∧ ms.length = min 3 ns.length) ?_ ?_ ?_ ?_
    · refine ⟨none, none, cutI ns none (some 3), rfl, s3, upd_same, ?_, cutI_head ns⟩
      rw [upd_ne nld, upd_same]
    · rintro i σ H3 _ ⟨y3, y4, ms, rfl, _, hd, _⟩
      exact .inl (.inl hd)
    · rintro i x σ H3 H4 hi ⟨y3, y4, ms, rfl, sm, hd, hl3, hm⟩ ⟨t, x1, x2, rfl, nt, rfl, e1, e2⟩
      rw [List.length_map] at hi
      have e1' : V.int (i : Nat) = x1 := Option.some.inj e1
      subst e1'
      have e2' : x2 = .int (cutI ns (some 3) (some 63))[i] := by
        have : ((cutI ns (some 3) (some 63)).map V.int)[i]? = some x2 := e2
        rw [List.getElem?_map, List.getElem?_eq_getElem hi] at this
        exact (Option.some.inj this).symm
      subst e2'
      have h3 : ms.length = 3 := by
        by_cases hc : ns.length ≤ 3
        · rw [cutI_tail ns hc] at hi; omega
        · omega
      have nlt : l ≠ t := ne_of_none hl3 nt
      have hl4 : (upd H3 t (.tup [.int (i : Nat), .int (cutI ns (some 3) (some 63))[i]])) l = some (.lst (ms.map V.int)) := by rw [upd_ne nlt]; exact hl3
      have hlt : ((i : Int) % 3).toNat < ms.length := by omega
      refine ⟨t, _, rfl, .inl (.inl upd_same), rfl, _, _, rfl, _, _, rfl, rfl, ?_⟩
      refine ⟨.ref l, rfl, .int i, rfl, .int 3, rfl, i, 3, rfl, rfl, by show (0 : Int) < 3; decide, l, _, _, .int ms[((i : Int) % 3).toNat], rfl, rfl, .inl (.inl hl4), ?_, ?_⟩
      · refine at_of (j := ((i : Int) % 3).toNat) (by omega) ?_
        rw [List.getElem?_map, List.getElem?_eq_getElem hlt]; rfl
      refine ⟨_, rfl, .int i, rfl, i, 2, rfl, rfl, _, _, rfl, rfl, .inr ⟨by omega, ?_⟩, _, _, rfl, rfl, .ref l, rfl, .int i, rfl, .int 3, rfl, i, 3, rfl, rfl, by show (0 : Int) < 3; decide, l, _, _, ((i : Int) % 3).toNat, rfl, rfl, hl4, ?_, ?_⟩
      · have : (cutI ns (some 3) (some 63)).length ≤ ns.length := by
          unfold cutI; rw [List.length_take, List.length_drop]; omega
        omega
      · show ixN (ms.map V.int).length ((i : Int) % 3) = some _
        unfold ixN
        rw [List.length_map, if_pos (by omega), if_pos (by omega)]
      · refine ⟨_, _, ms.set ((i : Int) % 3).toNat (ms[((i : Int) % 3).toNat] + (cutI ns (some 3) (some 63))[i] * ((i : Int) + 2)), rfl, ?_, ?_, ?_, ?_⟩
        · exact fun b o e => by
            rw [upd_ne (ne_of_none e nlH), upd_ne (ne_of_none (sm b o e) nt)]
            exact sm b o e
        · rw [upd_ne nld.symm, upd_ne (ne_of_none hd nt)]
          exact hd
        · rw [upd_same, List.map_set]
        · rw [List.length_set]; exact hm
    · rintro σ H3 ⟨y3, y4, ms, rfl, sm, hd, hl3, hm⟩
      exact ⟨.ref l, rfl, q l ms H3 sm nlH hl3 (by omega)⟩
end
end Lh

namespace Lh
open PySem PySem.Spec PyProof.Rows L2
/-- data of at most n levels, no level longer than 1000 -/
def okD : Nat → PyData → Prop
  | _, .none => True
  | _, .bool _ => True
  | _, .int _ => True
  | _, .str _ => True
  | n + 1, .list ds => ds.length ≤ 8388608 ∧ ∀ d ∈ ds, okD n d
  | n + 1, .tuple ds => ds.length ≤ 8388608 ∧ ∀ d ∈ ds, okD n d
  | _, _ => False
def tyD : PyData → String
  | .none => "NoneType"
  | .bool _ => "bool"
  | .int _ => "int"
  | .str _ => "str"
  | .list _ => "list"
  | .tuple _ => "tuple"
  | .dict _ => "dict"
theorem Rp.ty {bx : Addr} {K : PySem.W.Frag} {H : Hp} {v : V} {d : PyData} (h : Rp bx H v d) : TyX K H v (.type (tyD d)) := by
  cases h with
  | non => exact .base .non
  | bl b => exact .base (.bl b)
  | int i => exact .base (.int i)
  | str x => exact .base (.str x)
  | lst h _ _ => exact .base (.lst h)
  | tup h _ _ => exact h.ty
theorem iteP {A B : Prop} {c : Bool} (h : c = true) (a : A) : if c = true then A else B := by rw [if_pos h]; exact a
theorem iteN {A B : Prop} {c : Bool} (h : c = false) (b : B) : if c = true then A else B := by rw [h, if_neg Bool.false_ne_true]; exact b
theorem yes {σ : L2.St} {H : Hp} {Q : Bool → Hp → Prop} (h : Q true H) : tYes σ H Q := h
theorem blC {Q : VK} {c d : Bool} {H : Hp} (h : c = d) (q : Q (.bl d) H) : Q (.bl c) H := by rw [h]; exact q
theorem blT {Q : VK} {c : Bool} {H : Hp} (h : c = true) (q : Q (.bl true) H) : Q (.bl c) H := by rw [h]; exact q
/-- isinstance(name, T) -/
theorem rd_isi {K : PySem.W.Frag} {σ : L2.St} {H : Hp} {Q : VK} {i : Nat} {x : V} {T c : String} {b : Bool} (hs : σ[i]? = some (some x)) (ty : TyX K H x (.type T)) (h : kitB T c = some b) (q : Q (.bl b) H) :
    tCB (rIsi K) (tCons (tVar i) (tCons (tC (.ty c)) tNil)) σ H Q := ⟨x, hs, x, .ty c, .type T, .type c, b, rfl, .ty c, ty, kit_ty h, q⟩
/-- isinstance(name, (T, U)) -/
theorem rd_isi2 {K : PySem.W.Frag} {σ : L2.St} {H : Hp} {Q : VK} {i : Nat} {x : V} {T c e : String} {b b2 : Bool} (hs : σ[i]? = some (some x)) (ty : TyX K H x (.type T)) (h : kitB T c = some b) (h2 : kitB T e = some b2)
    (q : ∀ p, H p = none → Q (.bl (b || b2)) (upd H p (.tup [.ty c, .ty e]))) (ty2 : ∀ p, H p = none → TyX K (upd H p (.tup [.ty c, .ty e])) x (.type T)) :
    tCB (rIsiT K) (tCons (tVar i) (tCons (tTup (tCons (tC (.ty c)) (tCons (tC (.ty e)) tNil))) tNil)) σ H Q :=
  ⟨x, hs, by show 2 ≤ sizeLine; decide, fun p hp => ⟨x, p, _, .type T, [.type c, .type e], b || b2, rfl, upd_same, .cons (.ty c) (.cons (.ty e) .nil), ty2 p hp, kitAny_cons (kit_ty h) (fun z => kitAny_cons (kit_ty h2) (fun z2 => by rw [z, z2]; rfl) (fun z2 => by rw [z2, Bool.or_true])) (fun z => by rw [z, Bool.true_or]), q p hp⟩⟩
theorem walk_zipT {K : PySem.W.Frag} {a b : Addr} {xs ys : List V} {n : Nat} (h1 : xs.length = n) (h2 : ys.length = n) : Walk (RZ.ItzT K a b) n (fun H => SqT K H a xs ∧ SqT K H b ys) (YPair (fun i => xs[i]?) (fun i => ys[i]?)) := by
  refine ⟨fun i _ hi q => ⟨xs, ys, xs[i], ys[i], q.1, q.2, by simp [h1, hi], by simp [h2, hi]⟩, fun _ q => ⟨xs, ys, q.1, q.2, .inl (by omega)⟩, ?_⟩
  rintro i H v H' _ q ⟨T, x, z, h1, h2, h3, h4, h5⟩
  exact ⟨T, x, z, h1, h2, h3, h4 xs q.1, h5 ys q.2⟩
def lcSc : Expr → Scope
  | .ListComp _ _ sc _ => sc
  | _ => { kind := .function, names := [], isGenerator := false, isCoroutine := false }
def retE : List Stmt → Expr
  | [.Return (some e) _] => e
  | _ => .Constant .none 0 ⟨0, 0, 0, 0⟩
def argE : Expr → Expr
  | .Call _ (e :: _) _ _ => e
  | e => e
def isCell (osc : Scope) (k : NameKind) (n : Str) : Bool := k == .free && osc.kind == .function && osc.names.lookup n == some .cell
/-- the names of an inner scope, as the outer one has them -/
def relS (sc osc : Scope) : Scope := { sc with names := sc.names.map fun z => if isCell osc z.2 z.1 = true then (z.1, .cell) else (z.1, z.2) }
def rTupN (K : PySem.W.Frag) : List V → Hp → VK → Prop := fun xs H Q => ∃ p ys, xs = [.ref p] ∧ SqL K H p ys ∧ ∀ l (o : Obj), H l = none → o.dict = none → Q (.ref l) (upd H l (.frz o (.tup ys)))
theorem blkOk_sc {N : List Str} {sc sc2 scope : Scope} {own : List (Str × Nat)} (e : sc = sc2) (h : blkC N sc2 scope own = true) : BlkOk N sc scope own := by
  subst e
  exact blkOk_by h
def asgE : Stmt → Expr
  | .Assign _ e _ => e
  | _ => .Constant .none 0 ⟨0, 0, 0, 0⟩
def forB : Stmt → List Stmt
  | .For _ _ b _ _ => b
  | _ => []
def noS : Stmt := .Pass ⟨0, 0, 0, 0⟩
def rLenQ (K : PySem.W.Frag) : List V → Hp → VK → Prop := fun xs H Q => ∃ p ys, xs = [.ref p] ∧ (SqL K H p ys ∨ SqT K H p ys) ∧ Q (.int ys.length) H
section
variable {P : Program} {w : World} {K : PySem.W.Frag} {mg : Str → Option Value} {base : Heap}
end
end Lh

namespace Lh
open PySem PySem.Spec PyProof.Rows L2
/-! ### rules -/
inductive Rule where
  | held (n : Int)
  | sum (own : Int) (ties : List (Int × Int))
  | cap (own : Int) (ties : List (Int × Int)) (most : Int)
  | kinds (own : Int) (seen : List Int)
  | next (seen : List Int)
  | free (seen : List Int)
/-- tuples stay -/
structure Keep (H H' : Hp) : Prop where
  tup : ∀ a xs, H a = some (.tup xs) → H' a = some (.tup xs)
  frz : ∀ a o u, H a = some (.frz o u) → H' a = some (.frz o u)
theorem Keep.refl (H : Hp) : Keep H H := ⟨fun _ _ h => h, fun _ _ _ h => h⟩
theorem Keep.trans {H H1 H2 : Hp} (a : Keep H H1) (b : Keep H1 H2) : Keep H H2 := ⟨fun x y h => b.tup x y (a.tup x y h), fun x y z h => b.frz x y z (a.frz x y z h)⟩
theorem Keep.same {H H' : Hp} (e : Same H H') : Keep H H' := ⟨fun a xs h => e a _ h, fun a o u h => e a _ h⟩
theorem Keep.ext {bx : Addr} {c : Int} {H H' : Hp} (e : Ext bx H H') (b : Box bx c H) : Keep H H' := by
  obtain ⟨x, y, z, hb, _⟩ := b
  exact ⟨fun a xs h => e a _ (ne_of h hb (by intro z; cases z)) h, fun a o u h => e a _ (ne_of h hb (by intro z; cases z)) h⟩
theorem TupAt.keep {H H' : Hp} {a : Addr} {xs : List V} (k : Keep H H') (h : TupAt H a xs) : TupAt H' a xs := by
  rcases h with h | ⟨o, d, h⟩
  · exact .inl (k.tup _ _ h)
  · exact .inr ⟨o, d, k.frz _ _ _ h⟩
def PairAtH (H : Hp) (p : Addr) (q : Int × Int) : Prop := H p = some (.tup [.int q.1, .int q.2])
def TiesAt (H : Hp) (t : Addr) (ties : List (Int × Int)) : Prop := ∃ (o : Obj) (ps : List Addr), o.dict = none ∧ H t = some (.frz o (.tup (ps.map V.ref))) ∧ Paired (PairAtH H) ps ties
def SeenAt (H : Hp) (t : Addr) (seen : List Int) : Prop := TupAt H t (seen.map V.int)
def RuleAt (H : Hp) (v : V) : Rule → Prop
  | .held n => ∃ a, v = .ref a ∧ H a = some (.tup [.str "held", .int n])
  | .sum own ties => ∃ a t, v = .ref a ∧ H a = some (.tup [.str "sum", .int own, .ref t]) ∧ TiesAt H t ties
  | .cap own ties most => ∃ a t, v = .ref a ∧ H a = some (.tup [.str "cap", .int own, .ref t, .int most]) ∧ TiesAt H t ties
  | .kinds own seen => ∃ a t, v = .ref a ∧ H a = some (.tup [.str "kinds", .int own, .ref t]) ∧ SeenAt H t seen
  | .next seen => ∃ a t, v = .ref a ∧ H a = some (.tup [.str "next", .ref t]) ∧ SeenAt H t seen
  | .free seen => ∃ a t, v = .ref a ∧ H a = some (.tup [.str "free", .ref t]) ∧ SeenAt H t seen
theorem pairs_keep {H H' : Hp} (k : Keep H H') : ∀ {ps : List Addr} {ties : List (Int × Int)}, Paired (PairAtH H) ps ties → Paired (PairAtH H') ps ties
  | _, _, .nil => .nil
  | _, _, .cons h r => .cons (k.tup _ _ h) (pairs_keep k r)
theorem TiesAt.keep {H H' : Hp} {t : Addr} {ties : List (Int × Int)} (k : Keep H H') (h : TiesAt H t ties) : TiesAt H' t ties := by
  obtain ⟨o, ps, h1, h2, h3⟩ := h
  exact ⟨o, ps, h1, k.frz _ _ _ h2, pairs_keep k h3⟩
theorem SeenAt.keep {H H' : Hp} {t : Addr} {seen : List Int} (k : Keep H H') (h : SeenAt H t seen) : SeenAt H' t seen := TupAt.keep k h
theorem RuleAt.keep {H H' : Hp} {v : V} (k : Keep H H') : ∀ {r : Rule}, RuleAt H v r → RuleAt H' v r
  | .held n, ⟨a, e, h⟩ => ⟨a, e, k.tup _ _ h⟩
  | .sum _ _, ⟨a, t, e, h, q⟩ => ⟨a, t, e, k.tup _ _ h, q.keep k⟩
  | .cap _ _ _, ⟨a, t, e, h, q⟩ => ⟨a, t, e, k.tup _ _ h, q.keep k⟩
  | .kinds _ _, ⟨a, t, e, h, q⟩ => ⟨a, t, e, k.tup _ _ h, q.keep k⟩
  | .next _, ⟨a, t, e, h, q⟩ => ⟨a, t, e, k.tup _ _ h, q.keep k⟩
  | .free _, ⟨a, t, e, h, q⟩ => ⟨a, t, e, k.tup _ _ h, q.keep k⟩
def smallI (i : Int) : Prop := 0 ≤ i ∧ i ≤ 1000
/-- rising persons below many -/
def Rising (many : Int) (ns : List Int) : Prop := ns.Pairwise (· < ·) ∧ ∀ n ∈ ns, 0 ≤ n ∧ n < many
def Rule.Wf (many : Int) : Rule → Prop
  | .held n => smallI n
  | .sum own ties => smallI own ∧ Rising many (ties.map (·.1)) ∧ ∀ q ∈ ties, 1 ≤ q.2 ∧ q.2 ≤ 1000
  | .cap own ties most => smallI own ∧ Rising many (ties.map (·.1)) ∧ (∀ q ∈ ties, 1 ≤ q.2 ∧ q.2 ≤ 1000) ∧ smallI most
  | .kinds own seen => smallI own ∧ Rising many seen
  | .next seen => Rising many seen
  | .free seen => Rising many seen
def Rule.persons : Rule → List Int
  | .held _ => []
  | .sum _ ties => ties.map (·.1)
  | .cap _ ties _ => ties.map (·.1)
  | .kinds _ seen => seen
  | .next seen => seen
  | .free seen => seen
theorem Rising.sub {many : Int} {ns ms : List Int} (s : ms.Sublist ns) (h : Rising many ns) : Rising many ms := ⟨h.1.sublist s, fun n hn => h.2 n (s.subset hn)⟩
/-- an item of a written list -/
theorem pick {xs : List V} {i : Int} (h0 : 0 ≤ i) (h1 : i < xs.length) : ∃ v, v ∈ xs ∧ atI xs i = some v := by
  have hj : i.toNat < xs.length := by omega
  exact ⟨xs[i.toNat], List.getElem_mem hj, at_of (by omega) (List.getElem?_eq_getElem hj)⟩
section
variable {P : Program} {w : World} {K : PySem.W.Frag} {mg : Str → Option Value} {base : Heap}
def spSome : Sp := fun vs H Q _ => ∃ (bx p : Addr) (c m : Int) (ns : List Int), vs = [.ref bx, .ref p, .int m] ∧ 0 < m ∧ m ≤ 1000000 ∧ c + ns.length ≤ 1000000000 ∧ ns.length ≤ 1000 ∧ Box bx c H ∧ H p = some (.lst (ns.map V.int)) ∧ p ≠ bx ∧
  ∀ (q : Addr) (ms : List Int) (H' : Hp), Ext bx H H' → Box bx (c + ns.length) H' → H q = none → H' q = some (.lst (ms.map V.int)) → ms.Sublist ns → Q (.ref q) H'
theorem ok_some (T : Txt K mg w) : FnOk P w K mg base CX0 2 T.f_some T.fd_some p_some spSome := by
  have G_take := ok_take (P := P) (w := w) (base := base) T
  refine T.F_some.ok sc_some (fun vs H Q E h => ?_) (fun cdv A outer s H vs Q E hr h => ?_)
  · obtain ⟨bx, p, c, m, ns, rfl, _⟩ := h
    rfl
  · obtain ⟨bx, p, c, m, ns, rfl, m0, m1, c1, hl, hB, hp, np, q⟩ := h
    refine ⟨_, (pss_one (ps_ret (pe_lc (own := [("_law_one", 3)]) (g := gName 3) (by rfl) sc_some.nd (pi_list (pv 1)) (blkOk_by (own := [("_law_one", 3)]) (N := n_some) (sc := defScope s_some) (by decide +kernel)) (fun _ _ _ _ _ => (pg_name (i := 3) sc_some.nd rfl (.inl rfl) (.inr rfl))) (fun _ _ _ _ _ => (pts_one (pt_cmpR op_eq (pe_call G_take (hr.mono (by decide)) (by rfl) T.g_take T.F_take.kp T.b_take .nil pass0 (pa_cons (pv 0) (pa_cons (pv 2) pa_nil))) pe_int (nomark _)))) (fun _ _ _ _ _ => (pv 3))))), ?_⟩
    refine ⟨.ref p, rfl, p, rfl, ⟨_, .inl (.inl hp)⟩, fun D hD => ?_⟩
    have nD : D ≠ bx := hB.ne hD
    refine lc_it (walk_list (xs := ns.map V.int)) (fun i H3 => ∃ ms : List Int, Ext bx H H3 ∧ Box bx (c + i) H3 ∧ H3 D = some (.lst (ms.map V.int)) ∧ ms.Sublist (ns.take i)) ⟨[], (Ext.refl _).new hD, by simpa using hB.new hD, upd_same, List.nil_sublist _⟩ ?_ ?_ ?_
    · rintro i H3 _ ⟨ms, e, _⟩
      exact .inl (.inl (e _ _ np hp))
    · rintro i x H3 H4 hi ⟨ms, e, hb, hD3, sub⟩ ⟨rfl, hx⟩
      rw [List.length_map] at hi
      rw [List.getElem?_map, List.getElem?_eq_getElem hi] at hx
      have ex : x = .int ns[i] := (Option.some.inj hx).symm
      subst ex
      have tk : ns.take (i + 1) = ns.take i ++ [ns[i]] := by rw [List.take_add_one, List.getElem?_eq_getElem hi]; rfl
      have ml : ms.length ≤ i := Nat.le_trans sub.length_le (by rw [List.length_take]; omega)
      refine ⟨rfl, ?_⟩
      refine ⟨.ref bx, rfl, .int m, rfl, bx, c + i, m, rfl, m0, m1, by omega, hb, fun r H5 r0 r1 e5 b5 => ?_⟩
      have hD5 := e5 _ _ nD hD3
      have b6 : Box bx (c + (i + 1 : Nat)) H5 := b5.mono (by omega)
      refine ⟨rfl, _, rfl, ite2 (fun z => ?_) (fun z => ?_)⟩
      · refine ⟨.int ns[i], rfl, _, hD5, by rw [List.length_map]; exact small1000 (by omega), ms ++ [ns[i]], (e.trans e5).new hD, b6.at nD, ?_, ?_⟩
        · rw [upd_same, List.map_append]; rfl
        · rw [tk]; exact sub.append (List.Sublist.refl _)
      · refine ⟨ms, e.trans e5, b6, hD5, ?_⟩
        rw [tk]; exact sub.trans (List.sublist_append_left _ _)
    · rintro H3 ⟨ms, e, hb, hD3, sub⟩
      rw [List.length_map] at hb sub
      rw [List.take_length] at sub
      exact q D ms H3 e hb hD hD3 sub
end
end Lh

namespace Lh
open PySem PySem.Spec PyProof.Rows L2
section
variable {P : Program} {w : World} {K : PySem.W.Frag} {mg : Str → Option Value} {base : Heap}
theorem Paired.snoc {α β : Type} {R : α → β → Prop} {x : α} {y : β} (r : R x y) : ∀ {xs : List α} {ys : List β}, Paired R xs ys → Paired R (xs ++ [x]) (ys ++ [y])
  | _, _, .nil => .cons r .nil
  | _, _, .cons h t => .cons h (Paired.snoc r t)
def spSumRule : Sp := fun vs H Q _ => ∃ (bx p : Addr) (c far many : Int) (ns : List Int), vs = [.ref bx, .ref p, .int far] ∧ 0 < far ∧ far ≤ 999 ∧ c + 2 * ns.length + 4 ≤ 1000000000 ∧ ns.length ≤ 1000 ∧ Box bx c H ∧ H p = some (.lst (ns.map V.int)) ∧ p ≠ bx ∧ Rising many ns ∧
  ∀ (v : V) (r : Rule) (H' : Hp), Ext bx H H' → Box bx (c + 2 * ns.length + 4) H' → RuleAt H' v r → r.Wf many → r.persons = ns → Q v H'
theorem ok_sum_rule (T : Txt K mg w) : FnOk P w K mg base CX0 2 T.f_sum_rule T.fd_sum_rule p_sum_rule spSumRule := by
  have G_take := ok_take (P := P) (w := w) (base := base) T
  refine T.F_sum_rule.ok sc_sum_rule (fun vs H Q E h => ?_) (fun cdv A outer s H vs Q E hr h => ?_)
  · obtain ⟨bx, p, c, far, many, ns, rfl, _⟩ := h
    rfl
  · obtain ⟨bx, p, c, far, many, ns, rfl, f0, f1, c1, hl, hB, hp, np, rs, q⟩ := h
    refine ⟨_, (pss_cons (ps_set (i := 3) sc_sum_rule.nd rfl (.inl rfl) (pe_ix ix_list (pe_lst (pa_cons pe_int (pa_cons pe_int (pa_cons pe_int (pa_cons (pe_call G_take (hr.mono (by decide)) (by rfl) T.g_take T.F_take.kp T.b_take .nil pass0 (pa_cons (pv 0) (pa_cons pe_int pa_nil))) pa_nil))))) (pe_call G_take (hr.mono (by decide)) (by rfl) T.g_take T.F_take.kp T.b_take .nil pass0 (pa_cons (pv 0) (pa_cons pe_int pa_nil))) (fun _ _ => rfl)))
      (pss_cons (ps_set (i := 4) sc_sum_rule.nd rfl (.inl rfl) (pe_callTy call_tupleF (by rfl) T.m_tuple (by decide +kernel) (pa_cons (pe_lc (own := [("_law_one", 5)]) (g := gName 5) (by rfl) sc_sum_rule.nd (pi_list (pv 1)) (blkOk_by (own := [("_law_one", 5)]) (N := n_sum_rule) (sc := defScope s_sum_rule) (by decide +kernel)) (fun _ _ _ _ _ => (pg_name (i := 5) sc_sum_rule.nd rfl (.inl rfl) (.inr rfl))) (fun _ _ _ _ _ => pts_nil) (fun _ _ _ _ _ => (pe_tup (pa_cons (pv 5) (pa_cons (pe_ix (r := rIxL K) ix_list (pe_lst (pa_cons pe_int (pa_cons pe_int (pa_cons pe_int (pa_cons (pe_op op_add pe_int (pe_call G_take (hr.mono (by decide)) (by rfl) T.g_take T.F_take.kp T.b_take .nil pass0 (pa_cons (pv 0) (pa_cons (pv 2) pa_nil)))) pa_nil))))) (pe_call G_take (hr.mono (by decide)) (by rfl) T.g_take T.F_take.kp T.b_take .nil pass0 (pa_cons (pv 0) (pa_cons pe_int pa_nil))) (fun _ _ => rfl)) pa_nil))))) pa_nil)))
      (pss_one (ps_ret (pe_ifExp (pt_cmpR op_gt (pe_call G_take (hr.mono (by decide)) (by rfl) T.g_take T.F_take.kp T.b_take .nil pass0 (pa_cons (pv 0) (pa_cons pe_int pa_nil))) pe_int (nomark _)) (pe_tup (pa_cons pe_str (pa_cons (pv 3) (pa_cons (pv 4) pa_nil)))) (pe_tup (pa_cons pe_str (pa_cons (pv 3) (pa_cons (pv 4) (pa_cons (pe_call G_take (hr.mono (by decide)) (by rfl) T.g_take T.F_take.kp T.b_take .nil pass0 (pa_cons (pv 0) (pa_cons pe_int pa_nil))) pa_nil)))))))))), ?_⟩
    -- the own number
    refine ⟨.ref bx, rfl, bx, c, 4, rfl, by decide, by decide, by omega, hB, fun r1 H1 r10 r11 e1 b1 => ⟨by show 4 ≤ sizeLine; decide, fun l hl1 => ?_⟩⟩
    have nl : l ≠ bx := b1.ne hl1
    refine ⟨.ref bx, rfl, bx, c + 1, 4, rfl, by decide, by decide, by omega, b1.new hl1, fun r2 H2 r20 r21 e2 b2 => ?_⟩
    obtain ⟨v0, m0, a0⟩ := pick (xs := [V.int 0, .int 0, .int 1, .int r1]) r20 (by simpa using r21)
    have hl2 : H2 l = some (.lst [V.int 0, .int 0, .int 1, .int r1]) := e2 _ _ nl upd_same
    refine ⟨l, _, r2, v0, rfl, rfl, .inl (.inl hl2), a0, ?_⟩
    obtain ⟨own, rfl, o1⟩ : ∃ own : Int, v0 = .int own ∧ smallI own := by
      simp only [List.mem_cons, List.not_mem_nil, or_false] at m0
      rcases m0 with rfl | rfl | rfl | rfl
      · exact ⟨0, rfl, by decide, by decide⟩
      · exact ⟨0, rfl, by decide, by decide⟩
      · exact ⟨1, rfl, by decide, by decide⟩
      · exact ⟨r1, rfl, r10, by omega⟩
    have eX : Ext bx H H2 := (e1.trans ((Ext.refl _).new hl1)).trans e2
    have hp2 := eX _ _ np hp
    -- the ties
    refine ⟨.ref p, rfl, p, rfl, ⟨_, .inl (.inl hp2)⟩, fun D hD => ?_⟩
    have nD : D ≠ bx := b2.ne hD
    refine lc_it (walk_list (xs := ns.map V.int)) (fun i H3 => ∃ (ps : List Addr) (ties : List (Int × Int)), Ext bx H2 H3 ∧ Box bx (c + 2 + 2 * i) H3 ∧ H3 D = some (.lst (ps.map V.ref)) ∧ Paired (PairAtH H3) ps ties ∧ ties.map (·.1) = ns.take i ∧ ∀ q ∈ ties, 1 ≤ q.2 ∧ q.2 ≤ 1000)
      ⟨[], [], (Ext.refl _).new hD, (b2.new hD).mono (by omega), upd_same, .nil, rfl, fun q h => absurd h (by simp)⟩ ?_ ?_ ?_
    · rintro i H3 _ ⟨ps, ties, e, _⟩
      exact .inl (.inl (e _ _ np hp2))
    · rintro i x H3 H4 hi ⟨ps, ties, e, hb, hD3, pr, tf, tw⟩ ⟨rfl, hx⟩
      rw [List.length_map] at hi
      rw [List.getElem?_map, List.getElem?_eq_getElem hi] at hx
      have ex : x = .int ns[i] := (Option.some.inj hx).symm
      subst ex
      have tk : ns.take (i + 1) = ns.take i ++ [ns[i]] := by rw [List.take_add_one, List.getElem?_eq_getElem hi]; rfl
      have pl : ps.length = i := by
        have h1 : ps.length = ties.length := pr.length
        have h2 := congrArg List.length tf
        rw [List.length_map, List.length_take] at h2
        omega
      refine ⟨rfl, yes (iteT ?_)⟩
      refine ⟨.int ns[i], rfl, .ref bx, rfl, .int far, rfl, bx, c + 2 + 2 * i, far, rfl, f0, by omega, by omega, hb, fun r5 H5 r50 r51 e5 b5 => ⟨1, r5, rfl, rfl, by show 4 ≤ sizeLine; decide, fun l5 hl5 => ?_⟩⟩
      have nl5 : l5 ≠ bx := b5.ne hl5
      refine ⟨.ref bx, rfl, bx, c + 2 + 2 * i + 1, 4, rfl, by decide, by decide, by omega, b5.new hl5, fun r6 H6 r60 r61 e6 b6 => ?_⟩
      obtain ⟨v6, m6, a6⟩ := pick (xs := [V.int 1, .int 1, .int 2, .int (1 + r5)]) r60 (by simpa using r61)
      have hl6 : H6 l5 = some (.lst [V.int 1, .int 1, .int 2, .int (1 + r5)]) := e6 _ _ nl5 upd_same
      obtain ⟨wt, rfl, w1⟩ : ∃ wt : Int, v6 = .int wt ∧ 1 ≤ wt ∧ wt ≤ 1000 := by
        simp only [List.mem_cons, List.not_mem_nil, or_false] at m6
        rcases m6 with rfl | rfl | rfl | rfl
        · exact ⟨1, rfl, by decide, by decide⟩
        · exact ⟨1, rfl, by decide, by decide⟩
        · exact ⟨2, rfl, by decide, by decide⟩
        · exact ⟨1 + r5, rfl, by omega, by omega⟩
      refine ⟨l5, _, r6, _, rfl, rfl, .inl (.inl hl6), a6, by show 2 ≤ sizeLine; decide, fun t ht => ?_⟩
      have k36 : Keep H4 H6 := (Keep.ext e5 hb).trans ((Keep.same (same_upd hl5)).trans (Keep.ext e6 (b5.new hl5)))
      have e36 : Ext bx H4 H6 := (e5.trans ((Ext.refl _).new hl5)).trans e6
      have hD6 := e36 _ _ nD hD3
      refine ⟨_, by rw [upd_ne (ne_of_none hD6 ht)]; exact hD6, by rw [List.length_map]; exact small1000 (by omega), ps ++ [t], ties ++ [(ns[i], wt)], ?_, ?_, ?_, ?_, ?_, ?_⟩
      · exact ((e.trans e36).trans ((Ext.refl _).new ht)).new hD
      · exact ((b6.new ht).at nD).mono (by omega)
      · rw [upd_same, List.map_append]; rfl
      · have ntD : t ≠ D := (ne_of_none hD6 ht).symm
        have kT : Keep H6 (upd (upd H6 t (.tup [.int ns[i], .int wt])) D (.lst (ps.map V.ref ++ [.ref t]))) := by
          refine ⟨fun a xs h => ?_, fun a o u h => ?_⟩
          · rw [upd_ne (ne_of h hD6 (by intro z; cases z)), upd_ne (ne_of_none h ht)]; exact h
          · rw [upd_ne (ne_of h hD6 (by intro z; cases z)), upd_ne (ne_of_none h ht)]; exact h
        refine Paired.snoc ?_ (pairs_keep (k36.trans kT) pr)
        show upd (upd H6 t _) D _ t = _
        rw [upd_ne ntD, upd_same]
      · rw [List.map_append, tf, tk]; rfl
      · intro q hq
        rcases List.mem_append.mp hq with hq | hq
        · exact tw q hq
        · rw [List.mem_singleton.mp hq]; exact w1
    · rintro H3 ⟨ps, ties, e, hb, hD3, pr, tf, tw⟩
      rw [List.length_map] at hb tf
      rw [List.take_length] at tf
      refine ⟨D, _, rfl, .inl (.inl hD3), fun t o nt od => ?_⟩
      have nt2 : t ≠ bx := hb.ne nt
      have b4 := hb.new (o := .frz o (.tup (ps.map V.ref))) nt
      -- sum or cap
      refine ⟨.ref bx, rfl, bx, _, 4, rfl, by decide, by decide, ?_, b4, fun r5 H5 r50 r51 e5 b5 => ?_⟩
      · omega
      have k5 := Keep.ext e5 b4
      have tA : TiesAt H5 t ties := ⟨o, ps, od, k5.frz _ _ _ upd_same, pairs_keep ((Keep.same (same_upd nt)).trans k5) pr⟩
      have eA : Ext bx H H5 := ((eX.trans e).trans ((Ext.refl _).new nt)).trans e5
      refine ⟨_, 0, rfl, rfl, _, rfl, ite2 (fun z => ?_) (fun z => ?_)⟩
      · refine ⟨.int own, rfl, .ref t, rfl, by show 3 ≤ sizeLine; decide, fun a ha => ?_⟩
        refine q (.ref a) (.sum own ties) _ (eA.trans ((Ext.refl _).new ha)) ((b5.new ha).mono (by omega)) ⟨a, t, rfl, upd_same, tA.keep (Keep.same (same_upd ha))⟩ ⟨o1, by rw [tf]; exact rs, tw⟩ tf
      · refine ⟨.int own, rfl, .ref t, rfl, .ref bx, rfl, bx, _, 6, rfl, by decide, by decide, ?_, b5, fun r6 H6 r60 r61 e6 b6 => ⟨by show 4 ≤ sizeLine; decide, fun a ha => ?_⟩⟩
        · omega
        refine q (.ref a) (.cap own ties r6) _ ((eA.trans e6).trans ((Ext.refl _).new ha)) ((b6.new ha).mono (by omega)) ⟨a, t, rfl, upd_same, (tA.keep (Keep.ext e6 b5)).keep (Keep.same (same_upd ha))⟩ ⟨o1, by rw [tf]; exact rs, tw, r60, by omega⟩ tf
end
end Lh

namespace Lh
open PySem PySem.Spec PyProof.Rows L2
section
variable {P : Program} {w : World} {K : PySem.W.Frag} {mg : Str → Option Value} {base : Heap}
def spRule : Sp := fun vs H Q _ => ∃ (bx p : Addr) (c far many : Int) (m : V) (ns : List Int), vs = [.ref bx, m, .ref p, .int far] ∧ 0 < far ∧ far ≤ 999 ∧ c + 3 * ns.length + 6 ≤ 1000000000 ∧ ns.length ≤ 1000 ∧ Box bx c H ∧ H p = some (.lst (ns.map V.int)) ∧ p ≠ bx ∧ Rising many ns ∧
  ∀ (v : V) (r : Rule) (H' : Hp), Ext bx H H' → Box bx (c + 3 * ns.length + 6) H' → RuleAt H' v r → r.Wf many → r.persons.Sublist ns → Q v H'
theorem ok_rule (T : Txt K mg w) : FnOk P w K mg base CX0 3 T.f_rule T.fd_rule p_rule spRule := by
  have G_take := ok_take (P := P) (w := w) (base := base) T
  have G_some := ok_some (P := P) (w := w) (base := base) T
  have G_sum_rule := ok_sum_rule (P := P) (w := w) (base := base) T
  refine T.F_rule.ok sc_rule (fun vs H Q E h => ?_) (fun cdv A outer s H vs Q E hr h => ?_)
  · obtain ⟨bx, p, c, far, many, m, ns, rfl, _⟩ := h
    rfl
  · obtain ⟨bx, p, c, far, many, m, ns, rfl, f0, f1, c1, hl, hB, hp, np, rs, q⟩ := h
    refine ⟨_, (pss_cons (ps_par (i := 4) (j := 5) (by rfl) sc_rule.nd rfl rfl (by decide) rfl rfl (pa_cons (pe_call G_some (hr.mono (by decide)) (by rfl) T.g_some T.F_some.kp T.b_some .nil pass0 (pa_cons (pv 0) (pa_cons (pv 2) (pa_cons pe_int pa_nil)))) (pa_cons (pe_call G_take (hr.mono (by decide)) (by rfl) T.g_take T.F_take.kp T.b_take .nil pass0 (pa_cons (pv 0) (pa_cons pe_int pa_nil))) pa_nil)) (by rfl))
      (pss_cons (ps_if (pt_cmpR op_eq (pv 5) pe_int (nomark _))
        (pss_one (ps_ret (pe_tup (pa_cons pe_str (pa_cons (pe_call G_take (hr.mono (by decide)) (by rfl) T.g_take T.F_take.kp T.b_take .nil pass0 (pa_cons (pv 0) (pa_cons pe_int pa_nil))) pa_nil)))))
        pss_nil)
      (pss_cons (ps_if (pt_cmpR op_eq (pv 5) pe_int (nomark _))
        (pss_one (ps_ret (pe_tup (pa_cons pe_str (pa_cons (pe_call G_take (hr.mono (by decide)) (by rfl) T.g_take T.F_take.kp T.b_take .nil pass0 (pa_cons (pv 0) (pa_cons pe_int pa_nil))) (pa_cons (pe_callTy call_tupleF (by rfl) T.m_tuple (by decide +kernel) (pa_cons (pv 4) pa_nil)) pa_nil))))))
        pss_nil)
      (pss_cons (ps_if (pt_cmpR op_eq (pv 5) pe_int (nomark _))
        (pss_one (ps_ret (pe_tup (pa_cons pe_str (pa_cons (pe_callTy call_tupleF (by rfl) T.m_tuple (by decide +kernel) (pa_cons (pv 4) pa_nil)) pa_nil)))))
        pss_nil)
      (pss_one (ps_ret (pe_ifExp (pt_cmpR op_eq (pv 5) pe_int (nomark _)) (pe_tup (pa_cons pe_str (pa_cons (pe_callTy call_tupleF (by rfl) T.m_tuple (by decide +kernel) (pa_cons (pv 4) pa_nil)) pa_nil))) (pe_call G_sum_rule (hr.mono (by decide)) (by rfl) T.g_sum_rule T.F_sum_rule.kp T.b_sum_rule .nil pass0 (pa_cons (pv 0) (pa_cons (pv 4) (pa_cons (pv 3) pa_nil))))))))))), ?_⟩
    refine ⟨.ref bx, rfl, .ref p, rfl, bx, p, c, 2, ns, rfl, by decide, by decide, by omega, hl, hB, hp, np, fun z ms H1 e1 b1 nz hz sub => ?_⟩
    have nz2 : z ≠ bx := hB.ne nz
    have ml := sub.length_le
    refine ⟨.ref bx, rfl, bx, _, 10, rfl, by decide, by decide, by omega, b1, fun r2 H2 r20 r21 e2 b2 => ⟨_, _, rfl, ?_⟩⟩
    have hz2 := e2 _ _ nz2 hz
    have eX := e1.trans e2
    refine ⟨.int r2, rfl, rfl, _, rfl, ite2 (fun w0 => ?_) (fun w0 => ?_)⟩
    · refine ⟨.ref bx, rfl, bx, _, 7, rfl, by decide, by decide, by omega, b2, fun r3 H3 r30 r31 e3 b3 => ⟨by show 2 ≤ sizeLine; decide, fun a ha => ?_⟩⟩
      exact q (.ref a) (.held r3) _ ((eX.trans e3).trans ((Ext.refl _).new ha)) ((b3.new ha).mono (by omega)) ⟨a, rfl, upd_same⟩ ⟨r30, by omega⟩ (List.nil_sublist _)
    refine ⟨.int r2, rfl, rfl, _, rfl, ite2 (fun w1 => ?_) (fun w1 => ?_)⟩
    · refine ⟨.ref bx, rfl, bx, _, 3, rfl, by decide, by decide, by omega, b2, fun r3 H3 r30 r31 e3 b3 => ?_⟩
      refine ⟨.ref z, rfl, z, _, rfl, .inl (.inl (e3 _ _ nz2 hz2)), fun t o nt od => ⟨by show 3 ≤ sizeLine; decide, fun a ha => ?_⟩⟩
      exact q (.ref a) (.kinds r3 ms) _ (((eX.trans e3).trans ((Ext.refl _).new nt)).trans ((Ext.refl _).new ha)) (((b3.new nt).new ha).mono (by omega)) ⟨a, t, rfl, upd_same, .inr ⟨o, od, by rw [upd_ne (ne_of_none upd_same ha)]; exact upd_same⟩⟩ ⟨⟨r30, by omega⟩, rs.sub sub⟩ sub
    refine ⟨.int r2, rfl, rfl, _, rfl, ite2 (fun w2 => ?_) (fun w2 => ?_)⟩
    · refine ⟨.ref z, rfl, z, _, rfl, .inl (.inl hz2), fun t o nt od => ⟨by show 2 ≤ sizeLine; decide, fun a ha => ?_⟩⟩
      exact q (.ref a) (.next ms) _ ((eX.trans ((Ext.refl _).new nt)).trans ((Ext.refl _).new ha)) (((b2.new nt).new ha).mono (by omega)) ⟨a, t, rfl, upd_same, .inr ⟨o, od, by rw [upd_ne (ne_of_none upd_same ha)]; exact upd_same⟩⟩ (rs.sub sub) sub
    refine ⟨.int r2, rfl, rfl, _, rfl, ite2 (fun w3 => ?_) (fun w3 => ?_)⟩
    · refine ⟨.ref z, rfl, z, _, rfl, .inl (.inl hz2), fun t o nt od => ⟨by show 2 ≤ sizeLine; decide, fun a ha => ?_⟩⟩
      exact q (.ref a) (.free ms) _ ((eX.trans ((Ext.refl _).new nt)).trans ((Ext.refl _).new ha)) (((b2.new nt).new ha).mono (by omega)) ⟨a, t, rfl, upd_same, .inr ⟨o, od, by rw [upd_ne (ne_of_none upd_same ha)]; exact upd_same⟩⟩ (rs.sub sub) sub
    · refine ⟨.ref bx, rfl, .ref z, rfl, .int far, rfl, bx, z, _, far, many, ms, rfl, f0, f1, ?_, by omega, b2, hz2, nz2, rs.sub sub, fun v r H3 e3 b3 ra wf pe => ?_⟩
      · omega
      · exact q v r H3 (eX.trans e3) (b3.mono (by omega)) ra wf (by rw [pe]; exact sub)
end
end Lh

namespace Lh
open PySem PySem.Spec PyProof.Rows L2
/-! ### what a rule tells -/
theorem nodup_len {α : Type} [DecidableEq α] : ∀ (xs ys : List α), xs.Nodup → (∀ x ∈ xs, x ∈ ys) → xs.length ≤ ys.length
  | [], _, _, _ => Nat.zero_le _
  | x :: t, ys, nd, h => by
    have hx : x ∈ ys := h x List.mem_cons_self
    have nt := List.nodup_cons.mp nd
    have h2 := nodup_len t (ys.erase x) nt.2 (fun y hy => by
      have ne : y ≠ x := fun e => nt.1 (by rw [← e]; exact hy)
      exact (List.mem_erase_of_ne ne).mpr (h y (List.mem_cons_of_mem _ hy)))
    rw [List.length_erase_of_mem hx] at h2
    have : 0 < ys.length := List.length_pos_of_mem hx
    rw [List.length_cons]
    omega
def wgt (ties : List (Int × Int)) (p : Int) : Int := ((ties.find? fun q => decide (q.1 = p)).map (·.2)).getD 0
def IsMex (ns : List Int) (x : Int) : Prop := x ∉ ns ∧ 0 ≤ x ∧ ∀ j, 0 ≤ j → j < x → j ∈ ns
def Tell : Rule → List (Int × Int) → Int → Prop
  | .held n, _, x => x = n
  | .sum own ties, lot, x => x = own + (lot.map fun q => wgt ties q.1).sum
  | .cap own ties most, lot, x => x = min (own + (lot.map fun q => wgt ties q.1).sum) most
  | .kinds own _, lot, x => ∃ ks : List Int, ks.Nodup ∧ (∀ k, k ∈ ks ↔ k ∈ lot.map (·.2)) ∧ x = own + ks.length
  | .next _, lot, x => (lot = [] ∧ x = 0) ∨ (x - 1 ∈ lot.map (·.2) ∧ ∀ y ∈ lot.map (·.2), y ≤ x - 1)
  | .free _, lot, x => IsMex (lot.map (·.2)) x
theorem Tell.unique : ∀ {r : Rule} {lot : List (Int × Int)} {x y : Int}, Tell r lot x → Tell r lot y → x = y
  | .held _, _, _, _, h, k => h.trans k.symm
  | .sum _ _, _, _, _, h, k => h.trans k.symm
  | .cap _ _ _, _, _, _, h, k => h.trans k.symm
  | .kinds _ _, lot, x, y, ⟨a, na, ma, ha⟩, ⟨b, nb, mb, hb⟩ => by
    have h1 := nodup_len a b na (fun z hz => (mb z).mpr ((ma z).mp hz))
    have h2 := nodup_len b a nb (fun z hz => (ma z).mpr ((mb z).mp hz))
    omega
  | .next _, lot, x, y, h, k => by
    rcases h with ⟨h1, h2⟩ | ⟨h1, h2⟩
    · rcases k with ⟨k1, k2⟩ | ⟨k1, k2⟩
      · omega
      · rw [h1] at k1; exact absurd k1 (by simp)
    · rcases k with ⟨k1, k2⟩ | ⟨k1, k2⟩
      · rw [k1] at h1; exact absurd h1 (by simp)
      · have := h2 _ k1; have := k2 _ h1; omega
  | .free _, lot, x, y, ⟨h1, h2, h3⟩, ⟨k1, k2, k3⟩ => by
    rcases Int.lt_trichotomy x y with h | h | h
    · exact absurd (k3 x h2 h) h1
    · exact h
    · exact absurd (h3 y k2 h) k1
/-! ### dicts of ties -/
def kvOf (ties : List (Int × Int)) : List (Key × V) := ties.map fun q => (Sum.inl q.1, V.int q.2)
theorem merge_new : ∀ (more acc : List (Key × V)), ((acc ++ more).map (·.1)).Nodup → mergeK acc more = acc ++ more
  | [], acc, _ => by rw [List.append_nil]; rfl
  | q :: t, acc, nd => by
    have hq : (acc.any fun kv => decide (kv.1 = q.1)) = false := by
      rw [List.any_eq_false]
      intro kv hkv e
      have e' : kv.1 = q.1 := of_decide_eq_true e
      rw [List.map_append, List.nodup_append] at nd
      exact nd.2.2 _ (List.mem_map_of_mem hkv) q.1 (by simp) e'
    have e1 : mergeK acc (q :: t) = mergeK (putK acc q.1 q.2) t := rfl
    have e2 : putK acc q.1 q.2 = acc ++ [q] := by
      unfold putK
      rw [hq, if_neg Bool.false_ne_true]
    rw [e1, e2, merge_new t (acc ++ [q]) (by rw [List.append_assoc]; exact nd), List.append_assoc]
    rfl
theorem kv_nodup {ties : List (Int × Int)} (h : (ties.map (·.1)).Nodup) : ((kvOf ties).map (·.1)).Nodup := by
  unfold kvOf
  rw [List.map_map]
  have e : ((fun q : Key × V => q.1) ∘ fun q : Int × Int => ((Sum.inl q.1 : Key), V.int q.2)) = (fun n : Int => (Sum.inl n : Key)) ∘ (fun q : Int × Int => q.1) := rfl
  rw [e, ← List.map_map, List.nodup_iff_pairwise_ne]
  rw [List.nodup_iff_pairwise_ne] at h
  exact List.Pairwise.map _ (fun a b z q => z (Sum.inl.inj q)) h
theorem kv_get : ∀ {ties : List (Int × Int)} {p : Int}, p ∈ ties.map (·.1) → valV (kvOf ties) (Sum.inl p) = some (.int (wgt ties p))
  | [], p, h => absurd h (by simp)
  | q :: t, p, h => by
    by_cases e : q.1 = p
    · have e1 : valV (kvOf (q :: t)) (Sum.inl p) = some (V.int q.2) := valV_pos (p := ((Sum.inl q.1 : Key), V.int q.2)) (by rw [e])
      rw [e1]
      unfold wgt
      rw [List.find?_cons, decide_eq_true e]
      rfl
    · have e1 : valV (kvOf (q :: t)) (Sum.inl p) = valV (kvOf t) (Sum.inl p) := valV_neg (p := ((Sum.inl q.1 : Key), V.int q.2)) (fun z => e (Sum.inl.inj z))
      have h' : p ∈ t.map (·.1) := by
        rw [List.map_cons, List.mem_cons] at h
        rcases h with h | h
        · exact absurd h.symm e
        · exact h
      rw [e1, kv_get h']
      unfold wgt
      rw [List.find?_cons, decide_eq_false e]
theorem Rising.nodup {many : Int} {ns : List Int} (h : Rising many ns) : ns.Nodup := by
  rw [List.nodup_iff_pairwise_ne]
  exact h.1.imp fun z => by omega
/-! ### a walk over pairs -/
theorem walk_tupR {K : PySem.W.Frag} {t : Addr} (ps : List Addr) : Walk (Itt K t) ps.length (fun H => SqT K H t (ps.map V.ref)) (YAt (ps.map V.ref)) := by
  have h := walk_tup (K := K) (a := t) (xs := ps.map V.ref)
  rw [List.length_map] at h
  exact h
theorem walk_listR {K : PySem.W.Frag} {t : Addr} (ps : List Addr) : Walk (Itl K t) ps.length (fun H => SqL K H t (ps.map V.ref)) (YAt (ps.map V.ref)) := by
  have h := walk_list (K := K) (a := t) (xs := ps.map V.ref)
  rw [List.length_map] at h
  exact h
theorem lc_pairs {K : PySem.W.Frag} {J : It} {G : Hp → Prop} {ps : List Addr} {lot : List (Int × Int)} {H1 : Hp} {D : Addr} {σ : L2.St} {vs : List Nat} {te : TE} {Qd : Hp → Prop} {i j : Nat} (f : Int × Int → Int)
    (wk : Walk J ps.length G (YAt (ps.map V.ref))) (hp : Paired (PairAtH H1) ps lot) (hD : H1 D = none) (hl : ps.length ≤ 1000) (hG : ∀ H3, Same H1 H3 → G H3)
    (hw : ∀ a b, wipe (((wipe σ vs).set i a).set j b) vs = wipe σ vs)
    (he : ∀ q ∈ lot, ∀ H3, Same H1 H3 → ∀ Q : VK, Q (.int (f q)) H3 → te (((wipe σ vs).set i (some (.int q.1))).set j (some (.int q.2))) H3 Q)
    (hq : ∀ H', Same H1 H' → H' D = some (.lst ((lot.map f).map V.int)) → Qd H') :
    ∃ W : Nat → Nat → Hp → Prop, (∃ m, W 0 m (upd H1 D (.lst []))) ∧ ∀ i1 m H, W i1 m H →
      (J.stop i1 H ∧ Qd H) ∨ (J.go i1 H ∧ ∃ Nx : Hp → Prop, (∀ H', Nx H' → ∃ m', m' < m ∧ W (i1 + 1) m' H') ∧ ∀ x H', J.yld i1 H x H' → gTup K 2 (gCons (gName i) (gCons (gName j) gNil)) x (wipe σ vs) H' fun σ2 H2 => wipe σ2 vs = wipe σ vs ∧ tYes σ2 H2 fun b H3 =>
        if b = true then te σ2 H3 fun y H4 => ∃ acc, H4 D = some (.lst acc) ∧ acc.length < sizeLine ∧ Nx (upd H4 D (.lst (acc ++ [y]))) else Nx H3) := by
  have ll : ps.length = lot.length := hp.length
  refine lc_it wk (fun n H3 => Same H1 H3 ∧ H3 D = some (.lst (((lot.take n).map f).map V.int))) ⟨same_upd hD, upd_same⟩ (fun n H3 _ h => hG H3 h.1) ?_ ?_
  · rintro n x H3 H4 hn ⟨sm, h3⟩ ⟨rfl, hx⟩
    rw [List.getElem?_map, List.getElem?_eq_getElem hn] at hx
    have ex : x = .ref ps[n] := (Option.some.inj hx).symm
    subst ex
    have hn2 : n < lot.length := by omega
    have pa : PairAtH H1 ps[n] lot[n] := by
      have : ∀ {ps : List Addr} {lot : List (Int × Int)}, Paired (PairAtH H1) ps lot → ∀ (n : Nat) (h1 : n < ps.length) (h2 : n < lot.length), PairAtH H1 ps[n] lot[n] := by
        intro ps lot hp
        induction hp with
        | nil => intro n h1; exact absurd h1 (by simp)
        | cons r t ih =>
          intro n h1 h2
          cases n with
          | zero => exact r
          | succ n => exact ih n (by simpa using h1) (by simpa using h2)
      exact this hp n hn hn2
    refine ⟨ps[n], _, rfl, .inl (.inl (sm _ _ pa)), rfl, _, _, rfl, _, _, rfl, rfl, hw _ _, yes (iteT ?_)⟩
    refine he lot[n] (List.getElem_mem hn2) _ sm _ ⟨_, h3, ?_, same_mut sm hD, ?_⟩
    · rw [List.length_map, List.length_map, List.length_take]; exact small1000 (by omega)
    · rw [upd_same, List.take_add_one, List.getElem?_eq_getElem hn2, List.map_append, List.map_append]; rfl
  · rintro H3 ⟨sm, h3⟩
    rw [ll, List.take_length] at h3
    exact hq H3 sm h3
end Lh

namespace Lh
open PySem PySem.Spec PyProof.Rows L2
section
variable {P : Program} {w : World} {K : PySem.W.Frag} {mg : Str → Option Value} {base : Heap}
def spSeenBy : Sp := fun vs H Q _ => ∃ (v : V) (r : Rule), vs = [v] ∧ RuleAt H v r ∧ r.persons.length ≤ 1000 ∧ ∀ (p : Addr) (H' : Hp), Same H H' → H p = none → H' p = some (.lst (r.persons.map V.int)) → Q (.ref p) H'
theorem ok_seen_by (T : Txt K mg w) : FnOk P w K mg base CX0 1 T.f_seen_by T.fd_seen_by p_seen_by spSeenBy := by
  refine T.F_seen_by.ok sc_seen_by (fun vs H Q E h => ?_) (fun cdv A outer s H vs Q E hr h => ?_)
  · obtain ⟨v, r, rfl, _⟩ := h
    rfl
  · obtain ⟨v, r, rfl, hv, hl, q⟩ := h
    refine ⟨_, (pss_cons (ps_set (i := 1) sc_seen_by.nd rfl (.inl rfl) (pe_ix ix_tup (pv 0) pe_int (fun _ _ => rfl)))
      (pss_cons (ps_if (pt_cmpR op_eq (pv 1) pe_str (nomark _))
        (pss_one (ps_ret (pe_lst pa_nil)))
        pss_nil)
      (pss_cons (ps_if (pt_cmpR op_in_seq (pv 1) (pe_tup (pa_cons pe_str (pa_cons pe_str pa_nil))) (by rfl))
        (pss_one (ps_ret (pe_lc (own := [("person", 2), ("weight", 3)]) (g := gTup K 2 (gCons (gName 2) (gCons (gName 3) gNil))) (by rfl) sc_seen_by.nd (pi_tup (pe_ix ix_tup (pv 0) pe_int (fun _ _ => rfl))) (blkOk_by (own := [("person", 2), ("weight", 3)]) (N := n_seen_by) (sc := defScope s_seen_by) (by decide +kernel)) (fun _ _ _ _ _ => (pg_tup rfl (pgs_cons (pg_name (i := 2) sc_seen_by.nd rfl (.inl rfl) (.inr rfl)) (pgs_cons (pg_name (i := 3) sc_seen_by.nd rfl (.inl rfl) (.inr rfl)) pgs_nil)))) (fun _ _ _ _ _ => pts_nil) (fun _ _ _ _ _ => (pv 2)))))
        pss_nil)
      (pss_cons (ps_if (pt_cmpR op_eq (pv 1) pe_str (nomark _))
        (pss_one (ps_ret (pe_callTy call_list_of (by rfl) T.m_list (by decide +kernel) (pa_cons (pe_ix ix_tup (pv 0) pe_int (fun _ _ => rfl)) pa_nil))))
        pss_nil)
      (pss_one (ps_ret (pe_callTy call_list_of (by rfl) T.m_list (by decide +kernel) (pa_cons (pe_ix ix_tup (pv 0) pe_int (fun _ _ => rfl)) pa_nil)))))))), ?_⟩
    cases r with
    | held n =>
      obtain ⟨a, rfl, ha⟩ := hv
      refine ⟨.ref a, rfl, a, _, 0, _, rfl, rfl, .inl (.inl ha), rfl, ?_⟩
      refine ⟨_, rfl, rfl, _, rfl, iteP (by decide +kernel) ?_⟩
      exact ⟨Nat.zero_le _, fun p np => q p _ (same_upd np) np upd_same⟩
    | sum own ties =>
      obtain ⟨a, t, rfl, ha, o, ps, od, ht, pr⟩ := hv
      have el : ps.length = ties.length := pr.length
      have hl2 : ps.length ≤ 1000 := by rw [el]; simpa [Rule.persons] using hl
      refine ⟨.ref a, rfl, a, _, 0, _, rfl, rfl, .inl (.inl ha), rfl, ?_⟩
      refine ⟨_, rfl, rfl, _, rfl, iteN (by decide +kernel) ?_⟩
      refine ⟨_, rfl, by show 2 ≤ sizeLine; decide, fun u hu => ⟨u, _, rfl, .inr (.inl (.inl upd_same)), rfl, rfl, _, rfl, iteP (by decide +kernel) ?_⟩⟩
      have s1 := same_upd (o := .tup [.str "sum", .str "cap"]) hu
      refine ⟨.ref a, rfl, a, _, 2, _, rfl, rfl, .inl (.inl (s1 _ _ ha)), rfl, t, rfl, ⟨_, .inl (.inr ⟨o, s1 _ _ ht⟩)⟩, fun D hD => ?_⟩
      refine lc_pairs (·.1) (walk_tupR ps) (pairs_keep (Keep.same s1) pr) hD hl2 (fun H3 s3 => .inl (.inr ⟨o, s3 _ _ (s1 _ _ ht)⟩)) (fun _ _ => rfl) (fun q _ H3 _ Q h => ⟨_, rfl, h⟩) (fun H3 s3 h3 => ?_)
      exact q D H3 (s1.trans s3) (s1.free hD) h3
    | cap own ties most =>
      obtain ⟨a, t, rfl, ha, o, ps, od, ht, pr⟩ := hv
      have el : ps.length = ties.length := pr.length
      have hl2 : ps.length ≤ 1000 := by rw [el]; simpa [Rule.persons] using hl
      refine ⟨.ref a, rfl, a, _, 0, _, rfl, rfl, .inl (.inl ha), rfl, ?_⟩
      refine ⟨_, rfl, rfl, _, rfl, iteN (by decide +kernel) ?_⟩
      refine ⟨_, rfl, by show 2 ≤ sizeLine; decide, fun u hu => ⟨u, _, rfl, .inr (.inl (.inl upd_same)), rfl, rfl, _, rfl, iteP (by decide +kernel) ?_⟩⟩
      have s1 := same_upd (o := .tup [.str "sum", .str "cap"]) hu
      refine ⟨.ref a, rfl, a, _, 2, _, rfl, rfl, .inl (.inl (s1 _ _ ha)), rfl, t, rfl, ⟨_, .inl (.inr ⟨o, s1 _ _ ht⟩)⟩, fun D hD => ?_⟩
      refine lc_pairs (·.1) (walk_tupR ps) (pairs_keep (Keep.same s1) pr) hD hl2 (fun H3 s3 => .inl (.inr ⟨o, s3 _ _ (s1 _ _ ht)⟩)) (fun _ _ => rfl) (fun q _ H3 _ Q h => ⟨_, rfl, h⟩) (fun H3 s3 h3 => ?_)
      exact q D H3 (s1.trans s3) (s1.free hD) h3
    | kinds own seen =>
      obtain ⟨a, t, rfl, ha, ht⟩ := hv
      refine ⟨.ref a, rfl, a, _, 0, _, rfl, rfl, .inl (.inl ha), rfl, ?_⟩
      refine ⟨_, rfl, rfl, _, rfl, iteN (by decide +kernel) ?_⟩
      refine ⟨_, rfl, by show 2 ≤ sizeLine; decide, fun u hu => ⟨u, _, rfl, .inr (.inl (.inl upd_same)), rfl, rfl, _, rfl, iteN (by decide +kernel) ?_⟩⟩
      have s1 := same_upd (o := .tup [.str "sum", .str "cap"]) hu
      refine ⟨_, rfl, rfl, _, rfl, iteP (by decide +kernel) ?_⟩
      refine ⟨.ref a, rfl, a, _, 2, _, rfl, rfl, .inl (.inl (s1 _ _ ha)), rfl, t, _, rfl, .inr (TupAt.keep (Keep.same s1) ht).sq, fun p np => ?_⟩
      exact q p _ (s1.trans (same_upd np)) (s1.free np) upd_same
    | next seen =>
      obtain ⟨a, t, rfl, ha, ht⟩ := hv
      refine ⟨.ref a, rfl, a, _, 0, _, rfl, rfl, .inl (.inl ha), rfl, ?_⟩
      refine ⟨_, rfl, rfl, _, rfl, iteN (by decide +kernel) ?_⟩
      refine ⟨_, rfl, by show 2 ≤ sizeLine; decide, fun u hu => ⟨u, _, rfl, .inr (.inl (.inl upd_same)), rfl, rfl, _, rfl, iteN (by decide +kernel) ?_⟩⟩
      have s1 := same_upd (o := .tup [.str "sum", .str "cap"]) hu
      refine ⟨_, rfl, rfl, _, rfl, iteN (by decide +kernel) ?_⟩
      refine ⟨.ref a, rfl, a, _, 1, _, rfl, rfl, .inl (.inl (s1 _ _ ha)), rfl, t, _, rfl, .inr (TupAt.keep (Keep.same s1) ht).sq, fun p np => ?_⟩
      exact q p _ (s1.trans (same_upd np)) (s1.free np) upd_same
    | free seen =>
      obtain ⟨a, t, rfl, ha, ht⟩ := hv
      refine ⟨.ref a, rfl, a, _, 0, _, rfl, rfl, .inl (.inl ha), rfl, ?_⟩
      refine ⟨_, rfl, rfl, _, rfl, iteN (by decide +kernel) ?_⟩
      refine ⟨_, rfl, by show 2 ≤ sizeLine; decide, fun u hu => ⟨u, _, rfl, .inr (.inl (.inl upd_same)), rfl, rfl, _, rfl, iteN (by decide +kernel) ?_⟩⟩
      have s1 := same_upd (o := .tup [.str "sum", .str "cap"]) hu
      refine ⟨_, rfl, rfl, _, rfl, iteN (by decide +kernel) ?_⟩
      refine ⟨.ref a, rfl, a, _, 1, _, rfl, rfl, .inl (.inl (s1 _ _ ha)), rfl, t, _, rfl, .inr (TupAt.keep (Keep.same s1) ht).sq, fun p np => ?_⟩
      exact q p _ (s1.trans (same_upd np)) (s1.free np) upd_same
end
end Lh

namespace Lh
open PySem PySem.Spec PyProof.Rows L2
/-- a lot in the heap, a list of pairs or a tuple of them -/
def LotAt (H : Hp) (v : V) (lot : List (Int × Int)) : Prop := ∃ (a : Addr) (ps : List Addr), v = .ref a ∧ (H a = some (.lst (ps.map V.ref)) ∨ TupAt H a (ps.map V.ref)) ∧ Paired (PairAtH H) ps lot ∧ ps.length ≤ 1000
theorem LotAt.same {H H' : Hp} {v : V} {lot : List (Int × Int)} (s : Same H H') (h : LotAt H v lot) : LotAt H' v lot := by
  obtain ⟨a, ps, e, h1, h2, h3⟩ := h
  refine ⟨a, ps, e, ?_, pairs_keep (Keep.same s) h2, h3⟩
  rcases h1 with h1 | h1
  · exact .inl (s _ _ h1)
  · exact .inr (h1.keep (Keep.same s))
theorem pairs_sq {K : PySem.W.Frag} {H : Hp} : ∀ {ps : List Addr} {ties : List (Int × Int)}, Paired (PairAtH H) ps ties → Paired (fun p kv => SqT K H p [kV kv.1, kv.2]) ps (kvOf ties)
  | _, _, .nil => .nil
  | _, _, .cons h r => .cons (.inl (.inl h)) (pairs_sq r)
theorem merge_kv {ties : List (Int × Int)} (h : (ties.map (·.1)).Nodup) : mergeK [] (kvOf ties) = kvOf ties := by
  rw [merge_new (kvOf ties) [] (by rw [List.nil_append]; exact kv_nodup h), List.nil_append]
section
variable {P : Program} {w : World} {K : PySem.W.Frag} {mg : Str → Option Value} {base : Heap}
theorem in_ints (x : Int) (ns : List Int) : inV (.int x) (ns.map V.int) = decide (x ∈ ns) := by
  unfold inV
  rw [List.any_map]
  rw [Bool.eq_iff_iff, List.any_eq_true, decide_eq_true_iff]
  constructor
  · rintro ⟨y, hy, e⟩
    have e' : (y == x) = true := e
    rw [← eq_of_beq e']; exact hy
  · intro h
    exact ⟨x, h, (beq_self_eq_true x : (x == x) = true)⟩
theorem flat_ints (ns : List Int) : (ns.map V.int).all flatV = true := by
  rw [List.all_map, List.all_eq_true]
  intro _ _; rfl
end
end Lh

namespace Lh
open PySem PySem.Spec PyProof.Rows L2
def seenPairs : Rule → List (Int × Int)
  | .held _ => []
  | .sum _ ties => ties
  | .cap _ ties _ => ties
  | .kinds _ seen => seen.map fun n => (n, 1)
  | .next seen => seen.map fun n => (n, 1)
  | .free seen => seen.map fun n => (n, 1)
theorem seen_persons : ∀ r : Rule, (seenPairs r).map (·.1) = r.persons
  | .held _ => rfl
  | .sum _ _ => rfl
  | .cap _ _ _ => rfl
  | .kinds _ s => by show (s.map fun n => (n, (1 : Int))).map (·.1) = s; rw [List.map_map]; exact List.map_id s
  | .next s => by show (s.map fun n => (n, (1 : Int))).map (·.1) = s; rw [List.map_map]; exact List.map_id s
  | .free s => by show (s.map fun n => (n, (1 : Int))).map (·.1) = s; rw [List.map_map]; exact List.map_id s
section
variable {P : Program} {w : World} {K : PySem.W.Frag} {mg : Str → Option Value} {base : Heap}
/-- [(one, 1) for one in seen] -/
theorem lc_ones {K : PySem.W.Frag} {t : Addr} {seen : List Int} {H1 : Hp} {D : Addr} {σ : L2.St} {vs : List Nat} {Qd : Hp → Prop} {i : Nat} (ht : SeenAt H1 t seen) (hD : H1 D = none) (hl : seen.length ≤ 1000)
    (hw : ∀ a, wipe ((wipe σ vs).set i a) vs = wipe σ vs) (hi : ∀ a : V, ((wipe σ vs).set i (some a))[i]? = some (some a))
    (hq : ∀ H' ps, Same H1 H' → H' D = some (.lst (ps.map V.ref)) → Paired (PairAtH H') ps (seen.map fun n => (n, 1)) → Qd H') :
    ∃ W : Nat → Nat → Hp → Prop, (∃ m, W 0 m (upd H1 D (.lst []))) ∧ ∀ i1 m H, W i1 m H →
      ((Itt K t).stop i1 H ∧ Qd H) ∨ ((Itt K t).go i1 H ∧ ∃ Nx : Hp → Prop, (∀ H', Nx H' → ∃ m', m' < m ∧ W (i1 + 1) m' H') ∧ ∀ x H', (Itt K t).yld i1 H x H' → gName i x (wipe σ vs) H' fun σ2 H2 => wipe σ2 vs = wipe σ vs ∧ tYes σ2 H2 fun b H3 =>
        if b = true then tTup (tCons (tVar i) (tCons (tC (.int 1)) tNil)) σ2 H3 fun y H4 => ∃ acc, H4 D = some (.lst acc) ∧ acc.length < sizeLine ∧ Nx (upd H4 D (.lst (acc ++ [y]))) else Nx H3) := by
  refine lc_it (walk_tup (xs := seen.map V.int)) (fun n H3 => ∃ ps : List Addr, Same H1 H3 ∧ H3 D = some (.lst (ps.map V.ref)) ∧ Paired (PairAtH H3) ps ((seen.take n).map fun n => (n, 1))) ⟨[], same_upd hD, upd_same, .nil⟩ ?_ ?_ ?_
  · rintro n H3 _ ⟨ps, sm, _⟩
    exact (TupAt.keep (Keep.same sm) ht).sq
  · rintro n x H3 H4 hn ⟨ps, sm, h3, pr⟩ ⟨rfl, hx⟩
    rw [List.length_map] at hn
    rw [List.getElem?_map, List.getElem?_eq_getElem hn] at hx
    have ex : x = .int seen[n] := (Option.some.inj hx).symm
    subst ex
    have pl : ps.length = n := by rw [pr.length, List.length_map, List.length_take]; omega
    refine ⟨hw _, yes (iteT ⟨.int seen[n], hi _, by show 2 ≤ sizeLine; decide, fun p np => ?_⟩)⟩
    have nDp : D ≠ p := ne_of_none h3 np
    refine ⟨_, by rw [upd_ne nDp]; exact h3, by rw [List.length_map]; exact small1000 (by omega), ps ++ [p], ?_, ?_, ?_⟩
    · exact same_mut (sm.trans (same_upd np)) hD
    · rw [upd_same, List.map_append]; rfl
    · rw [List.take_add_one, List.getElem?_eq_getElem hn, List.map_append]
      have kT : Keep H4 (upd (upd H4 p (.tup [.int seen[n], .int 1])) D (.lst (ps.map V.ref ++ [.ref p]))) := by
        refine ⟨fun a xs h => ?_, fun a o u h => ?_⟩
        · rw [upd_ne (ne_of h h3 (by intro z; cases z)), upd_ne (ne_of_none h np)]; exact h
        · rw [upd_ne (ne_of h h3 (by intro z; cases z)), upd_ne (ne_of_none h np)]; exact h
      refine Paired.snoc ?_ (pairs_keep kT pr)
      show upd (upd H4 p _) D _ p = _
      rw [upd_ne nDp.symm, upd_same]
  · rintro H3 ⟨ps, sm, h3, pr⟩
    rw [List.length_map, List.take_length] at pr
    exact hq H3 ps sm h3 pr
def wordOf : Rule → Str
  | .held _ => "held"
  | .sum _ _ => "sum"
  | .cap _ _ _ => "cap"
  | .kinds _ _ => "kinds"
  | .next _ => "next"
  | .free _ => "free"
theorem RuleAt.word {H : Hp} {v : V} : ∀ {r : Rule}, RuleAt H v r → ∃ a xs, v = .ref a ∧ H a = some (.tup (.str (wordOf r) :: xs))
  | .held _, ⟨a, e, h⟩ => ⟨a, _, e, h⟩
  | .sum _ _, ⟨a, t, e, h, _⟩ => ⟨a, _, e, h⟩
  | .cap _ _ _, ⟨a, t, e, h, _⟩ => ⟨a, _, e, h⟩
  | .kinds _ _, ⟨a, t, e, h, _⟩ => ⟨a, _, e, h⟩
  | .next _, ⟨a, t, e, h, _⟩ => ⟨a, _, e, h⟩
  | .free _, ⟨a, t, e, h, _⟩ => ⟨a, _, e, h⟩
theorem last_max : ∀ (ms : List Int) (h : ms ≠ []), ms.Pairwise (· < ·) → ∀ y ∈ ms, y ≤ ms.getLast h
  | [], h, _, _, _ => absurd rfl h
  | [m], _, _, y, hy => by rw [List.mem_singleton.mp hy]; exact Int.le_refl _
  | m :: n :: r, _, pw, y, hy => by
    rw [List.getLast_cons (List.cons_ne_nil n r)]
    have p2 := List.pairwise_cons.mp pw
    rcases List.mem_cons.mp hy with e | e
    · have h1 := p2.1 _ (List.getLast_mem (List.cons_ne_nil n r))
      rw [e]; omega
    · exact last_max (n :: r) (List.cons_ne_nil n r) p2.2 y e
theorem canLay_ints : ∀ ns : List Int, PyData.canLayAll0 (ns.map PyData.int) = true
  | [] => rfl
  | n :: r => by rw [List.map_cons]; show (PyData.canLay0 (.int n) && PyData.canLayAll0 (r.map PyData.int)) = true; rw [canLay_ints r]; rfl
theorem depth_ints : ∀ ns : List Int, PyData.depthAll (ns.map PyData.int) = 0
  | [] => rfl
  | n :: r => by rw [List.map_cons]; show max 0 (PyData.depthAll (r.map PyData.int)) = 0; rw [depth_ints r]; rfl
theorem shaped_ints (ns : List Int) : SeqAt.shaped (.list (ns.map PyData.int)) = true := by
  show (PyData.canLayAll0 (ns.map PyData.int) && decide (PyData.depthAll (ns.map PyData.int) + 1 ≤ 64)) = true
  rw [canLay_ints, depth_ints]
  rfl
/-- [e for n in numbers] -/
theorem lc_ints {K : PySem.W.Frag} {t : Addr} {ns : List Int} {H1 : Hp} {D : Addr} {σ : L2.St} {vs : List Nat} {te : TE} {Qd : Hp → Prop} {i : Nat} (f : Int → Int) (ht : H1 t = some (.lst (ns.map V.int))) (hD : H1 D = none) (hl : ns.length ≤ 1000)
    (hw : ∀ a, wipe ((wipe σ vs).set i a) vs = wipe σ vs)
    (he : ∀ n ∈ ns, ∀ H3, Same H1 H3 → ∀ Q : VK, Q (.int (f n)) H3 → te ((wipe σ vs).set i (some (.int n))) H3 Q)
    (hq : ∀ H', Same H1 H' → H' D = some (.lst ((ns.map f).map V.int)) → Qd H') :
    ∃ W : Nat → Nat → Hp → Prop, (∃ m, W 0 m (upd H1 D (.lst []))) ∧ ∀ i1 m H, W i1 m H →
      ((Itl K t).stop i1 H ∧ Qd H) ∨ ((Itl K t).go i1 H ∧ ∃ Nx : Hp → Prop, (∀ H', Nx H' → ∃ m', m' < m ∧ W (i1 + 1) m' H') ∧ ∀ x H', (Itl K t).yld i1 H x H' → gName i x (wipe σ vs) H' fun σ2 H2 => wipe σ2 vs = wipe σ vs ∧ tYes σ2 H2 fun b H3 =>
        if b = true then te σ2 H3 fun y H4 => ∃ acc, H4 D = some (.lst acc) ∧ acc.length < sizeLine ∧ Nx (upd H4 D (.lst (acc ++ [y]))) else Nx H3) := by
  refine lc_it (walk_list (xs := ns.map V.int)) (fun n H3 => Same H1 H3 ∧ H3 D = some (.lst (((ns.take n).map f).map V.int))) ⟨same_upd hD, upd_same⟩ ?_ ?_ ?_
  · rintro n H3 _ ⟨sm, _⟩
    exact .inl (.inl (sm _ _ ht))
  · rintro n x H3 H4 hn ⟨sm, h3⟩ ⟨rfl, hx⟩
    rw [List.length_map] at hn
    rw [List.getElem?_map, List.getElem?_eq_getElem hn] at hx
    have ex : x = .int ns[n] := (Option.some.inj hx).symm
    subst ex
    refine ⟨hw _, yes (iteT (he ns[n] (List.getElem_mem hn) _ sm _ ⟨_, h3, ?_, same_mut sm hD, ?_⟩))⟩
    · rw [List.length_map, List.length_map, List.length_take]; exact small1000 (by omega)
    · rw [upd_same, List.take_add_one, List.getElem?_eq_getElem hn, List.map_append, List.map_append]; rfl
  · rintro H3 ⟨sm, h3⟩
    rw [List.length_map, List.take_length] at h3
    exact hq H3 sm h3
end
end Lh

namespace Lh
open PySem PySem.Spec PyProof.Rows L2
theorem walk_zipM {K : PySem.W.Frag} {a b : Addr} {xs ys : List V} {n : Nat} (hn : n = min xs.length ys.length) : Walk (RZ.ItzT K a b) n (fun H => SqT K H a xs ∧ SqT K H b ys) (YPair (fun i => xs[i]?) (fun i => ys[i]?)) := by
  refine ⟨fun i _ hi q => ⟨xs, ys, xs[i]'(by omega), ys[i]'(by omega), q.1, q.2, List.getElem?_eq_getElem (by omega), List.getElem?_eq_getElem (by omega)⟩, fun _ q => ⟨xs, ys, q.1, q.2, by omega⟩, ?_⟩
  rintro i H v H' _ q ⟨T, x, z, h1, h2, h3, h4, h5⟩
  exact ⟨T, x, z, h1, h2, h3, h4 xs q.1, h5 ys q.2⟩
/-- a comprehension whose items are all True -/
theorem lc_true {J : It} {n : Nat} {G : Hp → Prop} {Y : Nat → Hp → V → Hp → Prop} (wk : Walk J n G Y) {g : TG} {te : TE} {vs : List Nat} {σ : L2.St} {H1 : Hp} {D : Addr} {Qd : Hp → Prop} (hD : H1 D = none) (hn : n ≤ 1000) (hG : ∀ H3, Same H1 H3 → G H3)
    (hs : ∀ i x H3 H4, i < n → Same H1 H3 → Y i H3 x H4 → ∀ (Q : VK) (Z : Hp → Prop), (∀ H5, Same H3 H5 → Q (.bl true) H5) → g x (wipe σ vs) H4 fun σ2 H2 => wipe σ2 vs = wipe σ vs ∧ tYes σ2 H2 fun b H3 => if b = true then te σ2 H3 Q else Z H3)
    (hq : ∀ H', Same H1 H' → H' D = some (.lst ((List.replicate n true).map V.bl)) → Qd H') :
    ∃ W : Nat → Nat → Hp → Prop, (∃ m, W 0 m (upd H1 D (.lst []))) ∧ ∀ i m H, W i m H →
      (J.stop i H ∧ Qd H) ∨ (J.go i H ∧ ∃ Nx : Hp → Prop, (∀ H', Nx H' → ∃ m', m' < m ∧ W (i + 1) m' H') ∧ ∀ x H', J.yld i H x H' → g x (wipe σ vs) H' fun σ2 H2 => wipe σ2 vs = wipe σ vs ∧ tYes σ2 H2 fun b H3 =>
        if b = true then te σ2 H3 fun y H4 => ∃ acc, H4 D = some (.lst acc) ∧ acc.length < sizeLine ∧ Nx (upd H4 D (.lst (acc ++ [y]))) else Nx H3) := by
  refine lc_it wk (fun i H3 => Same H1 H3 ∧ H3 D = some (.lst ((List.replicate i true).map V.bl))) ⟨same_upd hD, upd_same⟩ (fun i H3 _ h => hG H3 h.1) ?_ (fun H3 h => hq H3 h.1 h.2)
  rintro i x H3 H4 hi ⟨sm, h3⟩ hy
  refine hs i x H3 H4 hi sm hy _ _ (fun H5 s5 => ⟨_, s5 _ _ h3, ?_, same_mut (sm.trans s5) hD, ?_⟩)
  · rw [List.length_map, List.length_replicate]; exact small1000 (by omega)
  · rw [upd_same, List.replicate_succ', List.map_append]; rfl
theorem rep_all (n : Nat) : ((List.replicate n true).all id) = true := by
  rw [List.all_eq_true]
  intro z hz
  rw [List.eq_of_mem_replicate hz]
  rfl
theorem all_true {K : PySem.W.Frag} {D : Addr} {n : Nat} {H : Hp} {Q : VK} (h : H D = some (.lst ((List.replicate n true).map V.bl))) (q : Q (.bl true) H) : rAll K [.ref D] H Q := by
  refine ⟨D, _, rfl, .inl (.inl h), blT ?_ q⟩
  rw [List.all_eq_true]
  intro z hz
  rw [List.eq_of_mem_replicate hz]
  rfl
theorem cut1 {α : Type} (xs : List α) : cutI xs (some 1) none = xs.drop 1 := by
  unfold cutI
  rw [show HT.sIx xs.length 0 (some 1) = min 1 xs.length from HT.sIx_nat xs.length 0 1, HT.sIx_none]
  cases xs with
  | nil => rfl
  | cons x r =>
    rw [show min 1 (x :: r).length = 1 by rw [List.length_cons]; omega]
    show List.take ((x :: r).length - 1) r = r
    rw [List.length_cons, Nat.add_sub_cancel, List.take_length]
section
variable {P : Program} {w : World} {K : PySem.W.Frag} {mg : Str → Option Value} {base : Heap}
def spIsNumber : Sp := fun vs H Q _ => ∃ i : Int, vs = [.int i] ∧ 0 ≤ i ∧ Q (.bl true) H
theorem ok_is_number (T : Txt K mg w) : FnOk P w K mg base CX0 1 T.f_is_number T.fd_is_number p_is_number spIsNumber := by
  refine T.F_is_number.ok sc_is_number (fun vs H Q E h => ?_) (fun cdv A outer s H vs Q E hr h => ?_)
  · obtain ⟨i, rfl, _⟩ := h
    rfl
  · obtain ⟨i, rfl, i0, q⟩ := h
    refine ⟨_, (pss_one (ps_ret (pe_and (pe_callB call_isi (by rfl) T.m_isinstance (by decide +kernel) (pa_cons (pv 0) (pa_cons (pe_bltn (v := .ty "int") (by rfl) T.m_int (by decide +kernel) rfl) pa_nil))) (pe_and (pe_not (pe_callB call_isi (by rfl) T.m_isinstance (by decide +kernel) (pa_cons (pv 0) (pa_cons (pe_bltn (v := .ty "bool") (by rfl) T.m_bool (by decide +kernel) rfl) pa_nil)))) (pe_one (pe_cmpR op_ge (pv 0) pe_int (nomark _))))))), ?_⟩
    refine rd_isi (x := .int i) (T := "int") rfl (.base (.int i)) (by decide +kernel : kitB "int" "int" = some true) ⟨_, rfl, iteP rfl ?_⟩
    refine rd_isi (x := .int i) (T := "int") rfl (.base (.int i)) (by decide +kernel : kitB "int" "bool" = some false) ⟨_, rfl, _, rfl, iteP rfl ?_⟩
    exact ⟨.int i, rfl, i, 0, rfl, rfl, blT (decide_eq_true i0) q⟩
def spIsPerson : Sp := fun vs H Q _ => ∃ m i : Int, vs = [.int m, .int i] ∧ 0 ≤ i ∧ i < m ∧ Q (.bl true) H
theorem ok_is_person (T : Txt K mg w) : FnOk P w K mg base CX0 2 T.f_is_person T.fd_is_person p_is_person spIsPerson := by
  have G_is_number := ok_is_number (P := P) (w := w) (base := base) T
  refine T.F_is_person.ok sc_is_person (fun vs H Q E h => ?_) (fun cdv A outer s H vs Q E hr h => ?_)
  · obtain ⟨m, i, rfl, _⟩ := h
    rfl
  · obtain ⟨m, i, rfl, i0, i1, q⟩ := h
    refine ⟨_, (pss_one (ps_ret (pe_and (pe_call G_is_number (hr.mono (by decide)) (by rfl) T.g_is_number T.F_is_number.kp T.b_is_number .nil pass0 (pa_cons (pv 1) pa_nil)) (pe_one (pe_cmpR op_lt (pv 1) (pv 0) (nomark _)))))), ?_⟩
    exact ⟨.int i, rfl, i, rfl, i0, _, rfl, iteP rfl ⟨.int i, rfl, .int m, rfl, i, m, rfl, rfl, blT (decide_eq_true i1) q⟩⟩
theorem rise_at {ns : List Int} (pw : ns.Pairwise (· < ·)) {i : Nat} {x y : Int} (hx : ns[i]? = some x) (hy : (ns.drop 1)[i]? = some y) : x < y := by
  rw [List.getElem?_drop] at hy
  obtain ⟨h1, e1⟩ := List.getElem?_eq_some_iff.mp hx
  obtain ⟨h2, e2⟩ := List.getElem?_eq_some_iff.mp hy
  rw [← e1, ← e2]
  exact List.pairwise_iff_getElem.mp pw i (1 + i) h1 h2 (by omega)
def spRises (K : PySem.W.Frag) : Sp := fun vs H Q _ => ∃ (a : Addr) (ns : List Int), vs = [.ref a] ∧ (SqL K H a (ns.map V.int) ∨ TupAt H a (ns.map V.int)) ∧ ns.Pairwise (· < ·) ∧ ns.length ≤ 1000 ∧ ∀ H', Same H H' → Q (.bl true) H'
theorem ok_rises (T : Txt K mg w) : FnOk P w K mg base CX0 1 T.f_rises T.fd_rises p_rises (spRises K) := by
  refine T.F_rises.ok sc_rises (fun vs H Q E h => ?_) (fun cdv A outer s H vs Q E hr h => ?_)
  · obtain ⟨a, ns, rfl, _⟩ := h
    rfl
  · obtain ⟨a, ns, rfl, hS, pw, hl, q⟩ := h
    have turn : ∀ (i : Nat) (x1 x2 : V), (ns.map V.int)[i]? = some x1 → ((ns.drop 1).map V.int)[i]? = some x2 → ∃ x y : Int, x1 = .int x ∧ x2 = .int y ∧ x < y := fun i x1 x2 e1 e2 => by
      rw [List.getElem?_map] at e1 e2
      cases h1 : ns[i]? with
      | none => rw [h1] at e1; cases e1
      | some x =>
        cases h2 : (ns.drop 1)[i]? with
        | none => rw [h2] at e2; cases e2
        | some y =>
          rw [h1] at e1
          rw [h2] at e2
          exact ⟨x, y, (Option.some.inj e1).symm, (Option.some.inj e2).symm, rise_at pw h1 h2⟩
    rcases hS with hS | hS
    · refine ⟨_, (pss_one (ps_ret (pe_callB (cr_all rfl) (by rfl) T.m_all (by decide +kernel) (pa_cons (pe_lc (own := [("one", 1), ("other", 2)]) (g := gTup K 2 (gCons (gName 1) (gCons (gName 2) gNil))) (by rfl) sc_rises.nd (RZ.pi_zipA (by rfl) T.m_zip (pa_cons (pv 0) (pa_cons (pe_slice sl_list (pv 0) (po_some pe_int) po_none) pa_nil))) (blkOk_by (own := [("one", 1), ("other", 2)]) (N := n_rises) (sc := defScope s_rises) (by decide +kernel)) (fun _ _ _ _ _ => (pg_tup rfl (pgs_cons (pg_name (i := 1) sc_rises.nd rfl (.inl rfl) (.inr rfl)) (pgs_cons (pg_name (i := 2) sc_rises.nd rfl (.inl rfl) (.inr rfl)) pgs_nil)))) (fun _ _ _ _ _ => pts_nil) (fun _ _ _ _ _ => (pe_cmpR op_lt (pv 1) (pv 2) (nomark _)))) pa_nil)))), ?_⟩
      refine ⟨.ref a, rfl, .ref a, rfl, 1, rfl, a, _, rfl, hS, fun c nc => ?_⟩
      have s1 := same_upd (o := .lst (cutV (ns.map V.int) (some 1) none)) nc
      refine ⟨a, c, _, _, rfl, .inl ⟨s1.seq hS, .inl (.inl upd_same), fun D hD => ?_⟩⟩
      rw [cut_map V.int, cut1] at s1 hD ⊢
      refine lc_true (walk_zip (xs := ns.map V.int) (ys := (ns.drop 1).map V.int) (n := ns.length - 1) (by rw [List.length_map, List.length_map, List.length_drop]; omega)) hD (by omega) (fun H3 s3 => ⟨s3.seq (s1.seq hS), .inl (.inl (s3 _ _ upd_same))⟩) ?_ (fun H3 s3 h3 => all_true h3 (q _ (s1.trans s3)))
      rintro i x H3 H4 hi s3 ⟨t, x1, x2, rfl, nt, rfl, e1, e2⟩ Q' Z hQ
      obtain ⟨x, y, rfl, rfl, lt⟩ := turn i x1 x2 e1 e2
      exact ⟨t, _, rfl, .inl (.inl upd_same), rfl, _, _, rfl, _, _, rfl, rfl, rfl, yes (iteT ⟨.int x, rfl, .int y, rfl, x, y, rfl, rfl, blT (decide_eq_true lt) (hQ _ (same_upd nt))⟩)⟩
    · refine ⟨_, (pss_one (ps_ret (pe_callB (cr_all rfl) (by rfl) T.m_all (by decide +kernel) (pa_cons (pe_lc (own := [("one", 1), ("other", 2)]) (g := gTup K 2 (gCons (gName 1) (gCons (gName 2) gNil))) (by rfl) sc_rises.nd (RZ.pi_zipA (by rfl) T.m_zip (pa_cons (pv 0) (pa_cons (pe_slice sl_tupA (pv 0) (po_some pe_int) po_none) pa_nil))) (blkOk_by (own := [("one", 1), ("other", 2)]) (N := n_rises) (sc := defScope s_rises) (by decide +kernel)) (fun _ _ _ _ _ => (pg_tup rfl (pgs_cons (pg_name (i := 1) sc_rises.nd rfl (.inl rfl) (.inr rfl)) (pgs_cons (pg_name (i := 2) sc_rises.nd rfl (.inl rfl) (.inr rfl)) pgs_nil)))) (fun _ _ _ _ _ => pts_nil) (fun _ _ _ _ _ => (pe_cmpR op_lt (pv 1) (pv 2) (nomark _)))) pa_nil)))), ?_⟩
      refine ⟨.ref a, rfl, .ref a, rfl, 1, rfl, a, _, rfl, hS.sq, fun wh => ?_, fun _ c nc => ?_⟩
      · have hn : ns = [] := by
          cases ns with
          | nil => rfl
          | cons x r =>
            have := wh.1
            rw [show HT.sIx ((x :: r).map V.int).length 0 (some 1) = min 1 ((x :: r).map V.int).length from HT.sIx_nat _ 0 1, List.length_map, List.length_cons] at this
            omega
        subst hn
        refine ⟨a, a, [], [], rfl, .inr ⟨hS.sq, hS.sq, fun D hD => ?_⟩⟩
        refine lc_true (walk_zipT (xs := []) (ys := []) (n := 0) rfl rfl) hD (by omega) (fun H3 s3 => ⟨(hS.keep (Keep.same s3)).sq, (hS.keep (Keep.same s3)).sq⟩) ?_ (fun H3 s3 h3 => all_true h3 (q _ s3))
        intro i x H3 H4 hi
        omega
      · have s1 := same_upd (o := .tup (cutV (ns.map V.int) (some 1) none)) nc
        have hA := hS.keep (Keep.same s1)
        refine ⟨a, c, _, _, rfl, .inr ⟨hA.sq, .inl (.inl upd_same), fun D hD => ?_⟩⟩
        rw [cut_map V.int, cut1] at s1 hD hA ⊢
        refine lc_true (walk_zipM (K := K) (a := a) (b := c) (xs := ns.map V.int) (ys := (ns.drop 1).map V.int) (n := ns.length - 1) (by rw [List.length_map, List.length_map, List.length_drop]; omega)) hD (by omega) (fun H3 s3 => ⟨(hA.keep (Keep.same s3)).sq, .inl (.inl (s3 _ _ upd_same))⟩) ?_ (fun H3 s3 h3 => all_true h3 (q _ (s1.trans s3)))
        rintro i x H3 H4 hi s3 ⟨t, x1, x2, rfl, nt, rfl, e1, e2⟩ Q' Z hQ
        obtain ⟨x, y, rfl, rfl, lt⟩ := turn i x1 x2 e1 e2
        exact ⟨t, _, rfl, .inl (.inl upd_same), rfl, _, _, rfl, _, _, rfl, rfl, rfl, yes (iteT ⟨.int x, rfl, .int y, rfl, x, y, rfl, rfl, blT (decide_eq_true lt) (hQ _ (same_upd nt))⟩)⟩
def spIsTie : Sp := fun vs H Q _ => ∃ (m : Int) (a : Addr) (q : Int × Int), vs = [.int m, .ref a] ∧ PairAtH H a q ∧ 0 ≤ q.1 ∧ q.1 < m ∧ 1 ≤ q.2 ∧ Q (.bl true) H
theorem ok_is_tie (T : Txt K mg w) : FnOk P w K mg base CX0 3 T.f_is_tie T.fd_is_tie p_is_tie spIsTie := by
  have G_is_number := ok_is_number (P := P) (w := w) (base := base) T
  have G_is_person := ok_is_person (P := P) (w := w) (base := base) T
  refine T.F_is_tie.ok sc_is_tie (fun vs H Q E h => ?_) (fun cdv A outer s H vs Q E hr h => ?_)
  · obtain ⟨m, a, q, rfl, _⟩ := h
    rfl
  · obtain ⟨m, a, ⟨p, wt⟩, rfl, ha, p0, p1, w1, q⟩ := h
    have ha' : H a = some (.tup [.int p, .int wt]) := ha
    refine ⟨_, (pss_cons (ps_if (PW.pt (pw_or (pt_not (pt_val (pe_callB call_isi (by rfl) T.m_isinstance (by decide +kernel) (pa_cons (pv 1) (pa_cons (pe_bltn (v := .ty "tuple") (by rfl) T.m_tuple (by decide +kernel) rfl) pa_nil))))) (pw_or1 (pt_cmpR op_ne (pe_callB call_len_seq (by rfl) T.m_len (by decide +kernel) (pa_cons (pv 1) pa_nil)) pe_int (nomark _)))))
        (pss_one (ps_ret pe_bl))
        pss_nil)
      (pss_one (ps_ret (pe_and (pe_call G_is_person (hr.mono (by decide)) (by rfl) T.g_is_person T.F_is_person.kp T.b_is_person .nil pass0 (pa_cons (pv 0) (pa_cons (pe_ix ix_tup (pv 1) pe_int (fun _ _ => rfl)) pa_nil))) (pe_and (pe_call G_is_number (hr.mono (by decide)) (by rfl) T.g_is_number T.F_is_number.kp T.b_is_number .nil pass0 (pa_cons (pe_ix ix_tup (pv 1) pe_int (fun _ _ => rfl)) pa_nil)) (pe_one (pe_cmpR op_ge (pe_ix ix_tup (pv 1) pe_int (fun _ _ => rfl)) pe_int (nomark _)))))))), ?_⟩
    refine rd_isi (x := .ref a) (T := "tuple") rfl (.base (.tup ha')) (by decide +kernel : kitB "tuple" "tuple" = some true) ⟨_, rfl, iteN rfl ?_⟩
    refine ⟨.ref a, rfl, a, _, rfl, .inr (.inl (.inl ha')), rfl, _, rfl, iteN (by show (!decide (V.int 2 = V.int 2)) = false; decide) ?_⟩
    refine ⟨.int m, rfl, .ref a, rfl, a, _, 0, _, rfl, rfl, .inl (.inl ha'), rfl, m, p, rfl, p0, p1, _, rfl, iteP rfl ?_⟩
    refine ⟨.ref a, rfl, a, _, 1, _, rfl, rfl, .inl (.inl ha'), rfl, wt, rfl, by have w1' : 1 ≤ wt := w1; omega, _, rfl, iteP rfl ?_⟩
    exact ⟨.ref a, rfl, a, _, 1, _, rfl, rfl, .inl (.inl ha'), rfl, wt, 1, rfl, rfl, blT (decide_eq_true w1) q⟩
def spAreTies : Sp := fun vs H Q _ => ∃ (m : Int) (t : Addr) (ties : List (Int × Int)), vs = [.int m, .ref t] ∧ TiesAt H t ties ∧ Rising m (ties.map (·.1)) ∧ (∀ q ∈ ties, 1 ≤ q.2) ∧ ties.length ≤ 1000 ∧ ∀ H', Same H H' → Q (.bl true) H'
theorem pair_get {H : Hp} : ∀ {ps : List Addr} {lot : List (Int × Int)}, Paired (PairAtH H) ps lot → ∀ (n : Nat) (p : Addr), ps[n]? = some p → ∃ q, q ∈ lot ∧ PairAtH H p q
  | _, _, .nil, n, p, e => by simp at e
  | _, _, .cons r t, 0, p, e => ⟨_, List.mem_cons_self, by cases e; exact r⟩
  | _, _, .cons r t, n + 1, p, e => by
    obtain ⟨q, h1, h2⟩ := pair_get t n p (by simpa using e)
    exact ⟨q, List.mem_cons_of_mem _ h1, h2⟩
theorem ok_are_ties (T : Txt K mg w) : FnOk P w K mg base CX0 4 T.f_are_ties T.fd_are_ties p_are_ties spAreTies := by
  have G_is_tie := ok_is_tie (P := P) (w := w) (base := base) T
  have G_rises := ok_rises (P := P) (w := w) (base := base) T
  refine T.F_are_ties.ok sc_are_ties (fun vs H Q E h => ?_) (fun cdv A outer s H vs Q E hr h => ?_)
  · obtain ⟨m, t, ties, rfl, _⟩ := h
    rfl
  · obtain ⟨m, t, ties, rfl, ⟨o, ps, od, ht, pr⟩, rs, w1, hl, q⟩ := h
    have el : ps.length = ties.length := pr.length
    have hT : TupAt H t (ps.map V.ref) := .inr ⟨o, od, ht⟩
    refine ⟨_, (pss_cons (ps_if (PW.pt (pw_or (pt_not (pt_val (pe_callB call_isi (by rfl) T.m_isinstance (by decide +kernel) (pa_cons (pv 1) (pa_cons (pe_bltn (v := .ty "tuple") (by rfl) T.m_tuple (by decide +kernel) rfl) pa_nil))))) (pw_or1 (pt_not (pt_val (pe_callB (cr_all rfl) (by rfl) T.m_all (by decide +kernel) (pa_cons (pe_lc (own := [("one", 2)]) (g := gName 2) (by rfl) sc_are_ties.nd (pi_tup (pv 1)) (blkOk_by (own := [("one", 2)]) (N := n_are_ties) (sc := defScope s_are_ties) (by decide +kernel)) (fun _ _ _ _ _ => (pg_name (i := 2) sc_are_ties.nd rfl (.inl rfl) (.inr rfl))) (fun _ _ _ _ _ => pts_nil) (fun _ _ _ _ _ => (pe_call G_is_tie (hr.mono (by decide)) (by rfl) T.g_is_tie T.F_is_tie.kp T.b_is_tie .nil pass0 (pa_cons (pv 0) (pa_cons (pv 2) pa_nil))))) pa_nil)))))))
        (pss_one (ps_ret pe_bl))
        pss_nil)
      (pss_one (ps_ret (pe_call G_rises (hr.mono (by decide)) (by rfl) T.g_rises T.F_rises.kp T.b_rises .nil pass0 (pa_cons (pe_lc (own := [("person", 3), ("weight", 4)]) (g := gTup K 2 (gCons (gName 3) (gCons (gName 4) gNil))) (by rfl) sc_are_ties.nd (pi_tup (pv 1)) (blkOk_by (own := [("person", 3), ("weight", 4)]) (N := n_are_ties) (sc := defScope s_are_ties) (by decide +kernel)) (fun _ _ _ _ _ => (pg_tup rfl (pgs_cons (pg_name (i := 3) sc_are_ties.nd rfl (.inl rfl) (.inr rfl)) (pgs_cons (pg_name (i := 4) sc_are_ties.nd rfl (.inl rfl) (.inr rfl)) pgs_nil)))) (fun _ _ _ _ _ => pts_nil) (fun _ _ _ _ _ => (pv 3))) pa_nil))))), ?_⟩
    refine rd_isi (x := .ref t) (T := "tuple") rfl hT.ty (by decide +kernel : kitB "tuple" "tuple" = some true) ⟨_, rfl, iteN rfl ?_⟩
    refine ⟨.ref t, rfl, t, rfl, ⟨_, hT.sq⟩, fun D hD => ?_⟩
    refine lc_true (walk_tupR ps) hD (by omega) (fun H3 s3 => (hT.keep (Keep.same s3)).sq) ?_ (fun H3 s3 h3 => ⟨D, _, rfl, .inl (.inl h3), _, rfl, iteN (by rw [rep_all]; rfl) ?_⟩)
    · rintro i x H3 H4 hi s3 ⟨rfl, hx⟩ Q' Z hQ
      rw [List.getElem?_map] at hx
      cases hp : ps[i]? with
      | none => rw [hp] at hx; cases hx
      | some p =>
        rw [hp] at hx
        cases hx
        obtain ⟨q0, hq0, ha⟩ := pair_get pr i p hp
        have r0 := rs.2 _ (List.mem_map_of_mem (f := (·.1)) hq0)
        exact ⟨rfl, yes (iteT ⟨.int m, rfl, .ref p, rfl, m, p, q0, rfl, s3 _ _ ha, r0.1, r0.2, w1 q0 hq0, hQ _ (Same.refl _)⟩)⟩
    have hT3 := hT.keep (Keep.same s3)
    refine ⟨.ref t, rfl, t, rfl, ⟨_, hT3.sq⟩, fun D2 hD2 => ?_⟩
    refine lc_pairs (·.1) (walk_tupR ps) (pairs_keep (Keep.same s3) pr) hD2 (by omega) (fun H4 s4 => (hT3.keep (Keep.same s4)).sq) (fun _ _ => rfl) (fun q _ H4 _ Q h => ⟨_, rfl, h⟩) (fun H4 s4 h4 => ?_)
    exact ⟨D2, _, rfl, .inl (.inl (.inl h4)), rs.1, by rw [List.length_map]; exact hl, fun H5 s5 => q _ (s3.trans (s4.trans s5))⟩
def spAreSeen : Sp := fun vs H Q _ => ∃ (m : Int) (t : Addr) (seen : List Int), vs = [.int m, .ref t] ∧ SeenAt H t seen ∧ Rising m seen ∧ seen.length ≤ 1000 ∧ ∀ H', Same H H' → Q (.bl true) H'
theorem ok_are_persons (T : Txt K mg w) : FnOk P w K mg base CX0 3 T.f_are_persons T.fd_are_persons p_are_persons spAreSeen := by
  have G_is_person := ok_is_person (P := P) (w := w) (base := base) T
  have G_rises := ok_rises (P := P) (w := w) (base := base) T
  refine T.F_are_persons.ok sc_are_persons (fun vs H Q E h => ?_) (fun cdv A outer s H vs Q E hr h => ?_)
  · obtain ⟨m, t, seen, rfl, _⟩ := h
    rfl
  · obtain ⟨m, t, seen, rfl, hT, rs, hl, q⟩ := h
    refine ⟨_, (pss_one (ps_ret (pe_and (pe_callB call_isi (by rfl) T.m_isinstance (by decide +kernel) (pa_cons (pv 1) (pa_cons (pe_bltn (v := .ty "tuple") (by rfl) T.m_tuple (by decide +kernel) rfl) pa_nil))) (pe_and (pe_callB (cr_all rfl) (by rfl) T.m_all (by decide +kernel) (pa_cons (pe_lc (own := [("one", 2)]) (g := gName 2) (by rfl) sc_are_persons.nd (pi_tup (pv 1)) (blkOk_by (own := [("one", 2)]) (N := n_are_persons) (sc := defScope s_are_persons) (by decide +kernel)) (fun _ _ _ _ _ => (pg_name (i := 2) sc_are_persons.nd rfl (.inl rfl) (.inr rfl))) (fun _ _ _ _ _ => pts_nil) (fun _ _ _ _ _ => (pe_call G_is_person (hr.mono (by decide)) (by rfl) T.g_is_person T.F_is_person.kp T.b_is_person .nil pass0 (pa_cons (pv 0) (pa_cons (pv 2) pa_nil))))) pa_nil)) (pe_one (pe_call G_rises (hr.mono (by decide)) (by rfl) T.g_rises T.F_rises.kp T.b_rises .nil pass0 (pa_cons (pv 1) pa_nil))))))), ?_⟩
    refine rd_isi (x := .ref t) (T := "tuple") rfl hT.ty (by decide +kernel : kitB "tuple" "tuple" = some true) ⟨_, rfl, iteP rfl ?_⟩
    refine ⟨.ref t, rfl, t, rfl, ⟨_, hT.sq⟩, fun D hD => ?_⟩
    refine lc_true (walk_tup (xs := seen.map V.int)) hD (by rw [List.length_map]; exact hl) (fun H3 s3 => (hT.keep (Keep.same s3)).sq) ?_ (fun H3 s3 h3 => ⟨D, _, rfl, .inl (.inl h3), _, rfl, iteP (rep_all _) ?_⟩)
    · rintro i x H3 H4 hi s3 ⟨rfl, hx⟩ Q' Z hQ
      rw [List.length_map] at hi
      rw [List.getElem?_map, List.getElem?_eq_getElem hi] at hx
      cases hx
      have r0 := rs.2 _ (List.getElem_mem hi)
      exact ⟨rfl, yes (iteT ⟨.int m, rfl, .int seen[i], rfl, m, seen[i], rfl, r0.1, r0.2, hQ _ (Same.refl _)⟩)⟩
    exact ⟨.ref t, rfl, t, seen, rfl, .inr (hT.keep (Keep.same s3)), rs.1, hl, fun H5 s5 => q _ (s3.trans s5)⟩
/-- what may stand as a part of a rule -/
def PartAt (H : Hp) (m : Int) (part : Str) (v : V) : Prop :=
  (part = "number" ∧ ∃ i : Int, v = .int i ∧ 0 ≤ i) ∨ (part = "ties" ∧ ∃ t ties, v = .ref t ∧ TiesAt H t ties ∧ Rising m (ties.map (·.1)) ∧ (∀ q ∈ ties, 1 ≤ q.2) ∧ ties.length ≤ 1000) ∨
  (part = "seen" ∧ ∃ t seen, v = .ref t ∧ SeenAt H t seen ∧ Rising m seen ∧ seen.length ≤ 1000)
theorem PartAt.same {H H' : Hp} {m : Int} {part : Str} {v : V} (s : Same H H') (h : PartAt H m part v) : PartAt H' m part v := by
  rcases h with h | ⟨e, t, ties, h1, h2, h3⟩ | ⟨e, t, seen, h1, h2, h3⟩
  · exact .inl h
  · exact .inr (.inl ⟨e, t, ties, h1, h2.keep (Keep.same s), h3⟩)
  · exact .inr (.inr ⟨e, t, seen, h1, h2.keep (Keep.same s), h3⟩)
def spIsPart : Sp := fun vs H Q _ => ∃ (m : Int) (part : Str) (v : V), vs = [.int m, .str part, v] ∧ PartAt H m part v ∧ ∀ H', Same H H' → Q (.bl true) H'
theorem ok_is_part (T : Txt K mg w) : FnOk P w K mg base CX0 5 T.f_is_part T.fd_is_part p_is_part spIsPart := by
  have G_is_number := ok_is_number (P := P) (w := w) (base := base) T
  have G_are_ties := ok_are_ties (P := P) (w := w) (base := base) T
  have G_are_persons := ok_are_persons (P := P) (w := w) (base := base) T
  refine T.F_is_part.ok sc_is_part (fun vs H Q E h => ?_) (fun cdv A outer s H vs Q E hr h => ?_)
  · obtain ⟨m, part, v, rfl, _⟩ := h
    rfl
  · obtain ⟨m, part, v, rfl, hp, q⟩ := h
    refine ⟨_, (pss_cons (ps_if (pt_cmpR op_eq (pv 1) pe_str (nomark _))
        (pss_one (ps_ret (pe_call G_is_number (hr.mono (by decide)) (by rfl) T.g_is_number T.F_is_number.kp T.b_is_number .nil pass0 (pa_cons (pv 2) pa_nil))))
        pss_nil)
      (pss_cons (ps_if (pt_cmpR op_eq (pv 1) pe_str (nomark _))
        (pss_one (ps_ret (pe_call G_are_ties (hr.mono (by decide)) (by rfl) T.g_are_ties T.F_are_ties.kp T.b_are_ties .nil pass0 (pa_cons (pv 0) (pa_cons (pv 2) pa_nil)))))
        pss_nil)
      (pss_one (ps_ret (pe_call G_are_persons (hr.mono (by decide)) (by rfl) T.g_are_persons T.F_are_persons.kp T.b_are_persons .nil pass0 (pa_cons (pv 0) (pa_cons (pv 2) pa_nil))))))), ?_⟩
    rcases hp with ⟨rfl, i, rfl, i0⟩ | ⟨rfl, t, ties, rfl, h1, h2, h3, h4⟩ | ⟨rfl, t, seen, rfl, h1, h2, h3⟩
    · refine ⟨_, rfl, rfl, _, rfl, iteP (by decide +kernel) ?_⟩
      exact ⟨.int i, rfl, i, rfl, i0, q H (Same.refl H)⟩
    · refine ⟨_, rfl, rfl, _, rfl, iteN (by decide +kernel) ?_⟩
      refine ⟨_, rfl, rfl, _, rfl, iteP (by decide +kernel) ?_⟩
      exact ⟨.int m, rfl, .ref t, rfl, m, t, ties, rfl, h1, h2, h3, h4, q⟩
    · refine ⟨_, rfl, rfl, _, rfl, iteN (by decide +kernel) ?_⟩
      refine ⟨_, rfl, rfl, _, rfl, iteN (by decide +kernel) ?_⟩
      exact ⟨.int m, rfl, .ref t, rfl, m, t, seen, rfl, h1, h2, h3, q⟩
end
end Lh

namespace Lh
open PySem PySem.Spec PyProof.Rows L2
def partsOf : Rule → List Str
  | .held _ => ["number"]
  | .sum _ _ => ["number", "ties"]
  | .cap _ _ _ => ["number", "ties", "number"]
  | .kinds _ _ => ["number", "seen"]
  | .next _ => ["seen"]
  | .free _ => ["seen"]
section
variable {P : Program} {w : World} {K : PySem.W.Frag} {mg : Str → Option Value} {base : Heap}
theorem parts_at (T : Txt K mg w) : ∀ r : Rule, ∃ t, PySem.W.nsIn K T.D_PARTS (wordOf r) = some (some (.ref t)) ∧ ∀ H, SqT K H t ((partsOf r).map V.str)
  | .held _ => ⟨_, T.dk_PARTS_held, T.sq_PARTS_held⟩
  | .sum _ _ => ⟨_, T.dk_PARTS_sum, T.sq_PARTS_sum⟩
  | .cap _ _ _ => ⟨_, T.dk_PARTS_cap, T.sq_PARTS_cap⟩
  | .kinds _ _ => ⟨_, T.dk_PARTS_kinds, T.sq_PARTS_kinds⟩
  | .next _ => ⟨_, T.dk_PARTS_next, T.sq_PARTS_next⟩
  | .free _ => ⟨_, T.dk_PARTS_free, T.sq_PARTS_free⟩
theorem pieces {H : Hp} {v : V} {m : Int} : ∀ {r : Rule}, RuleAt H v r → r.Wf m → r.persons.length ≤ 1000 → ∃ a xs, v = .ref a ∧ H a = some (.tup (.str (wordOf r) :: xs)) ∧ xs.length = (partsOf r).length ∧ ∀ (i : Nat) (s : Str) (x : V), (partsOf r)[i]? = some s → xs[i]? = some x → PartAt H m s x
  | .held n, ⟨a, e, h⟩, wf, _ => ⟨a, _, e, h, rfl, fun i s x h1 h2 => by
    match i with
    | 0 => cases h1; cases h2; exact .inl ⟨rfl, n, rfl, wf.1⟩
    | i + 1 => cases h1⟩
  | .sum own ties, ⟨a, t, e, h, q⟩, wf, hl => ⟨a, _, e, h, rfl, fun i s x h1 h2 => by
    have hl' : ties.length ≤ 1000 := by simpa [Rule.persons] using hl
    match i with
    | 0 => cases h1; cases h2; exact .inl ⟨rfl, own, rfl, wf.1.1⟩
    | 1 => cases h1; cases h2; exact .inr (.inl ⟨rfl, t, ties, rfl, q, wf.2.1, fun q hq => (wf.2.2 q hq).1, hl'⟩)
    | i + 2 => cases h1⟩
  | .cap own ties most, ⟨a, t, e, h, q⟩, wf, hl => ⟨a, _, e, h, rfl, fun i s x h1 h2 => by
    have hl' : ties.length ≤ 1000 := by simpa [Rule.persons] using hl
    match i with
    | 0 => cases h1; cases h2; exact .inl ⟨rfl, own, rfl, wf.1.1⟩
    | 1 => cases h1; cases h2; exact .inr (.inl ⟨rfl, t, ties, rfl, q, wf.2.1, fun q hq => (wf.2.2.1 q hq).1, hl'⟩)
    | 2 => cases h1; cases h2; exact .inl ⟨rfl, most, rfl, wf.2.2.2.1⟩
    | i + 3 => cases h1⟩
  | .kinds own seen, ⟨a, t, e, h, q⟩, wf, hl => ⟨a, _, e, h, rfl, fun i s x h1 h2 => by
    match i with
    | 0 => cases h1; cases h2; exact .inl ⟨rfl, own, rfl, wf.1.1⟩
    | 1 => cases h1; cases h2; exact .inr (.inr ⟨rfl, t, seen, rfl, q, wf.2, hl⟩)
    | i + 2 => cases h1⟩
  | .next seen, ⟨a, t, e, h, q⟩, wf, hl => ⟨a, _, e, h, rfl, fun i s x h1 h2 => by
    match i with
    | 0 => cases h1; cases h2; exact .inr (.inr ⟨rfl, t, seen, rfl, q, wf, hl⟩)
    | i + 1 => cases h1⟩
  | .free seen, ⟨a, t, e, h, q⟩, wf, hl => ⟨a, _, e, h, rfl, fun i s x h1 h2 => by
    match i with
    | 0 => cases h1; cases h2; exact .inr (.inr ⟨rfl, t, seen, rfl, q, wf, hl⟩)
    | i + 1 => cases h1⟩
theorem parts_len : ∀ r : Rule, (partsOf r).length ≤ 1000
  | .held _ => by show 1 ≤ 1000; decide
  | .sum _ _ => by show 2 ≤ 1000; decide
  | .cap _ _ _ => by show 3 ≤ 1000; decide
  | .kinds _ _ => by show 2 ≤ 1000; decide
  | .next _ => by show 1 ≤ 1000; decide
  | .free _ => by show 1 ≤ 1000; decide
theorem cutV1 (xs : List V) : cutV xs (some 1) none = xs.drop 1 := by
  have h := cut_map id xs (some 1) none
  rw [List.map_id, List.map_id, cut1] at h
  exact h
def spIsRule : Sp := fun vs H Q _ => ∃ (m : Int) (v : V) (r : Rule), vs = [.int m, v] ∧ RuleAt H v r ∧ r.Wf m ∧ r.persons.length ≤ 1000 ∧ ∀ H', Same H H' → Q (.bl true) H'
set_option maxHeartbeats 2000000 in
theorem ok_is_rule (T : Txt K mg w) : FnOk P w K mg base CX0 6 T.f_is_rule T.fd_is_rule p_is_rule spIsRule := by
  have G_is_part := ok_is_part (P := P) (w := w) (base := base) T
  refine T.F_is_rule.ok sc_is_rule (fun vs H Q E h => ?_) (fun cdv A outer s H vs Q E hr h => ?_)
  · obtain ⟨m, v, r, rfl, _⟩ := h
    rfl
  · obtain ⟨m, v, r, rfl, hv, wf, hl, q⟩ := h
    obtain ⟨a, xs, rfl, ha, xl, px⟩ := pieces hv wf hl
    obtain ⟨t, dk, sq⟩ := parts_at T r
    refine ⟨_, (pss_cons (ps_if (PW.pt (pw_or (pt_not (pt_val (pe_callB call_isi (by rfl) T.m_isinstance (by decide +kernel) (pa_cons (pv 1) (pa_cons (pe_bltn (v := .ty "tuple") (by rfl) T.m_tuple (by decide +kernel) rfl) pa_nil))))) (pw_or1 (pt_not (pt_truth (pv 1) (by intro _; rfl))))))
        (pss_one (ps_ret pe_bl))
        pss_nil)
      (pss_cons (ps_if (PW.pt (pw_or (pt_not (pt_val (pe_callB call_isi (by rfl) T.m_isinstance (by decide +kernel) (pa_cons (pe_ix ix_tup (pv 1) pe_int (fun _ _ => rfl)) (pa_cons (pe_bltn (v := .ty "str") (by rfl) T.m_str (by decide +kernel) rfl) pa_nil))))) (pw_or1 (pt_cmpR (op_notIn_kd T.kd_PARTS) (pe_ix ix_tup (pv 1) pe_int (fun _ _ => rfl)) (pe_glob (v := .ref T.D_PARTS) (by rfl) T.g_PARTS rfl) (by rfl)))))
        (pss_one (ps_ret pe_bl))
        pss_nil)
      (pss_cons (ps_set (i := 2) sc_is_rule.nd rfl (.inl rfl) (pe_ix ix_kdict (pe_glob (v := .ref T.D_PARTS) (by rfl) T.g_PARTS rfl) (pe_ix ix_tup (pv 1) pe_int (fun _ _ => rfl)) (fun _ _ => rfl)))
      (pss_cons (ps_if (pt_cmpR op_ne (pe_callB call_len_seq (by rfl) T.m_len (by decide +kernel) (pa_cons (pv 1) pa_nil)) (pe_op op_add (pe_callB call_len_seq (by rfl) T.m_len (by decide +kernel) (pa_cons (pv 2) pa_nil)) pe_int) (nomark _))
        (pss_one (ps_ret pe_bl))
        pss_nil)
      (pss_one (ps_ret (pe_callB (cr_all rfl) (by rfl) T.m_all (by decide +kernel) (pa_cons (pe_lc (own := [("part", 3), ("piece", 4)]) (g := gTup K 2 (gCons (gName 3) (gCons (gName 4) gNil))) (by rfl) sc_is_rule.nd (RZ.pi_zipA (by rfl) T.m_zip (pa_cons (pv 2) (pa_cons (pe_slice sl_tupA (pv 1) (po_some pe_int) po_none) pa_nil))) (blkOk_by (own := [("part", 3), ("piece", 4)]) (N := n_is_rule) (sc := defScope s_is_rule) (by decide +kernel)) (fun _ _ _ _ _ => (pg_tup rfl (pgs_cons (pg_name (i := 3) sc_is_rule.nd rfl (.inl rfl) (.inr rfl)) (pgs_cons (pg_name (i := 4) sc_is_rule.nd rfl (.inl rfl) (.inr rfl)) pgs_nil)))) (fun _ _ _ _ _ => pts_nil) (fun _ _ _ _ _ => (pe_call G_is_part (hr.mono (by decide)) (by rfl) T.g_is_part T.F_is_part.kp T.b_is_part .nil pass0 (pa_cons (pv 0) (pa_cons (pv 3) (pa_cons (pv 4) pa_nil)))))) pa_nil)))))))), ?_⟩
    have i0 : atI (V.str (wordOf r) :: xs) 0 = some (.str (wordOf r)) := atI_nat (j := 0) rfl
    refine rd_isi (x := .ref a) (T := "tuple") rfl (.base (.tup ha)) (by decide +kernel : kitB "tuple" "tuple" = some true) ⟨_, rfl, iteN rfl ?_⟩
    refine ⟨.ref a, rfl, true, .inr (.inl ⟨_, .inl (.inl ha), rfl⟩), iteN rfl ?_⟩
    refine ⟨.ref a, rfl, a, _, 0, _, rfl, rfl, .inl (.inl ha), i0, _, _, .type "str", .type "str", true, rfl, .ty "str", .base (.str _), kit_ty (by decide +kernel), _, rfl, iteN rfl ?_⟩
    refine ⟨.ref a, rfl, a, _, 0, _, rfl, rfl, .inl (.inl ha), i0, _, _, rfl, rfl, dk, _, rfl, iteN rfl ?_⟩
    refine ⟨.ref a, rfl, a, _, 0, _, rfl, rfl, .inl (.inl ha), i0, T.D_PARTS, _, .ref t, rfl, rfl, ⟨T.es_PARTS, T.en_PARTS, _, T.kd_PARTS.at_, T.kd_PARTS.lit, dk, rfl⟩, ?_⟩
    refine ⟨.ref a, rfl, a, _, rfl, .inr (.inl (.inl ha)), .ref t, rfl, t, _, rfl, .inr (sq H), _, 1, rfl, rfl, rfl, _, rfl, iteN ?_ ?_⟩
    · rw [List.length_cons, List.length_map, xl]
      rw [decide_eq_true (by rfl)]
      rfl
    refine ⟨.ref t, rfl, .ref a, rfl, 1, rfl, a, _, rfl, .inl (.inl ha), fun wh => ?_, fun _ c nc => ?_⟩
    · exfalso
      have := wh.1
      rw [show HT.sIx (V.str (wordOf r) :: xs).length 0 (some 1) = min 1 (V.str (wordOf r) :: xs).length from HT.sIx_nat _ 0 1, List.length_cons] at this
      omega
    rw [cutV1]
    have s1 := same_upd (o := .tup ((V.str (wordOf r) :: xs).drop 1)) nc
    refine ⟨t, c, _, _, rfl, .inr ⟨sq _, .inl (.inl upd_same), fun D hD => ?_⟩⟩
    refine lc_true (walk_zipM (K := K) (a := t) (b := c) (xs := (partsOf r).map V.str) (ys := (V.str (wordOf r) :: xs).drop 1) (n := (partsOf r).length) (by rw [List.length_map, List.length_drop, List.length_cons, xl]; omega)) hD (parts_len r) (fun H3 s3 => ⟨sq _, .inl (.inl (s3 _ _ upd_same))⟩) ?_ (fun H3 s3 h3 => all_true h3 (q _ (s1.trans s3)))
    rintro i x H3 H4 hi s3 ⟨u, x1, x2, rfl, nu, rfl, e1, e2⟩ Q' Z hQ
    have e1' : ((partsOf r).map V.str)[i]? = some x1 := e1
    have e2' : xs[i]? = some x2 := e2
    rw [List.getElem?_map, List.getElem?_eq_getElem hi] at e1'
    cases e1'
    have sT := same_upd (o := .tup [V.str (partsOf r)[i], x2]) nu
    refine ⟨u, _, rfl, .inl (.inl upd_same), rfl, _, _, rfl, _, _, rfl, rfl, rfl, yes (iteT ⟨.int m, rfl, .str (partsOf r)[i], rfl, x2, rfl, m, _, x2, rfl, (px i _ x2 (List.getElem?_eq_getElem hi) e2').same (s1.trans (s3.trans sT)), fun H5 s5 => hQ _ (sT.trans s5)⟩)⟩
/-! ### halls -/
theorem run_len {X : Cx} {k : Nat} {f C : Addr} {fd : FuncData} {ps : List Str} {sp : Sp} (me : Meth X.K C "__len__" f) (F : FnOk X.prog X.w X.K X.mg X.base CX0 k f fd ps sp) (hb : Binds X.K fd ps []) (hr : Room (k + 1) X.A) :
    CallR X (.builtin "len") (fun xs H Q => ∃ (x dx : Addr) (fs : List (Str × V)), xs = [.ref x] ∧ H x = some (.ins C dx fs) ∧ sp [.ref x] H (fun v H' => ∃ n : Int, v = .int n ∧ 0 ≤ n ∧ n < 2 ^ 63 ∧ Q (.int n) H') E0) := by
  intro pins s σ H xs us Q I r h
  obtain ⟨x, dx, fs, rfl, hx, h⟩ := h
  rw [Vals.ref1 r]
  obtain ⟨m, fr⟩ := I.fr
  obtain ⟨mA, O, _⟩ := ins_get I.hok hx
  obtain ⟨od, J, _⟩ := O.look
  refine PySem.W.len_K fr I.mod.kin J me.at_ me.fn ?_
  have e0 := I.env0
  have e1 : Env0 X.prog X.w X.K X.mg X.base X.A.in1 X.stack s H := ⟨e0.frames, e0.mod, e0.bs, e0.bsz, e0.funs, e0.frf, e0.hok, e0.bare⟩
  have hl : ([Value.ref x] ++ []).length = ps.length := by rw [← F.len _ _ _ _ h]; rfl
  have bb := hb s [.ref x] I.kIn hl
  rw [List.append_nil] at bb
  have vv : Vals [V.ref x] [Value.ref x] := .cons rfl .nil
  have run := F.run X.A.in1 X.stack s H ⟨[.ref x], []⟩ [.ref x] [.ref x] _ E0 hr.in1 e1 bb vv h
  refine wpAny_call (codeAny_mono run ?_)
  rintro (e | fl) t ht
  · exact False.elim ht
  cases fl with
  | next => exact False.elim ht
  | brk => exact False.elim ht
  | cont => exact False.elim ht
  | ret u =>
    obtain ⟨v, H', J2, rv, n, rfl, n0, n1, q⟩ := I.after ht
    obtain ⟨tk, rfl⟩ := rv
    exact ⟨⟨n0, n1⟩, .int n, H', J2.tok _, ⟨_, rfl⟩, q⟩
def RulesAt (H : Hp) : List V → List Rule → Prop := Paired (RuleAt H)
theorem RulesAt.keep {H H' : Hp} (k : Keep H H') : ∀ {vs : List V} {rs : List Rule}, RulesAt H vs rs → RulesAt H' vs rs
  | _, _, .nil => .nil
  | _, _, .cons h r => .cons (h.keep k) (RulesAt.keep k r)
theorem RulesAt.get {H : Hp} : ∀ {vs : List V} {rs : List Rule}, RulesAt H vs rs → ∀ (i : Nat) (h : i < rs.length), ∃ v, vs[i]? = some v ∧ RuleAt H v rs[i]
  | _, _, .nil, i, h => absurd h (by simp)
  | _, _, .cons r t, 0, h => ⟨_, rfl, r⟩
  | _, _, .cons r t, i + 1, h => by
    obtain ⟨v, h1, h2⟩ := RulesAt.get t i (by simpa using h)
    exact ⟨v, by simpa using h1, by simpa using h2⟩
def Halls (rs : List Rule) : Prop := 1 ≤ rs.length ∧ rs.length ≤ 12 ∧ ∀ r ∈ rs, r.Wf rs.length
theorem wf_len {m : Int} {r : Rule} (h : r.Wf m) (hm : m ≤ 1000) (m0 : 0 ≤ m) : r.persons.length ≤ 1000 ∧ (r.persons.length : Int) ≤ m := by
  have key : ∀ ns : List Int, Rising m ns → (ns.length : Int) ≤ m := fun ns rs => by
    have h1 := nodup_len ns ((List.range m.toNat).map fun k : Nat => (k : Int)) rs.nodup (fun x hx => by
      have := rs.2 x hx
      rw [List.mem_map]
      exact ⟨x.toNat, List.mem_range.mpr (by omega), by omega⟩)
    rw [List.length_map, List.length_range] at h1
    omega
  have : (r.persons.length : Int) ≤ m := by
    cases r with
    | held n => show ((0 : Nat) : Int) ≤ m; omega
    | sum own ties => exact key _ h.2.1
    | cap own ties most => exact key _ h.2.1
    | kinds own seen => exact key _ h.2
    | next seen => exact key _ h
    | free seen => exact key _ h
  exact ⟨by omega, this⟩
/-- the hall at x, of these rules -/
def HallAt (C : Addr) (H : Hp) (x : Addr) (rs : List Rule) : Prop := ∃ (dx t : Addr) (vs : List V), H x = some (.ins C dx [("kept", .ref t)]) ∧ TupAt H t vs ∧ RulesAt H vs rs
def spInit (C : Addr) : Sp := fun vs H Q _ => ∃ (x dx l : Addr) (us : List V) (rs : List Rule), vs = [.ref x, .ref l] ∧ H x = some (.ins C dx []) ∧ H l = some (.lst us) ∧ RulesAt H us rs ∧ Halls rs ∧
  ∀ H', (∀ b o, b ≠ x → H b = some o → H' b = some o) → HallAt C H' x rs → Q .non H'
set_option maxHeartbeats 2000000 in
theorem ok_Hall_init (T : Txt K mg w) : FnOk P w K mg base CX0 7 T.f_Hall_init T.fd_Hall_init p_Hall_init (spInit T.C_Hall) := by
  have G_is_rule := ok_is_rule (P := P) (w := w) (base := base) T
  refine T.F_Hall_init.ok sc_Hall_init (fun vs H Q E h => ?_) (fun cdv A outer s H vs Q E hr h => ?_)
  · obtain ⟨x, dx, l, us, rs, rfl, _⟩ := h
    rfl
  · obtain ⟨x, dx, l, us, rs, rfl, hx, hl, ra, ⟨r0, r1, wf⟩, q⟩ := h
    have lu : us.length = rs.length := ra.length
    refine ⟨_, (pss_cons (ps_for PassesOwn.never rfl (pi_enum (by rfl) T.m_enumerate (pa_cons (pv 1) pa_nil)) (pg_tup rfl (pgs_cons (pg_name (i := 2) sc_Hall_init.nd rfl (.inl rfl)) (pgs_cons (pg_name (i := 3) sc_Hall_init.nd rfl (.inl rfl)) pgs_nil)))
        (pss_one (ps_if (pt_not (pt_val (pe_call G_is_rule (hr.mono (by decide)) (by rfl) T.g_is_rule T.F_is_rule.kp T.b_is_rule .nil pass0 (pa_cons (pe_callB call_len_seq (by rfl) T.m_len (by decide +kernel) (pa_cons (pv 1) pa_nil)) (pa_cons (pv 3) pa_nil)))))
          (pss_one ps_never)
          pss_nil)))
      (pss_one (ps_fld (pv 0) (pe_callTy call_tupleF (by rfl) T.m_tuple (by decide +kernel) (pa_cons (pv 1) pa_nil)) rfl))), ?_⟩
    refine ⟨.ref l, rfl, l, _, rfl, .inl (.inl hl), ?_⟩
    refine for_it (walk_enum (xs := us)) (fun i σ H3 => ∃ y2 y3 : Option V, σ = [some (.ref x), some (.ref l), y2, y3] ∧ Same H H3) ⟨none, none, rfl, Same.refl H⟩ ?_ ?_ ?_
    · rintro i σ H3 _ ⟨y2, y3, rfl, s3⟩
      exact .inl (.inl (s3 _ _ hl))
    · rintro i y σ H3 H4 hi ⟨y2, y3, rfl, s3⟩ ⟨t, x1, x2, rfl, nt, rfl, e1, e2⟩
      obtain ⟨v, hv, rv⟩ := ra.get i (by omega)
      have ex : x2 = v := Option.some.inj (e2.symm.trans hv)
      subst ex
      have sT := s3.trans (same_upd (o := .tup [x1, x2]) nt)
      have wfi := wf _ (List.getElem_mem (by omega : i < rs.length))
      refine ⟨t, _, rfl, .inl (.inl upd_same), rfl, _, _, rfl, _, _, rfl, rfl, ?_⟩
      refine ⟨.ref l, rfl, l, _, rfl, .inl (.inl (.inl (sT _ _ hl))), x2, rfl, (us.length : Int), x2, rs[i], rfl, rv.keep (Keep.same sT), by rw [lu]; exact wfi, (wf_len wfi (by omega) (by omega)).1, fun H5 s5 => ⟨_, rfl, iteN rfl ?_⟩⟩
      exact ⟨_, _, rfl, sT.trans s5⟩
    · rintro σ H3 ⟨y2, y3, rfl, s3⟩
      refine ⟨.ref l, rfl, l, _, rfl, .inl (.inl (s3 _ _ hl)), fun t o nt od => ?_⟩
      have s4 := s3.trans (same_upd (o := .frz o (.tup us)) nt)
      have nxt : x ≠ t := ne_of_none (s3 _ _ hx) nt
      refine ⟨.ref x, rfl, x, T.C_Hall, dx, [], rfl, s4 _ _ hx, T.cl_Hall, T.na_Hall_kept, by show 0 < 1000; decide, ?_⟩
      have kT : Keep (upd H3 t (.frz o (.tup us))) (upd (upd H3 t (.frz o (.tup us))) x (.ins T.C_Hall dx (putF "kept" (.ref t) []))) := by
        refine ⟨fun a xs h => ?_, fun a o u h => ?_⟩
        · rw [upd_ne (ne_of h (s4 _ _ hx) (by intro z; cases z))]; exact h
        · rw [upd_ne (ne_of h (s4 _ _ hx) (by intro z; cases z))]; exact h
      refine q _ (fun b ob nb hb => ?_) ⟨dx, t, us, upd_same, .inr ⟨o, od, kT.frz _ _ _ upd_same⟩, (ra.keep (Keep.same s4)).keep kT⟩
      rw [upd_ne nb]
      exact s4 _ _ hb
end
end Lh

namespace Lh
open PySem PySem.Spec PyProof.Rows L2
theorem kept_yes (v : V) : ([("kept", v)] : List (Str × V)).lookup ("kept" : Str) = some v := by
  rw [List.lookup_cons, show (("kept" : Str) == "kept") = true from beq_self_eq_true _]
theorem kept_no (v : V) {m : Str} (h : ¬ m = "kept") : ([("kept", v)] : List (Str × V)).lookup (m : Str) = none := by
  rw [List.lookup_cons, show (m == ("kept" : Str)) = false from beq_eq_false_iff_ne.mpr h]
  rfl
theorem HallAt.keep {C : Addr} {H H' : Hp} {x : Addr} {rs : List Rule} (s : Same H H') (h : HallAt C H x rs) : HallAt C H' x rs := by
  obtain ⟨dx, t, vs, h1, h2, h3⟩ := h
  exact ⟨dx, t, vs, s _ _ h1, h2.keep (Keep.same s), h3.keep (Keep.same s)⟩
theorem HallAt.ext {C bx : Addr} {c : Int} {H H' : Hp} {x : Addr} {rs : List Rule} (e : Ext bx H H') (b : Box bx c H) (h : HallAt C H x rs) : HallAt C H' x rs := by
  obtain ⟨dx, t, vs, h1, h2, h3⟩ := h
  have nb : x ≠ bx := by
    obtain ⟨_, _, _, hb, _⟩ := b
    exact ne_of h1 hb (by intro z; cases z)
  exact ⟨dx, t, vs, e _ _ nb h1, h2.keep (Keep.ext e b), h3.keep (Keep.ext e b)⟩
/-! ### standings -/
def nth (ns : List Int) (p : Int) : Int := ns.getD p.toNat 0
theorem nth_get {ns : List Int} {p : Int} (h0 : 0 ≤ p) (h1 : p < ns.length) : (ns.map V.int)[p.toNat]? = some (.int (nth ns p)) := by
  have hp : p.toNat < ns.length := by omega
  rw [List.getElem?_map, List.getElem?_eq_getElem hp]
  unfold nth
  rw [List.getD_eq_getElem?_getD, List.getElem?_eq_getElem hp]
  rfl
theorem nth_at {ns : List Int} {p : Int} (h0 : 0 ≤ p) (h1 : p < ns.length) : atI (ns.map V.int) p = some (.int (nth ns p)) := at_of (by omega) (nth_get h0 h1)
/-- the lot of those a rule sees who show less -/
def lotI (r : Rule) (ns : List Int) (p : Int) : List (Int × Int) := (r.persons.filter fun o => decide (nth ns o < nth ns p)).map fun o => (o, nth ns o)
def lotH (r : Rule) (ns : List Int) (h : Int) : List (Int × Int) := (r.persons.filter fun o => decide (nth ns o < h)).map fun o => (o, nth ns o)
theorem lotH_in {r : Rule} {ns : List Int} {h : Int} : ∀ q ∈ lotH r ns h, q.1 ∈ r.persons := fun q hq => by
  obtain ⟨o, ho, rfl⟩ := List.mem_map.mp hq
  exact (List.mem_filter.mp ho).1
theorem lotI_in {r : Rule} {ns : List Int} {p : Int} : ∀ q ∈ lotI r ns p, q.1 ∈ r.persons := fun q hq => by
  obtain ⟨o, ho, rfl⟩ := List.mem_map.mp hq
  exact (List.mem_filter.mp ho).1
/-- the turns of some, had at once -/
def Turned (rs : List Rule) (ns : List Int) (some_ : Int → Prop) (ms : List Int) : Prop := ms.length = ns.length ∧ ∀ (i : Nat) (h : i < rs.length), (some_ i → Tell rs[i] (lotI rs[i] ns i) (nth ms i)) ∧ (¬ some_ i → nth ms i = nth ns i)
theorem nth_ext {ns ms : List Int} (hl : ns.length = ms.length) (h : ∀ i : Nat, i < ns.length → nth ns i = nth ms i) : ns = ms := by
  apply List.ext_getElem hl
  intro i h1 h2
  have := h i h1
  unfold nth at this
  rw [List.getD_eq_getElem?_getD, List.getD_eq_getElem?_getD, Int.toNat_natCast, List.getElem?_eq_getElem h1, List.getElem?_eq_getElem h2] at this
  exact this
theorem Turned.unique {rs : List Rule} {ns ms ks : List Int} {p q : Int → Prop} (hn : ns.length = rs.length) (pq : ∀ i : Nat, i < rs.length → (p i ↔ q i)) (a : Turned rs ns p ms) (b : Turned rs ns q ks) : ms = ks := by
  refine nth_ext (a.1.trans b.1.symm) fun i hi => ?_
  have h : i < rs.length := by rw [← hn, ← a.1]; exact hi
  have ha := a.2 i h
  have hb := b.2 i h
  by_cases c : p i
  · exact (ha.1 c).unique (hb.1 ((pq i h).mp c))
  · rw [ha.2 c, hb.2 fun z => c ((pq i h).mpr z)]
abbrev Beat (rs : List Rule) (ns ms : List Int) : Prop := Turned rs ns (fun _ => True) ms
section
variable {P : Program} {w : World} {K : PySem.W.Frag} {mg : Str → Option Value} {base : Heap}
def spMust (C : Addr) : Sp := fun vs H Q _ => ∃ (x : Addr) (p : Int) (rs : List Rule), vs = [.ref x, .int p] ∧ HallAt C H x rs ∧ 0 ≤ p ∧ p < rs.length ∧ Q .non H
theorem ok_Hall_must_have (T : Txt K mg w) : FnOk P w K mg base CX0 1 T.f_Hall_must_have T.fd_Hall_must_have p_Hall_must_have (spMust T.C_Hall) := by
  refine T.F_Hall_must_have.ok sc_Hall_must_have (fun vs H Q E h => ?_) (fun cdv A outer s H vs Q E hr h => ?_)
  · obtain ⟨x, p, rs, rfl, _⟩ := h
    rfl
  · obtain ⟨x, p, rs, rfl, ⟨dx, t, vs, hx, ht, hv⟩, p0, p1, q⟩ := h
    have lv : vs.length = rs.length := hv.length
    refine ⟨_, (pss_one (ps_if (pt_not (pt_chain op_le op_lt pe_int (pv 1) (pe_callB call_len_seq (by rfl) T.m_len (by decide +kernel) (pa_cons (pe_fld (pv 0) rfl) pa_nil))))
        (pss_one ps_never)
        pss_nil)), ?_⟩
    exact ⟨.int p, rfl, 0, p, rfl, rfl, _, rfl, iteP (decide_eq_true p0) ⟨.ref x, rfl, x, T.C_Hall, dx, _, _, rfl, hx, T.cl_Hall, T.na_Hall_kept, kept_yes _, t, _, rfl, .inr ht.sq, p, _, rfl, rfl, _, rfl, iteN (by rw [decide_eq_true (by rw [lv]; exact p1)]; rfl) q⟩⟩
def spRuleM (C : Addr) : Sp := fun vs H Q _ => ∃ (x : Addr) (p : Nat) (rs : List Rule) (h : p < rs.length), vs = [.ref x, .int p] ∧ HallAt C H x rs ∧ ∀ v, RuleAt H v rs[p] → Q v H
theorem ok_Hall_rule (T : Txt K mg w) : FnOk P w K mg base CX0 2 T.f_Hall_rule T.fd_Hall_rule p_Hall_rule (spRuleM T.C_Hall) := by
  have G_Hall_must_have := ok_Hall_must_have (P := P) (w := w) (base := base) T
  refine T.F_Hall_rule.ok sc_Hall_rule (fun vs H Q E h => ?_) (fun cdv A outer s H vs Q E hr h => ?_)
  · obtain ⟨x, p, rs, hp, rfl, _⟩ := h
    rfl
  · obtain ⟨x, p, rs, hp, rfl, hA, q⟩ := h
    obtain ⟨dx, t, vs, hx, ht, hv⟩ := id hA
    refine ⟨_, (pss_cons (ps_expr (pe_meth (pv 0) T.cl_Hall T.me_Hall_must_have G_Hall_must_have (hr.mono (by decide)) T.b_Hall_must_have .nil pass0 (pa_cons (pv 1) pa_nil)))
      (pss_one (ps_ret (pe_ix ix_tup (pe_fld (pv 0) rfl) (pv 1) (fun _ _ => rfl))))), ?_⟩
    refine ⟨.ref x, rfl, x, dx, _, rfl, hx, kept_no _ (by decide +kernel), .int p, rfl, x, p, rs, rfl, hA, by omega, by omega, ?_⟩
    obtain ⟨v, hv1, hv2⟩ := hv.get p hp
    exact ⟨.ref x, rfl, x, T.C_Hall, dx, _, _, rfl, hx, T.cl_Hall, T.na_Hall_kept, kept_yes _, .int p, rfl, t, _, _, v, rfl, rfl, ht.sq, atI_nat hv1, q v hv2⟩
def spSees (C : Addr) : Sp := fun vs H Q _ => ∃ (x : Addr) (p : Nat) (rs : List Rule) (h : p < rs.length), vs = [.ref x, .int p] ∧ HallAt C H x rs ∧ Halls rs ∧ ∀ (l : Addr) (H' : Hp), Same H H' → H l = none → H' l = some (.lst (rs[p].persons.map V.int)) → Q (.ref l) H'
theorem Halls.few {rs : List Rule} (h : Halls rs) {p : Nat} (hp : p < rs.length) : rs[p].persons.length ≤ 12 := by
  have h1 := h.2.1
  have := (wf_len (h.2.2 _ (List.getElem_mem hp)) (by omega) (by omega)).2
  omega
theorem ok_Hall_sees (T : Txt K mg w) : FnOk P w K mg base CX0 3 T.f_Hall_sees T.fd_Hall_sees p_Hall_sees (spSees T.C_Hall) := by
  have G_Hall_rule := ok_Hall_rule (P := P) (w := w) (base := base) T
  have G_seen_by := ok_seen_by (P := P) (w := w) (base := base) T
  refine T.F_Hall_sees.ok sc_Hall_sees (fun vs H Q E h => ?_) (fun cdv A outer s H vs Q E hr h => ?_)
  · obtain ⟨x, p, rs, hp, rfl, _⟩ := h
    rfl
  · obtain ⟨x, p, rs, hp, rfl, hA, hh, q⟩ := h
    obtain ⟨dx, t, vs, hx, ht, hv⟩ := id hA
    have few := hh.few hp
    refine ⟨_, (pss_one (ps_ret (pe_call G_seen_by (hr.mono (by decide)) (by rfl) T.g_seen_by T.F_seen_by.kp T.b_seen_by .nil pass0 (pa_cons (pe_meth (pv 0) T.cl_Hall T.me_Hall_rule G_Hall_rule (hr.mono (by decide)) T.b_Hall_rule .nil pass0 (pa_cons (pv 1) pa_nil)) pa_nil)))), ?_⟩
    refine ⟨.ref x, rfl, x, dx, _, rfl, hx, kept_no _ (by decide +kernel), .int p, rfl, x, p, rs, hp, rfl, hA, fun v rv => ?_⟩
    exact ⟨v, rs[p], rfl, rv, by omega, fun l H' s' nl hl => q l H' s' nl hl⟩
def spLen (C : Addr) : Sp := fun vs H Q _ => ∃ (x : Addr) (rs : List Rule), vs = [.ref x] ∧ HallAt C H x rs ∧ Q (.int rs.length) H
theorem ok_Hall_len (T : Txt K mg w) : FnOk P w K mg base CX0 1 T.f_Hall_len T.fd_Hall_len p_Hall_len (spLen T.C_Hall) := by
  refine T.F_Hall_len.ok sc_Hall_len (fun vs H Q E h => ?_) (fun cdv A outer s H vs Q E hr h => ?_)
  · obtain ⟨x, rs, rfl, _⟩ := h
    rfl
  · obtain ⟨x, rs, rfl, ⟨dx, t, vs, hx, ht, hv⟩, q⟩ := h
    refine ⟨_, (pss_one (ps_ret (pe_callB call_len_seq (by rfl) T.m_len (by decide +kernel) (pa_cons (pe_fld (pv 0) rfl) pa_nil)))), ?_⟩
    refine ⟨.ref x, rfl, x, T.C_Hall, dx, _, _, rfl, hx, T.cl_Hall, T.na_Hall_kept, kept_yes _, t, _, rfl, .inr ht.sq, ?_⟩
    rw [hv.length]
    exact q
theorem per_in {rs : List Rule} (hh : Halls rs) {p : Nat} (hp : p < rs.length) : ∀ o ∈ rs[p].persons, 0 ≤ o ∧ o < rs.length := by
  intro o ho
  have wf := hh.2.2 _ (List.getElem_mem hp)
  generalize rs[p] = r at ho wf
  cases r with
  | held n => exact absurd ho (by simp [Rule.persons])
  | sum own ties => exact wf.2.1.2 o ho
  | cap own ties most => exact wf.2.1.2 o ho
  | kinds own seen => exact wf.2.2 o ho
  | next seen => exact wf.2 o ho
  | free seen => exact wf.2 o ho
end
end Lh

namespace Lh
open PySem PySem.Spec PyProof.Rows L2
section
variable {P : Program} {w : World} {K : PySem.W.Frag} {mg : Str → Option Value} {base : Heap}
/-- NoPerson(p) -/
def NoP (X : Addr) (E : XK) (H : Hp) (p : Int) : Prop := ∀ (d : Addr) (H' : Hp), Same H H' → H d = none → H' d = some (.xd [("person", .int p)]) → E (.ref X) (some d) H'
def spMustX (C X : Addr) : Sp := fun vs H Q E => ∃ (x : Addr) (p : Int) (rs : List Rule), vs = [.ref x, .int p] ∧ HallAt C H x rs ∧ (0 ≤ p ∧ p < rs.length → Q .non H) ∧ (¬ (0 ≤ p ∧ p < rs.length) → NoP X E H p)
theorem ok_must_haveX (T : Txt K mg w) : FnOk P w K mg base (L2.CX P w) 3 T.f_Hall_must_have T.fd_Hall_must_have p_Hall_must_have (spMustX T.C_Hall T.C_NoPerson) := by
  have G_NoPerson_init := ok_NoPerson_init (P := P) (w := w) (base := base) T
  refine T.F_Hall_must_have.okX sc_Hall_must_have (fun vs H Q E h => ?_) (fun cdv A outer s H vs Q E hr h => ?_)
  · obtain ⟨x, p, rs, rfl, _⟩ := h
    rfl
  · obtain ⟨x, p, rs, rfl, ⟨dx, t, vs, hx, ht, hv⟩, qQ, qE⟩ := h
    have lv : vs.length = rs.length := hv.length
    refine ⟨_, (pss_one (ps_if (pt_not (pt_chain op_le op_lt pe_int (pv 1) (pe_callB call_len_seq (by rfl) T.m_len (by decide +kernel) (pa_cons (pe_fld (pv 0) rfl) pa_nil))))
        (pss_one (ps_raise rfl (takes_of rfl rfl rfl rfl) (pmk_own T.ox_NoPerson T.me_NoPerson_init.1 T.ti_NoPerson G_NoPerson_init (hr.mono (by decide)) T.b_NoPerson_init .nil pass0 (by rfl) T.g_NoPerson (pa_cons (pv 1) pa_nil))))
        pss_nil)), ?_⟩
    have raise : ¬ (0 ≤ p ∧ p < rs.length) → tMkO T.C_NoPerson (spInitF T.C_NoPerson "person") [] (tCons (tVar 1) tNil) (L2.start n_Hall_must_have [V.ref x, V.int p]) H fun a b c => E a b c := fun c => by
      refine ⟨.int p, rfl, by show 1 ≤ 1000; decide, fun e ne => ?_⟩
      refine ⟨e, .int p, rfl, upd_same, fun d nd nde => ⟨rfl, d, [("person", .int p)], upd_same, ?_, ?_, ?_⟩⟩
      · rw [upd_ne nde, upd_same]
      · rw [upd_ne nde] at nd; exact nd
      · rw [upd_ne nde] at nd
        refine qE c d _ (fun b o hbo => ?_) nd upd_same
        have n1 : b ≠ e := ne_of_none hbo ne
        have n2 : b ≠ d := ne_of_none hbo nd
        rw [upd_ne n2, L2.del_ne n1, upd_ne n1, upd_ne n2, upd_ne n1]
        exact hbo
    refine ⟨.int p, rfl, 0, p, rfl, rfl, _, rfl, ite2 (fun c0 => ?_) (fun c0 => ?_)⟩
    · have p0 : 0 ≤ p := of_decide_eq_true c0
      refine ⟨.ref x, rfl, x, T.C_Hall, dx, _, _, rfl, hx, T.cl_Hall, T.na_Hall_kept, kept_yes _, t, _, rfl, .inr ht.sq, p, _, rfl, rfl, _, rfl, ?_⟩
      by_cases c1 : p < rs.length
      · exact iteN (by rw [decide_eq_true (by rw [lv]; exact c1)]; rfl) (qQ ⟨p0, c1⟩)
      · refine iteP (by rw [decide_eq_false (by rw [lv]; exact c1)]; rfl) ?_
        exact raise fun z => c1 z.2
    · exact ⟨_, rfl, iteP rfl (raise fun z => c0 (decide_eq_true z.1))⟩
def spRuleX (C X : Addr) : Sp := fun vs H Q E => ∃ (x : Addr) (p : Int) (rs : List Rule), vs = [.ref x, .int p] ∧ HallAt C H x rs ∧ (∀ (k : Nat) (hk : k < rs.length), p = (k : Int) → ∀ v, RuleAt H v rs[k] → Q v H) ∧ (¬ (0 ≤ p ∧ p < rs.length) → NoP X E H p)
theorem ok_ruleX (T : Txt K mg w) : FnOk P w K mg base (L2.CX P w) 4 T.f_Hall_rule T.fd_Hall_rule p_Hall_rule (spRuleX T.C_Hall T.C_NoPerson) := by
  have G_Hall_must_have := ok_must_haveX (P := P) (w := w) (base := base) T
  refine T.F_Hall_rule.okX sc_Hall_rule (fun vs H Q E h => ?_) (fun cdv A outer s H vs Q E hr h => ?_)
  · obtain ⟨x, p, rs, rfl, _⟩ := h
    rfl
  · obtain ⟨x, p, rs, rfl, hA, qQ, qE⟩ := h
    obtain ⟨dx, t, vs, hx, ht, hv⟩ := id hA
    refine ⟨_, (pss_cons (ps_expr (pe_meth (pv 0) T.cl_Hall T.me_Hall_must_have G_Hall_must_have (hr.mono (by decide)) T.b_Hall_must_have .nil (passes_call (takes_of rfl rfl rfl rfl) (fun _ _ _ _ h => h)) (pa_cons (pv 1) pa_nil)))
      (pss_one (ps_ret (pe_ix ix_tup (pe_fld (pv 0) rfl) (pv 1) (fun _ _ => rfl))))), ?_⟩
    refine ⟨.ref x, rfl, x, dx, _, rfl, hx, kept_no _ (by decide +kernel), .int p, rfl, x, p, rs, rfl, hA, fun c => ?_, qE⟩
    obtain ⟨k, rfl⟩ : ∃ k : Nat, p = (k : Int) := ⟨p.toNat, by omega⟩
    have hk : k < rs.length := by omega
    obtain ⟨v, hv1, hv2⟩ := hv.get k hk
    exact ⟨.ref x, rfl, x, T.C_Hall, dx, _, _, rfl, hx, T.cl_Hall, T.na_Hall_kept, kept_yes _, .int k, rfl, t, _, _, v, rfl, rfl, ht.sq, atI_nat hv1, qQ k hk rfl v hv2⟩
end
end Lh

namespace Lh
open PySem PySem.Spec PyProof.Rows L2
def numB : PyData → Bool
  | .int i => decide (0 ≤ i)
  | _ => false
section
variable {P : Program} {w : World} {K : PySem.W.Frag} {mg : Str → Option Value} {base : Heap}
theorem fn_or {k : Nat} {f : Addr} {fd : FuncData} {ps : List Str} {s1 s2 : Sp} (a : FnOk P w K mg base CX0 k f fd ps s1) (b : FnOk P w K mg base CX0 k f fd ps s2) : FnOk P w K mg base CX0 k f fd ps (fun vs H Q E => s1 vs H Q E ∨ s2 vs H Q E) := by
  refine ⟨fun vs H Q E h => ?_, fun B out t H args us vs Q E hr e0 hb r h => ?_⟩
  · rcases h with h | h
    · exact a.len vs H Q E h
    · exact b.len vs H Q E h
  · rcases h with h | h
    · exact a.run B out t H args us vs Q E hr e0 hb r h
    · exact b.run B out t H args us vs Q E hr e0 hb r h
def spIsNumD : Sp := fun vs H Q _ => ∃ (bx : Addr) (v : V) (d : PyData), vs = [v] ∧ Rp bx H v d ∧ Q (.bl (numB d)) H
theorem ok_is_numberD (T : Txt K mg w) : FnOk P w K mg base CX0 1 T.f_is_number T.fd_is_number p_is_number spIsNumD := by
  refine T.F_is_number.ok sc_is_number (fun vs H Q E h => ?_) (fun cdv A outer s H vs Q E hr h => ?_)
  · obtain ⟨bx, v, d, rfl, _⟩ := h
    rfl
  · obtain ⟨bx, v, d, rfl, hv, q⟩ := h
    refine ⟨_, (pss_one (ps_ret (pe_and (pe_callB call_isi (by rfl) T.m_isinstance (by decide +kernel) (pa_cons (pv 0) (pa_cons (pe_bltn (v := .ty "int") (by rfl) T.m_int (by decide +kernel) rfl) pa_nil))) (pe_and (pe_not (pe_callB call_isi (by rfl) T.m_isinstance (by decide +kernel) (pa_cons (pv 0) (pa_cons (pe_bltn (v := .ty "bool") (by rfl) T.m_bool (by decide +kernel) rfl) pa_nil)))) (pe_one (pe_cmpR op_ge (pv 0) pe_int (nomark _))))))), ?_⟩
    have ty := hv.ty (K := K)
    cases d with
    | int i =>
      cases hv
      refine rd_isi (x := .int i) (T := "int") rfl (.base (.int i)) (by decide +kernel : kitB "int" "int" = some true) ⟨_, rfl, iteP rfl ?_⟩
      refine rd_isi (x := .int i) (T := "int") rfl (.base (.int i)) (by decide +kernel : kitB "int" "bool" = some false) ⟨_, rfl, _, rfl, iteP rfl ?_⟩
      exact ⟨.int i, rfl, i, 0, rfl, rfl, q⟩
    | bool b =>
      refine rd_isi (x := v) (T := "bool") rfl ty (by decide +kernel : kitB "bool" "int" = some true) ⟨_, rfl, iteP rfl ?_⟩
      exact rd_isi (x := v) (T := "bool") rfl ty (by decide +kernel : kitB "bool" "bool" = some true) ⟨_, rfl, _, rfl, iteN rfl q⟩
    | none => exact rd_isi (x := v) (T := "NoneType") rfl ty (by decide +kernel : kitB "NoneType" "int" = some false) ⟨_, rfl, iteN rfl q⟩
    | str x => exact rd_isi (x := v) (T := "str") rfl ty (by decide +kernel : kitB "str" "int" = some false) ⟨_, rfl, iteN rfl q⟩
    | list ds => exact rd_isi (x := v) (T := "list") rfl ty (by decide +kernel : kitB "list" "int" = some false) ⟨_, rfl, iteN rfl q⟩
    | tuple ds => exact rd_isi (x := v) (T := "tuple") rfl ty (by decide +kernel : kitB "tuple" "int" = some false) ⟨_, rfl, iteN rfl q⟩
    | _ => cases hv
end
end Lh

namespace Lh
open PySem PySem.Spec PyProof.Rows L2
/-! ### comprehensions that leave all as it was -/
theorem lc_map {J : It} {n : Nat} {G : Hp → Prop} {Y : Nat → Hp → V → Hp → Prop} (wk : Walk J n G Y) {g : TG} {te : TE} {vs : List Nat} {σ : L2.St} {H1 : Hp} {D : Addr} {Qd : Hp → Prop} (f : Nat → V) (hD : H1 D = none) (hn : n ≤ 1000) (hG : ∀ H3, Same H1 H3 → G H3)
    (hs : ∀ i x H3 H4, i < n → Same H1 H3 → Y i H3 x H4 → ∀ (Q : VK) (Z : Hp → Prop), (∀ H5, Same H3 H5 → Q (f i) H5) → g x (wipe σ vs) H4 fun σ2 H2 => wipe σ2 vs = wipe σ vs ∧ tYes σ2 H2 fun b H3 => if b = true then te σ2 H3 Q else Z H3)
    (hq : ∀ H', Same H1 H' → H' D = some (.lst ((List.range n).map f)) → Qd H') :
    ∃ W : Nat → Nat → Hp → Prop, (∃ m, W 0 m (upd H1 D (.lst []))) ∧ ∀ i m H, W i m H →
      (J.stop i H ∧ Qd H) ∨ (J.go i H ∧ ∃ Nx : Hp → Prop, (∀ H', Nx H' → ∃ m', m' < m ∧ W (i + 1) m' H') ∧ ∀ x H', J.yld i H x H' → g x (wipe σ vs) H' fun σ2 H2 => wipe σ2 vs = wipe σ vs ∧ tYes σ2 H2 fun b H3 =>
        if b = true then te σ2 H3 fun y H4 => ∃ acc, H4 D = some (.lst acc) ∧ acc.length < sizeLine ∧ Nx (upd H4 D (.lst (acc ++ [y]))) else Nx H3) := by
  refine lc_it wk (fun i H3 => Same H1 H3 ∧ H3 D = some (.lst ((List.range i).map f))) ⟨same_upd hD, upd_same⟩ (fun i H3 _ h => hG H3 h.1) ?_ (fun H3 h => hq H3 h.1 h.2)
  rintro i x H3 H4 hi ⟨sm, h3⟩ hy
  refine hs i x H3 H4 hi sm hy _ _ (fun H5 s5 => ⟨_, s5 _ _ h3, ?_, same_mut (sm.trans s5) hD, ?_⟩)
  · rw [List.length_map, List.length_range]; exact small1000 (by omega)
  · rw [upd_same, List.range_succ, List.map_append]; rfl
theorem lc_filt {J : It} {n : Nat} {G : Hp → Prop} {Y : Nat → Hp → V → Hp → Prop} (wk : Walk J n G Y) {g : TG} {tt : TT} {te : TE} {vs : List Nat} {σ : L2.St} {H1 : Hp} {D : Addr} {Qd : Hp → Prop} (p : Nat → Bool) (f : Nat → V) (hD : H1 D = none) (hn : n ≤ 1000) (hG : ∀ H3, Same H1 H3 → G H3)
    (hs : ∀ i x H3 H4, i < n → Same H1 H3 → Y i H3 x H4 → ∀ (Q : VK) (Z : Hp → Prop), (p i = true → ∀ H5, Same H3 H5 → Q (f i) H5) → (p i = false → ∀ H5, Same H3 H5 → Z H5) → g x (wipe σ vs) H4 fun σ2 H2 => wipe σ2 vs = wipe σ vs ∧ tt σ2 H2 fun b H3 => if b = true then te σ2 H3 Q else Z H3)
    (hq : ∀ H', Same H1 H' → H' D = some (.lst (((List.range n).filter p).map f)) → Qd H') :
    ∃ W : Nat → Nat → Hp → Prop, (∃ m, W 0 m (upd H1 D (.lst []))) ∧ ∀ i m H, W i m H →
      (J.stop i H ∧ Qd H) ∨ (J.go i H ∧ ∃ Nx : Hp → Prop, (∀ H', Nx H' → ∃ m', m' < m ∧ W (i + 1) m' H') ∧ ∀ x H', J.yld i H x H' → g x (wipe σ vs) H' fun σ2 H2 => wipe σ2 vs = wipe σ vs ∧ tt σ2 H2 fun b H3 =>
        if b = true then te σ2 H3 fun y H4 => ∃ acc, H4 D = some (.lst acc) ∧ acc.length < sizeLine ∧ Nx (upd H4 D (.lst (acc ++ [y]))) else Nx H3) := by
  refine lc_it wk (fun i H3 => Same H1 H3 ∧ H3 D = some (.lst (((List.range i).filter p).map f))) ⟨same_upd hD, upd_same⟩ (fun i H3 _ h => hG H3 h.1) ?_ (fun H3 h => hq H3 h.1 h.2)
  rintro i x H3 H4 hi ⟨sm, h3⟩ hy
  refine hs i x H3 H4 hi sm hy _ _ (fun z H5 s5 => ⟨_, s5 _ _ h3, ?_, same_mut (sm.trans s5) hD, ?_⟩) (fun z H5 s5 => ⟨sm.trans s5, ?_⟩)
  · rw [List.length_map]; exact small1000 (Nat.le_trans (List.length_filter_le _ _) (by rw [List.length_range]; omega))
  · rw [upd_same, List.range_succ, List.filter_append, List.map_append, List.filter_cons, if_pos z]; rfl
  · rw [s5 _ _ h3, List.range_succ, List.filter_append, List.filter_cons, if_neg (by rw [z]; exact Bool.false_ne_true), List.filter_nil, List.append_nil]
end Lh

namespace Lh
open PySem PySem.Spec PyProof.Rows L2
def stdB (n : Nat) : PyData → Bool
  | .tuple ds => decide (ds.length = n) && ds.all numB
  | _ => false
theorem stdB_tup (n : Nat) (ds : List PyData) : stdB n (.tuple ds) = (decide (ds.length = n) && ds.all numB) := rfl
section
variable {X : Cx}
/-- repr of data of any make -/
def shV : PyData → Str
  | .none => Str.ofString "None"
  | .bool b => Str.ofString (if b then "True" else "False")
  | .int i => Str.ofString (toString i)
  | .str x => reprText x
  | d => d.shown
def rReprV (K : PySem.W.Frag) : List V → Hp → VK → Prop := fun xs H Q => ∃ (v : V) (d : PyData), xs = [v] ∧ Dp K H v d ∧ d.showable = true ∧ d.hasDict = false ∧ d.depth ≤ 60 ∧ d.shown.length ≤ sizeLine ∧ (∀ x, d = .str x → (reprText x).length ≤ sizeLine) ∧ (∀ i, d = .int i → i.natAbs.log2 < 1920) ∧ Q (.str (shV d)) H
theorem call_reprV (hG : X.A.guards = some []) (hu : X.A.units + 64 < cLine) : CallR X (.builtin "repr") (rReprV X.K) := by
  intro pins s σ H xs us Q I r h
  obtain ⟨v, d, rfl, hd, h1, h2, h3, h4, h5, h6, q⟩ := h
  obtain ⟨u, rfl, ru⟩ := vals1 r
  have hds := hd
  cases d with
  | none =>
    cases hd
    cases (show u = Value.none from ru)
    exact PySem.P.repr_of_none ⟨.str _, H, I.tok _, ⟨_, rfl⟩, q⟩
  | bool b =>
    cases hd
    cases (show u = Value.bool b from ru)
    exact PySem.P.repr_of_bool ⟨.str _, H, I.tok _, ⟨_, rfl⟩, by cases b <;> exact q⟩
  | int i =>
    cases hd
    obtain ⟨tk, rfl⟩ := ru
    exact PySem.P.repr_of_int (h6 i rfl) ⟨.str _, H, I.tok _, ⟨_, rfl⟩, q⟩
  | str x =>
    cases hd
    obtain ⟨tk, rfl⟩ := ru
    exact PySem.P.repr_of_str ⟨.str _, H, I.tok _, ⟨_, rfl⟩, q⟩ (h5 x rfl)
  | list ds =>
    cases hd
    obtain rfl : u = Value.ref _ := ru
    obtain ⟨as, rd⟩ := Dp.reads I _ _ _ hds rfl
    exact repr_of_reads' rd h1 (fun z => by rw [h2] at z; cases z) hG (by omega) (fun b o e => e) (fun h' u tk hk => ⟨.str _, H, I.kept hk, ⟨u, rfl⟩, q⟩) h4
  | tuple ds =>
    cases hd
    obtain rfl : u = Value.ref _ := ru
    obtain ⟨as, rd⟩ := Dp.reads I _ _ _ hds rfl
    exact repr_of_reads' rd h1 (fun z => by rw [h2] at z; cases z) hG (by omega) (fun b o e => e) (fun h' u tk hk => ⟨.str _, H, I.kept hk, ⟨u, rfl⟩, q⟩) h4
  | _ => cases hd
end
theorem RpAll.at {bx : Addr} {H : Hp} {vs : List V} {ds : List PyData} (h : RpAll bx H vs ds) {j : Nat} {v : V} (e : vs[j]? = some v) : ∃ d, ds[j]? = some d ∧ Rp bx H v d := by
  have hj : j < vs.length := (List.getElem?_eq_some_iff.mp e).1
  obtain ⟨u, h1, h2⟩ := h.get (i := j) (d := ds[j]'(by rw [← h.length]; exact hj)) (List.getElem?_eq_getElem _)
  rw [e] at h1
  cases h1
  exact ⟨_, List.getElem?_eq_getElem _, h2⟩
theorem RpAll.same {bx : Addr} {H H' : Hp} (s : Same H H') {vs : List V} {ds : List PyData} (h : RpAll bx H vs ds) : RpAll bx H' vs ds := RpAll.ext (Ext.of s) h
theorem range_getD2 {α β : Type} (f : α → β) (d : α) : ∀ xs : List α, (List.range xs.length).map (fun i => f (xs.getD i d)) = xs.map f := fun xs => by
  refine List.ext_getElem (by rw [List.length_map, List.length_range, List.length_map]) fun i h1 h2 => ?_
  rw [List.length_map] at h2
  rw [List.getElem_map, List.getElem_map, List.getElem_range, List.getD_eq_getElem?_getD, List.getElem?_eq_getElem h2]
  rfl
section
variable {P : Program} {w : World} {K : PySem.W.Frag} {mg : Str → Option Value} {base : Heap}
def spIsStand (C : Addr) : Sp := fun vs H Q _ => ∃ (bx x : Addr) (v : V) (d : PyData) (rs : List Rule), vs = [.ref x, v] ∧ HallAt C H x rs ∧ Halls rs ∧ Rp bx H v d ∧ (∀ ds, d = .tuple ds → ds.length ≤ 1000) ∧ ∀ H', Same H H' → Q (.bl (stdB rs.length d)) H'
end
end Lh

namespace Lh
open PySem PySem.Spec PyProof.Rows L2
def intOf : PyData → Int
  | .int i => i
  | _ => 0
def persB (m : Int) : PyData → Bool
  | .int i => decide (0 ≤ i) && decide (i < m)
  | _ => false
def riseB (ns : List Int) : Bool := decide (ns.Pairwise (· < ·))
def seenB (m : Int) : PyData → Bool
  | .tuple ds => ds.all (persB m) && riseB (ds.map intOf)
  | _ => false
theorem pers_ints {m : Int} : ∀ {ds : List PyData}, ds.all (persB m) = true → ds = (ds.map intOf).map PyData.int ∧ ∀ n ∈ ds.map intOf, 0 ≤ n ∧ n < m
  | [], _ => ⟨rfl, fun n h => absurd h (by simp)⟩
  | d :: r, h => by
    rw [List.all_cons, Bool.and_eq_true] at h
    obtain ⟨e, al⟩ := pers_ints h.2
    cases d with
    | int i =>
      have hi : (decide (0 ≤ i) && decide (i < m)) = true := h.1
      rw [Bool.and_eq_true, decide_eq_true_iff, decide_eq_true_iff] at hi
      refine ⟨?_, fun n hn => ?_⟩
      · rw [List.map_cons, List.map_cons, ← e]; rfl
      · rcases List.mem_cons.mp hn with rfl | hn
        · exact hi
        · exact al n hn
    | _ => exact absurd h.1 Bool.false_ne_true
theorem ints_pers {m : Int} {ns : List Int} (h : ∀ n ∈ ns, 0 ≤ n ∧ n < m) : (ns.map PyData.int).all (persB m) = true := by
  rw [List.all_eq_true]
  intro d hd
  obtain ⟨n, hn, rfl⟩ := List.mem_map.mp hd
  show (decide (0 ≤ n) && decide (n < m)) = true
  rw [decide_eq_true (h n hn).1, decide_eq_true (h n hn).2]; rfl
theorem map_intOf (ns : List Int) : (ns.map PyData.int).map intOf = ns := by
  rw [List.map_map]
  exact List.map_id ns
def adjL (ns : List Int) : List Bool := (List.range (ns.length - 1)).map fun i : Nat => decide (nth ns i < nth ns (i + 1 : Nat))
theorem nth_getE {ns : List Int} {i : Nat} (h : i < ns.length) : nth ns i = ns[i] := by
  unfold nth
  rw [Int.toNat_natCast, List.getD_eq_getElem?_getD, List.getElem?_eq_getElem h]; rfl
theorem adj_all (ns : List Int) : (adjL ns).all id = riseB ns := by
  unfold riseB adjL
  rw [Bool.eq_iff_iff, decide_eq_true_iff, List.all_eq_true]
  constructor
  · intro h
    have step : ∀ i, i + 1 < ns.length → nth ns i < nth ns (i + 1 : Nat) := fun i hi => by
      have := h _ (List.mem_map.mpr ⟨i, List.mem_range.mpr (by omega), rfl⟩)
      exact of_decide_eq_true this
    have far : ∀ k i, i + k + 1 < ns.length → nth ns i < nth ns (i + k + 1 : Nat) := fun k => by
      induction k with
      | zero => exact fun i hi => step i (by omega)
      | succ k ih =>
        intro i hi
        have a := ih i (by omega)
        have b := step (i + k + 1) (by omega)
        rw [show i + (k + 1) + 1 = i + k + 1 + 1 by omega]
        omega
    refine List.pairwise_iff_getElem.mpr fun i j hi hj lt => ?_
    have := far (j - i - 1) i (by omega)
    rw [show i + (j - i - 1) + 1 = j by omega, nth_getE hi, nth_getE hj] at this
    exact this
  · intro pw b hb
    obtain ⟨i, hi, rfl⟩ := List.mem_map.mp hb
    have hi := List.mem_range.mp hi
    refine decide_eq_true ?_
    rw [nth_getE (by omega), nth_getE (by omega)]
    exact List.pairwise_iff_getElem.mp pw i (i + 1) (by omega) (by omega) (by omega)
end Lh

namespace Lh
open PySem PySem.Spec PyProof.Rows L2
section
variable {P : Program} {w : World} {K : PySem.W.Frag} {mg : Str → Option Value} {base : Heap}
def spIsPersD : Sp := fun vs H Q _ => ∃ (bx : Addr) (m : Int) (v : V) (d : PyData), vs = [.int m, v] ∧ Rp bx H v d ∧ Q (.bl (persB m d)) H
theorem ok_is_personD (T : Txt K mg w) : FnOk P w K mg base CX0 2 T.f_is_person T.fd_is_person p_is_person spIsPersD := by
  have G_is_number := ok_is_numberD (P := P) (w := w) (base := base) T
  refine T.F_is_person.ok sc_is_person (fun vs H Q E h => ?_) (fun cdv A outer s H vs Q E hr h => ?_)
  · obtain ⟨bx, m, v, d, rfl, _⟩ := h
    rfl
  · obtain ⟨bx, m, v, d, rfl, hv, q⟩ := h
    refine ⟨_, (pss_one (ps_ret (pe_and (pe_call G_is_number (hr.mono (by decide)) (by rfl) T.g_is_number T.F_is_number.kp T.b_is_number .nil pass0 (pa_cons (pv 1) pa_nil)) (pe_one (pe_cmpR op_lt (pv 1) (pv 0) (nomark _)))))), ?_⟩
    refine ⟨v, rfl, bx, v, d, rfl, hv, ?_⟩
    cases d with
    | int i =>
      cases hv
      by_cases c : 0 ≤ i
      · refine ⟨_, rfl, iteP (decide_eq_true c) ⟨.int i, rfl, .int m, rfl, i, m, rfl, rfl, blC ?_ q⟩⟩
        show decide (i < m) = (decide (0 ≤ i) && decide (i < m))
        rw [decide_eq_true c]; rfl
      · refine ⟨_, rfl, iteN (decide_eq_false c) (blC ?_ q)⟩
        show false = (decide (0 ≤ i) && decide (i < m))
        rw [decide_eq_false c]; rfl
    | _ => exact ⟨_, rfl, iteN rfl q⟩
def spRisesB (K : PySem.W.Frag) : Sp := fun vs H Q _ => ∃ (a : Addr) (ns : List Int), vs = [.ref a] ∧ (SqL K H a (ns.map V.int) ∨ TupAt H a (ns.map V.int)) ∧ ns.length ≤ 1000 ∧ ∀ H', Same H H' → Q (.bl (riseB ns)) H'
set_option maxHeartbeats 1000000 in
theorem ok_risesB (T : Txt K mg w) : FnOk P w K mg base CX0 1 T.f_rises T.fd_rises p_rises (spRisesB K) := by
  refine T.F_rises.ok sc_rises (fun vs H Q E h => ?_) (fun cdv A outer s H vs Q E hr h => ?_)
  · obtain ⟨a, ns, rfl, _⟩ := h
    rfl
  · obtain ⟨a, ns, rfl, hS, hl, q⟩ := h
    have turn : ∀ (i : Nat) (x1 x2 : V), i < ns.length - 1 → (ns.map V.int)[i]? = some x1 → ((ns.drop 1).map V.int)[i]? = some x2 → x1 = .int (nth ns i) ∧ x2 = .int (nth ns (i + 1 : Nat)) := fun i x1 x2 hi e1 e2 => by
      rw [List.getElem?_map, List.getElem?_eq_getElem (by omega)] at e1
      rw [List.getElem?_map, List.getElem?_drop, List.getElem?_eq_getElem (by omega)] at e2
      rw [nth_getE (by omega), nth_getE (by omega)]
      refine ⟨(Option.some.inj e1).symm, ?_⟩
      have := (Option.some.inj e2).symm
      simp only [Nat.add_comm 1 i] at this
      exact this
    have fin : ∀ (D : Addr) (H3 : Hp), Same H H3 → H3 D = some (.lst ((List.range (ns.length - 1)).map fun i : Nat => V.bl (decide (nth ns i < nth ns (i + 1 : Nat))))) → rAll K [.ref D] H3 Q := fun D H3 s3 h3 => by
      refine ⟨D, adjL ns, rfl, .inl (.inl (by rw [h3]; unfold adjL; rw [List.map_map]; rfl)), ?_⟩
      rw [adj_all]
      exact q H3 s3
    rcases hS with hS | hS
    · refine ⟨_, (pss_one (ps_ret (pe_callB (cr_all rfl) (by rfl) T.m_all (by decide +kernel) (pa_cons (pe_lc (own := [("one", 1), ("other", 2)]) (g := gTup K 2 (gCons (gName 1) (gCons (gName 2) gNil))) (by rfl) sc_rises.nd (RZ.pi_zipA (by rfl) T.m_zip (pa_cons (pv 0) (pa_cons (pe_slice sl_list (pv 0) (po_some pe_int) po_none) pa_nil))) (blkOk_by (own := [("one", 1), ("other", 2)]) (N := n_rises) (sc := defScope s_rises) (by decide +kernel)) (fun _ _ _ _ _ => (pg_tup rfl (pgs_cons (pg_name (i := 1) sc_rises.nd rfl (.inl rfl) (.inr rfl)) (pgs_cons (pg_name (i := 2) sc_rises.nd rfl (.inl rfl) (.inr rfl)) pgs_nil)))) (fun _ _ _ _ _ => pts_nil) (fun _ _ _ _ _ => (pe_cmpR op_lt (pv 1) (pv 2) (nomark _)))) pa_nil)))), ?_⟩
      refine ⟨.ref a, rfl, .ref a, rfl, 1, rfl, a, _, rfl, hS, fun c nc => ?_⟩
      have s1 := same_upd (o := .lst (cutV (ns.map V.int) (some 1) none)) nc
      refine ⟨a, c, _, _, rfl, .inl ⟨s1.seq hS, .inl (.inl upd_same), fun D hD => ?_⟩⟩
      rw [cut_map V.int, cut1] at s1 hD ⊢
      refine lc_map (walk_zip (xs := ns.map V.int) (ys := (ns.drop 1).map V.int) (n := ns.length - 1) (by rw [List.length_map, List.length_map, List.length_drop]; omega)) (fun i : Nat => .bl (decide (nth ns i < nth ns (i + 1 : Nat)))) hD (by omega) (fun H3 s3 => ⟨s3.seq (s1.seq hS), .inl (.inl (s3 _ _ upd_same))⟩) ?_ (fun H3 s3 h3 => fin D H3 (s1.trans s3) h3)
      rintro i x H3 H4 hi s3 ⟨t, x1, x2, rfl, nt, rfl, e1, e2⟩ Q' Z hQ
      obtain ⟨rfl, rfl⟩ := turn i x1 x2 hi e1 e2
      exact ⟨t, _, rfl, .inl (.inl upd_same), rfl, _, _, rfl, _, _, rfl, rfl, rfl, yes (iteT ⟨.int _, rfl, .int _, rfl, _, _, rfl, rfl, hQ _ (same_upd nt)⟩)⟩
    · refine ⟨_, (pss_one (ps_ret (pe_callB (cr_all rfl) (by rfl) T.m_all (by decide +kernel) (pa_cons (pe_lc (own := [("one", 1), ("other", 2)]) (g := gTup K 2 (gCons (gName 1) (gCons (gName 2) gNil))) (by rfl) sc_rises.nd (RZ.pi_zipA (by rfl) T.m_zip (pa_cons (pv 0) (pa_cons (pe_slice sl_tupA (pv 0) (po_some pe_int) po_none) pa_nil))) (blkOk_by (own := [("one", 1), ("other", 2)]) (N := n_rises) (sc := defScope s_rises) (by decide +kernel)) (fun _ _ _ _ _ => (pg_tup rfl (pgs_cons (pg_name (i := 1) sc_rises.nd rfl (.inl rfl) (.inr rfl)) (pgs_cons (pg_name (i := 2) sc_rises.nd rfl (.inl rfl) (.inr rfl)) pgs_nil)))) (fun _ _ _ _ _ => pts_nil) (fun _ _ _ _ _ => (pe_cmpR op_lt (pv 1) (pv 2) (nomark _)))) pa_nil)))), ?_⟩
      refine ⟨.ref a, rfl, .ref a, rfl, 1, rfl, a, _, rfl, hS.sq, fun wh => ?_, fun _ c nc => ?_⟩
      · have hn : ns = [] := by
          cases ns with
          | nil => rfl
          | cons x r =>
            have := wh.1
            rw [show HT.sIx ((x :: r).map V.int).length 0 (some 1) = min 1 ((x :: r).map V.int).length from HT.sIx_nat _ 0 1, List.length_map, List.length_cons] at this
            omega
        subst hn
        refine ⟨a, a, [], [], rfl, .inr ⟨hS.sq, hS.sq, fun D hD => ?_⟩⟩
        refine lc_map (walk_zipT (xs := []) (ys := []) (n := 0) rfl rfl) (fun i : Nat => .bl (decide (nth [] i < nth [] (i + 1 : Nat)))) hD (by omega) (fun H3 s3 => ⟨(hS.keep (Keep.same s3)).sq, (hS.keep (Keep.same s3)).sq⟩) ?_ (fun H3 s3 h3 => fin D H3 s3 h3)
        intro i x H3 H4 hi
        omega
      · have s1 := same_upd (o := .tup (cutV (ns.map V.int) (some 1) none)) nc
        have hA := hS.keep (Keep.same s1)
        refine ⟨a, c, _, _, rfl, .inr ⟨hA.sq, .inl (.inl upd_same), fun D hD => ?_⟩⟩
        rw [cut_map V.int, cut1] at s1 hD hA ⊢
        refine lc_map (walk_zipM (K := K) (a := a) (b := c) (xs := ns.map V.int) (ys := (ns.drop 1).map V.int) (n := ns.length - 1) (by rw [List.length_map, List.length_map, List.length_drop]; omega)) (fun i : Nat => .bl (decide (nth ns i < nth ns (i + 1 : Nat)))) hD (by omega) (fun H3 s3 => ⟨(hA.keep (Keep.same s3)).sq, .inl (.inl (s3 _ _ upd_same))⟩) ?_ (fun H3 s3 h3 => fin D H3 (s1.trans s3) h3)
        rintro i x H3 H4 hi s3 ⟨t, x1, x2, rfl, nt, rfl, e1, e2⟩ Q' Z hQ
        obtain ⟨rfl, rfl⟩ := turn i x1 x2 hi e1 e2
        exact ⟨t, _, rfl, .inl (.inl upd_same), rfl, _, _, rfl, _, _, rfl, rfl, rfl, yes (iteT ⟨.int _, rfl, .int _, rfl, _, _, rfl, rfl, hQ _ (same_upd nt)⟩)⟩
def spArePersD : Sp := fun vs H Q _ => ∃ (bx : Addr) (m : Int) (v : V) (d : PyData), vs = [.int m, v] ∧ Rp bx H v d ∧ (∀ ds, d = .tuple ds → ds.length ≤ 1000) ∧ ∀ H', Same H H' → Q (.bl (seenB m d)) H'
set_option maxHeartbeats 1000000 in
theorem ok_are_personsD (T : Txt K mg w) : FnOk P w K mg base CX0 3 T.f_are_persons T.fd_are_persons p_are_persons spArePersD := by
  have G_is_person := ok_is_personD (P := P) (w := w) (base := base) T
  have G_rises := ok_risesB (P := P) (w := w) (base := base) T
  refine T.F_are_persons.ok sc_are_persons (fun vs H Q E h => ?_) (fun cdv A outer s H vs Q E hr h => ?_)
  · obtain ⟨bx, m, v, d, rfl, _⟩ := h
    rfl
  · obtain ⟨bx, m, v, d, rfl, hv, hl, q⟩ := h
    refine ⟨_, (pss_one (ps_ret (pe_and (pe_callB call_isi (by rfl) T.m_isinstance (by decide +kernel) (pa_cons (pv 1) (pa_cons (pe_bltn (v := .ty "tuple") (by rfl) T.m_tuple (by decide +kernel) rfl) pa_nil))) (pe_and (pe_callB (cr_all rfl) (by rfl) T.m_all (by decide +kernel) (pa_cons (pe_lc (own := [("one", 2)]) (g := gName 2) (by rfl) sc_are_persons.nd (pi_tup (pv 1)) (blkOk_by (own := [("one", 2)]) (N := n_are_persons) (sc := defScope s_are_persons) (by decide +kernel)) (fun _ _ _ _ _ => (pg_name (i := 2) sc_are_persons.nd rfl (.inl rfl) (.inr rfl))) (fun _ _ _ _ _ => pts_nil) (fun _ _ _ _ _ => (pe_call G_is_person (hr.mono (by decide)) (by rfl) T.g_is_person T.F_is_person.kp T.b_is_person .nil pass0 (pa_cons (pv 0) (pa_cons (pv 2) pa_nil))))) pa_nil)) (pe_one (pe_call G_rises (hr.mono (by decide)) (by rfl) T.g_rises T.F_rises.kp T.b_rises .nil pass0 (pa_cons (pv 1) pa_nil))))))), ?_⟩
    have ty := hv.ty (K := K)
    cases d with
    | tuple ds =>
      cases hv with
      | tup ht nb ra =>
        rename_i a xs
        have hl' := hl ds rfl
        have lx : xs.length = ds.length := ra.length
        refine rd_isi (x := .ref a) (T := "tuple") rfl ht.ty (by decide +kernel : kitB "tuple" "tuple" = some true) ⟨_, rfl, iteP rfl ?_⟩
        refine ⟨.ref a, rfl, a, rfl, ⟨_, ht.sq⟩, fun D hD => ?_⟩
        refine lc_map (walk_tup (xs := xs)) (fun j => .bl (persB m (ds.getD j .none))) hD (by omega) (fun H3 s3 => (ht.keep (Keep.same s3)).sq) ?_ ?_
        · rintro j y H3 H4 hj s3 ⟨rfl, hy⟩ Q' Z hQ
          obtain ⟨dj, e1, e2⟩ := ra.at hy
          refine ⟨rfl, yes (iteT ?_)⟩
          rw [List.getD_eq_getElem?_getD, e1] at hQ
          exact ⟨.int m, rfl, y, rfl, bx, m, y, dj, rfl, e2.ext (Ext.of s3), hQ _ (Same.refl _)⟩
        · intro H3 s3 h3
          rw [lx] at h3
          refine ⟨D, ds.map (persB m), rfl, .inl (.inl (by rw [h3, List.map_map]; exact congrArg (fun z => some (HO.lst z)) (range_getD2 (fun d => V.bl (persB m d)) .none ds))), ?_⟩
          rw [List.all_map, show (id ∘ persB m) = persB m from rfl]
          refine ⟨_, rfl, ite2 (fun c => ?_) (fun c => ?_)⟩
          · obtain ⟨e, al⟩ := pers_ints c
            have hi : TupAt H3 a ((ds.map intOf).map V.int) := by
              have := RpAll.ofInts (H := H) (bx := bx) (ns := ds.map intOf) (vs := xs) (by rw [← e]; exact ra)
              rw [← this]
              exact ht.keep (Keep.same s3)
            refine ⟨.ref a, rfl, a, ds.map intOf, rfl, .inr hi, by rw [List.length_map]; exact hl', fun H4 s4 => ?_⟩
            have := q H4 (s3.trans s4)
            rw [show seenB m (.tuple ds) = (ds.all (persB m) && riseB (ds.map intOf)) from rfl, c, Bool.true_and] at this
            exact this
          · have := q H3 s3
            have c' : ds.all (persB m) = false := Bool.eq_false_iff.mpr c
            rw [show seenB m (.tuple ds) = (ds.all (persB m) && riseB (ds.map intOf)) from rfl, c', Bool.false_and] at this
            exact this
    | none => exact rd_isi (x := v) (T := "NoneType") rfl ty (by decide +kernel : kitB "NoneType" "tuple" = some false) ⟨_, rfl, iteN rfl (q H (Same.refl H))⟩
    | bool b => exact rd_isi (x := v) (T := "bool") rfl ty (by decide +kernel : kitB "bool" "tuple" = some false) ⟨_, rfl, iteN rfl (q H (Same.refl H))⟩
    | int i => exact rd_isi (x := v) (T := "int") rfl ty (by decide +kernel : kitB "int" "tuple" = some false) ⟨_, rfl, iteN rfl (q H (Same.refl H))⟩
    | str x => exact rd_isi (x := v) (T := "str") rfl ty (by decide +kernel : kitB "str" "tuple" = some false) ⟨_, rfl, iteN rfl (q H (Same.refl H))⟩
    | list ds => exact rd_isi (x := v) (T := "list") rfl ty (by decide +kernel : kitB "list" "tuple" = some false) ⟨_, rfl, iteN rfl (q H (Same.refl H))⟩
    | _ => cases hv
end
end Lh

namespace Lh
open PySem PySem.Spec PyProof.Rows L2
theorem rg_ints (n : Int) : rgV 0 n = ((List.range n.toNat).map fun k : Nat => (k : Int)).map V.int := by
  unfold rgV
  rw [List.map_map, Int.sub_zero]
  exact List.map_congr_left fun k _ => by show V.int (0 + (k : Int)) = V.int k; rw [Int.zero_add]
theorem rg_rising (n : Int) (h : 0 ≤ n) : Rising n ((List.range n.toNat).map fun k : Nat => (k : Int)) := by
  refine ⟨List.Pairwise.map _ (fun a b z => by omega) List.pairwise_lt_range, fun x hx => ?_⟩
  obtain ⟨k, hk, rfl⟩ := List.mem_map.mp hx
  have := List.mem_range.mp hk
  omega
theorem at_end {us : List V} {t : V} (h : us[us.length - 1]? = some t) : atI us (-1) = some t := by
  rw [← List.getLast?_eq_getElem?] at h
  obtain ⟨ys, rfl⟩ := List.getLast?_eq_some_iff.mp h
  exact atI_last ys t
theorem ixN_at {n j : Nat} (h : j < n) : ixN n (j : Int) = some j := by
  unfold ixN
  rw [if_pos (by omega), if_pos (by omega), Int.toNat_natCast]
theorem nth_set {ms : List Int} {j : Nat} {y : Int} (hj : j < ms.length) (i : Nat) : nth (ms.set j y) i = if i = j then y else nth ms i := by
  unfold nth
  rw [Int.toNat_natCast, List.getD_eq_getElem?_getD, List.getD_eq_getElem?_getD, List.getElem?_set]
  by_cases c : j = i
  · subst c
    rw [if_pos rfl, if_pos rfl, if_pos hj]
    rfl
  · rw [if_neg c, if_neg fun z => c z.symm]
theorem Turned.step {rs : List Rule} {ns ms : List Int} {S S' : Int → Prop} {p : Nat} {y : Int} (hn : ns.length = rs.length) (hp : p < rs.length) (t : Turned rs ns S ms) (ty : Tell rs[p] (lotI rs[p] ns p) y) (hS : ∀ i : Nat, S' i ↔ S i ∨ i = p) : Turned rs ns S' (ms.set p y) := by
  refine ⟨by rw [List.length_set]; exact t.1, fun i hi => ?_⟩
  have hpm : p < ms.length := by rw [t.1]; omega
  rw [nth_set hpm]
  by_cases c : i = p
  · subst c
    rw [if_pos rfl]
    exact ⟨fun _ => ty, fun z => absurd ((hS i).mpr (.inr rfl)) z⟩
  · rw [if_neg c]
    refine ⟨fun z => (t.2 i hi).1 ?_, fun z => (t.2 i hi).2 fun z' => z ((hS i).mpr (.inl z'))⟩
    rcases (hS i).mp z with h | h
    · exact h
    · exact absurd h c
theorem Turned.none {rs : List Rule} {ns : List Int} {S : Int → Prop} (hS : ∀ i, ¬ S i) : Turned rs ns S ns := ⟨rfl, fun i _ => ⟨fun z => absurd z (hS _), fun _ => rfl⟩⟩
/-- the standings behind 0, 1, .. beats -/
def Way (rs : List Rule) (ns : List Int) (nss : List (List Int)) : Prop := nss[0]? = some ns ∧ (∀ ms ∈ nss, ms.length = rs.length) ∧ ∀ (i : Nat) (a b : List Int), nss[i]? = some a → nss[i + 1]? = some b → Beat rs a b
theorem Beat.unique {rs : List Rule} {ns ms ks : List Int} (hn : ns.length = rs.length) (a : Beat rs ns ms) (b : Beat rs ns ks) : ms = ks := Turned.unique hn (fun _ _ => Iff.rfl) a b
theorem Way.unique {rs : List Rule} {ns : List Int} {nss mss : List (List Int)} (a : Way rs ns nss) (b : Way rs ns mss) (hl : nss.length = mss.length) : nss = mss := by
  refine List.ext_getElem? fun i => ?_
  induction i with
  | zero => rw [a.1, b.1]
  | succ i ih =>
    by_cases c : i + 1 < nss.length
    · have c' : i + 1 < mss.length := by omega
      have h1 := List.getElem?_eq_getElem (l := nss) (show i < nss.length by omega)
      have h2 := List.getElem?_eq_getElem c
      have h4 := List.getElem?_eq_getElem c'
      rw [h2, h4]
      have h3 := ih.symm.trans h1
      have x := a.2.2 i _ _ h1 h2
      have y := b.2.2 i _ _ h3 h4
      rw [Beat.unique (a.2.1 _ (List.getElem_mem _)) x y]
    · rw [List.getElem?_eq_none (by omega), List.getElem?_eq_none (by omega)]
theorem Way.one {rs : List Rule} {ns : List Int} (h : ns.length = rs.length) : Way rs ns [ns] := by
  refine ⟨rfl, fun ms hm => ?_, fun i a b h1 h2 => ?_⟩
  · rw [List.mem_singleton.mp hm]; exact h
  · rw [List.getElem?_eq_none (by show 1 ≤ i + 1; omega)] at h2
    cases h2
theorem Way.snoc {rs : List Rule} {ns a b : List Int} {nss : List (List Int)} (h : Way rs ns nss) (ha : nss.getLast? = some a) (hb : Beat rs a b) : Way rs ns (nss ++ [b]) := by
  have hl : a ∈ nss := List.mem_of_getLast? ha
  have h0 : 0 < nss.length := List.length_pos_of_mem hl
  refine ⟨?_, fun ms hm => ?_, fun i x y h1 h2 => ?_⟩
  · rw [List.getElem?_append_left h0]; exact h.1
  · rcases List.mem_append.mp hm with z | z
    · exact h.2.1 _ z
    · rw [List.mem_singleton.mp z, hb.1]; exact h.2.1 _ hl
  · by_cases c : i + 1 < nss.length
    · rw [List.getElem?_append_left (by omega)] at h1
      rw [List.getElem?_append_left c] at h2
      exact h.2.2 i x y h1 h2
    · have c2 : i + 1 < (nss ++ [b]).length := by
        by_cases z : i + 1 < (nss ++ [b]).length
        · exact z
        · rw [List.getElem?_eq_none (by omega)] at h2; cases h2
      rw [List.length_append] at c2
      have c3 : i + 1 = nss.length := by have : i + 1 < nss.length + 1 := c2; omega
      rw [c3, List.getElem?_append_right (Nat.le_refl _), Nat.sub_self] at h2
      rw [List.getElem?_append_left (by omega)] at h1
      rw [List.getLast?_eq_getElem?, show nss.length - 1 = i by omega, h1] at ha
      cases ha; cases h2
      exact hb
theorem Way.drop {rs : List Rule} {ns a : List Int} {nss : List (List Int)} {k : Nat} (h : Way rs ns nss) (ha : nss[k]? = some a) : Way rs a (nss.drop k) := by
  refine ⟨by rw [List.getElem?_drop]; exact ha, fun ms hm => h.2.1 _ (List.mem_of_mem_drop hm), fun i x y h1 h2 => ?_⟩
  rw [List.getElem?_drop] at h1 h2
  exact h.2.2 (k + i) x y h1 h2
theorem Way.take {rs : List Rule} {ns : List Int} {nss : List (List Int)} {k : Nat} (h : Way rs ns nss) : Way rs ns (nss.take (k + 1)) := by
  refine ⟨by rw [List.getElem?_take_of_lt (by omega)]; exact h.1, fun ms hm => h.2.1 _ (List.mem_of_mem_take hm), fun i x y h1 h2 => ?_⟩
  by_cases c : i + 1 < k + 1
  · rw [List.getElem?_take_of_lt (by omega)] at h1
    rw [List.getElem?_take_of_lt c] at h2
    exact h.2.2 i x y h1 h2
  · rw [List.getElem?_eq_none (by rw [List.length_take]; omega)] at h2
    cases h2
/-- tuples of numbers, in a list -/
def StandAt (H : Hp) (v : V) (ms : List Int) : Prop := ∃ t, v = .ref t ∧ TupAt H t (ms.map V.int)
def StandsAt (H : Hp) : List V → List (List Int) → Prop := Paired (StandAt H)
theorem StandsAt.keep {H H' : Hp} (k : Keep H H') : ∀ {vs : List V} {nss : List (List Int)}, StandsAt H vs nss → StandsAt H' vs nss
  | _, _, .nil => .nil
  | _, _, .cons ⟨t, e, h⟩ r => .cons ⟨t, e, h.keep k⟩ (StandsAt.keep k r)
theorem StandsAt.get {H : Hp} : ∀ {vs : List V} {nss : List (List Int)}, StandsAt H vs nss → ∀ (i : Nat) (a : List Int), nss[i]? = some a → ∃ t, vs[i]? = some (.ref t) ∧ TupAt H t (a.map V.int)
  | _, _, .nil, i, a, h => by cases h
  | _, _, .cons ⟨t, e, h⟩ r, 0, a, z => by cases z; exact ⟨t, by rw [e]; rfl, h⟩
  | _, _, .cons _ r, i + 1, a, z => StandsAt.get r i a z
end Lh

namespace Lh
open PySem PySem.Spec PyProof.Rows L2
theorem lc_onesL {K : PySem.W.Frag} {t : Addr} {seen : List Int} {H1 : Hp} {D : Addr} {σ : L2.St} {vs : List Nat} {Qd : Hp → Prop} {i : Nat} (ht : H1 t = some (.lst (seen.map V.int))) (hD : H1 D = none) (hl : seen.length ≤ 1000)
    (hw : ∀ a, wipe ((wipe σ vs).set i a) vs = wipe σ vs) (hi : ∀ a : V, ((wipe σ vs).set i (some a))[i]? = some (some a))
    (hq : ∀ H' ps, Same H1 H' → H' D = some (.lst (ps.map V.ref)) → Paired (PairAtH H') ps (seen.map fun n => (n, 1)) → Qd H') :
    ∃ W : Nat → Nat → Hp → Prop, (∃ m, W 0 m (upd H1 D (.lst []))) ∧ ∀ i1 m H, W i1 m H →
      ((Itl K t).stop i1 H ∧ Qd H) ∨ ((Itl K t).go i1 H ∧ ∃ Nx : Hp → Prop, (∀ H', Nx H' → ∃ m', m' < m ∧ W (i1 + 1) m' H') ∧ ∀ x H', (Itl K t).yld i1 H x H' → gName i x (wipe σ vs) H' fun σ2 H2 => wipe σ2 vs = wipe σ vs ∧ tYes σ2 H2 fun b H3 =>
        if b = true then tTup (tCons (tVar i) (tCons (tC (.int 1)) tNil)) σ2 H3 fun y H4 => ∃ acc, H4 D = some (.lst acc) ∧ acc.length < sizeLine ∧ Nx (upd H4 D (.lst (acc ++ [y]))) else Nx H3) := by
  refine lc_it (walk_list (xs := seen.map V.int)) (fun n H3 => ∃ ps : List Addr, Same H1 H3 ∧ H3 D = some (.lst (ps.map V.ref)) ∧ Paired (PairAtH H3) ps ((seen.take n).map fun n => (n, 1))) ⟨[], same_upd hD, upd_same, .nil⟩ ?_ ?_ ?_
  · rintro n H3 _ ⟨ps, sm, _⟩
    exact .inl (.inl (sm _ _ ht))
  · rintro n x H3 H4 hn ⟨ps, sm, h3, pr⟩ ⟨rfl, hx⟩
    rw [List.length_map] at hn
    rw [List.getElem?_map, List.getElem?_eq_getElem hn] at hx
    have ex : x = .int seen[n] := (Option.some.inj hx).symm
    subst ex
    have pl : ps.length = n := by rw [pr.length, List.length_map, List.length_take]; omega
    refine ⟨hw _, yes (iteT ⟨.int seen[n], hi _, by show 2 ≤ sizeLine; decide, fun p np => ?_⟩)⟩
    have nDp : D ≠ p := ne_of_none h3 np
    refine ⟨_, by rw [upd_ne nDp]; exact h3, by rw [List.length_map]; exact small1000 (by omega), ps ++ [p], ?_, ?_, ?_⟩
    · exact same_mut (sm.trans (same_upd np)) hD
    · rw [upd_same, List.map_append]; rfl
    · rw [List.take_add_one, List.getElem?_eq_getElem hn, List.map_append]
      have kT : Keep H4 (upd (upd H4 p (.tup [.int seen[n], .int 1])) D (.lst (ps.map V.ref ++ [.ref p]))) := by
        refine ⟨fun a xs h => ?_, fun a o u h => ?_⟩
        · rw [upd_ne (ne_of h h3 (by intro z; cases z)), upd_ne (ne_of_none h np)]; exact h
        · rw [upd_ne (ne_of h h3 (by intro z; cases z)), upd_ne (ne_of_none h np)]; exact h
      exact Paired.snoc (R := PairAtH _) (show PairAtH _ _ _ by show _ = _; rw [upd_ne nDp.symm]; exact upd_same) (pairs_keep kT pr)
  · rintro H3 ⟨ps, sm, h3, pr⟩
    rw [List.length_map, List.take_length] at pr
    exact hq H3 ps sm h3 pr
/-- a list at D put by for another -/
theorem keep_lst {H : Hp} {D : Addr} {xs ys : List V} (h : H D = some (.lst xs)) : Keep H (upd H D (.lst ys)) := by
  refine ⟨fun a xs h' => ?_, fun a o u h' => ?_⟩
  · rw [upd_ne (ne_of h' h (by intro z; cases z))]; exact h'
  · rw [upd_ne (ne_of h' h (by intro z; cases z))]; exact h'
theorem rules_of {H : Hp} {m : Int} : ∀ us : List V, (∀ (i : Nat) (h : i < us.length), ∃ r, RuleAt H us[i] r ∧ r.Wf m) → ∃ rs, RulesAt H us rs ∧ ∀ r ∈ rs, r.Wf m
  | [], _ => ⟨[], .nil, fun r h => absurd h (by simp)⟩
  | u :: us, h => by
    obtain ⟨r, h1, h2⟩ := h 0 (by simp)
    obtain ⟨rs, h3, h4⟩ := rules_of us (fun i hi => h (i + 1) (by simpa using hi))
    refine ⟨r :: rs, .cons h1 h3, fun x hx => ?_⟩
    rcases List.mem_cons.mp hx with rfl | hx
    · exact h2
    · exact h4 x hx
section
variable {P : Program} {w : World} {K : PySem.W.Frag} {mg : Str → Option Value} {base : Heap}
def spStrewn : Sp := fun vs H Q _ => ∃ (bx p : Addr) (c : Int) (ns : List Int), vs = [.ref bx, .ref p] ∧ c + ns.length ≤ 1000000000 ∧ ns.length ≤ 900 ∧ Box bx c H ∧ H p = some (.lst (ns.map V.int)) ∧ p ≠ bx ∧
  ∀ (l : Addr) (ms : List Int) (H' : Hp), Ext bx H H' → Box bx (c + ns.length) H' → H l = none → H' l = some (.lst (ms.map V.int)) → ms.Perm ns → Q (.ref l) H'
set_option maxHeartbeats 1000000 in
theorem ok_strewn (T : Txt K mg w) : FnOk P w K mg base CX0 2 T.f_strewn T.fd_strewn p_strewn spStrewn := by
  have G_take := ok_take (P := P) (w := w) (base := base) T
  refine T.F_strewn.ok sc_strewn (fun vs H Q E h => ?_) (fun cdv A outer s H vs Q E hr h => ?_)
  · obtain ⟨bx, p, c, ns, rfl, _⟩ := h
    rfl
  · obtain ⟨bx, p, c, ns, rfl, c1, hl, hB, hp, np, q⟩ := h
    refine ⟨_, (pss_cons (ps_set (i := 2) sc_strewn.nd rfl (.inl rfl) (pe_lst pa_nil))
      (pss_cons (ps_for PassesOwn.never rfl (pi_list (pv 1)) (pg_name (i := 3) sc_strewn.nd rfl (.inl rfl))
        (pss_one (ps_expr (pe_bm PySem.F.plainAttrs_list PySem.F.slot_list_insert PySem.F.type_list_insert mt_insert (pv 2) (pa_cons (pe_call G_take (hr.mono (by decide)) (by rfl) T.g_take T.F_take.kp T.b_take .nil pass0 (pa_cons (pv 0) (pa_cons (pe_op op_add (pe_callB call_len_seq (by rfl) T.m_len (by decide +kernel) (pa_cons (pv 2) pa_nil)) pe_int) pa_nil))) (pa_cons (pv 3) pa_nil))))))
      (pss_one (ps_ret (pv 2))))), ?_⟩
    refine ⟨by show 0 ≤ sizeLine; decide, fun l nl => ?_⟩
    have nlb := hB.ne nl
    refine ⟨.ref p, rfl, p, rfl, ⟨_, .inl (.inl (same_upd nl _ _ hp))⟩, ?_⟩
    refine for_it (walk_list (xs := ns.map V.int)) (fun i σ H3 => ∃ (y : Option V) (ms : List Int), σ = [some (.ref bx), some (.ref p), some (.ref l), y] ∧ Ext bx H H3 ∧ Box bx (c + i) H3 ∧ H3 l = some (.lst (ms.map V.int)) ∧ ms.Perm (ns.take i)) ⟨none, [], rfl, (Ext.refl _).new nl, by simpa using hB.new nl, upd_same, List.Perm.refl _⟩ ?_ ?_ ?_
    · rintro i σ H3 _ ⟨y, ms, rfl, e3, _⟩
      exact .inl (.inl (e3 _ _ np hp))
    · rintro i v σ H3 H4 hi ⟨y, ms, rfl, e3, b3, h3, pm⟩ ⟨rfl, hv⟩
      rw [List.length_map] at hi
      rw [List.getElem?_map, List.getElem?_eq_getElem hi] at hv
      cases hv
      have pl : ms.length = i := by rw [pm.length_eq, List.length_take]; omega
      have ml : ((ms.map V.int).length : Int) = i := by rw [List.length_map, pl]
      refine ⟨.ref l, rfl, .inl ⟨rfl, _, .inl (.inl h3)⟩, .ref bx, rfl, .ref l, rfl, l, _, rfl, .inl (.inl (.inl h3)), _, _, rfl, rfl, bx, _, _, rfl, by omega, by omega, by omega, b3, fun r H5 r0 r1 e5 b5 => ?_⟩
      refine ⟨.int ns[i], rfl, l, ms.map V.int, r, .int ns[i], rfl, rfl, e5 _ _ nlb h3, by rw [List.length_map]; exact small1000 (by omega), r0, Int.lt_of_lt_of_le r1 (by omega), ?_⟩
      refine ⟨_, ms.take r.toNat ++ [ns[i]] ++ ms.drop r.toNat, rfl, (e3.trans e5).new nl, (b5.at nlb).mono (by omega), ?_, ?_⟩
      · rw [upd_same, List.map_append, List.map_append, List.map_take, List.map_drop]; rfl
      · rw [List.take_add_one, List.getElem?_eq_getElem hi, List.append_assoc]
        refine List.perm_middle.trans ?_
        show (ns[i] :: (ms.take r.toNat ++ ms.drop r.toNat)).Perm _
        rw [List.take_append_drop]
        exact (pm.cons _).trans (List.perm_append_singleton _ _).symm
    · rintro σ H3 ⟨y, ms, rfl, e3, b3, h3, pm⟩
      rw [List.length_map] at b3 pm
      rw [List.take_length] at pm
      exact ⟨.ref l, rfl, q l ms H3 e3 b3 nl h3 pm⟩
def spHall : Sp := fun vs H Q _ => ∃ (bx : Addr) (c : Int), vs = [.ref bx] ∧ c + 100 ≤ 1000000000 ∧ Box bx c H ∧
  ∀ (l : Addr) (us : List V) (rs : List Rule) (H' : Hp), Ext bx H H' → Box bx (c + 100) H' → H l = none → H' l = some (.lst us) → RulesAt H' us rs → Halls rs → Q (.ref l) H'
set_option maxHeartbeats 2000000 in
theorem ok_hall (T : Txt K mg w) : FnOk P w K mg base CX0 4 T.f_hall T.fd_hall p_hall spHall := by
  have G_take := ok_take (P := P) (w := w) (base := base) T
  have G_some := ok_some (P := P) (w := w) (base := base) T
  have G_rule := ok_rule (P := P) (w := w) (base := base) T
  refine T.F_hall.ok sc_hall (fun vs H Q E h => ?_) (fun cdv A outer s H vs Q E hr h => ?_)
  · obtain ⟨bx, c, rfl, _⟩ := h
    rfl
  · obtain ⟨bx, c, rfl, c1, hB, q⟩ := h
    refine ⟨_, (pss_cons (ps_set (i := 1) sc_hall.nd rfl (.inr rfl) (pe_op op_add pe_int (pe_call G_take (hr.mono (by decide)) (by rfl) T.g_take T.F_take.kp T.b_take .nil pass0 (pa_cons (pv 0) (pa_cons pe_int pa_nil)))))
      (pss_cons (ps_if (pt_cmpR op_eq (pv 1) pe_int (nomark _))
        (pss_cons (ps_set (i := 2) sc_hall.nd rfl (.inl rfl) (pe_lst pa_nil))
        (pss_cons (ps_for PassesOwn.never rfl (pi_range1 (by rfl) T.m_range (pa_cons pe_int pa_nil)) (pg_name (i := 3) sc_hall.nd rfl (.inl rfl))
          (pss_cons (ps_set (i := 4) sc_hall.nd rfl (.inl rfl) (pe_call G_some (hr.mono (by decide)) (by rfl) T.g_some T.F_some.kp T.b_some .nil pass0 (pa_cons (pv 0) (pa_cons (pe_listRg (by rfl) (by rfl) T.m_list (prg_1 (by rfl) T.m_range pe_int)) (pa_cons pe_int pa_nil)))))
          (pss_one (ps_expr (pe_bm PySem.F.plainAttrs_list PySem.F.slot_list_append PySem.F.type_list_append mt_append (pv 2) (pa_cons (pe_tup (pa_cons pe_str (pa_cons (pe_call G_take (hr.mono (by decide)) (by rfl) T.g_take T.F_take.kp T.b_take .nil pass0 (pa_cons (pv 0) (pa_cons pe_int pa_nil))) (pa_cons (pe_callTy call_tupleF (by rfl) T.m_tuple (by decide +kernel) (pa_cons (pe_lc (own := [("_law_other", 5)]) (g := gName 5) (by rfl) sc_hall.nd (pi_list (pv 4)) (blkOk_by (own := [("_law_other", 5)]) (N := n_hall) (sc := defScope s_hall) (by decide +kernel)) (fun _ _ _ _ _ => (pg_name (i := 5) sc_hall.nd rfl (.inl rfl) (.inr rfl))) (fun _ _ _ _ _ => pts_nil) (fun _ _ _ _ _ => (pe_tup (pa_cons (pv 5) (pa_cons pe_int pa_nil))))) pa_nil)) pa_nil)))) pa_nil))))))
        (pss_one (ps_ret (pv 2)))))
        pss_nil)
      (pss_one (ps_ret (pe_lc (own := [("_law_one", 3)]) (g := gName 3) (by rfl) sc_hall.nd (pi_range1 (by rfl) T.m_range (pa_cons (pv 1) pa_nil)) (blkOk_by (own := [("_law_one", 3)]) (N := n_hall) (sc := defScope s_hall) (by decide +kernel)) (fun _ _ _ _ _ => (pg_name (i := 3) sc_hall.nd rfl (.inl rfl) (.inr rfl))) (fun _ _ _ _ _ => pts_nil) (fun _ _ _ _ _ => (pe_call G_rule (hr.mono (by decide)) (by rfl) T.g_rule T.F_rule.kp T.b_rule .nil pass0 (pa_cons (pv 0) (pa_cons (pv 1) (pa_cons (pe_listRg (by rfl) (by rfl) T.m_list (prg_1 (by rfl) T.m_range (pv 1))) (pa_cons pe_int pa_nil))))))))))), ?_⟩
    refine ⟨.ref bx, rfl, bx, _, 5, rfl, by decide, by decide, by omega, hB, fun r1 H1 r10 r11 e1 b1 => ⟨1, r1, rfl, rfl, ?_⟩⟩
    refine ⟨.int (1 + r1), rfl, rfl, _, rfl, ite2 (fun w0 => ?_) (fun w0 => ?_)⟩
    · refine ⟨by show 0 ≤ sizeLine; decide, fun l nl => ?_⟩
      have nlb := b1.ne nl
      have nlH : H l = none := e1.free nlb nl
      refine ⟨5, rfl, by decide, by decide, ?_⟩
      refine for_it walk_range (fun i σ H3 => ∃ (y3 y4 y5 : Option V) (us : List V) (rs : List Rule), σ = [some (.ref bx), some (.int (1 + r1)), some (.ref l), y3, y4, y5] ∧ Ext bx H H3 ∧ Box bx (c + 1 + 6 * i) H3 ∧ H3 l = some (.lst us) ∧ RulesAt H3 us rs ∧ rs.length = i ∧ ∀ r ∈ rs, r.Wf 5) ⟨none, none, none, [], [], rfl, e1.trans ((Ext.refl _).new nl), by simpa using b1.new nl, upd_same, .nil, rfl, fun r h => absurd h (by simp)⟩ (fun _ _ _ _ _ => trivial) ?_ ?_
      · rintro i x σ H3 H3' hi ⟨y3, y4, y5, us, rs, rfl, e3, b3, h3, ra3, l3, wf3⟩ ⟨rfl, rfl⟩
        have hi' : i < 5 := hi
        have lu : us.length = rs.length := ra3.length
        refine ⟨.ref bx, rfl, 5, rfl, RgOk.of_le (by decide) (by decide) (by decide) (by decide), fun pl npl => ?_⟩
        have nb := b3.ne npl
        have b4 := b3.new (o := .lst (rgV 0 5)) npl
        have len : ((List.range (5 : Int).toNat).map fun k : Nat => (k : Int)).length = 5 := by decide
        refine ⟨bx, pl, _, 2, (List.range (5 : Int).toNat).map (fun k : Nat => (k : Int)), rfl, by decide, by decide, by omega, by omega, b4, by rw [upd_same, rg_ints], nb, fun z ms H5 e5 b5 nz hz sub => ?_⟩
        have nzb : z ≠ bx := b4.ne nz
        have ml : ms.length ≤ 5 := by rw [← len]; exact sub.length_le
        have k35 : Keep H3' H5 := (Keep.same (same_upd npl)).trans (Keep.ext e5 b4)
        have e35 : Ext bx H H5 := (e3.trans ((Ext.refl _).new npl)).trans e5
        have h5 : H5 l = some (.lst us) := e5 _ _ nlb (same_upd npl _ _ h3)
        refine ⟨.ref l, rfl, .inl ⟨rfl, _, .inl (.inl h5)⟩, .ref bx, rfl, bx, _, 2, rfl, by decide, by decide, by omega, b5, fun r6 H6 r60 r61 e6 b6 => ?_⟩
        have hz6 := e6 _ _ nzb hz
        have h6 := e6 _ _ nlb h5
        refine ⟨.ref z, rfl, z, rfl, ⟨_, .inl (.inl hz6)⟩, fun D hD => ?_⟩
        refine lc_onesL hz6 hD (by omega) (fun _ => rfl) (fun _ => rfl) (fun H7 ps s7 h7 pr7 => ?_)
        refine ⟨D, _, rfl, .inl (.inl h7), fun t o nt od => ⟨by show 3 ≤ sizeLine; decide, fun a ha => ?_⟩⟩
        have s8 : Same H6 (upd (upd H7 t (.frz o (.tup (ps.map V.ref)))) a (.tup [.str "sum", .int r6, .ref t])) := (s7.trans (same_upd nt)).trans (same_upd ha)
        have h8 := s8 _ _ h6
        refine ⟨l, us, .ref a, rfl, rfl, h8, small1000 (by omega), ?_⟩
        have kL := keep_lst (ys := us ++ [.ref a]) h8
        have k38 := ((k35.trans (Keep.ext e6 b5)).trans (Keep.same s8)).trans kL
        refine ⟨_, _, _, us ++ [V.ref a], rs ++ [.sum r6 (ms.map fun n => (n, 1))], rfl, ?_, ?_, upd_same, ?_, ?_, ?_⟩
        · exact ((e35.trans e6).trans (Ext.of s8)).new nlH
        · exact ((b6.same s8).at nlb).mono (by omega)
        · refine Paired.snoc (R := RuleAt _) ?_ (ra3.keep k38)
          refine ⟨a, t, rfl, kL.tup _ _ upd_same, o, ps, od, kL.frz _ _ _ (same_upd ha _ _ upd_same), ?_⟩
          exact pairs_keep (((Keep.same (same_upd nt)).trans (Keep.same (same_upd ha))).trans kL) pr7
        · rw [List.length_append, l3]; rfl
        · intro r hr'
          rcases List.mem_append.mp hr' with h | h
          · exact wf3 r h
          · rw [List.mem_singleton.mp h]
            have ris : Rising 5 ms := (rg_rising 5 (by decide)).sub sub
            refine ⟨⟨r60, by omega⟩, ?_, fun q hq => ?_⟩
            · rw [List.map_map]
              have : (ms.map ((fun q : Int × Int => q.1) ∘ fun n => (n, 1))) = ms := by
                rw [show ((fun q : Int × Int => q.1) ∘ fun n : Int => (n, (1 : Int))) = id from rfl, List.map_id]
              rw [this]
              exact ris
            · obtain ⟨n, _, rfl⟩ := List.mem_map.mp hq
              exact ⟨Int.le_refl _, by show (1 : Int) ≤ 1000; decide⟩
      · rintro σ H3 ⟨y3, y4, y5, us, rs, rfl, e3, b3, h3, ra3, l3, wf3⟩
        have l3' : rs.length = 5 := l3
        exact ⟨.ref l, rfl, q l us rs H3 e3 (b3.mono (by show c + 1 + 6 * ((5 : Nat) : Int) ≤ c + 100; omega)) nlH h3 ra3 ⟨by omega, by omega, by rw [l3']; exact wf3⟩⟩
    · have w1 : ¬ 1 + r1 = 5 := fun z => w0 (decide_eq_true (by rw [z]))
      refine ⟨.int (1 + r1), rfl, _, rfl, by omega, by omega, fun D hD => ?_⟩
      have nDb := b1.ne hD
      have nDH : H D = none := e1.free nDb hD
      refine lc_it walk_range (fun i H3 => ∃ (us : List V) (rs : List Rule), Ext bx H1 H3 ∧ Box bx (c + 1 + 18 * i) H3 ∧ H3 D = some (.lst us) ∧ RulesAt H3 us rs ∧ rs.length = i ∧ ∀ r ∈ rs, r.Wf (1 + r1)) ⟨[], [], (Ext.refl _).new hD, by simpa using b1.new hD, upd_same, .nil, rfl, fun r h => absurd h (by simp)⟩ (fun _ _ _ _ => trivial) ?_ ?_
      · rintro i x H3 H4 hi ⟨us, rs, e3, b3, h3, ra3, l3, wf3⟩ ⟨rfl, rfl⟩
        have hi' : i < 4 := by omega
        have lu : us.length = rs.length := ra3.length
        refine ⟨rfl, yes (iteT ?_)⟩
        refine ⟨.ref bx, rfl, .int (1 + r1), rfl, .int (1 + r1), rfl, _, rfl, RgOk.of_le (by omega) (by omega) (by omega) (by omega), fun pl npl => ?_⟩
        have nb := b3.ne npl
        have b4 := b3.new (o := .lst (rgV 0 (1 + r1))) npl
        have len : ((List.range (1 + r1).toNat).map fun k : Nat => (k : Int)).length ≤ 4 := by rw [List.length_map, List.length_range]; omega
        refine ⟨bx, pl, _, 3, 1 + r1, .int (1 + r1), (List.range (1 + r1).toNat).map (fun k : Nat => (k : Int)), rfl, by decide, by decide, by omega, by omega, b4, by rw [upd_same, rg_ints], nb, rg_rising _ (by omega), fun v r H5 e5 b5 ra5 wf sub5 => ?_⟩
        have e35 : Ext bx H4 H5 := ((Ext.refl _).new npl).trans e5
        have k35 : Keep H4 H5 := (Keep.same (same_upd npl)).trans (Keep.ext e5 b4)
        have h5 := e35 _ _ nDb h3
        have kL := keep_lst (ys := us ++ [v]) h5
        refine ⟨us, h5, small1000 (by omega), us ++ [v], rs ++ [r], (e3.trans e35).new hD, (b5.at nDb).mono (by omega), upd_same, Paired.snoc (R := RuleAt _) (ra5.keep kL) (ra3.keep (k35.trans kL)), by rw [List.length_append, l3]; rfl, ?_⟩
        intro r' hr'
        rcases List.mem_append.mp hr' with h | h
        · exact wf3 r' h
        · rw [List.mem_singleton.mp h]; exact wf
      · rintro H3 ⟨us, rs, e3, b3, h3, ra3, l3, wf3⟩
        have l4 : (rs.length : Int) = 1 + r1 := by rw [l3]; omega
        refine q D us rs H3 (e1.trans e3) (b3.mono (by omega)) nDH h3 ra3 ⟨by omega, by omega, by rw [l4]; exact wf3⟩
end
end Lh

namespace Lh
open PySem PySem.Spec PyProof.Rows L2
/-! ### enumerate of a tuple -/
set_option maxHeartbeats 1000000 in
theorem enum_new1 {v : Value} {o : Obj} {G : Heap → Prop} (B : Begins v o G) :
    Meets (Builtin.«enumerate.__new__» ⟨[.type "enumerate", v], []⟩) (fun _ R z => G z.heap ∧
      R (.ok (.ret (.ref (z.heap.push o).objs.size))) { z with heap := (z.heap.push o).push { cls := .type "enumerate", data := .fields #[.none, .bool false, .ref z.heap.objs.size, rawInt 0, .none, .none] } }) := by
  refine .of_wp fun pr wo ar R z hh => ?_
  obtain ⟨h0, g0, d0, t0, o0⟩ := z
  obtain ⟨hG, hR⟩ := hh
  have hsub := sub_enumerate
  have it1 : ∀ {ar' : Around} {Ex : Value → Shared → Prop} {Q : Value → Shared → Prop}, Q (.ref h0.objs.size) ⟨h0.push o, g0, d0, t0, o0⟩ → wpAny (model pr wo) ar' (pyIter v) Q Ex ⟨h0, g0, d0, t0, o0⟩ :=
    fun q => B.iter pr wo _ _ ⟨h0, g0, d0, t0, o0⟩ _ hG q
  wp_walk using it1
  refine wpAny_stack_any fun _ => wpAny_pure ?_
  split
  · rename_i cc _ _ _ _ _
    cases (cc == Value.type "enumerate")
    all_goals
      wp_walk using it1
      exact ⟨_, rfl, hR⟩
  · wp_walk using it1
    exact ⟨_, rfl, hR⟩
theorem enum_made {pr : Program} {wo : World} {ar : Around} {Ex : Value → Shared → Prop} {z : Shared} {v : Value} {o : Obj} {G : Heap → Prop} {Q : Value → Shared → Prop} (B : Begins v o G) (hG : G z.heap)
    (h : ∀ h', IsEnum h' (z.heap.objs.size + 1) z.heap.objs.size 0 .none → h'.get? z.heap.objs.size = some o → (∀ b ob, z.heap.get? b = some ob → h'.get? b = some ob) → Q (.ref (z.heap.objs.size + 1)) { z with heap := h' }) :
    wpAny (model pr wo) ar (call (.type "enumerate") [v]) Q Ex z := by
  refine callType_new F.called_enumerate (by decide) (F.typeCall_enumerate_1 _) (F.newCall_enumerate_1 _) (fun x => F.args_object_init_2 x _) F.entry_enumerate_new (enum_new1 B) ⟨hG, ?_⟩
  have sz : (z.heap.push o).objs.size = z.heap.objs.size + 1 := Heap.size_push ..
  show _ ∧ _
  rw [sz]
  have he : IsEnum ((z.heap.push o).push { cls := .type "enumerate", data := .fields #[.none, .bool false, .ref z.heap.objs.size, rawInt 0, .none, .none] }) (z.heap.objs.size + 1) z.heap.objs.size 0 .none := by
    rw [← sz]
    exact Heap.get?_push_size (z.heap.push o) rfl
  exact ⟨⟨_, he, rfl⟩, h _ he (Heap.get?_push_of_some _ (Heap.get?_push_size _ B.free)) fun b ob x => Heap.get?_push_of_some _ (Heap.get?_push_of_some _ x)⟩
def IteT (K : PySem.W.Frag) (a : Addr) : It :=
  ⟨fun n H => ∃ (xs : List V) (x : V), SqT K H a xs ∧ xs[n]? = some x,
    fun n H v H' => ∃ T x, v = .ref T ∧ H T = none ∧ H' = upd H T (.tup [.int (n : Nat), x]) ∧ ∀ xs, SqT K H a xs → xs[n]? = some x,
    fun n H => ∃ xs : List V, SqT K H a xs ∧ xs.length ≤ n⟩
theorem draws_end {pr : Program} {wo : World} {ar : Around} (hh : ar.handled = none) (it a : Addr) (items : Array Value) (n : Nat) (hx : items[n]? = none) :
    Draws pr wo ar it [it, a] n (fun _ _ => False) (fun j h => j = n ∧ h.IsTupleIter it a n ∧ h.IsTuple a items) where
  live := fun _ _ st => let ⟨ob, hb, _⟩ := st.2.1; ⟨ob, hb⟩
  frame := fun _ _ _ st hk => ⟨st.1, st.2.1.at fun ob e => hk it (by simp) ob e, st.2.2.at fun ob e => hk a (by simp) ob e⟩
  item := fun j _ _ _ hj st _ => absurd st.1 (by omega)
  done := fun _ _ _ st hE => wpAny_nextOf_tuple_end hh st.2.1 st.2.2 hx hE
theorem turn_enumT {P : Program} {w : World} {K : PySem.W.Frag} {elts : List Expr} {kk : Nat} {tpos : Pos} (a e it : Addr) :
    Turn P w K (.Tuple elts kk tpos) (IteT K a) [e, it] e (fun n h => (∃ old, IsEnum h e it ((n : Nat) : Int) old) ∧ h.IsTupleIter it a n ∧ e ≠ it ∧ a ≠ it ∧ e ≠ a) where
  mem := by simp
  obj := fun n h st b hb => by
    obtain ⟨⟨old, he⟩, ⟨ob, ho, _, hd⟩, _⟩ := st
    rcases (show b = e ∨ b = it by simpa using hb) with rfl | rfl
    · exact ⟨_, he, fun v q => nomatch q⟩
    · exact ⟨ob, ho, fun v q => by rw [hd] at q; cases q⟩
  keep := fun n h h' st k => let ⟨⟨old, he⟩, hi, r⟩ := st; ⟨⟨old, k e (by simp) _ he⟩, hi.at fun ob q => k it (by simp) ob q, r⟩
  item := by
    intro X hP hw hK hc n pins s σ H E I hf st hg
    subst hP hw hK
    obtain ⟨⟨old, he⟩, hit, hne, nai, nea⟩ := st
    obtain ⟨xs, x, hq, hx⟩ := hg
    obtain ⟨its, rv, p, hz⟩ := I.tuple hq
    obtain ⟨u, hu, ru⟩ := rv.get hx
    have hu' : its.toArray[n]? = some u := by simpa using hu
    have hel : e < s.heap.objs.size := Heap.lt_size he
    have hil : it < s.heap.objs.size := by obtain ⟨_, q, _⟩ := hit; exact Heap.lt_size q
    have lt : n < its.toArray.size := (Array.getElem?_eq_some_iff.mp hu').1
    refine wpAny_pyNext_enum_itemD (Draws.tuple (A := X.A.in1) (I.ok.hd hc) it a nai its.toArray) he ⟨hit, p⟩ lt hne (by simp [hne, nea]) fun y h' tk hy ho st' hT hsz hk => ?_
    have ey : y = u := Option.some.inj (hy.symm.trans hu')
    subst ey
    refine ⟨_, rfl, wpAny_letOwnedTupleGo_enum (s := { s with heap := h', toks := tk + 1 }) ho fun h2 he2 sb => ?_⟩
    have hT2 : h2.get? s.heap.objs.size = some { cls := .type "tuple", data := .seq #[.int n tk, y] } := (sb.2 _ (Nat.ne_of_gt hel)).trans hT
    have new : ObjOk X.prog X.w (upd H s.heap.objs.size (.tup [.int (n : Nat), x])) h2 s.heap.objs.size (.tup [.int (n : Nat), x]) := by
      refine ⟨by show 2 ≤ sizeLine; decide, [.int n tk, y], .cons ⟨_, rfl⟩ (.cons ru .nil), ?_⟩
      exact ⟨_, hT2, rfl, _, rfl⟩
    have J : Inv X pins σ (upd H s.heap.objs.size (.tup [.int (n : Nat), x])) { s with heap := h2, toks := tk + 1 } := by
      refine I.turnedNew (ch := [e, it]) (fun b ob hb q => ?_) hf (Nat.le_refl _) new
      exact (sb.2 b (fun z => hb (by simp [z]))).trans (hk b ob (fun z => hb (by simp [z])) (fun z => hb (by simp [z])) q)
    refine ⟨.ref s.heap.objs.size, _, J, rfl, ⟨_, x, rfl, I.hok.fresh (Nat.le_refl _), rfl, fun ys hy => by rw [I.tuple_inj hy hq]; exact hx⟩, ⟨⟨y, ?_⟩, st'.1.at fun ob q => (sb.2 it (Ne.symm hne)).trans q, hne, nai, nea⟩, fun b hb => ?_⟩
    · rw [show ((n + 1 : Nat) : Int) = (n : Int) + 1 by omega]
      exact he2
    · have hb' : b < s.heap.objs.size := by
        rcases (show b = e ∨ b = it by simpa using hb) with rfl | rfl
        · exact hel
        · exact hil
      rw [upd_ne (Nat.ne_of_lt hb')]
      exact (hf b hb).1
  done := by
    intro X hP hw hK hc n pins s σ H E I hf st hg
    subst hP hw hK
    obtain ⟨⟨old, he⟩, hit, hne, nai, nea⟩ := st
    obtain ⟨xs, hq, hx⟩ := hg
    obtain ⟨its, rv, p, hz⟩ := I.tuple hq
    obtain ⟨f0, f1, f2, f3, f4, f5⟩ := hf it (by simp)
    have hl := rv.length
    have hn : its.toArray[n]? = none := by simp; omega
    exact wpAny_pyNext_enum_endD (draws_end (ar := X.A.in1) (I.ok.hd hc) it a its.toArray n hn) he ⟨rfl, hit, p⟩ fun h' eb => ⟨rfl, I.turned (t' := s.toks) (fun b ob hb q => eb b ob hb q) f0 f1 f3 f4 f5⟩
  self := fun ar n s Q E st h => let ⟨⟨_, he⟩, _⟩ := st; wpAny_pyIter_enum he h
def iEnumT (K : PySem.W.Frag) (ta : TA) : TI := fun σ H R => ta σ H fun vs H1 => ∃ a xs, vs = [.ref a] ∧ SqT K H1 a xs ∧ R (IteT K a) H1
theorem pi_enumT {X : Cx} {e : Expr} {ta : TA} {p pos tpos : Pos} {elts : List Expr} {kk : Nat} (hg : Gl X "enumerate") (hm : X.mg "enumerate" = none) (ha : PA X [e] ta) (hs : starEach [e] X.env = [(false, eval e X.env)] := by rfl) : PI X (.Tuple elts kk tpos) (.Call (.Name "enumerate" p) [e] [] pos) (iEnumT X.K ta) := by
  refine ⟨fun pins s σ H R I h => ?_⟩
  refine Call_ (ld_blt I hg hm PyProof.Rows.boot_enumerate (PyProof.Rows.callWith_type1 (thn (ha.run pos pins s σ H _ I h) fun us s1 ⟨vs, H1, I1, r1, a, xs, ex, hq, q⟩ => ?_) hs rfl))
  subst ex
  rw [Vals.ref1 r1]
  obtain ⟨its, rv, p', hz⟩ := I1.tuple hq
  obtain ⟨oa, hoa, _⟩ := id p'
  have la : a < s1.heap.objs.size := Heap.lt_size hoa
  refine enum_made (begins_tuple a its.toArray) p' fun h' he hit hk => wpAny_pyIter_enum he ?_
  have I2 : Inv X pins σ H1 { s1 with heap := h' } := I1.kept (t' := s1.toks) hk
  refine ⟨s1.heap.objs.size + 1, [s1.heap.objs.size + 1, s1.heap.objs.size], _, _, H1, rfl, I2, turn_enumT a (s1.heap.objs.size + 1) s1.heap.objs.size, ⟨⟨.none, he⟩, ⟨_, hit, rfl, rfl⟩, Nat.succ_ne_self _, Nat.ne_of_lt la, Nat.ne_of_gt (Nat.lt_succ_of_lt la)⟩, fun b hb => ?_, q⟩
  have hle : s1.heap.objs.size ≤ b := by
    rcases (show b = s1.heap.objs.size + 1 ∨ b = s1.heap.objs.size by simpa using hb) with z | z
    · rw [z]; exact Nat.le_add_right _ _
    · rw [z]; exact Nat.le_refl _
  exact I1.fpOk hle (I1.hok.fresh hle)
theorem walk_enumT {K : PySem.W.Frag} {a : Addr} {xs : List V} : Walk (IteT K a) xs.length (fun H => SqT K H a xs) (YPair (fun n => some (.int (n : Nat))) (fun n => xs[n]?)) := by
  refine ⟨fun n _ hn q => ⟨xs, xs[n], q, by simp [hn]⟩, fun _ q => ⟨xs, q, Nat.le_refl _⟩, fun n H v H' _ q y => ?_⟩
  obtain ⟨T, x, h1, h2, h3, h4⟩ := y
  exact ⟨T, .int (n : Nat), x, h1, h2, h3, rfl, h4 xs q⟩
end Lh

namespace Lh
open PySem PySem.Spec PyProof.Rows L2
theorem strict_of {ns : List Int} (h : ns.Pairwise (· ≤ ·)) (nd : ns.Nodup) : ns.Pairwise (· < ·) := by
  refine (h.and (List.nodup_iff_pairwise_ne.mp nd)).imp fun z => ?_
  have := z.1
  have := z.2
  omega
theorem cut_to {α : Type} (xs : List α) (k : Nat) (h : k ≤ xs.length) : cutI xs none (some (k : Int)) = xs.take k := by
  unfold cutI
  rw [HT.sIx_none, HT.sIx_nat, Nat.sub_zero, List.drop_zero, Nat.min_eq_left h]
theorem cut_from {α : Type} (xs : List α) (k : Nat) (h : k ≤ xs.length) : cutI xs (some (k : Int)) none = xs.drop k := by
  unfold cutI
  rw [HT.sIx_none, HT.sIx_nat, Nat.min_eq_left h]
  exact List.take_of_length_le (by rw [List.length_drop]; omega)
theorem rep_one (v : V) : ∀ n : Nat, (List.replicate n [v]).flatten = List.replicate n v
  | 0 => rfl
  | n + 1 => by rw [List.replicate_succ, List.flatten_cons, rep_one v n, List.replicate_succ]; rfl
theorem merge_get : ∀ (kv : List (Int × Int)) (acc : List (Key × V)) (p : Int), (∃ y, valV (mergeK acc (kvOf kv)) (Sum.inl p) = some (.int y) ∧ (p, y) ∈ kv) ∨ (p ∉ kv.map (·.1) ∧ valV (mergeK acc (kvOf kv)) (Sum.inl p) = valV acc (Sum.inl p))
  | [], acc, p => .inr ⟨by simp, rfl⟩
  | (a, b) :: t, acc, p => by
    have e : mergeK acc (kvOf ((a, b) :: t)) = mergeK (putK acc (Sum.inl a) (.int b)) (kvOf t) := rfl
    rw [e]
    rcases merge_get t (putK acc (Sum.inl a) (.int b)) p with ⟨y, h1, h2⟩ | ⟨h1, h2⟩
    · exact .inl ⟨y, h1, List.mem_cons_of_mem _ h2⟩
    · rw [h2, valV_put]
      by_cases c : p = a
      · subst c
        rw [if_pos rfl]
        exact .inl ⟨b, rfl, List.mem_cons_self⟩
      · have c' : ¬ (Sum.inl p : Key) = Sum.inl a := fun z => c (Sum.inl.inj z)
        rw [if_neg c']
        refine .inr ⟨fun z => ?_, rfl⟩
        rcases List.mem_cons.mp z with z | z
        · exact c z
        · exact h1 z
theorem pairs_at {H : Hp} {ps : List Addr} {lot : List (Int × Int)} (h : Paired (PairAtH H) ps lot) : ∀ (n : Nat) (h1 : n < ps.length) (h2 : n < lot.length), PairAtH H ps[n] lot[n] := by
  induction h with
  | nil => intro n h1; exact absurd h1 (by simp)
  | cons r t ih =>
    intro n h1 h2
    cases n with
    | zero => exact r
    | succ n => exact ih n (by simpa using h1) (by simpa using h2)
theorem lotI_pairs (r : Rule) (ns : List Int) (p : Int) : ((seenPairs r).filter fun q => decide (nth ns q.1 < nth ns p)).map (fun q => (q.1, nth ns q.1)) = lotI r ns p := by
  unfold lotI
  rw [← seen_persons r, List.filter_map, List.map_map]
  rfl
section
variable {P : Program} {w : World} {K : PySem.W.Frag} {mg : Str → Option Value} {base : Heap}
def spFlat : Sp := fun vs H Q _ => ∃ (bx : Addr) (c m : Int), vs = [.ref bx, .int m] ∧ 0 < m ∧ m ≤ 12 ∧ c + 1000 ≤ 1000000000 ∧ Box bx c H ∧
  ∀ (l : Addr) (us : List V) (rs : List Rule) (H' : Hp), Ext bx H H' → Box bx (c + 1000) H' → H l = none → H' l = some (.lst us) → RulesAt H' us rs → Halls rs → Q (.ref l) H'
set_option maxHeartbeats 2000000 in
theorem ok_flat (T : Txt K mg w) : FnOk P w K mg base CX0 4 T.f_flat T.fd_flat p_flat spFlat := by
  have G_take := ok_take (P := P) (w := w) (base := base) T
  have G_strewn := ok_strewn (P := P) (w := w) (base := base) T
  have G_rule := ok_rule (P := P) (w := w) (base := base) T
  refine T.F_flat.ok sc_flat (fun vs H Q E h => ?_) (fun cdv A outer s H vs Q E hr h => ?_)
  · obtain ⟨bx, c, m, rfl, _⟩ := h
    rfl
  · obtain ⟨bx, c, m, rfl, m0, m1, c1, hB, q⟩ := h
    refine ⟨_, (pss_cons (ps_set (i := 2) sc_flat.nd rfl (.inl rfl) (pe_op op_add pe_int (pe_call G_take (hr.mono (by decide)) (by rfl) T.g_take T.F_take.kp T.b_take .nil pass0 (pa_cons (pv 0) (pa_cons (pv 1) pa_nil)))))
      (pss_cons (ps_par (i := 3) (j := 4) (by rfl) sc_flat.nd rfl rfl (by decide) rfl rfl (pa_cons (pe_call G_strewn (hr.mono (by decide)) (by rfl) T.g_strewn T.F_strewn.kp T.b_strewn .nil pass0 (pa_cons (pv 0) (pa_cons (pe_listRg (by rfl) (by rfl) T.m_list (prg_1 (by rfl) T.m_range (pv 2))) pa_nil))) (pa_cons (pe_op op_rep (pe_lst (pa_cons pe_non pa_nil)) (pv 2)) pa_nil)) (by rfl))
      (pss_cons (ps_for PassesOwn.never rfl (pi_enum (by rfl) T.m_enumerate (pa_cons (pv 3) pa_nil)) (pg_tup rfl (pgs_cons (pg_name (i := 5) sc_flat.nd rfl (.inl rfl)) (pgs_cons (pg_name (i := 6) sc_flat.nd rfl (.inl rfl)) pgs_nil)))
        (pss_one (ps_asg (pe_call G_rule (hr.mono (by decide)) (by rfl) T.g_rule T.F_rule.kp T.b_rule .nil pass0 (pa_cons (pv 0) (pa_cons (pv 2) (pa_cons (pe_callB cr_sortedI (by rfl) T.m_sorted (by decide +kernel) (pa_cons (pe_slice sl_list (pv 3) po_none (po_some (pv 5))) pa_nil)) (pa_cons pe_int pa_nil))))) (pg_sub (pv 4) (pv 6) set_list))))
      (pss_one (ps_ret (pv 4)))))), ?_⟩
    refine ⟨.ref bx, rfl, .int m, rfl, bx, _, m, rfl, m0, by omega, by omega, hB, fun r1 H1 r10 r11 e1 b1 => ⟨1, r1, rfl, rfl, ?_⟩⟩
    refine ⟨.ref bx, rfl, .int (1 + r1), rfl, _, rfl, RgOk.of_le (by omega) (by omega) (by omega) (by omega), fun pl npl => ?_⟩
    have nb := b1.ne npl
    have b2 := b1.new (o := .lst (rgV 0 (1 + r1))) npl
    have len : ((List.range (1 + r1).toNat).map fun k : Nat => (k : Int)).length = (1 + r1).toNat := by rw [List.length_map, List.length_range]
    refine ⟨bx, pl, _, (List.range (1 + r1).toNat).map (fun k : Nat => (k : Int)), rfl, by omega, by omega, b2, by rw [upd_same, rg_ints], nb, fun z ms H3 e3 b3 nz hz pm => ?_⟩
    have nzb : z ≠ bx := b2.ne nz
    have ml : ms.length = (1 + r1).toNat := by rw [pm.length_eq, len]
    have ris := rg_rising (1 + r1) (by omega)
    have mn : ms.Nodup := pm.nodup_iff.mpr ris.nodup
    have mi : ∀ x ∈ ms, 0 ≤ x ∧ x < 1 + r1 := fun x hx => ris.2 x (pm.mem_iff.mp hx)
    have eX : Ext bx H H3 := (e1.trans ((Ext.refl _).new npl)).trans e3
    refine ⟨by show 1 ≤ sizeLine; decide, fun l1 nl1 => ?_⟩
    refine ⟨.int (1 + r1), rfl, l1, 1 + r1, _, rfl, rfl, upd_same, by omega, by omega, ?_, fun l nl => ⟨_, _, rfl, ?_⟩⟩
    · show 1 * (1 + r1).toNat ≤ sizeLine
      exact Nat.le_of_lt (small1000 (by omega))
    rw [rep_one]
    have b4 := (b3.new (o := .lst [V.non]) nl1).new (o := .lst (List.replicate (1 + r1).toNat V.non)) nl
    have nlb := (b3.new (o := .lst [V.non]) nl1).ne nl
    have s4 : Same H3 (upd (upd H3 l1 (.lst [V.non])) l (.lst (List.replicate (1 + r1).toNat V.non))) := (same_upd nl1).trans (same_upd nl)
    have hz4 := s4 _ _ hz
    have nlH : H l = none := eX.free nlb ((same_upd nl1).free nl)
    refine ⟨.ref z, rfl, z, _, rfl, .inl (.inl hz4), ?_⟩
    refine for_it (walk_enum (xs := ms.map V.int)) (fun i σ H5 => ∃ (y5 y6 : Option V) (us : List V), σ = [some (.ref bx), some (.int m), some (.int (1 + r1)), some (.ref z), some (.ref l), y5, y6] ∧ Ext bx H H5 ∧ Box bx (c + 20 + 50 * i) H5 ∧ H5 z = some (.lst (ms.map V.int)) ∧ H5 l = some (.lst us) ∧ us.length = (1 + r1).toNat ∧ ∀ x ∈ ms.take i, ∃ v r, us[x.toNat]? = some v ∧ RuleAt H5 v r ∧ r.Wf (1 + r1))
      ⟨none, none, _, rfl, eX.trans (Ext.of s4), b4.mono (by omega), hz4, upd_same, List.length_replicate, fun x hx => absurd hx (by simp)⟩ ?_ ?_ ?_
    · rintro i σ H5 _ ⟨y5, y6, us, rfl, e5, b5, hz5, _⟩
      exact .inl (.inl hz5)
    · rintro i y σ H5 H6 hi ⟨y5, y6, us, rfl, e5, b5, hz5, hl5, lu, al⟩ ⟨t, x1, x2, rfl, nt, rfl, e1', e2'⟩
      rw [List.length_map] at hi
      have e2'' : (ms.map V.int)[i]? = some x2 := e2'
      rw [List.getElem?_map, List.getElem?_eq_getElem hi] at e2''
      cases e2''
      cases e1'
      have sT := same_upd (o := .tup [V.int ((i : Nat) : Int), V.int ms[i]]) nt
      refine ⟨t, _, rfl, .inl (.inl upd_same), rfl, _, _, rfl, _, _, rfl, rfl, ?_⟩
      refine ⟨.ref bx, rfl, .int (1 + r1), rfl, .ref z, rfl, .int i, rfl, i, rfl, z, _, rfl, .inl (.inl (sT _ _ hz5)), fun z2 nz2 => ?_⟩
      rw [cut_map, cut_to ms i (by omega)]
      refine ⟨z2, ms.take i, rfl, .inl (.inl upd_same), fun ns' p' pm' sd' np' => ?_⟩
      have b7 := ((b5.same sT).new (o := .lst ((ms.take i).map V.int)) nz2).new (o := .lst (ns'.map V.int)) np'
      have npb := ((b5.same sT).new (o := .lst ((ms.take i).map V.int)) nz2).ne np'
      have s57 : Same H5 (upd (upd (upd H5 t (.tup [V.int ((i : Nat) : Int), V.int ms[i]])) z2 (.lst ((ms.take i).map V.int))) p' (.lst (ns'.map V.int))) := (sT.trans (same_upd nz2)).trans (same_upd np')
      have ln : ns'.length ≤ 12 := by rw [pm'.length_eq, List.length_take]; omega
      have rn : Rising (1 + r1) ns' := ⟨strict_of sd' (pm'.nodup_iff.mpr (mn.sublist (List.take_sublist _ _))), fun n hn => mi n (List.mem_of_mem_take (pm'.mem_iff.mp hn))⟩
      refine ⟨bx, p', _, 9, 1 + r1, .int (1 + r1), ns', rfl, by decide, by decide, by omega, by omega, b7, upd_same, npb, rn, fun v r H8 e8 b8 ra8 wf8 sub8 => ?_⟩
      have e58 : Ext bx H5 H8 := (Ext.of s57).trans e8
      have k58 : Keep H5 H8 := (Keep.same s57).trans (Keep.ext e8 b7)
      have hl8 := e58 _ _ nlb hl5
      have mii := mi _ (List.getElem_mem hi)
      refine ⟨.ref l, rfl, .int ms[i], rfl, l, _, _, ms[i].toNat, rfl, rfl, hl8, ?_, ?_⟩
      · have h1 : ((ms[i].toNat : Nat) : Int) = ms[i] := by omega
        have h2 := ixN_at (n := us.length) (j := ms[i].toNat) (by omega)
        rw [h1] at h2
        exact h2
      have kL := keep_lst (ys := us.set ms[i].toNat v) hl8
      refine ⟨_, _, us.set ms[i].toNat v, rfl, (e5.trans e58).new nlH, (b8.at nlb).mono (by omega), ?_, upd_same, by rw [List.length_set]; exact lu, fun x hx => ?_⟩
      · have nzl : z ≠ l := fun q => by
          have q2 := e5 l
          subst q
          rw [hz5] at hl5
          have := ne_of_none (same_upd (o := .lst [V.non]) nl1 _ _ hz) nl
          exact this rfl
        rw [upd_ne nzl]
        exact e58 _ _ nzb hz5
      · rw [List.take_add_one, List.getElem?_eq_getElem hi] at hx
        by_cases cx : x = ms[i]
        · subst cx
          exact ⟨v, r, by rw [List.getElem?_set, if_pos rfl, if_pos (by omega)], ra8.keep kL, wf8⟩
        · have hx' : x ∈ ms.take i := by
            rcases List.mem_append.mp hx with h | h
            · exact h
            · exact absurd (by simpa using h) cx
          obtain ⟨v', r', h1, h2, h3⟩ := al x hx'
          have mx := mi x (List.mem_of_mem_take hx')
          exact ⟨v', r', by rw [List.getElem?_set, if_neg (by omega)]; exact h1, (h2.keep k58).keep kL, h3⟩
    · rintro σ H5 ⟨y5, y6, us, rfl, e5, b5, hz5, hl5, lu, al⟩
      rw [List.length_map, List.take_length] at al
      rw [List.length_map] at b5
      obtain ⟨rs, ra, wf⟩ := rules_of (H := H5) (m := 1 + r1) us (fun i hi => by
        have hm : (i : Int) ∈ ms := pm.mem_iff.mpr (List.mem_map.mpr ⟨i, List.mem_range.mpr (by omega), rfl⟩)
        obtain ⟨v, r, h1, h2, h3⟩ := al _ hm
        rw [Int.toNat_natCast, List.getElem?_eq_getElem hi] at h1
        cases h1
        exact ⟨r, h2, h3⟩)
      have lr : rs.length = (1 + r1).toNat := by rw [← lu]; exact ra.length.symm
      have lr' : (rs.length : Int) = 1 + r1 := by omega
      exact ⟨.ref l, rfl, q l us rs H5 e5 (b5.mono (by omega)) nlH hl5 ra ⟨by omega, by omega, by rw [lr']; exact wf⟩⟩
def spShown : Sp := fun vs H Q _ => ∃ (bx l : Addr) (c : Int) (us : List V), vs = [.ref bx, .ref l] ∧ c + 100 ≤ 1000000000 ∧ us.length ≤ 12 ∧ Box bx c H ∧ H l = some (.lst us) ∧ l ≠ bx ∧
  ∀ (t : Addr) (ns : List Int) (H' : Hp), Ext bx H H' → Box bx (c + 100) H' → H t = none → TupAt H' t (ns.map V.int) → ns.length = us.length → (∀ n ∈ ns, 0 ≤ n) → Q (.ref t) H'
end
end Lh

namespace Lh
open PySem PySem.Spec PyProof.Rows L2
def pairD (q : Int × Int) : PyData := .tuple [.int q.1, .int q.2]
def Rule.data : Rule → PyData
  | .held n => .tuple [.str "held", .int n]
  | .sum own ties => .tuple [.str "sum", .int own, .tuple (ties.map pairD)]
  | .cap own ties most => .tuple [.str "cap", .int own, .tuple (ties.map pairD), .int most]
  | .kinds own seen => .tuple [.str "kinds", .int own, .tuple (seen.map PyData.int)]
  | .next seen => .tuple [.str "next", .tuple (seen.map PyData.int)]
  | .free seen => .tuple [.str "free", .tuple (seen.map PyData.int)]
theorem Box.neF {bx : Addr} {c : Int} {H : Hp} (h : Box bx c H) {p : Addr} {o : Obj} {u : HO} (n : H p = some (.frz o u)) : p ≠ bx := by
  obtain ⟨a, b, n', h, _⟩ := h
  exact ne_of n h (by intro z; cases z)
theorem pairs_rp {bx : Addr} {c : Int} {H : Hp} (b : Box bx c H) : ∀ {ps : List Addr} {ties : List (Int × Int)}, Paired (PairAtH H) ps ties → RpAll bx H (ps.map V.ref) (ties.map pairD)
  | _, _, .nil => .nil
  | _, _, .cons h r => .cons (.tup (.inl h) (b.neT h) (.cons (.int _) (.cons (.int _) .nil))) (pairs_rp b r)
theorem TiesAt.rp {bx : Addr} {c : Int} {H : Hp} (b : Box bx c H) {t : Addr} {ties : List (Int × Int)} (h : TiesAt H t ties) : Rp bx H (.ref t) (.tuple (ties.map pairD)) := by
  obtain ⟨o, ps, od, ht, pr⟩ := h
  exact .tup (.inr ⟨o, od, ht⟩) (b.neF ht) (pairs_rp b pr)
theorem SeenAt.rp {bx : Addr} {c : Int} {H : Hp} (b : Box bx c H) {t : Addr} {seen : List Int} (h : SeenAt H t seen) : Rp bx H (.ref t) (.tuple (seen.map PyData.int)) := by
  rcases h with ht | ⟨o, od, ht⟩
  · exact .tup (.inl ht) (b.neT ht) (RpAll.ints seen)
  · exact .tup (.inr ⟨o, od, ht⟩) (b.neF ht) (RpAll.ints seen)
theorem RuleAt.rp {bx : Addr} {c : Int} {H : Hp} (b : Box bx c H) {v : V} : ∀ {r : Rule}, RuleAt H v r → Rp bx H v r.data
  | .held n, ⟨a, e, h⟩ => by rw [e]; exact .tup (.inl h) (b.neT h) (.cons (.str _) (.cons (.int _) .nil))
  | .sum _ _, ⟨a, t, e, h, q⟩ => by rw [e]; exact .tup (.inl h) (b.neT h) (.cons (.str _) (.cons (.int _) (.cons (q.rp b) .nil)))
  | .cap _ _ _, ⟨a, t, e, h, q⟩ => by rw [e]; exact .tup (.inl h) (b.neT h) (.cons (.str _) (.cons (.int _) (.cons (q.rp b) (.cons (.int _) .nil))))
  | .kinds _ _, ⟨a, t, e, h, q⟩ => by rw [e]; exact .tup (.inl h) (b.neT h) (.cons (.str _) (.cons (.int _) (.cons (q.rp b) .nil)))
  | .next _, ⟨a, t, e, h, q⟩ => by rw [e]; exact .tup (.inl h) (b.neT h) (.cons (.str _) (.cons (q.rp b) .nil))
  | .free _, ⟨a, t, e, h, q⟩ => by rw [e]; exact .tup (.inl h) (b.neT h) (.cons (.str _) (.cons (q.rp b) .nil))
/-! ### data that can be shown -/
def tame (w : Nat) : Nat → PyData → Prop
  | _, .none => True
  | _, .bool _ => True
  | _, .int i => i.natAbs < 10 ^ 12
  | _, .str x => x.cps.size ≤ 10 ∧ ∀ c ∈ x.cps.toList, c < 16 ^ 8
  | n + 1, .list ds => ds.length ≤ w ∧ ∀ d ∈ ds, tame w n d
  | n + 1, .tuple ds => ds.length ≤ w ∧ ∀ d ∈ ds, tame w n d
  | _, _ => False
def Bk (w : Nat) : Nat → Nat
  | 0 => 10
  | n + 1 => 10 + w * (Bk w n + 1)
theorem Bk_ge (w : Nat) : ∀ n, 10 ≤ Bk w n
  | 0 => Nat.le_refl _
  | n + 1 => Nat.le_add_right _ _
theorem log_small {i : Int} (h : i.natAbs < 10 ^ 12) : i.natAbs.log2 < 1920 := by
  by_cases z : i.natAbs = 0
  · rw [z]; decide
  · rw [Nat.log2_lt z]
    exact Nat.lt_trans h (Nat.lt_of_lt_of_le (by decide : 10 ^ 12 < 2 ^ 40) (Nat.pow_le_pow_right (by decide) (by decide)))
structure Shown (n : Nat) (b : Nat) (d : PyData) : Prop where
  sh : d.showable = true
  nd : d.hasDict = false
  dp : d.depth ≤ n
  lv : d.leavesShort 13 = true
  bk : d.bulk ≤ b
theorem all_sh : ∀ {ds : List PyData} {n b : Nat}, (∀ d ∈ ds, Shown n b d) → PyData.showableAll ds = true ∧ PyData.hasDictAll ds = false ∧ PyData.depthAll ds ≤ n ∧ PyData.leavesShortAll 13 ds = true ∧ PyData.bulkAll ds ≤ ds.length * (b + 1)
  | [], n, b, _ => ⟨rfl, rfl, Nat.zero_le _, rfl, by show 0 ≤ _; omega⟩
  | d :: r, n, b, h => by
    have h1 := h d List.mem_cons_self
    obtain ⟨a1, a2, a3, a4, a5⟩ := all_sh (ds := r) (n := n) (b := b) (fun x hx => h x (List.mem_cons_of_mem _ hx))
    refine ⟨?_, ?_, ?_, ?_, ?_⟩
    · show (d.showable && PyData.showableAll r) = true
      rw [h1.sh, a1]; rfl
    · show (d.hasDict || PyData.hasDictAll r) = false
      rw [h1.nd, a2]; rfl
    · show max d.depth (PyData.depthAll r) ≤ n
      have := h1.dp
      omega
    · show (d.leavesShort 13 && PyData.leavesShortAll 13 r) = true
      rw [h1.lv, a4]; rfl
    · show d.bulk + 1 + PyData.bulkAll r ≤ (r.length + 1) * (b + 1)
      have := h1.bk
      rw [Nat.add_mul]
      omega
theorem tame_shown (w : Nat) : ∀ (n : Nat) (d : PyData), tame w n d → Shown n (Bk w n) d
  | n, .none, _ => ⟨rfl, rfl, Nat.zero_le _, rfl, Nat.zero_le _⟩
  | n, .bool _, _ => ⟨rfl, rfl, Nat.zero_le _, rfl, Nat.zero_le _⟩
  | n, .int i, h => by
    have h' : i.natAbs < 10 ^ 12 := by cases n <;> exact h
    exact ⟨decide_eq_true (log_small h'), rfl, Nat.zero_le _, decide_eq_true (PyData.shown_int_le h'), Nat.zero_le _⟩
  | n, .str x, h => by
    have h' : x.cps.size ≤ 10 ∧ ∀ c ∈ x.cps.toList, c < 16 ^ 8 := by cases n <;> exact h
    refine ⟨rfl, rfl, Nat.zero_le _, ?_, Nat.le_trans h'.1 (Bk_ge w n)⟩
    show (x.cps.toList.all fun c => decide (c < 16 ^ 8)) = true
    rw [List.all_eq_true]
    exact fun c hc => decide_eq_true (h'.2 c hc)
  | 0, .list _, h => h.elim
  | 0, .tuple _, h => h.elim
  | n + 1, .list ds, ⟨hl, h⟩ => by
    obtain ⟨a1, a2, a3, a4, a5⟩ := all_sh (fun d hd => tame_shown w n d (h d hd))
    refine ⟨a1, a2, Nat.succ_le_succ a3, a4, ?_⟩
    show PyData.bulkAll ds ≤ 10 + w * (Bk w n + 1)
    have := Nat.mul_le_mul_right (Bk w n + 1) hl
    omega
  | n + 1, .tuple ds, ⟨hl, h⟩ => by
    obtain ⟨a1, a2, a3, a4, a5⟩ := all_sh (fun d hd => tame_shown w n d (h d hd))
    refine ⟨a1, a2, Nat.succ_le_succ a3, a4, ?_⟩
    show PyData.bulkAll ds ≤ 10 + w * (Bk w n + 1)
    have := Nat.mul_le_mul_right (Bk w n + 1) hl
    omega
  | 0, .dict _, h => h.elim
  | n + 1, .dict _, h => h.elim
theorem tame_fits {w n : Nat} {d : PyData} (h : tame w n d) (hb : Bk w n ≤ 2 ^ 20) : d.shown.length ≤ sizeLine :=
  PyData.shown_fits_bulk (B := 13) (by decide) (by decide) (tame_shown w n d h).lv (Nat.le_trans (tame_shown w n d h).bk hb)
theorem tame_ok {w : Nat} (hw : w ≤ 8388608) : ∀ (n : Nat) (d : PyData), tame w n d → okD n d
  | n, .none, _ => by cases n <;> trivial
  | n, .bool _, _ => by cases n <;> trivial
  | n, .int i, _ => by cases n <;> trivial
  | n, .str x, _ => by cases n <;> trivial
  | 0, .list _, h => h.elim
  | 0, .tuple _, h => h.elim
  | n + 1, .list ds, ⟨hl, h⟩ => ⟨Nat.le_trans hl hw, fun d hd => tame_ok hw n d (h d hd)⟩
  | n + 1, .tuple ds, ⟨hl, h⟩ => ⟨Nat.le_trans hl hw, fun d hd => tame_ok hw n d (h d hd)⟩
  | 0, .dict _, h => h.elim
  | n + 1, .dict _, h => h.elim
theorem tame_int {w n : Nat} {i : Int} (h : i.natAbs < 10 ^ 12) : tame w n (.int i) := by cases n <;> exact h
theorem tame_word {w n : Nat} {x : Str} (h : x.cps.size ≤ 10 ∧ ∀ c ∈ x.cps.toList, c < 16 ^ 8) : tame w n (.str x) := by cases n <;> exact h
theorem tame_pairs {w n : Nat} (hw : 2 ≤ w) {l : List (Int × Int)} (h : ∀ q ∈ l, q.1.natAbs < 10 ^ 12 ∧ q.2.natAbs < 10 ^ 12) (hl : l.length ≤ w) : tame w (n + 2) (.tuple (l.map pairD)) := by
  refine ⟨by rw [List.length_map]; exact hl, fun d hd => ?_⟩
  obtain ⟨q, hq, rfl⟩ := List.mem_map.mp hd
  refine ⟨hw, fun x hx => ?_⟩
  have := h q hq
  rcases List.mem_cons.mp hx with e | e
  · rw [e]; exact tame_int this.1
  · rw [List.mem_singleton.mp e]; exact tame_int this.2
theorem tame_seen {w n : Nat} {l : List Int} (h : ∀ q ∈ l, q.natAbs < 10 ^ 12) (hl : l.length ≤ w) : tame w (n + 1) (.tuple (l.map PyData.int)) := by
  refine ⟨by rw [List.length_map]; exact hl, fun d hd => ?_⟩
  obtain ⟨q, hq, rfl⟩ := List.mem_map.mp hd
  exact tame_int (h q hq)
theorem tame_rule {w : Nat} (hw : 4 ≤ w) {many : Int} (hm : many ≤ 1000000) : ∀ {r : Rule}, r.Wf many → r.persons.length ≤ w → tame w 3 r.data
  | .held n, h, _ => by
    have h' : 0 ≤ n ∧ n ≤ 1000000 := by
      first
        | exact h
        | exact ⟨(show smallI n from h).1, Int.le_trans (show smallI n from h).2 (by decide)⟩
    refine ⟨by show 2 ≤ w; omega, fun d hd => ?_⟩
    simp only [List.mem_cons, List.not_mem_nil, or_false] at hd
    rcases hd with rfl | rfl
    · exact tame_word (by decide +kernel)
    · exact tame_int (by omega)
  | .sum own ties, ⟨ho, rs, w1⟩, hl => by
    unfold smallI at ho
    have hl' : ties.length ≤ w := by simpa [Rule.persons] using hl
    refine ⟨by show 3 ≤ w; omega, fun d hd => ?_⟩
    simp only [List.mem_cons, List.not_mem_nil, or_false] at hd
    rcases hd with rfl | rfl | rfl
    · exact tame_word (by decide +kernel)
    · exact tame_int (by omega)
    · refine tame_pairs (by omega) (fun q hq => ?_) hl'
      have h1 := rs.2 _ (List.mem_map_of_mem (f := (·.1)) hq)
      have h2 := w1 q hq
      omega
  | .cap own ties most, ⟨ho, rs, w1, hmo⟩, hl => by
    unfold smallI at ho hmo
    have hl' : ties.length ≤ w := by simpa [Rule.persons] using hl
    refine ⟨by show 4 ≤ w; omega, fun d hd => ?_⟩
    simp only [List.mem_cons, List.not_mem_nil, or_false] at hd
    rcases hd with rfl | rfl | rfl | rfl
    · exact tame_word (by decide +kernel)
    · exact tame_int (by omega)
    · refine tame_pairs (by omega) (fun q hq => ?_) hl'
      have h1 := rs.2 _ (List.mem_map_of_mem (f := (·.1)) hq)
      have h2 := w1 q hq
      omega
    · exact tame_int (by omega)
  | .kinds own seen, ⟨ho, rs⟩, hl => by
    unfold smallI at ho
    refine ⟨by show 3 ≤ w; omega, fun d hd => ?_⟩
    simp only [List.mem_cons, List.not_mem_nil, or_false] at hd
    rcases hd with rfl | rfl | rfl
    · exact tame_word (by decide +kernel)
    · exact tame_int (by omega)
    · exact tame_seen (fun q hq => by have := rs.2 q hq; omega) hl
  | .next seen, rs, hl => by
    have rs' : Rising many seen := rs
    refine ⟨by show 2 ≤ w; omega, fun d hd => ?_⟩
    simp only [List.mem_cons, List.not_mem_nil, or_false] at hd
    rcases hd with rfl | rfl
    · exact tame_word (by decide +kernel)
    · exact tame_seen (fun q hq => by have := rs'.2 q hq; omega) hl
  | .free seen, rs, hl => by
    have rs' : Rising many seen := rs
    refine ⟨by show 2 ≤ w; omega, fun d hd => ?_⟩
    simp only [List.mem_cons, List.not_mem_nil, or_false] at hd
    rcases hd with rfl | rfl
    · exact tame_word (by decide +kernel)
    · exact tame_seen (fun q hq => by have := rs'.2 q hq; omega) hl
end Lh

namespace Lh
open PySem PySem.Spec PyProof.Rows L2
/-! ### rules, by data of any make -/
def posB : PyData → Bool
  | .int i => decide (1 ≤ i)
  | _ => false
def fstD : PyData → PyData
  | .tuple (a :: _) => a
  | _ => .none
def tieB (m : Int) : PyData → Bool
  | .tuple [a, b] => persB m a && posB b
  | _ => false
def tiesB (m : Int) : PyData → Bool
  | .tuple ds => ds.all (tieB m) && riseB (ds.map fun d => intOf (fstD d))
  | _ => false
theorem tieB_len {m : Int} {ds : List PyData} (h : ds.length ≠ 2) : tieB m (.tuple ds) = false := by
  match ds, h with
  | [], _ => rfl
  | [_], _ => rfl
  | [_, _], h => exact absurd rfl h
  | _ :: _ :: _ :: _, _ => rfl
theorem two_of {ds : List PyData} (h : ds.length = 2) : ∃ a b, ds = [a, b] := by
  match ds, h with
  | [a, b], _ => exact ⟨a, b, rfl⟩
theorem not_tup {d : PyData} (h : ∀ ds, d ≠ .tuple ds) (m : Int) : tieB m d = false ∧ tiesB m d = false ∧ seenB m d = false := by
  cases d with
  | tuple ds => exact absurd rfl (h ds)
  | _ => exact ⟨rfl, rfl, rfl⟩
/-- what isinstance(thing, tuple) comes to -/
theorem ty_tup {bx : Addr} {H : Hp} {K : PySem.W.Frag} {v : V} {d : PyData} (h : Rp bx H v d) : ∃ t : String, TyX K H v (.type t) ∧ ((∃ ds, d = .tuple ds) ∧ kitB t "tuple" = some true ∨ (∀ ds, d ≠ .tuple ds) ∧ kitB t "tuple" = some false) := by
  have ty := h.ty (K := K)
  cases d with
  | tuple ds => exact ⟨_, ty, .inl ⟨⟨ds, rfl⟩, (by decide +kernel : kitB "tuple" "tuple" = some true)⟩⟩
  | none => exact ⟨_, ty, .inr ⟨fun ds z => (by cases z), (by decide +kernel : kitB "NoneType" "tuple" = some false)⟩⟩
  | bool b => exact ⟨_, ty, .inr ⟨fun ds z => (by cases z), (by decide +kernel : kitB "bool" "tuple" = some false)⟩⟩
  | int i => exact ⟨_, ty, .inr ⟨fun ds z => (by cases z), (by decide +kernel : kitB "int" "tuple" = some false)⟩⟩
  | str x => exact ⟨_, ty, .inr ⟨fun ds z => (by cases z), (by decide +kernel : kitB "str" "tuple" = some false)⟩⟩
  | list es => exact ⟨_, ty, .inr ⟨fun ds z => (by cases z), (by decide +kernel : kitB "list" "tuple" = some false)⟩⟩
  | _ => cases h
theorem map_map_int {α : Type} (f : α → Int) (xs : List α) : (xs.map f).map V.int = xs.map fun x => V.int (f x) := by
  rw [List.map_map]
  rfl
section
variable {P : Program} {w : World} {K : PySem.W.Frag} {mg : Str → Option Value} {base : Heap}
def spIsTieD : Sp := fun vs H Q _ => ∃ (bx : Addr) (m : Int) (v : V) (d : PyData), vs = [.int m, v] ∧ Rp bx H v d ∧ Q (.bl (tieB m d)) H
set_option maxHeartbeats 1000000 in
theorem ok_is_tieD (T : Txt K mg w) : FnOk P w K mg base CX0 3 T.f_is_tie T.fd_is_tie p_is_tie spIsTieD := by
  have G_is_number := ok_is_numberD (P := P) (w := w) (base := base) T
  have G_is_person := ok_is_personD (P := P) (w := w) (base := base) T
  refine T.F_is_tie.ok sc_is_tie (fun vs H Q E h => ?_) (fun cdv A outer s H vs Q E hr h => ?_)
  · obtain ⟨bx, m, v, d, rfl, _⟩ := h
    rfl
  · obtain ⟨bx, m, v, d, rfl, hv, q⟩ := h
    refine ⟨_, (pss_cons (ps_if (PW.pt (pw_or (pt_not (pt_val (pe_callB call_isi (by rfl) T.m_isinstance (by decide +kernel) (pa_cons (pv 1) (pa_cons (pe_bltn (v := .ty "tuple") (by rfl) T.m_tuple (by decide +kernel) rfl) pa_nil))))) (pw_or1 (pt_cmpR op_ne (pe_callB call_len_seq (by rfl) T.m_len (by decide +kernel) (pa_cons (pv 1) pa_nil)) pe_int (nomark _)))))
        (pss_one (ps_ret pe_bl))
        pss_nil)
      (pss_one (ps_ret (pe_and (pe_call G_is_person (hr.mono (by decide)) (by rfl) T.g_is_person T.F_is_person.kp T.b_is_person .nil pass0 (pa_cons (pv 0) (pa_cons (pe_ix ix_tup (pv 1) pe_int (fun _ _ => rfl)) pa_nil))) (pe_and (pe_call G_is_number (hr.mono (by decide)) (by rfl) T.g_is_number T.F_is_number.kp T.b_is_number .nil pass0 (pa_cons (pe_ix ix_tup (pv 1) pe_int (fun _ _ => rfl)) pa_nil)) (pe_one (pe_cmpR op_ge (pe_ix ix_tup (pv 1) pe_int (fun _ _ => rfl)) pe_int (nomark _)))))))), ?_⟩
    obtain ⟨t, ty, ⟨⟨ds, rfl⟩, kt⟩ | ⟨nt, kt⟩⟩ := ty_tup (K := K) hv
    · cases hv with
      | tup ht nb ra =>
        rename_i a xs
        have lx : xs.length = ds.length := ra.length
        refine rd_isi (x := .ref a) (T := t) rfl ty kt ⟨_, rfl, iteN rfl ?_⟩
        refine ⟨.ref a, rfl, a, _, rfl, .inr ht.sq, rfl, _, rfl, ite2 (fun z => ?_) (fun z => ?_)⟩
        · have ne : ds.length ≠ 2 := fun e => by
            rw [lx, e] at z
            exact absurd z (by decide)
          rw [tieB_len ne] at q
          exact q
        · have e2 : ds.length = 2 := by
            by_cases e : ds.length = 2
            · exact e
            · exfalso
              refine z ?_
              rw [lx, decide_eq_false (fun h => e (by have := V.int.inj h; omega))]; rfl
          obtain ⟨da, db, rfl⟩ := two_of e2
          cases ra with
          | @cons va _ _ _ ra rb0 =>
          cases rb0 with
          | @cons vb _ _ _ rb rn =>
            cases rn
            have q : Q (.bl (persB m da && posB db)) H := q
            refine ⟨.int m, rfl, .ref a, rfl, a, _, 0, va, rfl, rfl, ht.sq, rfl, bx, m, va, da, rfl, ra, _, rfl, ite2 (fun c => ?_) (fun c => ?_)⟩
            · rw [c, Bool.true_and] at q
              refine ⟨.ref a, rfl, a, _, 1, vb, rfl, rfl, ht.sq, rfl, bx, vb, db, rfl, rb, _, rfl, ite2 (fun c2 => ?_) (fun c2 => ?_)⟩
              · cases db with
                | int i =>
                  cases rb
                  exact ⟨.ref a, rfl, a, _, 1, .int i, rfl, rfl, ht.sq, rfl, i, 1, rfl, rfl, q⟩
                | _ => exact absurd c2 Bool.false_ne_true
              · cases db with
                | int i =>
                  have c3 : ¬ 0 ≤ i := fun h => c2 (decide_eq_true h)
                  rw [show posB (.int i) = false from decide_eq_false (by omega)] at q
                  exact q
                | _ => exact q
            · rw [Bool.eq_false_iff.mpr c, Bool.false_and] at q
              exact q
    · rw [(not_tup nt m).1] at q
      exact rd_isi (x := v) (T := t) rfl ty kt ⟨_, rfl, iteP rfl (iteP rfl q)⟩
def spAreTiesD : Sp := fun vs H Q _ => ∃ (bx : Addr) (m : Int) (v : V) (d : PyData), vs = [.int m, v] ∧ Rp bx H v d ∧ (∀ ds, d = .tuple ds → ds.length ≤ 1000) ∧ ∀ H', Same H H' → Q (.bl (tiesB m d)) H'
set_option maxHeartbeats 2000000 in
theorem ok_are_tiesD (T : Txt K mg w) : FnOk P w K mg base CX0 4 T.f_are_ties T.fd_are_ties p_are_ties spAreTiesD := by
  have G_is_tie := ok_is_tieD (P := P) (w := w) (base := base) T
  have G_rises := ok_risesB (P := P) (w := w) (base := base) T
  refine T.F_are_ties.ok sc_are_ties (fun vs H Q E h => ?_) (fun cdv A outer s H vs Q E hr h => ?_)
  · obtain ⟨bx, m, v, d, rfl, _⟩ := h
    rfl
  · obtain ⟨bx, m, v, d, rfl, hv, hl, q⟩ := h
    refine ⟨_, (pss_cons (ps_if (PW.pt (pw_or (pt_not (pt_val (pe_callB call_isi (by rfl) T.m_isinstance (by decide +kernel) (pa_cons (pv 1) (pa_cons (pe_bltn (v := .ty "tuple") (by rfl) T.m_tuple (by decide +kernel) rfl) pa_nil))))) (pw_or1 (pt_not (pt_val (pe_callB (cr_all rfl) (by rfl) T.m_all (by decide +kernel) (pa_cons (pe_lc (own := [("one", 2)]) (g := gName 2) (by rfl) sc_are_ties.nd (pi_tup (pv 1)) (blkOk_by (own := [("one", 2)]) (N := n_are_ties) (sc := defScope s_are_ties) (by decide +kernel)) (fun _ _ _ _ _ => (pg_name (i := 2) sc_are_ties.nd rfl (.inl rfl) (.inr rfl))) (fun _ _ _ _ _ => pts_nil) (fun _ _ _ _ _ => (pe_call G_is_tie (hr.mono (by decide)) (by rfl) T.g_is_tie T.F_is_tie.kp T.b_is_tie .nil pass0 (pa_cons (pv 0) (pa_cons (pv 2) pa_nil))))) pa_nil)))))))
        (pss_one (ps_ret pe_bl))
        pss_nil)
      (pss_one (ps_ret (pe_call G_rises (hr.mono (by decide)) (by rfl) T.g_rises T.F_rises.kp T.b_rises .nil pass0 (pa_cons (pe_lc (own := [("person", 3), ("weight", 4)]) (g := gTup K 2 (gCons (gName 3) (gCons (gName 4) gNil))) (by rfl) sc_are_ties.nd (pi_tup (pv 1)) (blkOk_by (own := [("person", 3), ("weight", 4)]) (N := n_are_ties) (sc := defScope s_are_ties) (by decide +kernel)) (fun _ _ _ _ _ => (pg_tup rfl (pgs_cons (pg_name (i := 3) sc_are_ties.nd rfl (.inl rfl) (.inr rfl)) (pgs_cons (pg_name (i := 4) sc_are_ties.nd rfl (.inl rfl) (.inr rfl)) pgs_nil)))) (fun _ _ _ _ _ => pts_nil) (fun _ _ _ _ _ => (pv 3))) pa_nil))))), ?_⟩
    obtain ⟨t, ty, ⟨⟨ds, rfl⟩, kt⟩ | ⟨nt, kt⟩⟩ := ty_tup (K := K) hv
    · cases hv with
      | tup ht nb ra =>
        rename_i a xs
        have hl' := hl ds rfl
        have lx : xs.length = ds.length := ra.length
        refine rd_isi (x := .ref a) (T := t) rfl ty kt ⟨_, rfl, iteN rfl ?_⟩
        refine ⟨.ref a, rfl, a, rfl, ⟨_, ht.sq⟩, fun D hD => ?_⟩
        refine lc_map (walk_tup (xs := xs)) (fun j => .bl (tieB m (ds.getD j .none))) hD (by omega) (fun H3 s3 => (ht.keep (Keep.same s3)).sq) ?_ ?_
        · rintro j y H3 H4 hj s3 ⟨rfl, hy⟩ Q' Z hQ
          obtain ⟨dj, e1, e2⟩ := ra.at hy
          refine ⟨rfl, yes (iteT ?_)⟩
          rw [List.getD_eq_getElem?_getD, e1] at hQ
          exact ⟨.int m, rfl, y, rfl, bx, m, y, dj, rfl, e2.ext (Ext.of s3), hQ _ (Same.refl _)⟩
        · intro H3 s3 h3
          rw [lx] at h3
          refine ⟨D, ds.map (tieB m), rfl, .inl (.inl (by rw [h3, List.map_map]; exact congrArg (fun z => some (HO.lst z)) (range_getD2 (fun d => V.bl (tieB m d)) .none ds))), ?_⟩
          rw [List.all_map, show (id ∘ tieB m) = tieB m from rfl]
          have eT : tiesB m (.tuple ds) = (ds.all (tieB m) && riseB (ds.map fun d => intOf (fstD d))) := rfl
          refine ⟨_, rfl, ite2 (fun c => ?_) (fun c => ?_)⟩
          · have c' : ds.all (tieB m) = false := by
              cases e : ds.all (tieB m) with
              | false => rfl
              | true => rw [e] at c; exact absurd c (by decide)
            have := q H3 s3
            rw [eT, c', Bool.false_and] at this
            exact this
          · have c' : ds.all (tieB m) = true := by
              cases e : ds.all (tieB m) with
              | false => rw [e] at c; exact absurd rfl c
              | true => rfl
            have ht3 := ht.keep (Keep.same s3)
            refine ⟨.ref a, rfl, a, rfl, ⟨_, ht3.sq⟩, fun D2 hD2 => ?_⟩
            refine lc_map (walk_tup (xs := xs)) (fun j => .int (intOf (fstD (ds.getD j .none)))) hD2 (by omega) (fun H4 s4 => (ht3.keep (Keep.same s4)).sq) ?_ ?_
            · rintro j y H4 H5 hj s4 ⟨rfl, hy⟩ Q' Z hQ
              obtain ⟨dj, e1, e2⟩ := ra.at hy
              rw [List.getD_eq_getElem?_getD, e1] at hQ
              have tj : tieB m dj = true := List.all_eq_true.mp c' dj (List.mem_of_getElem? e1)
              have e3 := (e2.ext (Ext.of s3)).ext (Ext.of s4)
              cases dj with
              | tuple es =>
                by_cases l2 : es.length = 2
                · obtain ⟨da, db, rfl⟩ := two_of l2
                  cases e3 with
                  | tup h2 nb2 r2 =>
                    cases r2 with
                    | @cons va _ _ _ r3 r4 =>
                    cases r4 with
                    | @cons vb _ _ _ r5 r6 =>
                      cases r6
                      have tj' : (persB m da && posB db) = true := tj
                      rw [Bool.and_eq_true] at tj'
                      cases da with
                      | int i =>
                        cases r3
                        exact ⟨_, _, rfl, h2.sq, rfl, _, _, rfl, _, _, rfl, rfl, rfl, yes (iteT ⟨_, rfl, hQ _ (Same.refl _)⟩)⟩
                      | _ => exact absurd tj'.1 Bool.false_ne_true
                · rw [tieB_len l2] at tj
                  exact absurd tj Bool.false_ne_true
              | _ => exact absurd tj Bool.false_ne_true
            · intro H4 s4 h4
              rw [lx] at h4
              have e4 : H4 D2 = some (.lst ((ds.map fun d => intOf (fstD d)).map V.int)) := by
                rw [h4, map_map_int]
                exact congrArg (fun z => some (HO.lst z)) (range_getD2 (fun d => V.int (intOf (fstD d))) .none ds)
              refine ⟨D2, _, rfl, .inl (.inl (.inl e4)), by rw [List.length_map]; exact hl', fun H5 s5 => ?_⟩
              have := q H5 (s3.trans (s4.trans s5))
              rw [eT, c', Bool.true_and] at this
              exact this
    · have := q H (Same.refl H)
      rw [(not_tup nt m).2.1] at this
      exact rd_isi (x := v) (T := t) rfl ty kt ⟨_, rfl, iteP rfl (iteP rfl this)⟩
/-- a part of a rule -/
def partB (m : Int) (part : Str) (d : PyData) : Bool := if part = "number" then numB d else if part = "ties" then tiesB m d else seenB m d
def spIsPartD : Sp := fun vs H Q _ => ∃ (bx : Addr) (m : Int) (part : Str) (v : V) (d : PyData), vs = [.int m, .str part, v] ∧ Rp bx H v d ∧ (∀ ds, d = .tuple ds → ds.length ≤ 1000) ∧ ∀ H', Same H H' → Q (.bl (partB m part d)) H'
theorem ok_is_partD (T : Txt K mg w) : FnOk P w K mg base CX0 5 T.f_is_part T.fd_is_part p_is_part spIsPartD := by
  have G_is_number := ok_is_numberD (P := P) (w := w) (base := base) T
  have G_are_ties := ok_are_tiesD (P := P) (w := w) (base := base) T
  have G_are_persons := ok_are_personsD (P := P) (w := w) (base := base) T
  refine T.F_is_part.ok sc_is_part (fun vs H Q E h => ?_) (fun cdv A outer s H vs Q E hr h => ?_)
  · obtain ⟨bx, m, part, v, d, rfl, _⟩ := h
    rfl
  · obtain ⟨bx, m, part, v, d, rfl, hv, hl, q⟩ := h
    refine ⟨_, (pss_cons (ps_if (pt_cmpR op_eq (pv 1) pe_str (nomark _))
        (pss_one (ps_ret (pe_call G_is_number (hr.mono (by decide)) (by rfl) T.g_is_number T.F_is_number.kp T.b_is_number .nil pass0 (pa_cons (pv 2) pa_nil))))
        pss_nil)
      (pss_cons (ps_if (pt_cmpR op_eq (pv 1) pe_str (nomark _))
        (pss_one (ps_ret (pe_call G_are_ties (hr.mono (by decide)) (by rfl) T.g_are_ties T.F_are_ties.kp T.b_are_ties .nil pass0 (pa_cons (pv 0) (pa_cons (pv 2) pa_nil)))))
        pss_nil)
      (pss_one (ps_ret (pe_call G_are_persons (hr.mono (by decide)) (by rfl) T.g_are_persons T.F_are_persons.kp T.b_are_persons .nil pass0 (pa_cons (pv 0) (pa_cons (pv 2) pa_nil))))))), ?_⟩
    by_cases c1 : part = "number"
    · refine ⟨_, rfl, rfl, _, rfl, iteP (decide_eq_true (by rw [c1])) ?_⟩
      have := q H (Same.refl H)
      rw [partB, if_pos c1] at this
      exact ⟨v, rfl, bx, v, d, rfl, hv, this⟩
    refine ⟨_, rfl, rfl, _, rfl, iteN (decide_eq_false fun e => c1 (V.str.inj e)) ?_⟩
    by_cases c2 : part = "ties"
    · refine ⟨_, rfl, rfl, _, rfl, iteP (decide_eq_true (by rw [c2])) ?_⟩
      refine ⟨.int m, rfl, v, rfl, bx, m, v, d, rfl, hv, hl, fun H' s' => ?_⟩
      have := q H' s'
      rw [partB, if_neg c1, if_pos c2] at this
      exact this
    refine ⟨_, rfl, rfl, _, rfl, iteN (decide_eq_false fun e => c2 (V.str.inj e)) ?_⟩
    refine ⟨.int m, rfl, v, rfl, bx, m, v, d, rfl, hv, hl, fun H' s' => ?_⟩
    have := q H' s'
    rw [partB, if_neg c1, if_neg c2] at this
    exact this
/-- the words that data here are made of -/
def wds : List Str := ["", "sum", "held", "free", "cap", "kinds", "next"]
def partsW (x : Str) : Option (List Str) :=
  if x = "held" then some ["number"] else if x = "sum" then some ["number", "ties"] else if x = "cap" then some ["number", "ties", "number"] else if x = "kinds" then some ["number", "seen"] else if x = "next" then some ["seen"] else if x = "free" then some ["seen"] else none
theorem parts_word {x : Str} (h : x ∈ wds) : (x = "" ∧ partsW x = none) ∨ ∃ r : Rule, x = wordOf r ∧ partsW x = some (partsOf r) := by
  unfold wds at h
  simp only [List.mem_cons, List.not_mem_nil, or_false] at h
  rcases h with rfl | rfl | rfl | rfl | rfl | rfl | rfl
  · exact .inl ⟨rfl, by decide +kernel⟩
  · exact .inr ⟨.sum 0 [], rfl, by decide +kernel⟩
  · exact .inr ⟨.held 0, rfl, by decide +kernel⟩
  · exact .inr ⟨.free [], rfl, by decide +kernel⟩
  · exact .inr ⟨.cap 0 [] 0, rfl, by decide +kernel⟩
  · exact .inr ⟨.kinds 0 [], rfl, by decide +kernel⟩
  · exact .inr ⟨.next [], rfl, by decide +kernel⟩
def ruleB (m : Int) : PyData → Bool
  | .tuple (.str x :: ds) => match partsW x with
    | none => false
    | some ps => decide (ds.length = ps.length) && (List.zip ps ds).all fun q => partB m q.1 q.2
  | _ => false
/-- the data that are asked about: words known, no part too long -/
structure RFine (d : PyData) : Prop where
  wd : ∀ x ds, d = .tuple (.str x :: ds) → x ∈ wds
  ln : ∀ ds, d = .tuple ds → ds.length ≤ 1000 ∧ ∀ e ∈ ds, ∀ es, e = .tuple es → es.length ≤ 1000
theorem isiQ {K : PySem.W.Frag} {H : Hp} {x : V} {T c : String} {b : Bool} {Q : VK} (ty : TyX K H x (.type T)) (h : kitB T c = some b) (q : Q (.bl b) H) : rIsi K [x, .ty c] H Q := ⟨x, .ty c, .type T, .type c, b, rfl, .ty c, ty, kit_ty h, q⟩
theorem ty_str {bx : Addr} {H : Hp} {K : PySem.W.Frag} {v : V} {d : PyData} (h : Rp bx H v d) : ∃ t : String, TyX K H v (.type t) ∧ ((∃ x, d = .str x) ∧ kitB t "str" = some true ∨ (∀ x, d ≠ .str x) ∧ kitB t "str" = some false) := by
  have ty := h.ty (K := K)
  cases d with
  | str x => exact ⟨_, ty, .inl ⟨⟨x, rfl⟩, (by decide +kernel : kitB "str" "str" = some true)⟩⟩
  | none => exact ⟨_, ty, .inr ⟨fun ds z => (by cases z), (by decide +kernel : kitB "NoneType" "str" = some false)⟩⟩
  | bool b => exact ⟨_, ty, .inr ⟨fun ds z => (by cases z), (by decide +kernel : kitB "bool" "str" = some false)⟩⟩
  | int i => exact ⟨_, ty, .inr ⟨fun ds z => (by cases z), (by decide +kernel : kitB "int" "str" = some false)⟩⟩
  | list es => exact ⟨_, ty, .inr ⟨fun ds z => (by cases z), (by decide +kernel : kitB "list" "str" = some false)⟩⟩
  | tuple es => exact ⟨_, ty, .inr ⟨fun ds z => (by cases z), (by decide +kernel : kitB "tuple" "str" = some false)⟩⟩
  | _ => cases h
theorem ruleB_not {m : Int} {d : PyData} (h : ∀ x ds, d ≠ .tuple (.str x :: ds)) : ruleB m d = false := by
  unfold ruleB
  split
  · exact absurd rfl (h _ _)
  · rfl
theorem ruleB_none {m : Int} {x : Str} {ds : List PyData} (h : partsW x = none) : ruleB m (.tuple (.str x :: ds)) = false := by
  simp only [ruleB, h]
theorem ruleB_some {m : Int} {x : Str} {ds : List PyData} {ps : List Str} (h : partsW x = some ps) : ruleB m (.tuple (.str x :: ds)) = (decide (ds.length = ps.length) && (List.zip ps ds).all fun q => partB m q.1 q.2) := by
  simp only [ruleB, h]
theorem zip_all {m : Int} : ∀ {ps : List Str} {ds : List PyData}, ((List.range (min ps.length ds.length)).map fun i => partB m (ps.getD i "") (ds.getD i .none)).all id = (List.zip ps ds).all fun q => partB m q.1 q.2
  | [], ds => by simp
  | _ :: _, [] => by simp
  | p :: ps, d :: ds => by
    have ih := zip_all (m := m) (ps := ps) (ds := ds)
    rw [show min (p :: ps).length (d :: ds).length = min ps.length ds.length + 1 by rw [List.length_cons, List.length_cons]; omega, List.range_succ_eq_map, List.map_cons, List.map_map, List.all_cons, List.zip_cons_cons, List.all_cons, ← ih]
    rfl
def spIsRuleD : Sp := fun vs H Q _ => ∃ (bx : Addr) (m : Int) (v : V) (d : PyData), vs = [.int m, v] ∧ Rp bx H v d ∧ RFine d ∧ ∀ H', Same H H' → Q (.bl (ruleB m d)) H'
set_option maxHeartbeats 2000000 in
theorem ok_is_ruleD (T : Txt K mg w) : FnOk P w K mg base CX0 6 T.f_is_rule T.fd_is_rule p_is_rule spIsRuleD := by
  have G_is_part := ok_is_partD (P := P) (w := w) (base := base) T
  refine T.F_is_rule.ok sc_is_rule (fun vs H Q E h => ?_) (fun cdv A outer s H vs Q E hr h => ?_)
  · obtain ⟨bx, m, v, d, rfl, _⟩ := h
    rfl
  · obtain ⟨bx, m, v, d, rfl, hv, hf, q⟩ := h
    refine ⟨_, (pss_cons (ps_if (PW.pt (pw_or (pt_not (pt_val (pe_callB call_isi (by rfl) T.m_isinstance (by decide +kernel) (pa_cons (pv 1) (pa_cons (pe_bltn (v := .ty "tuple") (by rfl) T.m_tuple (by decide +kernel) rfl) pa_nil))))) (pw_or1 (pt_not (pt_truth (pv 1) (by intro _; rfl))))))
        (pss_one (ps_ret pe_bl))
        pss_nil)
      (pss_cons (ps_if (PW.pt (pw_or (pt_not (pt_val (pe_callB call_isi (by rfl) T.m_isinstance (by decide +kernel) (pa_cons (pe_ix ix_tup (pv 1) pe_int (fun _ _ => rfl)) (pa_cons (pe_bltn (v := .ty "str") (by rfl) T.m_str (by decide +kernel) rfl) pa_nil))))) (pw_or1 (pt_cmpR (op_notIn_kd T.kd_PARTS) (pe_ix ix_tup (pv 1) pe_int (fun _ _ => rfl)) (pe_glob (v := .ref T.D_PARTS) (by rfl) T.g_PARTS rfl) (by rfl)))))
        (pss_one (ps_ret pe_bl))
        pss_nil)
      (pss_cons (ps_set (i := 2) sc_is_rule.nd rfl (.inl rfl) (pe_ix ix_kdict (pe_glob (v := .ref T.D_PARTS) (by rfl) T.g_PARTS rfl) (pe_ix ix_tup (pv 1) pe_int (fun _ _ => rfl)) (fun _ _ => rfl)))
      (pss_cons (ps_if (pt_cmpR op_ne (pe_callB call_len_seq (by rfl) T.m_len (by decide +kernel) (pa_cons (pv 1) pa_nil)) (pe_op op_add (pe_callB call_len_seq (by rfl) T.m_len (by decide +kernel) (pa_cons (pv 2) pa_nil)) pe_int) (nomark _))
        (pss_one (ps_ret pe_bl))
        pss_nil)
      (pss_one (ps_ret (pe_callB (cr_all rfl) (by rfl) T.m_all (by decide +kernel) (pa_cons (pe_lc (own := [("part", 3), ("piece", 4)]) (g := gTup K 2 (gCons (gName 3) (gCons (gName 4) gNil))) (by rfl) sc_is_rule.nd (RZ.pi_zipA (by rfl) T.m_zip (pa_cons (pv 2) (pa_cons (pe_slice sl_tupA (pv 1) (po_some pe_int) po_none) pa_nil))) (blkOk_by (own := [("part", 3), ("piece", 4)]) (N := n_is_rule) (sc := defScope s_is_rule) (by decide +kernel)) (fun _ _ _ _ _ => (pg_tup rfl (pgs_cons (pg_name (i := 3) sc_is_rule.nd rfl (.inl rfl) (.inr rfl)) (pgs_cons (pg_name (i := 4) sc_is_rule.nd rfl (.inl rfl) (.inr rfl)) pgs_nil)))) (fun _ _ _ _ _ => pts_nil) (fun _ _ _ _ _ => (pe_call G_is_part (hr.mono (by decide)) (by rfl) T.g_is_part T.F_is_part.kp T.b_is_part .nil pass0 (pa_cons (pv 0) (pa_cons (pv 3) (pa_cons (pv 4) pa_nil)))))) pa_nil)))))))), ?_⟩
    have q0 := q H (Same.refl H)
    obtain ⟨t, ty, ⟨⟨ds, rfl⟩, kt⟩ | ⟨nt, kt⟩⟩ := ty_tup (K := K) hv
    · cases hv with
      | tup ht nb ra =>
        rename_i a xs
        refine rd_isi (x := .ref a) (T := t) rfl ty kt ⟨_, rfl, iteN rfl ?_⟩
        cases ra with
        | nil =>
          rw [ruleB_not (fun x ds z => by cases z)] at q0
          exact ⟨.ref a, rfl, false, .inr (.inl ⟨_, ht.sq, rfl⟩), iteP rfl q0⟩
        | @cons v0 xs d0 ds r0 rs =>
          have lx : xs.length = ds.length := rs.length
          have i0 : atI (v0 :: xs) 0 = some v0 := atI_nat (j := 0) rfl
          refine ⟨.ref a, rfl, true, .inr (.inl ⟨_, ht.sq, rfl⟩), iteN rfl ?_⟩
          obtain ⟨t0, ty0, ⟨⟨x, rfl⟩, kt0⟩ | ⟨ns, kt0⟩⟩ := ty_str (K := K) r0
          · cases r0
            refine ⟨.ref a, rfl, a, _, 0, _, rfl, rfl, ht.sq, i0, _, _, .type t0, .type "str", true, rfl, .ty "str", ty0, kit_ty kt0, _, rfl, iteN rfl ?_⟩
            have hx := hf.wd x ds rfl
            rcases parts_word hx with ⟨rfl, pn⟩ | ⟨r, rfl, pr⟩
            · rw [ruleB_none pn] at q0
              exact ⟨.ref a, rfl, a, _, 0, _, rfl, rfl, ht.sq, i0, _, _, rfl, rfl, T.dn_PARTS, _, rfl, iteP rfl q0⟩
            obtain ⟨tp, dk, sq⟩ := parts_at T r
            refine ⟨.ref a, rfl, a, _, 0, _, rfl, rfl, ht.sq, i0, _, _, rfl, rfl, dk, _, rfl, iteN rfl ?_⟩
            refine ⟨.ref a, rfl, a, _, 0, _, rfl, rfl, ht.sq, i0, T.D_PARTS, _, .ref tp, rfl, rfl, ⟨T.es_PARTS, T.en_PARTS, _, T.kd_PARTS.at_, T.kd_PARTS.lit, dk, rfl⟩, ?_⟩
            have er : ruleB m (.tuple (.str (wordOf r) :: ds)) = (decide (ds.length = (partsOf r).length) && (List.zip (partsOf r) ds).all fun q => partB m q.1 q.2) := ruleB_some pr
            refine ⟨.ref a, rfl, a, _, rfl, .inr ht.sq, .ref tp, rfl, tp, _, rfl, .inr (sq H), _, 1, rfl, rfl, rfl, _, rfl, ite2 (fun z => ?_) (fun z => ?_)⟩
            · have ne : ds.length ≠ (partsOf r).length := fun e => by
                rw [List.length_cons, List.length_map, lx, e, decide_eq_true (by rfl)] at z
                exact absurd z (by decide)
              rw [er, decide_eq_false ne, Bool.false_and] at q0
              exact q0
            have el : ds.length = (partsOf r).length := by
              by_cases e : ds.length = (partsOf r).length
              · exact e
              · exfalso
                refine z ?_
                rw [List.length_cons, List.length_map, lx, decide_eq_false (fun h => e (by have := V.int.inj h; omega))]; rfl
            refine ⟨.ref tp, rfl, .ref a, rfl, 1, rfl, a, _, rfl, ht.sq, fun wh => ?_, fun _ c nc => ?_⟩
            · exfalso
              have := wh.1
              rw [show HT.sIx (V.str (wordOf r) :: xs).length 0 (some 1) = min 1 (V.str (wordOf r) :: xs).length from HT.sIx_nat _ 0 1, List.length_cons] at this
              omega
            rw [cutV1]
            have s1 := same_upd (o := .tup ((V.str (wordOf r) :: xs).drop 1)) nc
            refine ⟨tp, c, _, _, rfl, .inr ⟨sq _, .inl (.inl upd_same), fun D hD => ?_⟩⟩
            refine lc_map (walk_zipM (K := K) (a := tp) (b := c) (xs := (partsOf r).map V.str) (ys := (V.str (wordOf r) :: xs).drop 1) (n := min (partsOf r).length ds.length) (by rw [List.length_map, List.length_drop, List.length_cons, lx]; omega)) (fun i => .bl (partB m ((partsOf r).getD i "") (ds.getD i .none))) hD (by have := parts_len r; omega) (fun H3 s3 => ⟨sq _, .inl (.inl (s3 _ _ upd_same))⟩) ?_ ?_
            · rintro i x H3 H4 hi s3 ⟨u, x1, x2, rfl, nu, rfl, e1, e2⟩ Q' Z hQ
              have e2' : xs[i]? = some x2 := e2
              have hi1 : i < (partsOf r).length := by omega
              have e1' : ((partsOf r).map V.str)[i]? = some x1 := e1
              rw [List.getElem?_map, List.getElem?_eq_getElem hi1] at e1'
              cases e1'
              obtain ⟨di, f1, f2⟩ := rs.at e2'
              have sT := same_upd (o := .tup [V.str (partsOf r)[i], x2]) nu
              rw [List.getD_eq_getElem?_getD, List.getElem?_eq_getElem hi1, List.getD_eq_getElem?_getD, f1] at hQ
              have lf : ∀ es, di = .tuple es → es.length ≤ 1000 := fun es e => (hf.ln _ rfl).2 di (List.mem_cons_of_mem _ (List.mem_of_getElem? f1)) es e
              exact ⟨u, _, rfl, .inl (.inl upd_same), rfl, _, _, rfl, _, _, rfl, rfl, rfl, yes (iteT ⟨.int m, rfl, .str (partsOf r)[i], rfl, x2, rfl, bx, m, _, x2, di, rfl, f2.ext (Ext.of (s1.trans (s3.trans sT))), lf, fun H5 s5 => hQ _ (sT.trans s5)⟩)⟩
            · intro H3 s3 h3
              refine ⟨D, (List.range (min (partsOf r).length ds.length)).map fun i => partB m ((partsOf r).getD i "") (ds.getD i .none), rfl, .inl (.inl (by rw [h3, List.map_map]; rfl)), ?_⟩
              have := q H3 (s1.trans s3)
              rw [er, decide_eq_true el, Bool.true_and, ← zip_all] at this
              exact this
          · rw [ruleB_not (fun x es z => ns x (List.cons.inj (PyData.tuple.inj z)).1)] at q0
            exact ⟨.ref a, rfl, a, _, 0, _, rfl, rfl, ht.sq, i0, _, _, .type t0, .type "str", false, rfl, .ty "str", ty0, kit_ty kt0, _, rfl, iteP rfl (iteP rfl q0)⟩
    · rw [ruleB_not (fun x ds z => nt _ z)] at q0
      exact rd_isi (x := v) (T := t) rfl ty kt ⟨_, rfl, iteP rfl (iteP rfl q0)⟩
end
end Lh

namespace Lh
open PySem PySem.Spec PyProof.Rows L2
/-! ### more words around exceptions: one class in a clause, keywords and methods within a suite -/
theorem seq_useN {t u : TS} {D : Ends} {σ : L2.St} {H : Hp} (Φ : L2.St → Hp → Prop) (a : ∀ N : L2.St → Hp → Prop, (∀ σ H, Φ σ H → N σ H) → t { D with nx := N } σ H) (b : ∀ σ H, Φ σ H → u D σ H) : tSeq t u D σ H := a (u D) b
theorem gname_step {i : Nat} {v : V} {σ : L2.St} {H : Hp} {D : L2.St → Hp → Prop} (h : D (σ.set i (some v)) H) : gName i v σ H D := h
theorem seq_asg {v : V} {i : Nat} {u : TS} {D : Ends} {σ : L2.St} {H : Hp} (h : u D (σ.set i (some v)) H) : tSeq (tAsg (tC v) (gName i)) u D σ H := h
section
variable {X : Cx} {x : Str} {c1 : Value} {p1 : Pos}
theorem tests1 (hc1 : Names X x c1) : Tests X (.Name x p1) (fun cls => PySem.W.exmOne X.K cls c1 = some true) := by
  intro pins σ H s a oa va cls d I ga za da na ap one R E q
  refine named I ga da na ap hc1 ?_
  have knd : PySem.W.Looks (model X.prog X.w) s.heap (typeOf (.ref a)) cls := fun _ _ _ _ k q => wpAny_typeOf_ref (k _ _ ga) (za.1.symm ▸ q)
  exact (PySem.W.exm_one (M := model X.prog X.w) I.kIn knd one).here (q s.heap fun _ _ z => z)
end
section
variable {X : Cx} {CX : CXT} {k n : Nat} {f : Addr} {fd : FuncData} {ps ks : List Str} {sp : Sp} {E : L2.St → XK} {x : Str} {p pos : Pos} {e : Expr} {es : List Expr} {kws : List Keyword} {t tk : TA} {g : List Value → List Value → List Value} {gV : List V → List V → List V}
def tCallNS (n m : Nat) (sp : Sp) (gV : List V → List V → List V) (E : L2.St → XK) (t tk : TA) : TE := fun σ H Q => t σ H fun vs H1 => tk σ H1 fun zs H2 => vs.length = n ∧ zs.length = m ∧ sp (gV vs zs) H2 Q (E σ)
/-- f(e, .., k = v, ..) where what it may let out is caught by the slots -/
theorem pe_callNS (F : FnOk X.prog X.w X.K X.mg X.base CX k f fd ps sp) (hr : Room k X.A) (hg : Gl X x) (hm : X.mg x = some (.ref f)) (hk : PySem.W.keepIn X.K (.ref f) = true) (hb : KBn X.K fd ps n ks g gV) (hx : ∀ σ, PassesAt CX X σ (E σ))
    (ha : PA X (e :: es) t) (hkw : PK X kws tk) (hall : (backToKw pos (keywordEach kws X.env)).all (·.1.isSome) = true := by rfl) (hks : (backToKw pos (keywordEach kws X.env)).filterMap (·.1) = ks := by rfl)
    (hdb : (x == ("__debug__" : Str)) = false := by decide) (he : starEach (e :: es) X.env = (false, eval e X.env) :: starEach es X.env := by rfl)
    (hpl : ((backTo pos (starEach (e :: es) X.env)).any (·.1) || (backToKw pos (keywordEach kws X.env)).any (·.1.isNone)) = false := by rfl) :
    PE X (.Call (.Name x p) (e :: es) kws pos) (tCallNS n ks.length sp gV E t tk) := by
  constructor
  intro pins s σ H Q I h
  refine wpAny_Call_Name_kw (ld_glob I hg hm ?_ hdb)
  refine PySem.W.callWith_KW (h₀ := X.base) I.ok.mod.kin hk hall (thn (ha.run pos pins s σ H _ I h) ?_) hpl he
  rintro us s1 ⟨vs, H1, I1, r, q⟩
  refine thn (hkw.run pos pins s1 σ H1 _ I1 q) ?_
  rintro ws s2 ⟨zs, H2, I2, rz, l1, l2, q2⟩
  refine ⟨I2.kIn, ?_⟩
  rw [hks]
  have r2 := hb.rel r rz
  refine wpAny_call (codeAny_mono (F.run X.A X.stack s2 H2 ⟨us, ks.zip ws⟩ (g us ws) (gV vs zs) Q (E σ) hr I2.env0 (hb.to s2 us ws I2.kIn (r.length.symm.trans l1) (rz.length.symm.trans l2)) r2 q2) ?_)
  intro z s3 hq
  match z with
  | .error er => exact hx σ pins H2 s2 er s3 I2 hq
  | .ok (.ret u) => exact I2.after hq
  | .ok .next => exact hq.elim
  | .ok .brk => exact hq.elim
  | .ok .cont => exact hq.elim
end
section
variable {X : Cx} {CX : CXT} {k n : Nat} {f C : Addr} {fd : FuncData} {ps ks : List Str} {sp : Sp} {E : L2.St → XK} {m : Str} {apos pos : Pos} {e o : Expr} {es : List Expr} {kw : Keyword} {kws : List Keyword} {ta : TE} {t tk : TA} {g : List Value → List Value → List Value} {gV : List V → List V → List V}
def tMethS (C : Addr) (m : Str) (sp : Sp) (E : L2.St → XK) (ta : TE) (t : TA) : TE := fun σ H Q => ta σ H fun x H1 => ∃ (a dx : Addr) (fs : List (Str × V)), x = .ref a ∧ H1 a = some (.ins C dx fs) ∧ fs.lookup m = none ∧ t σ H1 fun vs H2 => sp (.ref a :: vs) H2 Q (E σ)
/-- o.m(e, ..) where what it may let out is caught by the slots -/
theorem pe_methS {pl : Sem Bool} (he : PE X o ta) (c : Cls X.K C) (hm : Meth X.K C m f) (F : FnOk X.prog X.w X.K X.mg X.base CX k f fd ps sp) (hr : Room k X.A) (hb : Binds X.K fd ps []) (hx : ∀ σ, PassesAt CX X σ (E σ)) (ha : PA X (e :: es) t)
    (hst : starEach (e :: es) X.env = (false, eval e X.env) :: starEach es X.env := by rfl) (hpl : (backTo pos (starEach es X.env)).any (·.1) = false := by rfl)
    (ht : eval (.Call (.Attribute o m apos) (e :: es) [] pos) X.env = (do
      let ov ← eval o X.env
      standAt apos.atName
      let (f, first) ← holding [ov] (getMethod ov m pl)
      callWith pos f first (backTo pos (starEach (e :: es) X.env)) (backToKw pos (keywordEach [] X.env))) := by rfl) :
    PE X (.Call (.Attribute o m apos) (e :: es) [] pos) (tMethS C m sp E ta t) := by
  constructor
  intro pins s σ H Q I h
  refine PySem.W.methodCall_KW (pl := pl) (thn (he.run pins s σ H _ I h) ?_) ht
  rintro u s1 ⟨x, H1, I1, rx, a, dx, fs, ex, ea, l, q⟩
  subst ex
  cases (show u = Value.ref a from rx)
  refine getmeth_ok I1 ea c hm l ?_
  refine PySem.W.callWith_K (first := [.ref a]) (h₀ := X.base) I.ok.mod.kin hm.kp (thn (ha.run pos pins s1 σ H1 _ I1 q) ?_) hst hpl
  rintro us s2 ⟨vs, H2, I2, r, q2⟩
  exact ⟨I2.kIn, run_fnS (us := .ref a :: us) (vs := .ref a :: vs) F hr hb (hx σ) I2 (.cons rfl r) q2⟩
end
end Lh

namespace Lh
open PySem PySem.Spec PyProof.Rows L2
/-! ### words of objects: made within a suite, by keywords, shown by repr, asked of by isinstance -/
section
variable {X : Cx} {CX : CXT} {k n : Nat} {f C : Addr} {fd : FuncData} {ps ks : List Str} {sp : Sp} {E : L2.St → XK} {x m : Str} {p apos pos : Pos} {e o : Expr} {es : List Expr} {kw : Keyword} {kws : List Keyword} {ta : TE} {t tk : TA} {g : List Value → List Value → List Value} {gV : List V → List V → List V}
def tMakeS (C : Addr) (sp : Sp) (E : L2.St → XK) (t : TA) : TE := fun σ H Q => t σ H fun vs H1 => ∀ x dx, H1 x = none → H1 dx = none → dx ≠ x →
  sp (.ref x :: vs) (upd (upd H1 dx (.own x)) x (.ins C dx [])) (fun v H2 => v = .non ∧ Q (.ref x) H2) (fun cls d H2 => ∀ (H1' : Hp), H1' = H1 → E σ cls d H2)
/-- what a call within a suite may let out from a heap that has grown -/
def PassesMk (CX : CXT) (X : Cx) (σ : L2.St) (E : XK) : Prop := ∀ (pins : List (Addr × Obj)) (H : Hp) (s : Shared) (e : Value) (s' : Shared), Inv X pins σ H s → CX X.stack H s E e s' → X.xe e s'
/-- C(e, ..) where what its __init__ may let out is caught by the slots -/
theorem pe_makeS (M : Mk X.K C f) (F : FnOk X.prog X.w X.K X.mg X.base CX k f fd ps sp) (hr : Room (k + 1) X.A) (hg : Gl X x) (hm : X.mg x = some (.ref C)) (hb : Binds X.K fd ps []) (hx : ∀ σ, PassesAt CX X σ (E σ))
    (ha : PA X (e :: es) t) (hdb : (x == ("__debug__" : Str)) = false := by decide) (he : starEach (e :: es) X.env = (false, eval e X.env) :: starEach es X.env := by rfl) (hpl : (backTo pos (starEach es X.env)).any (·.1) = false := by rfl) :
    PE X (.Call (.Name x p) (e :: es) [] pos) (fun σ H Q => t σ H fun vs H1 => ∀ x dx, H1 x = none → H1 dx = none → dx ≠ x → sp (.ref x :: vs) (upd (upd H1 dx (.own x)) x (.ins C dx [])) (fun v H2 => v = .non ∧ Q (.ref x) H2) (E σ)) := by
  constructor
  intro pins s σ H Q I h
  refine wpAny_Call_Name_kw (ld_glob I hg hm ?_ hdb)
  refine PySem.W.callWith_K (h₀ := X.base) I.ok.mod.kin M.kp (thn (ha.run pos pins s σ H _ I h) ?_) he hpl
  rintro us s1 ⟨vs, H1, I1, r, q⟩
  refine ⟨I1.kIn, ?_⟩
  have b := s1.heap.objs.size
  have hq := q (s1.heap.objs.size + 1) s1.heap.objs.size (I1.hok.fresh (Nat.le_succ _)) (I1.hok.fresh (Nat.le_refl _)) (Nat.ne_of_lt (Nat.lt_succ_self _))
  have I2 := Inv.made (C := C) I1
  have r2 : Vals (V.ref (s1.heap.objs.size + 1) :: vs) (Value.ref (s1.heap.objs.size + 1) :: us) := .cons rfl r
  have hl : (Value.ref (s1.heap.objs.size + 1) :: us ++ []).length = ps.length := by
    rw [List.append_nil, ← r2.length]
    exact F.len _ _ _ _ hq
  have bb := hb _ (Value.ref (s1.heap.objs.size + 1) :: us) I2.kIn hl
  rw [List.append_nil] at bb
  refine wpAny_call (make_map (f := f) I1.kIn M.makes M.init (beq_iff_eq.mp M.fn) (codeAny_mono (F.run _ X.stack _ _ ⟨Value.ref (s1.heap.objs.size + 1) :: us, []⟩ (Value.ref (s1.heap.objs.size + 1) :: us) _ _ (E σ) (hr.make C us [])
    (I2.env0.make C us []) bb r2 hq) ?_))
  intro z s2 back
  match z with
  | .error er => exact hx σ pins _ _ er s2 I2 back
  | .ok (.ret u) =>
    obtain ⟨v, H', I3, rv, ev, q3⟩ := I2.after back
    subst ev
    exact ⟨rv, V.ref (s1.heap.objs.size + 1), H', I3, rfl, q3⟩
  | .ok .next => exact back.elim
  | .ok .brk => exact back.elim
  | .ok .cont => exact back.elim
end
section
variable {X : Cx} {CX : CXT} {k n : Nat} {f C : Addr} {fd : FuncData} {ps ks : List Str} {sp : Sp} {E : XK} {x m : Str} {p apos pos : Pos} {e o : Expr} {es : List Expr} {kws : List Keyword} {ta : TE} {t tk : TA} {g : List Value → List Value → List Value} {gV : List V → List V → List V}
/-- C(k = v, ..) -/
theorem pe_makeN0 (M : Mk X.K C f) (F : FnOk X.prog X.w X.K X.mg X.base CX k f fd ps sp) (hr : Room (k + 1) X.A) (hg : Gl X x) (hm : X.mg x = some (.ref C)) (hb : KBn X.K fd ps 1 ks g gV) (hx : Passes CX X E)
    (hkw : PK X kws tk) (hall : (backToKw pos (keywordEach kws X.env)).all (·.1.isSome) = true := by rfl) (hks : (backToKw pos (keywordEach kws X.env)).filterMap (·.1) = ks := by rfl)
    (hdb : (x == ("__debug__" : Str)) = false := by decide) (hpl : ((backTo pos (starEach [] X.env)).any (·.1) || (backToKw pos (keywordEach kws X.env)).any (·.1.isNone)) = false := by rfl) :
    PE X (.Call (.Name x p) [] kws pos) (tMakeN C 0 ks.length sp gV E tNil tk) := by
  constructor
  intro pins s σ H Q I h
  refine wpAny_Call_Name_kw (ld_glob I hg hm ?_ hdb)
  refine PySem.W.callWith_KW0 (h₀ := X.base) I.ok.mod.kin M.kp hall (thn (hkw.run pos pins s σ H _ I h) ?_) hpl
  rintro ws s2 ⟨zs, H2, I2, rz, l1, l2, q2⟩
  refine ⟨I2.kIn, ?_⟩
  rw [hks]
  exact run_makeN (us := []) (vs := []) M F hr hb hx I2 .nil rz l1 l2 q2
/-- o.m(k = v, ..) -/
theorem pe_methN0 {pl : Sem Bool} (he : PE X o ta) (c : Cls X.K C) (hm : Meth X.K C m f) (F : FnOk X.prog X.w X.K X.mg X.base CX k f fd ps sp) (hr : Room k X.A) (hb : KBn X.K fd ps 1 ks g gV) (hx : Passes CX X E) (hkw : PK X kws tk)
    (hall : (backToKw pos (keywordEach kws X.env)).all (·.1.isSome) = true := by rfl) (hks : (backToKw pos (keywordEach kws X.env)).filterMap (·.1) = ks := by rfl)
    (hpl : ((backTo pos (starEach [] X.env)).any (·.1) || (backToKw pos (keywordEach kws X.env)).any (·.1.isNone)) = false := by rfl)
    (ht : eval (.Call (.Attribute o m apos) [] kws pos) X.env = (do
      let ov ← eval o X.env
      standAt apos.atName
      let (f, first) ← holding [ov] (getMethod ov m pl)
      callWith pos f first (backTo pos (starEach [] X.env)) (backToKw pos (keywordEach kws X.env))) := by rfl) :
    PE X (.Call (.Attribute o m apos) [] kws pos) (fun σ H Q => ta σ H fun x H1 => ∃ (a dx : Addr) (fs : List (Str × V)), x = .ref a ∧ H1 a = some (.ins C dx fs) ∧ fs.lookup m = none ∧ tk σ H1 fun zs H2 => zs.length = ks.length ∧ sp (gV [.ref a] zs) H2 Q E) := by
  constructor
  intro pins s σ H Q I h
  refine PySem.W.methodCall_KW (pl := pl) (thn (he.run pins s σ H _ I h) ?_) ht
  rintro u s1 ⟨x, H1, I1, rx, a, dx, fs, ex, ea, l, q⟩
  subst ex
  cases (show u = Value.ref a from rx)
  refine getmeth_ok I1 ea c hm l ?_
  refine PySem.W.callWith_KW0 (first := [.ref a]) (h₀ := X.base) I.ok.mod.kin hm.kp hall (thn (hkw.run pos pins s1 σ H1 _ I1 q) ?_) hpl
  rintro ws s2 ⟨zs, H2, I2, rz, l2, q2⟩
  refine ⟨I2.kIn, ?_⟩
  rw [hks]
  exact run_fnN (us := [.ref a]) (vs := [.ref a]) F hr hb hx I2 (.cons rfl .nil) rz rfl l2 q2
end
/-- repr(o), o an object whose class tells how -/
theorem run_repr {X : Cx} {k : Nat} {f C : Addr} {fd : FuncData} {ps : List Str} {sp : Sp} (me : Meth X.K C "__repr__" f) (F : FnOk X.prog X.w X.K X.mg X.base CX0 k f fd ps sp) (hb : Binds X.K fd ps []) (hr : Room (k + 1) X.A) (hu : X.A.in1.units < cLine) :
    CallR X (.builtin "repr") (fun xs H Q => ∃ (x dx : Addr) (fs : List (Str × V)), xs = [.ref x] ∧ H x = some (.ins C dx fs) ∧ sp [.ref x] H (fun v H' => ∃ y : Str, v = .str y ∧ Q (.str y) H') E0) := by
  intro pins s σ H xs us Q I r h
  obtain ⟨x, dx, fs, rfl, hx, h⟩ := h
  rw [Vals.ref1 r]
  obtain ⟨m, fr⟩ := I.fr
  obtain ⟨mA, O, _⟩ := ins_get I.hok hx
  obtain ⟨od, J, _⟩ := O.look
  refine PySem.W.repr_K hu fr I.mod.kin J me.at_ me.fn ?_
  have e0 := I.env0
  have e1 : Env0 X.prog X.w X.K X.mg X.base X.A.in1 X.stack s H := ⟨e0.frames, e0.mod, e0.bs, e0.bsz, e0.funs, e0.frf, e0.hok, e0.bare⟩
  have hl : ([Value.ref x] ++ []).length = ps.length := by rw [← F.len _ _ _ _ h]; rfl
  have bb := hb s [.ref x] I.kIn hl
  rw [List.append_nil] at bb
  have vv : Vals [V.ref x] [Value.ref x] := .cons rfl .nil
  have run := F.run X.A.in1 X.stack s H ⟨[.ref x], []⟩ [.ref x] [.ref x] _ E0 hr.in1 e1 bb vv h
  refine wpAny_call (codeAny_mono run ?_)
  intro z t ht
  match z with
  | .error _ => exact ht.elim
  | .ok .next => exact ht.elim
  | .ok .brk => exact ht.elim
  | .ok .cont => exact ht.elim
  | .ok (.ret u) =>
    obtain ⟨v, H', J2, rv, y, rfl, q⟩ := I.after ht
    obtain ⟨tk, rfl⟩ := rv
    exact ⟨.str y, H', J2.tok _, ⟨_, rfl⟩, q⟩
theorem mro_list : fastBuiltinMro "list" = some [.type "list", .type "object"] := by kernel_rfl
theorem mro_tuple : fastBuiltinMro "tuple" = some [.type "tuple", .type "object"] := by kernel_rfl
theorem mro_none : fastBuiltinMro "NoneType" = some [.type "NoneType", .type "object"] := by kernel_rfl
theorem kit_none {K : PySem.W.Frag} {C : Addr} (hd : PySem.W.hasDictIn K C = true) (t : PySem.W.typeIn K (.ref C) = some (.type "type")) : PySem.W.kitOne K (.type "NoneType") (.ref C) = some false := by
  obtain ⟨cd, hc, _⟩ := PySem.W.any_some hd
  unfold PySem.W.kitOne PySem.W.kitCls
  rw [if_neg (by simp)]
  dsimp only
  rw [hc, t]
  show (fastBuiltinMro "NoneType").map _ = _
  rw [mro_none]; rfl
theorem sub_off (K : PySem.W.Frag) (C : Addr) : PySem.W.subIn K (.type "list") (.ref C) = some false ∧ PySem.W.subIn K (.type "tuple") (.ref C) = some false := by
  constructor
  · show (fastBuiltinMro "list").map _ = _
    rw [mro_list]; rfl
  · show (fastBuiltinMro "tuple").map _ = _
    rw [mro_tuple]; rfl
theorem at_off {X : Cx} {pins : List (Addr × Obj)} {σ : L2.St} {H : Hp} {s : Shared} {b : Addr} {xs : List V} (I : Inv X pins σ H s) : (H b = some (.lst xs) → PySem.W.KitAt b "list" s.heap) ∧ (TupAt H b xs → PySem.W.KitAt b "tuple" s.heap) := by
  constructor
  · intro eb
    obtain ⟨_, _, n, _, h1⟩ := (show ObjOk X.prog X.w H s.heap b (.lst xs) from I.hok b _ eb)
    exact ⟨_, h1, rfl⟩
  · rintro (eb | ⟨o, _, eb⟩)
    · obtain ⟨_, _, _, o, h1, h2, _⟩ := (show ObjOk X.prog X.w H s.heap b (.tup xs) from I.hok b _ eb)
      exact ⟨o, h1, h2⟩
    · obtain ⟨_, _, _, _, o2, h1, h2, _⟩ := (show ObjOk X.prog X.w H s.heap b (.frz o (.tup xs)) from I.hok b _ eb)
      exact ⟨o2, h1, h2⟩
/-- what Python makes itself is no instance of an own class -/
theorem kit_off {K : PySem.W.Frag} {C : Addr} (hd : PySem.W.hasDictIn K C = true) (t : PySem.W.typeIn K (.ref C) = some (.type "type")) : PySem.W.kitOne K (.type "list") (.ref C) = some false ∧ PySem.W.kitOne K (.type "tuple") (.ref C) = some false := by
  obtain ⟨cd, hc, _⟩ := PySem.W.any_some hd
  have off := sub_off K C
  constructor
  · unfold PySem.W.kitOne PySem.W.kitCls
    rw [if_neg (by simp)]
    dsimp only
    rw [hc, t]
    exact off.1
  · unfold PySem.W.kitOne PySem.W.kitCls
    rw [if_neg (by simp)]
    dsimp only
    rw [hc, t]
    exact off.2
/-- == of an object and a list or a tuple: its class's own word -/
theorem op_eqOff {X : Cx} {k : Nat} {f C : Addr} {fd : FuncData} {ps : List Str} {sp : Sp}
    (me : Meth X.K C "__eq__" f) (F : FnOk X.prog X.w X.K X.mg X.base CX0 k f fd ps sp) (hb : Binds X.K fd ps []) (hr : Room (k + 1) X.A) :
    OpR X (compareOp .Eq) (fun x y H Q => ∃ (a b dx : Addr) (fs : List (Str × V)) (xs : List V), x = .ref a ∧ y = .ref b ∧ H a = some (.ins C dx fs) ∧ (H b = some (.lst xs) ∨ TupAt H b xs) ∧ sp [.ref a, .ref b] H (fun v H' => ∃ t : Bool, v = .bl t ∧ Q (.bl t) H') E0) := by
  intro pins s σ H x y v u Q I rx ry hq
  obtain ⟨a, b, dx, fs, xs, rfl, rfl, ha, hb', h⟩ := hq
  cases rx
  cases ry
  show wpAny (model X.prog X.w) X.A (richCompare .Eq (.ref a) (.ref b)) (EP X pins σ Q) X.xe s
  obtain ⟨mA, J, _⟩ := ins_get I.hok ha
  obtain ⟨od, J, _⟩ := J.look
  obtain ⟨m, hF⟩ := I.fr
  have run : wpAny (model X.prog X.w) X.A (call (.ref f) [.ref a, .ref b]) (PySem.W.CmpBack (EP X pins σ Q)) X.xe s := by
    have e1 : Env0 X.prog X.w X.K X.mg X.base X.A X.stack s H := I.env0
    have hl : ([Value.ref a, Value.ref b] ++ []).length = ps.length := by rw [← F.len _ _ _ _ h]; rfl
    have bb := hb s [.ref a, .ref b] I.kIn hl
    rw [List.append_nil] at bb
    have vv : Vals [V.ref a, V.ref b] [Value.ref a, Value.ref b] := .cons rfl (.cons rfl .nil)
    refine wpAny_call (codeAny_mono (F.run X.A X.stack s H ⟨[.ref a, .ref b], []⟩ [.ref a, .ref b] [.ref a, .ref b] _ E0 (hr.mono (Nat.le_succ _)) e1 bb vv h) ?_)
    intro z t ht
    match z with
    | .error _ => exact ht.elim
    | .ok .next => exact ht.elim
    | .ok .brk => exact ht.elim
    | .ok .cont => exact ht.elim
    | .ok (.ret u) =>
      obtain ⟨v, H', J2, rv, t2, rfl, q⟩ := I.after ht
      cases (show u = Value.bool t2 from rv)
      exact ⟨.bl t2, H', J2, rfl, q⟩
  have off := sub_off X.K C
  rcases hb' with e | e
  · exact PySem.W.cmp_K (op := .Eq) (tb := .type "list") hr.units0 hF I.ok.mod.kin J (PySem.W.kitAt_ty _ _ ((at_off I).1 e)) (by simp [PySem.W.notFirst, off.1]) me.at_ me.fn run
  · exact PySem.W.cmp_K (op := .Eq) (tb := .type "tuple") hr.units0 hF I.ok.mod.kin J (PySem.W.kitAt_ty _ _ ((at_off I).2 e)) (by simp [PySem.W.notFirst, off.2]) me.at_ me.fn run
theorem op_eqInsN {X : Cx} {k : Nat} {f C : Addr} {fd : FuncData} {ps : List Str} {sp : Sp}
    (me : Meth X.K C "__eq__" f) (F : FnOk X.prog X.w X.K X.mg X.base CX0 k f fd ps sp) (hb : Binds X.K fd ps []) (hr : Room (k + 1) X.A) :
    OpR X (compareOp .Eq) (fun x y H Q => ∃ (a b dx dy : Addr) (fs gs : List (Str × V)), x = .ref a ∧ y = .ref b ∧ H a = some (.ins C dx fs) ∧ H b = some (.ins C dy gs) ∧ sp [.ref a, .ref b] H (fun v H' => ∃ t : Bool, v = .bl t ∧ Q (.bl t) H') E0) := by
  intro pins s σ H x y v u Q I rx ry hq
  obtain ⟨a, b, dx, dy, fs, gs, rfl, rfl, ha, hb', h⟩ := hq
  cases rx
  cases ry
  show wpAny (model X.prog X.w) X.A (richCompare .Eq (.ref a) (.ref b)) (EP X pins σ Q) X.xe s
  obtain ⟨mA, J, _⟩ := ins_get I.hok ha
  obtain ⟨mB, J', _⟩ := ins_get I.hok hb'
  obtain ⟨od, J, _⟩ := J.look
  obtain ⟨od', J', _⟩ := J'.look
  obtain ⟨m, hF⟩ := I.fr
  refine PySem.W.cmp_K (op := .Eq) (tb := .ref C) hr.units0 hF I.ok.mod.kin J J'.type (by simp [PySem.W.notFirst]) me.at_ me.fn ?_
  have e1 : Env0 X.prog X.w X.K X.mg X.base X.A X.stack s H := I.env0
  have hl : ([Value.ref a, Value.ref b] ++ []).length = ps.length := by rw [← F.len _ _ _ _ h]; rfl
  have bb := hb s [.ref a, .ref b] I.kIn hl
  rw [List.append_nil] at bb
  have vv : Vals [V.ref a, V.ref b] [Value.ref a, Value.ref b] := .cons rfl (.cons rfl .nil)
  have run := F.run X.A X.stack s H ⟨[.ref a, .ref b], []⟩ [.ref a, .ref b] [.ref a, .ref b] _ E0 (hr.mono (Nat.le_succ _)) e1 bb vv h
  refine wpAny_call (codeAny_mono run ?_)
  rintro (e | fl) t ht
  · exact False.elim ht
  cases fl with
  | next => exact False.elim ht
  | brk => exact False.elim ht
  | cont => exact False.elim ht
  | ret z =>
    obtain ⟨v, H', J2, rv, n, rfl, q⟩ := I.after ht
    cases (show z = Value.bool n from rv)
    exact ⟨.bl n, H', J2, rfl, q⟩
end Lh

namespace Lh
open PySem PySem.Spec PyProof.Rows L2
theorem mk_raise {C : Addr} {f : Str} {v : V} {i : Nat} {σ : L2.St} {H : Hp} {E : XK} (hv : σ[i]? = some (some v)) (h : ∀ (d : Addr) (H' : Hp), Same H H' → H d = none → H' d = some (.xd [(f, v)]) → E (.ref C) (some d) H') :
    tMkO C (spInitF C f) [] (tCons (tVar i) tNil) σ H fun a b c => E a b c := by
  refine ⟨v, hv, by show 1 ≤ 1000; decide, fun e ne => ?_⟩
  refine ⟨e, v, rfl, upd_same, fun d nd nde => ⟨rfl, d, [(f, v)], upd_same, ?_, ?_, ?_⟩⟩
  · rw [upd_ne nde, upd_same]
  · rw [upd_ne nde] at nd; exact nd
  · rw [upd_ne nde] at nd
    refine h d _ (fun b o hbo => ?_) nd upd_same
    have n1 : b ≠ e := ne_of_none hbo ne
    have n2 : b ≠ d := ne_of_none hbo nd
    rw [upd_ne n2, L2.del_ne n1, upd_ne n1, upd_ne n2, upd_ne n1]
    exact hbo
section
variable {P : Program} {w : World} {K : PySem.W.Frag} {mg : Str → Option Value} {base : Heap}
theorem ok_BadHall_init (T : Txt K mg w) : FnOk P w K mg base CX0 1 T.f_BadHall_init T.fd_BadHall_init p_BadHall_init (spInitF T.C_BadHall "person") := by
  refine T.F_BadHall_init.ok sc_BadHall_init (fun vs H Q E h => ?_) (fun cdv A outer s H vs Q E hr h => ?_)
  · obtain ⟨a, v, rfl, _⟩ := h
    rfl
  · obtain ⟨a, v, rfl, ha, q⟩ := h
    refine ⟨_, (pss_cons (ps_expr (pe_veinit (by rfl) T.m_ValueError T.vi_ValueError (pa_cons (pv 0) (pa_cons pe_str pa_nil))))
      (pss_one (ps_ost (pv 0) (pv 1)))), ?_⟩
    refine ⟨.ref a, rfl, a, T.C_BadHall, _, rfl, by show 1 ≤ 1000; decide, T.ox_BadHall, ha, ?_⟩
    exact ⟨v, rfl, .ref a, rfl, a, T.C_BadHall, rfl, T.ox_BadHall, T.na_BadHall_person, .inl ⟨ha, q⟩⟩
/-- a list of rules, the first so many of them fine; the next one, if there is one, is none -/
def spInitX (C X : Addr) : Sp := fun vs H Q E => ∃ (x dx l : Addr) (us : List V) (k : Nat) (rs : List Rule), vs = [.ref x, .ref l] ∧ H x = some (.ins C dx []) ∧ H l = some (.lst us) ∧ 1 ≤ us.length ∧ us.length ≤ 12 ∧ k ≤ us.length ∧ RulesAt H (us.take k) rs ∧ (∀ r ∈ rs, r.Wf us.length) ∧
  (k = us.length → ∀ H', (∀ b o, b ≠ x → H b = some o → H' b = some o) → HallAt C H' x rs → Q .non H') ∧
  (∀ v, us[k]? = some v → (∃ (bx : Addr) (d : PyData), Rp bx H v d ∧ RFine d ∧ ruleB us.length d = false) ∧ NoP X E H k)
set_option maxHeartbeats 2000000 in
theorem ok_Hall_initX (T : Txt K mg w) : FnOk P w K mg base (L2.CX P w) 7 T.f_Hall_init T.fd_Hall_init p_Hall_init (spInitX T.C_Hall T.C_BadHall) := by
  have G_is_rule := fn_or (ok_is_rule (P := P) (w := w) (base := base) T) (ok_is_ruleD (P := P) (w := w) (base := base) T)
  have G_BadHall_init := ok_BadHall_init (P := P) (w := w) (base := base) T
  refine T.F_Hall_init.okX sc_Hall_init (fun vs H Q E h => ?_) (fun cdv A outer s H vs Q E hr h => ?_)
  · obtain ⟨x, dx, l, us, k, rs, rfl, _⟩ := h
    rfl
  · obtain ⟨x, dx, l, us, k, rs, rfl, hx, hl, l1, l12, lk, ra, wf, qQ, qE⟩ := h
    have lr : rs.length = k := by rw [← ra.length, List.length_take]; omega
    refine ⟨_, (pss_cons (ps_for PassesOwn.leaving rfl (pi_enum (by rfl) T.m_enumerate (pa_cons (pv 1) pa_nil)) (pg_tup rfl (pgs_cons (pg_name (i := 2) sc_Hall_init.nd rfl (.inl rfl)) (pgs_cons (pg_name (i := 3) sc_Hall_init.nd rfl (.inl rfl)) pgs_nil)))
        (pss_one (ps_if (pt_not (pt_val (pe_call G_is_rule (hr.mono (by decide)) (by rfl) T.g_is_rule T.F_is_rule.kp T.b_is_rule .nil pass0 (pa_cons (pe_callB call_len_seq (by rfl) T.m_len (by decide +kernel) (pa_cons (pv 1) pa_nil)) (pa_cons (pv 3) pa_nil)))))
          (pss_one (ps_raise rfl (takes_of rfl rfl rfl rfl) (pmk_oex T.ox_BadHall T.me_BadHall_init.1 T.ti_BadHall G_BadHall_init (hr.mono (by decide)) T.b_BadHall_init .nil pass0 (by rfl) T.g_BadHall (pa_cons (pv 2) pa_nil))))
          pss_nil)))
      (pss_one (ps_fld (pv 0) (pe_callTy call_tuple_of (by rfl) T.m_tuple (by decide +kernel) (pa_cons (pv 1) pa_nil)) rfl))), ?_⟩
    refine ⟨.ref l, rfl, l, _, rfl, .inl (.inl hl), ?_⟩
    refine for_it (walk_enum (xs := us)) (fun i σ H3 => ∃ y2 y3 : Option V, σ = [some (.ref x), some (.ref l), y2, y3] ∧ Same H H3 ∧ i ≤ k) ⟨none, none, rfl, Same.refl H, Nat.zero_le _⟩ ?_ ?_ ?_
    · rintro i σ H3 _ ⟨y2, y3, rfl, s3, _⟩
      exact .inl (.inl (s3 _ _ hl))
    · rintro i y σ H3 H4 hi ⟨y2, y3, rfl, s3, ik⟩ ⟨t, x1, x2, rfl, nt, rfl, e1, e2⟩
      have e1' : x1 = .int (i : Nat) := (Option.some.inj e1).symm
      subst e1'
      have sT := s3.trans (same_upd (o := .tup [.int (i : Nat), x2]) nt)
      refine ⟨t, _, rfl, .inl (.inl upd_same), rfl, _, _, rfl, _, _, rfl, rfl, ?_⟩
      refine ⟨.ref l, rfl, l, _, rfl, .inl (.inl (.inl (sT _ _ hl))), x2, rfl, ?_⟩
      by_cases c : i < k
      · obtain ⟨v, hv, rv⟩ := ra.get i (by omega)
        have hv' : us[i]? = some v := by rw [List.getElem?_take_of_lt c] at hv; exact hv
        have ex : x2 = v := Option.some.inj (e2.symm.trans hv')
        subst ex
        have wfi := wf _ (List.getElem_mem (by omega : i < rs.length))
        refine .inl ⟨(us.length : Int), x2, rs[i], rfl, rv.keep (Keep.same sT), wfi, (wf_len wfi (by omega) (by omega)).1, fun H5 s5 => ⟨_, rfl, iteN rfl ?_⟩⟩
        exact ⟨_, _, rfl, sT.trans s5, c⟩
      · have ek : i = k := by omega
        subst ek
        obtain ⟨⟨bx, d, rd, rf, rb⟩, no⟩ := qE x2 e2
        refine .inr ⟨bx, (us.length : Int), x2, d, rfl, rd.ext (Ext.of sT), rf, fun H5 s5 => ?_⟩
        rw [rb]
        refine ⟨_, rfl, iteP rfl ?_⟩
        exact mk_raise (i := 2) rfl fun dd H' s' nd hd => no dd H' (sT.trans (s5.trans s')) ((sT.trans s5).free nd) hd
    · rintro σ H3 ⟨y2, y3, rfl, s3, ik⟩
      have ek : k = us.length := by omega
      rw [ek, List.take_length] at ra
      refine ⟨.ref l, rfl, l, us, rfl, .inl ⟨.inl (.inl (s3 _ _ hl)), fun t nt => ?_⟩⟩
      have s4 := s3.trans (same_upd (o := .tup us) nt)
      have nxt : x ≠ t := ne_of_none (s3 _ _ hx) nt
      refine ⟨.ref x, rfl, x, T.C_Hall, dx, [], rfl, s4 _ _ hx, T.cl_Hall, T.na_Hall_kept, by show 0 < 1000; decide, ?_⟩
      have kT : Keep (upd H3 t (.tup us)) (upd (upd H3 t (.tup us)) x (.ins T.C_Hall dx (putF "kept" (.ref t) []))) := by
        refine ⟨fun a xs h => ?_, fun a o u h => ?_⟩
        · rw [upd_ne (ne_of h (s4 _ _ hx) (by intro z; cases z))]; exact h
        · rw [upd_ne (ne_of h (s4 _ _ hx) (by intro z; cases z))]; exact h
      refine qQ ek _ (fun b ob nb hb => ?_) ⟨dx, t, us, upd_same, .inl (kT.tup _ _ upd_same), (ra.keep (Keep.same s4)).keep kT⟩
      rw [upd_ne nb]
      exact s4 _ _ hb
/-- the rules handed in as a tuple -/
def spInitT (C : Addr) : Sp := fun vs H Q _ => ∃ (x dx l : Addr) (us : List V) (rs : List Rule), vs = [.ref x, .ref l] ∧ H x = some (.ins C dx []) ∧ TupAt H l us ∧ RulesAt H us rs ∧ Halls rs ∧
  ∀ H', (∀ b o, b ≠ x → H b = some o → H' b = some o) → HallAt C H' x rs → Q .non H'
set_option maxHeartbeats 2000000 in
theorem ok_Hall_initT (T : Txt K mg w) : FnOk P w K mg base CX0 7 T.f_Hall_init T.fd_Hall_init p_Hall_init (spInitT T.C_Hall) := by
  have G_is_rule := ok_is_rule (P := P) (w := w) (base := base) T
  refine T.F_Hall_init.ok sc_Hall_init (fun vs H Q E h => ?_) (fun cdv A outer s H vs Q E hr h => ?_)
  · obtain ⟨x, dx, l, us, rs, rfl, _⟩ := h
    rfl
  · obtain ⟨x, dx, l, us, rs, rfl, hx, hl, ra, ⟨r0, r1, wf⟩, q⟩ := h
    have lu : us.length = rs.length := ra.length
    refine ⟨_, (pss_cons (ps_for PassesOwn.never rfl (pi_enumT (by rfl) T.m_enumerate (pa_cons (pv 1) pa_nil)) (pg_tup rfl (pgs_cons (pg_name (i := 2) sc_Hall_init.nd rfl (.inl rfl)) (pgs_cons (pg_name (i := 3) sc_Hall_init.nd rfl (.inl rfl)) pgs_nil)))
        (pss_one (ps_if (pt_not (pt_val (pe_call G_is_rule (hr.mono (by decide)) (by rfl) T.g_is_rule T.F_is_rule.kp T.b_is_rule .nil pass0 (pa_cons (pe_callB call_len_seq (by rfl) T.m_len (by decide +kernel) (pa_cons (pv 1) pa_nil)) (pa_cons (pv 3) pa_nil)))))
          (pss_one ps_never)
          pss_nil)))
      (pss_one (ps_fld (pv 0) (pe_callTy call_tuple_of (by rfl) T.m_tuple (by decide +kernel) (pa_cons (pv 1) pa_nil)) rfl))), ?_⟩
    refine ⟨.ref l, rfl, l, _, rfl, hl.sq, ?_⟩
    refine for_it (walk_enumT (xs := us)) (fun i σ H3 => ∃ y2 y3 : Option V, σ = [some (.ref x), some (.ref l), y2, y3] ∧ Same H H3) ⟨none, none, rfl, Same.refl H⟩ ?_ ?_ ?_
    · rintro i σ H3 _ ⟨y2, y3, rfl, s3⟩
      exact (hl.keep (Keep.same s3)).sq
    · rintro i y σ H3 H4 hi ⟨y2, y3, rfl, s3⟩ ⟨t, x1, x2, rfl, nt, rfl, e1, e2⟩
      obtain ⟨v, hv, rv⟩ := ra.get i (by omega)
      have ex : x2 = v := Option.some.inj (e2.symm.trans hv)
      subst ex
      have sT := s3.trans (same_upd (o := .tup [x1, x2]) nt)
      have wfi := wf _ (List.getElem_mem (by omega : i < rs.length))
      refine ⟨t, _, rfl, .inl (.inl upd_same), rfl, _, _, rfl, _, _, rfl, rfl, ?_⟩
      refine ⟨.ref l, rfl, l, _, rfl, .inr (hl.keep (Keep.same sT)).sq, x2, rfl, (us.length : Int), x2, rs[i], rfl, rv.keep (Keep.same sT), by rw [lu]; exact wfi, (wf_len wfi (by omega) (by omega)).1, fun H5 s5 => ⟨_, rfl, iteN rfl ?_⟩⟩
      exact ⟨_, _, rfl, sT.trans s5⟩
    · rintro σ H3 ⟨y2, y3, rfl, s3⟩
      have hl3 := hl.keep (Keep.same s3)
      refine ⟨.ref l, rfl, l, us, rfl, .inr ⟨hl3.sq, ?_⟩⟩
      refine ⟨.ref x, rfl, x, T.C_Hall, dx, [], rfl, s3 _ _ hx, T.cl_Hall, T.na_Hall_kept, by show 0 < 1000; decide, ?_⟩
      have kT : Keep H3 (upd H3 x (.ins T.C_Hall dx (putF "kept" (.ref l) []))) := by
        refine ⟨fun a xs h => ?_, fun a o u h => ?_⟩
        · rw [upd_ne (ne_of h (s3 _ _ hx) (by intro z; cases z))]; exact h
        · rw [upd_ne (ne_of h (s3 _ _ hx) (by intro z; cases z))]; exact h
      refine q _ (fun b ob nb hb => ?_) ⟨dx, l, us, upd_same, hl3.keep kT, (ra.keep (Keep.same s3)).keep kT⟩
      rw [upd_ne nb]
      exact s3 _ _ hb
end
end Lh

namespace Lh
open PySem PySem.Spec PyProof.Rows L2
section
variable {P : Program} {w : World} {K : PySem.W.Frag} {mg : Str → Option Value} {base : Heap}
def spWeighed : Sp := fun vs H Q _ => ∃ (a t : Addr) (l x0 : V) (own : Int) (more : List V) (ties lot : List (Int × Int)), vs = [.ref a, l] ∧ H a = some (.tup (x0 :: .int own :: .ref t :: more)) ∧ TiesAt H t ties ∧ (ties.map (·.1)).Nodup ∧ LotAt H l lot ∧ (∀ q ∈ lot, q.1 ∈ ties.map (·.1)) ∧
  ∀ H', Same H H' → Q (.int (own + (lot.map fun q => wgt ties q.1).sum)) H'
def spLeast (K : PySem.W.Frag) : Sp := fun vs H Q _ => ∃ (a : Addr) (ns : List Int), vs = [.ref a] ∧ SqL K H a (ns.map V.int) ∧ ∀ x, IsMex ns x → Q (.int x) H
end
end Lh

namespace Lh
open PySem PySem.Spec PyProof.Rows L2
section
variable {P : Program} {w : World} {K : PySem.W.Frag} {mg : Str → Option Value} {base : Heap}
def spToldOf : Sp := fun vs H Q _ => ∃ (v l : V) (r : Rule) (many : Int) (lot : List (Int × Int)), vs = [v, l] ∧ RuleAt H v r ∧ r.Wf many ∧ LotAt H l lot ∧ (∀ q ∈ lot, q.1 ∈ r.persons) ∧ ∀ (x : Int) (H' : Hp), Same H H' → Tell r lot x → Q (.int x) H'
end
end Lh

namespace Lh
open PySem PySem.Spec PyProof.Rows L2
section
variable {P : Program} {w : World} {K : PySem.W.Frag} {mg : Str → Option Value} {base : Heap}
def spLotBelow (C : Addr) : Sp := fun vs H Q _ => ∃ (x st : Addr) (p : Nat) (h : Int) (rs : List Rule) (ns : List Int) (hp : p < rs.length), vs = [.ref x, .ref st, .int p, .int h] ∧ HallAt C H x rs ∧ Halls rs ∧ TupAt H st (ns.map V.int) ∧ ns.length = rs.length ∧
  ∀ (l : Addr) (ps : List Addr) (H' : Hp), Same H H' → H l = none → H' l = some (.lst (ps.map V.ref)) → Paired (PairAtH H') ps (lotH rs[p] ns h) → Q (.ref l) H'
def spToldBelow (C : Addr) : Sp := fun vs H Q _ => ∃ (x st : Addr) (p : Nat) (h : Int) (rs : List Rule) (ns : List Int) (hp : p < rs.length), vs = [.ref x, .ref st, .int p, .int h] ∧ HallAt C H x rs ∧ Halls rs ∧ TupAt H st (ns.map V.int) ∧ ns.length = rs.length ∧
  ∀ (y : Int) (H' : Hp), Same H H' → Tell rs[p] (lotH rs[p] ns h) y → Q (.int y) H'
def spToldAt (C : Addr) : Sp := fun vs H Q _ => ∃ (x st : Addr) (p : Nat) (rs : List Rule) (ns : List Int) (h : p < rs.length), vs = [.ref x, .ref st, .int p] ∧ HallAt C H x rs ∧ Halls rs ∧ TupAt H st (ns.map V.int) ∧ ns.length = rs.length ∧
  ∀ (y : Int) (H' : Hp), Same H H' → Tell rs[p] (lotI rs[p] ns p) y → Q (.int y) H'
end
end Lh

namespace LhN
open PySem PySem.Spec PyProof.Rows
section
variable {prog : Program} {w : World} {A : Around} {E : Value → Shared → Prop} {s : Shared} {K : PySem.W.Frag} {x y C L f : Addr} {h₀ : Heap} {m : Str → Option Value} {ox oy : Obj} {od od' : Option Obj}
theorem ifBound_objNe {M : Model} {args : List Value} {Q : Option Value → Shared → Prop} (X : K.In s.heap) (I : PySem.W.InstAt s.heap x ox C od) (hs : PySem.W.findIn K (.ref C) "__ne__" = some (some (.builtin "object.__ne__")))
    (h : wpAny M A (call (.builtin "object.__ne__") (.ref x :: args)) (fun v => Q (some v)) E s) : wpAny M A (callSpecialIfBound? (.ref x) "__ne__" args) Q E s := by
  simp only [callSpecialIfBound?, bindSpecialIfBound?]
  refine wpAny_holding (wpAny_bind (wpAny_bind (wpAny_bind (I.type.here ((PySem.W.looks_findIn X hs).here ?_)))))
  refine wpAny_bind (wpAny_askSetting (wpAny_ite ?_))
  have fin : wpAny M A (call (.builtin "object.__ne__") ([.ref x] ++ args) >>= fun v => pure (some v)) Q E s := wpAny_bind (wpAny_mono h (fun v s' h' => wpAny_pure h') fun _ _ h' => h')
  split
  · exact wpAny_bind (wpAny_of_eq (F.cmp_object.ne.bind _) (wpAny_pure (by exact fin)))
  · exact wpAny_tryCatch (wpAny_bind (wpAny_of_eq (F.cmp_object.ne.bind _) (wpAny_pure (by exact fin))))
theorem entry_ne (hu : A.units < cLine) (X : K.In s.heap) (I : PySem.W.InstAt s.heap x ox C od) (hs : PySem.W.findIn K (.ref C) "__eq__" = some (some (.ref f))) (hf : PySem.W.isFn K (.ref f) = true) {Q : Fin → Shared → Prop}
    (hcall : wpAny (model prog w) A (call (.ref f) [.ref x, .ref y]) (fun v s' => ∃ b, v = .bool b ∧ Q (.done (.ret (.bool (!b)))) s') E s) :
    wpAny (model prog w) A (Builtin.«object.__ne__» ⟨[.ref x, .ref y], []⟩) Q E s := by
  unfold Builtin.«object.__ne__»
  repeat (first
    | with_reducible refine wpAny_cRoomFor hu ?_
    | (refine wpAny_bind (m := callSpecialIfBound? (.ref x) (Str.ofString "__eq__") [.ref y])
        (PySem.W.ifBound_K X I hs hf (wpAny_mono hcall (fun r s' hr => by
          obtain ⟨b, rfl, hq⟩ := hr
          repeat (first | exact hq | exact wpAny_pure hq | exact wpAny_truthy_bool hq | (refine wpAny_bind (m := truthy (.bool _)) (wpAny_truthy_bool ?_)) | wp_step)) fun _ _ e => e)))
    | wp_step)
theorem ne_K {Q : Value → Shared → Prop} (hu : A.units < cLine) (hu1 : A.in1.units < cLine) (X : K.In s.heap) (I : PySem.W.InstAt s.heap x ox C od) (J : PySem.W.InstAt s.heap y oy C od')
    (hn : PySem.W.findIn K (.ref C) "__ne__" = some (some (.builtin "object.__ne__"))) (hm : PySem.W.mroIn K C (.type "object") = some true) (hs : PySem.W.findIn K (.ref C) "__eq__" = some (some (.ref f))) (hf : PySem.W.isFn K (.ref f) = true)
    (h : wpAny (model prog w) A.in1 (call (.ref f) [.ref x, .ref y]) (fun v s' => ∃ b, v = .bool b ∧ Q (.bool (!b)) s') E s) : wpAny (model prog w) A (richCompare .NotEq (.ref x) (.ref y)) Q E s := by
  have one : wpAny (model prog w) A (tryCompare (.ref x) "__ne__" (.ref y)) (fun r s' => ∃ v, r = some v ∧ Q v s') E s := by
    unfold tryCompare
    refine wpAny_bind (ifBound_objNe X I hn (wpAny_call (codeAny_call_builtin F.cmp_object.ne.plain F.cmpEntry_ne (PySem.W.check_slot F.cmpKind_ne F.cmpSplit_ne (I.type.andThen (PySem.W.looks_mroIn X hm)) (F.cmpArgs_ne _ _) (entry_ne (A := A.in1) hu1 X I hs hf (wpAny_mono h (fun v s' hv => ?_) fun _ _ e => e))))))
    obtain ⟨b, rfl, hq⟩ := hv
    first | exact ⟨b, rfl, wpAny_pure ⟨_, rfl, hq⟩⟩ | exact ⟨b, rfl, wpAny_pure (wpAny_pure ⟨_, rfl, hq⟩)⟩ | exact ⟨b, rfl, _, rfl, hq⟩
  unfold richCompare
  simp only [oneThing_ref]
  refine wpAny_holding (wpAny_bind (wpAny_cRoomFor hu ?_))
  rw [cmpInfo_NotEq]
  dsimp only
  refine wpAny_bind (I.type.here (wpAny_bind (J.type.here ?_)))
  rw [show (Value.ref C != Value.ref C) = false from by simp]
  simp only [Bool.false_eq_true, if_false]
  refine wpAny_bind (wpAny_pure ?_)
  simp only [Bool.false_eq_true, if_false]
  refine wpAny_bind (wpAny_mono one (fun r s' z => ?_) fun _ _ e => e)
  obtain ⟨v, rfl, hq⟩ := z
  exact wpAny_pure hq
end
end LhN
namespace Lh
open PySem PySem.Spec PyProof.Rows L2
theorem op_neIns {X : Cx} {k : Nat} {f C : Addr} {fd : FuncData} {ps : List Str} {sp : Sp} (hn : PySem.W.findIn X.K (.ref C) "__ne__" = some (some (.builtin "object.__ne__"))) (hm : PySem.W.mroIn X.K C (.type "object") = some true)
    (me : Meth X.K C "__eq__" f) (F : FnOk X.prog X.w X.K X.mg X.base CX0 k f fd ps sp) (hb : Binds X.K fd ps []) (hr : Room (k + 1) X.A) :
    OpR X (compareOp .NotEq) (fun x y H Q => ∃ (a b dx dy : Addr) (fs gs : List (Str × V)), x = .ref a ∧ y = .ref b ∧ H a = some (.ins C dx fs) ∧ H b = some (.ins C dy gs) ∧ sp [.ref a, .ref b] H (fun v H' => ∃ t : Bool, v = .bl t ∧ Q (.bl (!t)) H') E0) := by
  intro pins s σ H x y v u Q I rx ry hq
  obtain ⟨a, b, dx, dy, fs, gs, rfl, rfl, ha, hb', h⟩ := hq
  cases rx
  cases ry
  show wpAny (model X.prog X.w) X.A (richCompare .NotEq (.ref a) (.ref b)) (EP X pins σ Q) X.xe s
  obtain ⟨mA, J, _⟩ := ins_get I.hok ha
  obtain ⟨mB, J', _⟩ := ins_get I.hok hb'
  obtain ⟨od, J, _⟩ := J.look
  obtain ⟨od', J', _⟩ := J'.look
  refine LhN.ne_K hr.units0 hr.in1.units0 I.kIn J J' hn hm me.at_ me.fn ?_
  have e0 := I.env0
  have e1 : Env0 X.prog X.w X.K X.mg X.base X.A.in1 X.stack s H := ⟨e0.frames, e0.mod, e0.bs, e0.bsz, e0.funs, e0.frf, e0.hok, e0.bare⟩
  have hl : ([Value.ref a, Value.ref b] ++ []).length = ps.length := by rw [← F.len _ _ _ _ h]; rfl
  have bb := hb s [.ref a, .ref b] I.kIn hl
  rw [List.append_nil] at bb
  have vv : Vals [V.ref a, V.ref b] [Value.ref a, Value.ref b] := .cons rfl (.cons rfl .nil)
  have run := F.run X.A.in1 X.stack s H ⟨[.ref a, .ref b], []⟩ [.ref a, .ref b] [.ref a, .ref b] _ E0 hr.in1 e1 bb vv h
  refine wpAny_call (codeAny_mono run ?_)
  rintro (e | fl) t ht
  · exact False.elim ht
  cases fl with
  | next => exact False.elim ht
  | brk => exact False.elim ht
  | cont => exact False.elim ht
  | ret z =>
    obtain ⟨v, H', J2, rv, n, rfl, q⟩ := I.after ht
    cases (show z = Value.bool n from rv)
    exact ⟨n, rfl, .bl (!n), H', J2, rfl, q⟩
theorem lay_prsN : ∀ ps : List (Int × Int), PyData.canLayAll0 (ps.map pairD) = true ∧ PyData.depthAll (ps.map pairD) ≤ 1
  | [] => ⟨rfl, Nat.zero_le _⟩
  | q :: r => by
    obtain ⟨h1, h2⟩ := lay_prsN r
    refine ⟨?_, ?_⟩
    · show ((true && (true && true)) && PyData.canLayAll0 (r.map pairD)) = true
      rw [h1]; rfl
    · show max (max 0 (max 0 0) + 1) (PyData.depthAll (r.map pairD)) ≤ 1
      omega
theorem lay_rule : ∀ r : Rule, PyData.canLay0 r.data = true ∧ PyData.depth r.data ≤ 3
  | .held n => ⟨by show (PyData.canLay0 (.str "held") && (true && true)) = true; decide +kernel, by show max 0 (max 0 0) + 1 ≤ 3; omega⟩
  | .sum own ties => by
    obtain ⟨h1, h2⟩ := lay_prsN ties
    refine ⟨?_, ?_⟩
    · show (PyData.canLay0 (.str "sum") && (true && (PyData.canLayAll0 (ties.map pairD) && true))) = true
      rw [h1]; decide +kernel
    · show max 0 (max 0 (max (PyData.depthAll (ties.map pairD) + 1) 0)) + 1 ≤ 3
      omega
  | .cap own ties most => by
    obtain ⟨h1, h2⟩ := lay_prsN ties
    refine ⟨?_, ?_⟩
    · show (PyData.canLay0 (.str "cap") && (true && (PyData.canLayAll0 (ties.map pairD) && (true && true)))) = true
      rw [h1]; decide +kernel
    · show max 0 (max 0 (max (PyData.depthAll (ties.map pairD) + 1) (max 0 0))) + 1 ≤ 3
      omega
  | .kinds own seen => by
    refine ⟨?_, ?_⟩
    · show (PyData.canLay0 (.str "kinds") && (true && (PyData.canLayAll0 (seen.map PyData.int) && true))) = true
      rw [canLay_ints]; decide +kernel
    · show max 0 (max 0 (max (PyData.depthAll (seen.map PyData.int) + 1) 0)) + 1 ≤ 3
      rw [depth_ints]; omega
  | .next seen => by
    refine ⟨?_, ?_⟩
    · show (PyData.canLay0 (.str "next") && (PyData.canLayAll0 (seen.map PyData.int) && true)) = true
      rw [canLay_ints]; decide +kernel
    · show max 0 (max (PyData.depthAll (seen.map PyData.int) + 1) 0) + 1 ≤ 3
      rw [depth_ints]; omega
  | .free seen => by
    refine ⟨?_, ?_⟩
    · show (PyData.canLay0 (.str "free") && (PyData.canLayAll0 (seen.map PyData.int) && true)) = true
      rw [canLay_ints]; decide +kernel
    · show max 0 (max (PyData.depthAll (seen.map PyData.int) + 1) 0) + 1 ≤ 3
      rw [depth_ints]; omega
theorem lay_rules : ∀ rs : List Rule, PyData.canLayAll0 (rs.map Rule.data) = true ∧ PyData.depthAll (rs.map Rule.data) ≤ 3
  | [] => ⟨rfl, Nat.zero_le _⟩
  | r :: t => by
    obtain ⟨h1, h2⟩ := lay_rules t
    obtain ⟨h3, h4⟩ := lay_rule r
    refine ⟨?_, ?_⟩
    · show (PyData.canLay0 r.data && PyData.canLayAll0 (t.map Rule.data)) = true
      rw [h1, h3]; rfl
    · show max (PyData.depth r.data) (PyData.depthAll (t.map Rule.data)) ≤ 3
      omega
theorem shaped_rules (rs : List Rule) : SeqAt.shaped (.tuple (rs.map Rule.data)) = true := by
  show (PyData.canLayAll0 (rs.map Rule.data) && decide (PyData.depthAll (rs.map Rule.data) + 1 ≤ 64)) = true
  rw [(lay_rules rs).1, decide_eq_true (by have := (lay_rules rs).2; omega)]
  rfl
theorem eqv_rules (rs : List Rule) : PyData.eqv (.tuple (rs.map Rule.data)) (.tuple (rs.map Rule.data)) = true := by
  first
    | exact eqv_refl _ (lay_rules rs).1
    | exact PyData.eqv_refl _ (lay_rules rs).1
    | exact SeqAt.eqv_refl _ (lay_rules rs).1
theorem RulesAt.rpN {bx : Addr} {c : Int} {H : Hp} (b : Box bx c H) : ∀ {us : List V} {rs : List Rule}, RulesAt H us rs → RpAll bx H us (rs.map Rule.data)
  | _, _, .nil => .nil
  | _, _, .cons h r => .cons (h.rp b) (RulesAt.rpN b r)
section
variable {P : Program} {w : World} {K : PySem.W.Frag} {mg : Str → Option Value} {base : Heap}
def spHallEq (C : Addr) : Sp := fun vs H Q _ => ∃ (bx x y : Addr) (c : Int) (rs : List Rule), vs = [.ref x, .ref y] ∧ Box bx c H ∧ HallAt C H x rs ∧ HallAt C H y rs ∧ Q (.bl true) H
theorem ok_Hall_eq (T : Txt K mg w) : FnOk P w K mg base CX0 1 T.f_Hall_eq T.fd_Hall_eq p_Hall_eq (spHallEq T.C_Hall) := by
  refine T.F_Hall_eq.ok sc_Hall_eq (fun vs H Q E h => ?_) (fun cdv A outer s H vs Q E hr h => ?_)
  · obtain ⟨bx, x, y, c, rs, rfl, _⟩ := h
    rfl
  · obtain ⟨bx, x, y, c, rs, rfl, hB, ⟨dx, t, vs, hx, ht, hv⟩, ⟨dy, u, us, hy, hu, hw⟩, q⟩ := h
    refine ⟨_, (pss_one (ps_ret (pe_and (pe_callB (C8.call_isC T.is_Hall) (by rfl) T.m_isinstance (by decide +kernel) (pa_cons (pv 1) (pa_cons (pe_glob (v := .ref T.C_Hall) (by rfl) T.g_Hall rfl) pa_nil))) (pe_one (pe_cmpR (op_eqD hr.units) (pe_fld (pv 0) rfl) (pe_fld (pv 1) rfl) (nomark _)))))), ?_⟩
    refine ⟨.ref y, rfl, y, dy, _, rfl, hy, _, rfl, iteP rfl ?_⟩
    refine ⟨.ref x, rfl, x, T.C_Hall, dx, _, _, rfl, hx, T.cl_Hall, T.na_Hall_kept, kept_yes _, .ref y, rfl, y, T.C_Hall, dy, _, _, rfl, hy, T.cl_Hall, T.na_Hall_kept, kept_yes _, ?_⟩
    refine ⟨.tuple (rs.map Rule.data), .tuple (rs.map Rule.data), .tup ht.sq (RpAll.dp (bx := bx) (RulesAt.rpN hB hv)), .tup hu.sq (RpAll.dp (bx := bx) (RulesAt.rpN hB hw)), shaped_rules rs, shaped_rules rs, ?_⟩
    rw [eqv_rules]
    exact q
end
end Lh

namespace Lh
open PySem PySem.Spec PyProof.Rows L2
section
variable {P : Program} {w : World} {K : PySem.W.Frag} {mg : Str → Option Value} {base : Heap}
def spSame : Nat → Sp
  | 0 => fun _ _ _ _ => False
  | n + 1 => fun vs H Q _ => ∃ (bx : Addr) (v u : V) (d : PyData), vs = [v, u] ∧ Rp bx H v d ∧ Rp bx H u d ∧ okD n d ∧ ∀ H', Same H H' → Q (.bl true) H'
theorem ok_same (T : Txt K mg w) : ∀ n, FnOk P w K mg base CX0 n T.f_same T.fd_same p_same (spSame n)
  | 0 => ⟨fun _ _ _ _ h => h.elim, fun _ _ _ _ _ _ _ _ _ _ _ _ _ h => h.elim⟩
  | n + 1 => by
    have G_same : FnOk P w K mg base CX0 n T.f_same T.fd_same p_same (spSame n) := ok_same T n
    refine T.F_same.ok sc_same (fun vs H Q E h => ?_) (fun cdv A outer s H vs Q E hr h => ?_)
    · obtain ⟨bx, v, u, d, rfl, _⟩ := h
      rfl
    · obtain ⟨bx, v, u, d, rfl, hv, hu, hd, q⟩ := h
      refine ⟨_, (pss_cons (ps_if (pt_val (pe_callB call_isiT (by rfl) T.m_isinstance (by decide +kernel) (pa_cons (pv 1) (pa_cons (pe_tup (pa_cons (pe_bltn (v := .ty "list") (by rfl) T.m_list (by decide +kernel) rfl) (pa_cons (pe_bltn (v := .ty "tuple") (by rfl) T.m_tuple (by decide +kernel) rfl) pa_nil))) pa_nil))))
        (pss_cons (ps_if (PW.pt (pw_or (pt_cmpR op_ne (pe_callB call_isi (by rfl) T.m_isinstance (by decide +kernel) (pa_cons (pv 0) (pa_cons (pe_bltn (v := .ty "list") (by rfl) T.m_list (by decide +kernel) rfl) pa_nil))) (pe_callB call_isi (by rfl) T.m_isinstance (by decide +kernel) (pa_cons (pv 1) (pa_cons (pe_bltn (v := .ty "list") (by rfl) T.m_list (by decide +kernel) rfl) pa_nil))) (nomark _)) (pw_or1 (pt_cmpR op_ne (pe_callB call_isi (by rfl) T.m_isinstance (by decide +kernel) (pa_cons (pv 0) (pa_cons (pe_bltn (v := .ty "tuple") (by rfl) T.m_tuple (by decide +kernel) rfl) pa_nil))) (pe_callB call_isi (by rfl) T.m_isinstance (by decide +kernel) (pa_cons (pv 1) (pa_cons (pe_bltn (v := .ty "tuple") (by rfl) T.m_tuple (by decide +kernel) rfl) pa_nil))) (nomark _)))))
          (pss_one (ps_ret pe_bl))
          pss_nil)
        (pss_one (ps_ret (pe_and (pe_cmpR op_eq (pe_callB call_len_seq (by rfl) T.m_len (by decide +kernel) (pa_cons (pv 0) pa_nil)) (pe_callB call_len_seq (by rfl) T.m_len (by decide +kernel) (pa_cons (pv 1) pa_nil)) (nomark _)) (pe_one (pe_callB (cr_all rfl) (by rfl) T.m_all (by decide +kernel) (pa_cons (pe_lc (own := [("_law_one", 2), ("_law_two", 3)]) (g := gTup K 2 (gCons (gName 2) (gCons (gName 3) gNil))) (by rfl) sc_same.nd (RZ.pi_zipA (by rfl) T.m_zip (pa_cons (pv 0) (pa_cons (pv 1) pa_nil))) (blkOk_by (own := [("_law_one", 2), ("_law_two", 3)]) (N := n_same) (sc := defScope s_same) (by decide +kernel)) (fun _ _ _ _ _ => (pg_tup rfl (pgs_cons (pg_name (i := 2) sc_same.nd rfl (.inl rfl) (.inr rfl)) (pgs_cons (pg_name (i := 3) sc_same.nd rfl (.inl rfl) (.inr rfl)) pgs_nil)))) (fun _ _ _ _ _ => pts_nil) (fun _ _ _ _ _ => (pe_call G_same hr (by rfl) T.g_same T.F_same.kp T.b_same .nil pass0 (pa_cons (pv 2) (pa_cons (pv 3) pa_nil))))) pa_nil)))))))
        pss_nil)
      (pss_cons (ps_if (PW.pt (pw_or (pt_cmpR op_isN (pv 1) pe_non (nomark _)) (pw_or1 (pt_cmpR op_isN (pv 0) pe_non (nomark _)))))
        (pss_one (ps_ret (pe_and (pe_cmpR op_isN (pv 1) pe_non (nomark _)) (pe_one (pe_cmpR op_isN (pv 0) pe_non (nomark _))))))
        pss_nil)
      (pss_cons (ps_if (PW.pt (pw_or (pt_val (pe_callB call_isi (by rfl) T.m_isinstance (by decide +kernel) (pa_cons (pv 1) (pa_cons (pe_bltn (v := .ty "bool") (by rfl) T.m_bool (by decide +kernel) rfl) pa_nil)))) (pw_or1 (pt_val (pe_callB call_isi (by rfl) T.m_isinstance (by decide +kernel) (pa_cons (pv 1) (pa_cons (pe_bltn (v := .ty "str") (by rfl) T.m_str (by decide +kernel) rfl) pa_nil)))))))
        (pss_one (ps_ret (pe_and (pe_cmpR op_eq (pe_callB call_isi (by rfl) T.m_isinstance (by decide +kernel) (pa_cons (pv 0) (pa_cons (pe_bltn (v := .ty "bool") (by rfl) T.m_bool (by decide +kernel) rfl) pa_nil))) (pe_callB call_isi (by rfl) T.m_isinstance (by decide +kernel) (pa_cons (pv 1) (pa_cons (pe_bltn (v := .ty "bool") (by rfl) T.m_bool (by decide +kernel) rfl) pa_nil))) (nomark _)) (pe_one (pe_cmpR op_eq (pv 0) (pv 1) (nomark _))))))
        pss_nil)
      (pss_one (ps_ret (pe_and (pe_callB call_isi (by rfl) T.m_isinstance (by decide +kernel) (pa_cons (pv 0) (pa_cons (pe_bltn (v := .ty "int") (by rfl) T.m_int (by decide +kernel) rfl) pa_nil))) (pe_and (pe_not (pe_callB call_isi (by rfl) T.m_isinstance (by decide +kernel) (pa_cons (pv 0) (pa_cons (pe_bltn (v := .ty "bool") (by rfl) T.m_bool (by decide +kernel) rfl) pa_nil)))) (pe_one (pe_cmpR op_eq (pv 0) (pv 1) (nomark _)))))))))), ?_⟩
      have ty : ∀ {H' : Hp} {x : V}, Same H H' → Rp bx H x d → TyX K H' x (.type (tyD d)) := fun s h => (h.ext (Ext.of s)).ty
      have sz : ∀ {m : Nat}, m ≤ 8388608 → m < sizeLine := fun h => Nat.lt_of_le_of_lt h (by decide)
      cases d with
      | none =>
        cases hv
        cases hu
        refine rd_isi2 (x := .non) (T := "NoneType") rfl (.base .non) (by decide +kernel : kitB "NoneType" "list" = some false) (by decide +kernel : kitB "NoneType" "tuple" = some false) (fun p hp => ?_) (fun p hp => .base .non)
        refine ⟨_, rfl, iteN rfl ?_⟩
        refine ⟨.non, rfl, rfl, _, rfl, iteP (decide_eq_true rfl) (iteP rfl ?_)⟩
        refine ⟨.non, rfl, rfl, _, rfl, iteP (decide_eq_true rfl) ?_⟩
        exact ⟨.non, rfl, rfl, blT (decide_eq_true rfl) (q _ (same_upd hp))⟩
      | bool b =>
        cases hv
        cases hu
        refine rd_isi2 (x := .bl b) (T := "bool") rfl (.base (.bl b)) (by decide +kernel : kitB "bool" "list" = some false) (by decide +kernel : kitB "bool" "tuple" = some false) (fun p hp => ?_) (fun p hp => .base (.bl b))
        refine ⟨_, rfl, iteN rfl ?_⟩
        refine ⟨.bl b, rfl, rfl, _, rfl, iteN (decide_eq_false (by intro z; cases z)) ⟨.bl b, rfl, rfl, _, rfl, iteN (decide_eq_false (by intro z; cases z)) ?_⟩⟩
        refine rd_isi (x := .bl b) (T := "bool") rfl (.base (.bl b)) (by decide +kernel : kitB "bool" "bool" = some true) ⟨_, rfl, iteP rfl (iteP rfl ?_)⟩
        refine rd_isi (x := .bl b) (T := "bool") rfl (.base (.bl b)) (by decide +kernel : kitB "bool" "bool" = some true) ?_
        refine rd_isi (x := .bl b) (T := "bool") rfl (.base (.bl b)) (by decide +kernel : kitB "bool" "bool" = some true) ⟨rfl, _, rfl, iteP (decide_eq_true rfl) ?_⟩
        exact ⟨.bl b, rfl, .bl b, rfl, rfl, blT (decide_eq_true rfl) (q _ (same_upd hp))⟩
      | int i =>
        cases hv
        cases hu
        refine rd_isi2 (x := .int i) (T := "int") rfl (.base (.int i)) (by decide +kernel : kitB "int" "list" = some false) (by decide +kernel : kitB "int" "tuple" = some false) (fun p hp => ?_) (fun p hp => .base (.int i))
        refine ⟨_, rfl, iteN rfl ?_⟩
        refine ⟨.int i, rfl, rfl, _, rfl, iteN (decide_eq_false (by intro z; cases z)) ⟨.int i, rfl, rfl, _, rfl, iteN (decide_eq_false (by intro z; cases z)) ?_⟩⟩
        refine rd_isi (x := .int i) (T := "int") rfl (.base (.int i)) (by decide +kernel : kitB "int" "bool" = some false) ⟨_, rfl, iteN rfl ?_⟩
        refine rd_isi (x := .int i) (T := "int") rfl (.base (.int i)) (by decide +kernel : kitB "int" "str" = some false) ⟨_, rfl, iteN rfl ?_⟩
        refine rd_isi (x := .int i) (T := "int") rfl (.base (.int i)) (by decide +kernel : kitB "int" "int" = some true) ⟨_, rfl, iteP rfl ?_⟩
        refine rd_isi (x := .int i) (T := "int") rfl (.base (.int i)) (by decide +kernel : kitB "int" "bool" = some false) ⟨_, rfl, _, rfl, iteP rfl ?_⟩
        exact ⟨.int i, rfl, .int i, rfl, rfl, blT (decide_eq_true rfl) (q _ (same_upd hp))⟩
      | str x =>
        cases hv
        cases hu
        refine rd_isi2 (x := .str x) (T := "str") rfl (.base (.str x)) (by decide +kernel : kitB "str" "list" = some false) (by decide +kernel : kitB "str" "tuple" = some false) (fun p hp => ?_) (fun p hp => .base (.str x))
        refine ⟨_, rfl, iteN rfl ?_⟩
        refine ⟨.str x, rfl, rfl, _, rfl, iteN (decide_eq_false (by intro z; cases z)) ⟨.str x, rfl, rfl, _, rfl, iteN (decide_eq_false (by intro z; cases z)) ?_⟩⟩
        refine rd_isi (x := .str x) (T := "str") rfl (.base (.str x)) (by decide +kernel : kitB "str" "bool" = some false) ⟨_, rfl, iteN rfl ?_⟩
        refine rd_isi (x := .str x) (T := "str") rfl (.base (.str x)) (by decide +kernel : kitB "str" "str" = some true) ⟨_, rfl, iteP rfl ?_⟩
        refine rd_isi (x := .str x) (T := "str") rfl (.base (.str x)) (by decide +kernel : kitB "str" "bool" = some false) ?_
        refine rd_isi (x := .str x) (T := "str") rfl (.base (.str x)) (by decide +kernel : kitB "str" "bool" = some false) ⟨rfl, _, rfl, iteP (decide_eq_true rfl) ?_⟩
        exact ⟨.str x, rfl, .str x, rfl, rfl, blT (decide_eq_true rfl) (q _ (same_upd hp))⟩
      | list ds =>
        cases n with
        | zero => exact hd.elim
        | succ n =>
        obtain ⟨hlen, hds⟩ := hd
        refine rd_isi2 (x := u) (T := "list") rfl hu.ty (by decide +kernel : kitB "list" "list" = some true) (by decide +kernel : kitB "list" "tuple" = some false) (fun p hp => ?_) (fun p hp => ty (same_upd hp) hu)
        have s1 := same_upd (o := .tup [.ty "list", .ty "tuple"]) hp
        refine ⟨_, rfl, iteP rfl ?_⟩
        refine rd_isi (x := v) (T := "list") rfl (ty s1 hv) (by decide +kernel : kitB "list" "list" = some true) ?_
        refine rd_isi (x := u) (T := "list") rfl (ty s1 hu) (by decide +kernel : kitB "list" "list" = some true) ⟨rfl, _, rfl, iteN rfl ?_⟩
        refine rd_isi (x := v) (T := "list") rfl (ty s1 hv) (by decide +kernel : kitB "list" "tuple" = some false) ?_
        refine rd_isi (x := u) (T := "list") rfl (ty s1 hu) (by decide +kernel : kitB "list" "tuple" = some false) ⟨rfl, _, rfl, iteN rfl ?_⟩
        have hv1 := hv.ext (Ext.of s1)
        have hu1 := hu.ext (Ext.of s1)
        generalize hH1 : upd H p (.tup [.ty "list", .ty "tuple"]) = H1 at *
        cases hv1 with
        | @lst a xs _ ha na rx =>
        cases hu1 with
        | @lst b ys _ hb nb ry =>
        have ex : xs.length = ds.length := rx.length
        have ey : ys.length = ds.length := ry.length
        refine ⟨.ref a, rfl, a, _, rfl, .inl (.inl (.inl ha)), .ref b, rfl, b, _, rfl, .inl (.inl (.inl hb)), rfl, _, rfl, iteP (decide_eq_true (by rw [ex, ey])) ?_⟩
        refine ⟨.ref a, rfl, .ref b, rfl, a, b, xs, ys, rfl, .inl ⟨.inl (.inl ha), .inl (.inl hb), fun D hD => ?_⟩⟩
        refine lc_it (walk_zip (xs := xs) (ys := ys) (n := ds.length) (by rw [ex, ey, Nat.min_self])) (fun i H3 => Same H1 H3 ∧ H3 D = some (.lst (List.replicate i (.bl true)))) ⟨same_upd hD, upd_same⟩ ?_ ?_ ?_
        · rintro i H3 _ ⟨sm, _⟩
          exact ⟨.inl (.inl (sm _ _ ha)), .inl (.inl (sm _ _ hb))⟩
        · rintro i x H3 H4 hi ⟨sm, hD3⟩ ⟨t, x1, x2, rfl, nt, rfl, e1, e2⟩
          have sT := same_upd (o := .tup [x1, x2]) nt
          refine ⟨t, _, rfl, .inl (.inl upd_same), rfl, _, _, rfl, _, _, rfl, rfl, rfl, yes (iteT ?_)⟩
          obtain ⟨z1, f1, r1⟩ := rx.get (List.getElem?_eq_getElem hi)
          obtain ⟨z2, f2, r2⟩ := ry.get (List.getElem?_eq_getElem hi)
          have g1 : x1 = z1 := Option.some.inj (e1.symm.trans f1)
          have g2 : x2 = z2 := Option.some.inj (e2.symm.trans f2)
          subst g1 g2
          refine ⟨x1, rfl, x2, rfl, bx, x1, x2, ds[i], rfl, r1.ext (Ext.of (sm.trans sT)), r2.ext (Ext.of (sm.trans sT)), hds _ (List.getElem_mem hi), fun H5 s5 => ?_⟩
          refine ⟨_, s5 _ _ (sT _ _ hD3), by rw [List.length_replicate]; exact sz (by omega), same_mut (sm.trans (sT.trans s5)) hD, ?_⟩
          rw [upd_same, List.replicate_succ']
        · rintro H3 ⟨sm, hD3⟩
          refine ⟨D, List.replicate ds.length true, rfl, .inl (.inl (by rw [hD3, List.map_replicate])), blT ?_ (q _ (s1.trans sm))⟩
          rw [List.all_eq_true]
          intro z hz
          rw [List.eq_of_mem_replicate hz]
          rfl
      | tuple ds =>
        cases n with
        | zero => exact hd.elim
        | succ n =>
        obtain ⟨hlen, hds⟩ := hd
        refine rd_isi2 (x := u) (T := "tuple") rfl hu.ty (by decide +kernel : kitB "tuple" "list" = some false) (by decide +kernel : kitB "tuple" "tuple" = some true) (fun p hp => ?_) (fun p hp => ty (same_upd hp) hu)
        have s1 := same_upd (o := .tup [.ty "list", .ty "tuple"]) hp
        refine ⟨_, rfl, iteP rfl ?_⟩
        refine rd_isi (x := v) (T := "tuple") rfl (ty s1 hv) (by decide +kernel : kitB "tuple" "list" = some false) ?_
        refine rd_isi (x := u) (T := "tuple") rfl (ty s1 hu) (by decide +kernel : kitB "tuple" "list" = some false) ⟨rfl, _, rfl, iteN rfl ?_⟩
        refine rd_isi (x := v) (T := "tuple") rfl (ty s1 hv) (by decide +kernel : kitB "tuple" "tuple" = some true) ?_
        refine rd_isi (x := u) (T := "tuple") rfl (ty s1 hu) (by decide +kernel : kitB "tuple" "tuple" = some true) ⟨rfl, _, rfl, iteN rfl ?_⟩
        have hv1 := hv.ext (Ext.of s1)
        have hu1 := hu.ext (Ext.of s1)
        generalize hH1 : upd H p (.tup [.ty "list", .ty "tuple"]) = H1 at *
        cases hv1 with
        | @tup a xs _ ha na rx =>
        cases hu1 with
        | @tup b ys _ hb nb ry =>
        have ex : xs.length = ds.length := rx.length
        have ey : ys.length = ds.length := ry.length
        refine ⟨.ref a, rfl, a, _, rfl, .inr ha.sq, .ref b, rfl, b, _, rfl, .inr hb.sq, rfl, _, rfl, iteP (decide_eq_true (by rw [ex, ey])) ?_⟩
        refine ⟨.ref a, rfl, .ref b, rfl, a, b, xs, ys, rfl, .inr ⟨ha.sq, hb.sq, fun D hD => ?_⟩⟩
        refine lc_it (walk_zipT (xs := xs) (ys := ys) (n := ds.length) ex ey) (fun i H3 => Same H1 H3 ∧ H3 D = some (.lst (List.replicate i (.bl true)))) ⟨same_upd hD, upd_same⟩ ?_ ?_ ?_
        · rintro i H3 _ ⟨sm, _⟩
          exact ⟨(ha.ext (Ext.of (bx := bx) sm) na).sq, (hb.ext (Ext.of (bx := bx) sm) nb).sq⟩
        · rintro i x H3 H4 hi ⟨sm, hD3⟩ ⟨t, x1, x2, rfl, nt, rfl, e1, e2⟩
          have sT := same_upd (o := .tup [x1, x2]) nt
          refine ⟨t, _, rfl, .inl (.inl upd_same), rfl, _, _, rfl, _, _, rfl, rfl, rfl, yes (iteT ?_)⟩
          obtain ⟨z1, f1, r1⟩ := rx.get (List.getElem?_eq_getElem hi)
          obtain ⟨z2, f2, r2⟩ := ry.get (List.getElem?_eq_getElem hi)
          have g1 : x1 = z1 := Option.some.inj (e1.symm.trans f1)
          have g2 : x2 = z2 := Option.some.inj (e2.symm.trans f2)
          subst g1 g2
          refine ⟨x1, rfl, x2, rfl, bx, x1, x2, ds[i], rfl, r1.ext (Ext.of (sm.trans sT)), r2.ext (Ext.of (sm.trans sT)), hds _ (List.getElem_mem hi), fun H5 s5 => ?_⟩
          refine ⟨_, s5 _ _ (sT _ _ hD3), by rw [List.length_replicate]; exact sz (by omega), same_mut (sm.trans (sT.trans s5)) hD, ?_⟩
          rw [upd_same, List.replicate_succ']
        · rintro H3 ⟨sm, hD3⟩
          refine ⟨D, List.replicate ds.length true, rfl, .inl (.inl (by rw [hD3, List.map_replicate])), blT ?_ (q _ (s1.trans sm))⟩
          rw [List.all_eq_true]
          intro z hz
          rw [List.eq_of_mem_replicate hz]
          rfl
      | dict kvs => cases hv
end
end Lh

namespace Lh
open PySem PySem.Spec PyProof.Rows L2
section
variable {P : Program} {w : World} {K : PySem.W.Frag} {mg : Str → Option Value} {base : Heap}
/-! ### who isn't there -/
def spNobody (C X : Addr) : Sp := fun vs H Q E => ∃ (x : Addr) (p : Int) (rs : List Rule), vs = [.ref x, .int p] ∧ HallAt C H x rs ∧ ¬ (0 ≤ p ∧ p < rs.length) ∧ NoP X E H p
theorem ok_Hall_seesX (T : Txt K mg w) : FnOk P w K mg base (L2.CX P w) 5 T.f_Hall_sees T.fd_Hall_sees p_Hall_sees (spNobody T.C_Hall T.C_NoPerson) := by
  have G_Hall_rule := ok_ruleX (P := P) (w := w) (base := base) T
  have G_seen_by := ok_seen_by (P := P) (w := w) (base := base) T
  refine T.F_Hall_sees.okX sc_Hall_sees (fun vs H Q E h => ?_) (fun cdv A outer s H vs Q E hr h => ?_)
  · obtain ⟨x, p, rs, rfl, _⟩ := h
    rfl
  · obtain ⟨x, p, rs, rfl, hA, no, q⟩ := h
    obtain ⟨dx, t, vs, hx, ht, hv⟩ := id hA
    refine ⟨_, (pss_one (ps_ret (pe_call G_seen_by (hr.mono (by decide)) (by rfl) T.g_seen_by T.F_seen_by.kp T.b_seen_by .nil pass0 (pa_cons (pe_meth (pv 0) T.cl_Hall T.me_Hall_rule G_Hall_rule (hr.mono (by decide)) T.b_Hall_rule .nil (passes_call (takes_of rfl rfl rfl rfl) (fun _ _ _ _ h => h)) (pa_cons (pv 1) pa_nil)) pa_nil)))), ?_⟩
    exact ⟨.ref x, rfl, x, dx, _, rfl, hx, kept_no _ (by decide +kernel), .int p, rfl, x, p, rs, rfl, hA, fun k hk e => absurd ⟨by omega, by omega⟩ no, fun _ => q⟩
theorem ok_Hall_seersX (T : Txt K mg w) : FnOk P w K mg base (L2.CX P w) 5 T.f_Hall_seers T.fd_Hall_seers p_Hall_seers (spNobody T.C_Hall T.C_NoPerson) := by
  have G_Hall_must_have := ok_must_haveX (P := P) (w := w) (base := base) T
  have G_seen_by := ok_seen_by (P := P) (w := w) (base := base) T
  refine T.F_Hall_seers.okX sc_Hall_seers (fun vs H Q E h => ?_) (fun cdv A outer s H vs Q E hr h => ?_)
  · obtain ⟨x, p, rs, rfl, _⟩ := h
    rfl
  · obtain ⟨x, p, rs, rfl, hA, no, q⟩ := h
    obtain ⟨dx, t, vs, hx, ht, hv⟩ := id hA
    refine ⟨_, (pss_cons (ps_expr (pe_meth (pv 0) T.cl_Hall T.me_Hall_must_have G_Hall_must_have (hr.mono (by decide)) T.b_Hall_must_have .nil (passes_call (takes_of rfl rfl rfl rfl) (fun _ _ _ _ h => h)) (pa_cons (pv 1) pa_nil)))
      (pss_one (ps_ret (pe_lc (own := [("other", 2), ("rule", 3)]) (g := gTup K 2 (gCons (gName 2) (gCons (gName 3) gNil))) (by rfl) sc_Hall_seers.nd (pi_enumT (by rfl) T.m_enumerate (pa_cons (pe_fld (pv 0) rfl) pa_nil)) (blkOk_by (own := [("other", 2), ("rule", 3)]) (N := n_Hall_seers) (sc := defScope s_Hall_seers) (by decide +kernel)) (fun _ _ _ _ _ => (pg_tup rfl (pgs_cons (pg_name (i := 2) sc_Hall_seers.nd rfl (.inl rfl) (.inr rfl)) (pgs_cons (pg_name (i := 3) sc_Hall_seers.nd rfl (.inl rfl) (.inr rfl)) pgs_nil)))) (fun _ _ _ _ _ => (pts_one (pt_cmpR (r := rIn K false) op_in_seq (pv 1) (pe_call G_seen_by (hr.mono (by decide)) (by rfl) T.g_seen_by T.F_seen_by.kp T.b_seen_by .nil pass0 (pa_cons (pv 3) pa_nil)) (by rfl)))) (fun _ _ _ _ _ => (pv 2)))))), ?_⟩
    exact ⟨.ref x, rfl, x, dx, _, rfl, hx, kept_no _ (by decide +kernel), .int p, rfl, x, p, rs, rfl, hA, fun c => absurd c no, fun _ => q⟩
/-! ### who sees a person -/
def seersL (rs : List Rule) (p : Int) : List Int := ((List.range rs.length).filter fun j => decide (p ∈ (rs.getD j (.held 0)).persons)).map fun j : Nat => (j : Int)
def spSeers (C : Addr) : Sp := fun vs H Q _ => ∃ (x : Addr) (p : Nat) (rs : List Rule), vs = [.ref x, .int p] ∧ p < rs.length ∧ HallAt C H x rs ∧ Halls rs ∧ ∀ (l : Addr) (H' : Hp), Same H H' → H l = none → H' l = some (.lst ((seersL rs p).map V.int)) → Q (.ref l) H'
theorem ok_Hall_seers (T : Txt K mg w) : FnOk P w K mg base CX0 4 T.f_Hall_seers T.fd_Hall_seers p_Hall_seers (spSeers T.C_Hall) := by
  have G_Hall_must_have := fn_calm (ok_must_haveX (P := P) (w := w) (base := base) T)
  have G_seen_by := ok_seen_by (P := P) (w := w) (base := base) T
  refine T.F_Hall_seers.ok sc_Hall_seers (fun vs H Q E h => ?_) (fun cdv A outer s H vs Q E hr h => ?_)
  · obtain ⟨x, p, rs, rfl, _⟩ := h
    rfl
  · obtain ⟨x, p, rs, rfl, hp, hA, hh, q⟩ := h
    obtain ⟨dx, t, vs, hx, ht, hv⟩ := id hA
    have lv : vs.length = rs.length := hv.length
    refine ⟨_, (pss_cons (ps_expr (pe_meth (pv 0) T.cl_Hall T.me_Hall_must_have G_Hall_must_have (hr.mono (by decide)) T.b_Hall_must_have .nil pass0 (pa_cons (pv 1) pa_nil)))
      (pss_one (ps_ret (pe_lc (own := [("other", 2), ("rule", 3)]) (g := gTup K 2 (gCons (gName 2) (gCons (gName 3) gNil))) (by rfl) sc_Hall_seers.nd (pi_enumT (by rfl) T.m_enumerate (pa_cons (pe_fld (pv 0) rfl) pa_nil)) (blkOk_by (own := [("other", 2), ("rule", 3)]) (N := n_Hall_seers) (sc := defScope s_Hall_seers) (by decide +kernel)) (fun _ _ _ _ _ => (pg_tup rfl (pgs_cons (pg_name (i := 2) sc_Hall_seers.nd rfl (.inl rfl) (.inr rfl)) (pgs_cons (pg_name (i := 3) sc_Hall_seers.nd rfl (.inl rfl) (.inr rfl)) pgs_nil)))) (fun _ _ _ _ _ => (pts_one (pt_cmpR (r := rIn K false) op_in_seq (pv 1) (pe_call G_seen_by (hr.mono (by decide)) (by rfl) T.g_seen_by T.F_seen_by.kp T.b_seen_by .nil pass0 (pa_cons (pv 3) pa_nil)) (by rfl)))) (fun _ _ _ _ _ => (pv 2)))))), ?_⟩
    refine ⟨.ref x, rfl, x, dx, _, rfl, hx, kept_no _ (by decide +kernel), .int p, rfl, x, p, rs, rfl, hA, fun _ => ?_, fun c => absurd ⟨by omega, by omega⟩ c⟩
    refine ⟨.ref x, rfl, x, T.C_Hall, dx, _, _, rfl, hx, T.cl_Hall, T.na_Hall_kept, kept_yes _, t, _, rfl, ht.sq, fun D hD => ?_⟩
    have r12 := hh.2.1
    refine lc_filt (walk_enumT (xs := vs)) (fun j => decide ((p : Int) ∈ (rs.getD j (.held 0)).persons)) (fun j => .int (j : Nat)) hD (by omega) (fun H3 s3 => (ht.keep (Keep.same s3)).sq) ?_ ?_
    · rintro j y H3 H4 hj s3 ⟨u, x1, x2, rfl, nu, rfl, e1, e2⟩ Q' Z hQ hZ
      have hj' : j < rs.length := by omega
      obtain ⟨v, hv1, rv⟩ := hv.get j hj'
      have ex : x2 = v := Option.some.inj (e2.symm.trans hv1)
      have e1' : x1 = .int (j : Nat) := (Option.some.inj e1).symm
      subst ex e1'
      have sU := same_upd (o := .tup [.int (j : Nat), x2]) nu
      have few := hh.few hj'
      have gd : rs.getD j (.held 0) = rs[j] := by rw [List.getD_eq_getElem?_getD, List.getElem?_eq_getElem hj']; rfl
      rw [gd] at hQ hZ
      refine ⟨u, _, rfl, .inl (.inl upd_same), rfl, _, _, rfl, _, _, rfl, rfl, rfl, ?_⟩
      refine ⟨.int p, rfl, x2, rfl, x2, rs[j], rfl, rv.keep (Keep.same (s3.trans sU)), by omega, fun z H5 s5 nz hz => ?_⟩
      refine ⟨z, _, rfl, .inl (.inl (.inl hz)), rfl, flat_ints _, _, rfl, ?_⟩
      rw [if_neg (by decide : ¬ (false = true)), in_ints]
      refine ite2 (fun e => ?_) (fun e => ?_)
      · exact ⟨.int (j : Nat), rfl, hQ e _ (sU.trans s5)⟩
      · exact hZ (Bool.eq_false_iff.mpr e) _ (sU.trans s5)
    intro H3 s3 h3
    rw [lv] at h3
    refine q D H3 s3 hD ?_
    rw [h3]
    unfold seersL
    rw [List.map_map]
    rfl
/-! ### == -/
def rulesT (rs : List Rule) : PyData := .tuple (rs.map Rule.data)
def spHallEqG (C : Addr) : Sp := fun vs H Q _ => ∃ (bx x y : Addr) (c : Int) (rs : List Rule), vs = [.ref x, .ref y] ∧ Box bx c H ∧ HallAt C H x rs ∧
  ((∃ rs2, HallAt C H y rs2 ∧ Q (.bl (PyData.eqv (rulesT rs) (rulesT rs2))) H) ∨ (∃ xs, (H y = some (.lst xs) ∨ TupAt H y xs) ∧ Q (.bl false) H))
theorem ok_Hall_eqG (T : Txt K mg w) : FnOk P w K mg base CX0 1 T.f_Hall_eq T.fd_Hall_eq p_Hall_eq (spHallEqG T.C_Hall) := by
  refine T.F_Hall_eq.ok sc_Hall_eq (fun vs H Q E h => ?_) (fun cdv A outer s H vs Q E hr h => ?_)
  · obtain ⟨bx, x, y, c, rs, rfl, _⟩ := h
    rfl
  · obtain ⟨bx, x, y, c, rs, rfl, hB, ⟨dx, t, vs, hx, ht, hv⟩, h⟩ := h
    have off := kit_off T.cl_Hall.hd T.ty_Hall
    refine ⟨_, (pss_one (ps_ret (pe_and (pe_callB (call_or (C8.call_isC T.is_Hall) call_isi) (by rfl) T.m_isinstance (by decide +kernel) (pa_cons (pv 1) (pa_cons (pe_glob (v := .ref T.C_Hall) (by rfl) T.g_Hall rfl) pa_nil))) (pe_one (pe_cmpR (op_eqD hr.units) (pe_fld (pv 0) rfl) (pe_fld (pv 1) rfl) (nomark _)))))), ?_⟩
    rcases h with ⟨rs2, ⟨dy, u, us, hy, hu, hw⟩, q⟩ | ⟨xs, hy, q⟩
    · refine ⟨.ref y, rfl, .inl ⟨y, dy, _, rfl, hy, _, rfl, iteP rfl ?_⟩⟩
      refine ⟨.ref x, rfl, x, T.C_Hall, dx, _, _, rfl, hx, T.cl_Hall, T.na_Hall_kept, kept_yes _, .ref y, rfl, y, T.C_Hall, dy, _, _, rfl, hy, T.cl_Hall, T.na_Hall_kept, kept_yes _, ?_⟩
      exact ⟨rulesT rs, rulesT rs2, .tup ht.sq (RpAll.dp (bx := bx) (RulesAt.rpN hB hv)), .tup hu.sq (RpAll.dp (bx := bx) (RulesAt.rpN hB hw)), shaped_rules rs, shaped_rules rs2, q⟩
    · rcases hy with hy | hy
      · exact ⟨.ref y, rfl, .inr ⟨.ref y, .ref T.C_Hall, .type "list", .ref T.C_Hall, false, rfl, .own _, .base (.lst hy), off.1, _, rfl, iteN rfl q⟩⟩
      · exact ⟨.ref y, rfl, .inr ⟨.ref y, .ref T.C_Hall, .type "tuple", .ref T.C_Hall, false, rfl, .own _, hy.ty, off.2, _, rfl, iteN rfl q⟩⟩
/-! ### what it is called -/
def nameS (n : Nat) : Str := Str.empty ++ "Hall(" ++ (toString (n : Int) : String) ++ " persons)"
theorem name_fits : ∀ n : Nat, n < 13 → (Str.empty ++ (Str.ofString "Hall(")).length ≤ sizeLine ∧ (Str.empty ++ (Str.ofString "Hall(") ++ Str.ofString (toString (n : Int))).length ≤ sizeLine ∧ (Str.empty ++ (Str.ofString "Hall(") ++ Str.ofString (toString (n : Int)) ++ Str.ofString " persons)").length ≤ sizeLine := by decide +kernel
def spRepr (C : Addr) : Sp := fun vs H Q _ => ∃ (x : Addr) (rs : List Rule), vs = [.ref x] ∧ HallAt C H x rs ∧ rs.length ≤ 12 ∧ Q (.str (nameS rs.length)) H
theorem ok_Hall_repr (T : Txt K mg w) : FnOk P w K mg base CX0 1 T.f_Hall_repr T.fd_Hall_repr p_Hall_repr (spRepr T.C_Hall) := by
  refine T.F_Hall_repr.ok sc_Hall_repr (fun vs H Q E h => ?_) (fun cdv A outer s H vs Q E hr h => ?_)
  · obtain ⟨x, rs, rfl, _⟩ := h
    rfl
  · obtain ⟨x, rs, rfl, ⟨dx, t, vs, hx, ht, hv⟩, r12, q⟩ := h
    refine ⟨_, (pss_one (ps_ret (pe_joined (PJ.cons pe_str (PJ.cons (pe_fmt (pe_callB call_len_seq (by rfl) T.m_len (by decide +kernel) (pa_cons (pe_fld (pv 0) rfl) pa_nil))) (PJ.cons pe_str PJ.nil)))))), ?_⟩
    have lv : vs.length = rs.length := hv.length
    have fits := name_fits rs.length (by omega)
    refine ⟨_, rfl, fits.1, ?_⟩
    refine ⟨.ref x, rfl, x, T.C_Hall, dx, _, _, rfl, hx, T.cl_Hall, T.na_Hall_kept, kept_yes _, t, _, rfl, .inr ht.sq, .inr ⟨_, rfl, ?_, ?_⟩⟩
    · rw [lv]
      exact (by decide +kernel : ∀ n : Nat, n < 13 → (n : Int).natAbs.log2 < 1920) _ (by omega)
    rw [lv]
    exact ⟨_, rfl, fits.2.1, _, rfl, fits.2.2, q⟩
/-! ### refused -/
def spNoPerson (C : Addr) : Sp := fun vs H Q _ => ∃ (x : Addr) (word : Str) (p : Int) (rs : List Rule), vs = [.ref x, .str word, .int p] ∧ HallAt C H x rs ∧ ¬ (0 ≤ p ∧ p < rs.length) ∧ ∀ H', Same H H' → Q (.bl true) H'
theorem ok_no_person (T : Txt K mg w) : FnOk P w K mg base CX0 7 T.f_no_person T.fd_no_person p_no_person (spNoPerson T.C_Hall) := by
  have G_Hall_rule := ok_ruleX (P := P) (w := w) (base := base) T
  have G_Hall_sees := ok_Hall_seesX (P := P) (w := w) (base := base) T
  have G_Hall_seers := ok_Hall_seersX (P := P) (w := w) (base := base) T
  have G_same := ok_same (P := P) (w := w) (base := base) T 6
  refine T.F_no_person.ok sc_no_person (fun vs H Q E h => ?_) (fun cdv A outer s H vs Q E hr h => ?_)
  · obtain ⟨x, word, p, rs, rfl, _⟩ := h
    rfl
  · obtain ⟨x, word, p, rs, rfl, hA, no, q⟩ := h
    obtain ⟨dx, t, vs, hx, ht, hv⟩ := id hA
    refine ⟨_, (pss_cons (ps_set (i := 3) sc_no_person.nd rfl (.inl rfl) pe_non)
      (pss_cons (ps_try_keep (i := 5) rfl rfl rfl sc_no_person.nd rfl rfl (tests2 (by exact ⟨rfl, by decide, .inl T.g_NoPerson⟩) (by exact ⟨rfl, by decide, .inl T.g_NoRest⟩)) (fun W pn xe tk _ => (pss_one (ps_set (i := 4) sc_no_person.nd rfl (.inl rfl) (pe_ifExp (pt_cmpR op_eq (pv 1) pe_str (nomark _)) (pe_methS (pv 0) T.cl_Hall T.me_Hall_rule G_Hall_rule (hr.mono (by decide)) T.b_Hall_rule (fun σ => passAt tk σ) (pa_cons (pv 2) pa_nil)) (pe_ifExp (pt_cmpR op_eq (pv 1) pe_str (nomark _)) (pe_methS (pv 0) T.cl_Hall T.me_Hall_sees G_Hall_sees (hr.mono (by decide)) T.b_Hall_sees (fun σ => passAt tk σ) (pa_cons (pv 2) pa_nil)) (pe_methS (pv 0) T.cl_Hall T.me_Hall_seers G_Hall_seers (hr.mono (by decide)) T.b_Hall_seers (fun σ => passAt tk σ) (pa_cons (pv 2) pa_nil))))))) (fun a oe cls d pn _ _ => (pss_one (ps_set (i := 3) sc_no_person.nd rfl (.inl rfl) (pv 5)))))
      (pss_one (ps_ret (pe_and (pe_callB (call_or call_isi call_isX) (by rfl) T.m_isinstance (by decide +kernel) (pa_cons (pv 3) (pa_cons (pe_glob (v := .ref T.C_NoPerson) (by rfl) T.g_NoPerson rfl) pa_nil))) (pe_and (pe_callB (call_or call_isi call_isX) (by rfl) T.m_isinstance (by decide +kernel) (pa_cons (pv 3) (pa_cons (pe_bltn (v := .ty "IndexError") (by rfl) T.m_IndexError (by decide +kernel) rfl) pa_nil))) (pe_one (pe_call G_same (hr.mono (by decide)) (by rfl) T.g_same T.F_same.kp T.b_same .nil pass0 (pa_cons (pe_xk (pv 3)) (pa_cons (pv 2) pa_nil)))))))))), ?_⟩
    have xk := T.xc_NoPerson
    refine seq_asg (seq_useN (fun σ H1 => ∃ (e d : Addr), σ = [some (.ref x), some (.str word), some (.int p), some (.ref e), none, none] ∧ Same H H1 ∧ H1 e = some (exK e (.ref T.C_NoPerson) (some d)) ∧ H1 d = some (.xd [("person", .int p)])) (fun N hN => ?_) ?_)
    · have keep : ∀ (d : Addr) (H' : Hp), Same H H' → H d = none → H' d = some (.xd [("person", .int p)]) → ∀ e, H' e = none → N [some (.ref x), some (.str word), some (.int p), some (.ref e), none, none] (upd H' e (exK e (.ref T.C_NoPerson) (some d))) := fun d H' s' nd hd e ne => by
        have se := same_upd (o := exK e (.ref T.C_NoPerson) (some d)) ne
        exact hN _ _ ⟨e, d, rfl, s'.trans se, upd_same, se _ _ hd⟩
      have mP := exm_two T.em_NoPerson_NoPerson T.em_NoPerson_NoRest
      refine ⟨.str word, rfl, rfl, _, rfl, ite2 (fun z => ?_) (fun z => ?_)⟩
      · exact ⟨.ref x, rfl, x, dx, _, rfl, hx, kept_no _ (by decide +kernel), .int p, rfl, x, p, rs, rfl, hA, fun k hk e => absurd ⟨by omega, by omega⟩ no, fun _ d H' s' nd hd => ⟨mP, fun e ne => ⟨.ref e, rfl, keep d H' s' nd hd e ne⟩⟩⟩
      · refine ⟨.str word, rfl, rfl, _, rfl, ite2 (fun z => ?_) (fun z => ?_)⟩
        · exact ⟨.ref x, rfl, x, dx, _, rfl, hx, kept_no _ (by decide +kernel), .int p, rfl, x, p, rs, rfl, hA, no, fun d H' s' nd hd => ⟨mP, fun e ne => ⟨.ref e, rfl, keep d H' s' nd hd e ne⟩⟩⟩
        · exact ⟨.ref x, rfl, x, dx, _, rfl, hx, kept_no _ (by decide +kernel), .int p, rfl, x, p, rs, rfl, hA, no, fun d H' s' nd hd => ⟨mP, fun e ne => ⟨.ref e, rfl, keep d H' s' nd hd e ne⟩⟩⟩
    rintro σ H1 ⟨e, d, rfl, s1, he, hd⟩
    refine ⟨.ref e, rfl, .inr ⟨e, T.C_NoPerson, d, _, .ref T.C_NoPerson, .ref T.C_NoPerson, _, rfl, he, hd, xk, fun u h => h, T.ki_NoPerson_NoPerson, ?_⟩⟩
    refine ⟨_, rfl, iteP rfl ?_⟩
    refine ⟨.ref e, rfl, .inr ⟨e, T.C_NoPerson, d, _, .ty "IndexError", .type "IndexError", _, rfl, he, hd, xk, fun u h => h, T.ki_NoPerson_IndexError, _, rfl, iteP rfl ?_⟩⟩
    exact ⟨.ref e, rfl, e, T.C_NoPerson, d, _, .int p, rfl, he, hd, T.xf_NoPerson, T.na_NoPerson_person, rfl, .int p, rfl, 0, .int p, .int p, .int p, rfl, .int _, .int _, trivial, fun H' s' => q H' (s1.trans s')⟩
def spBad (C : Addr) : Sp := fun vs H Q _ => ∃ (l : Addr) (us : List V) (k : Nat) (rs : List Rule), vs = [.ref l] ∧ H l = some (.lst us) ∧ 1 ≤ us.length ∧ us.length ≤ 12 ∧ k ≤ us.length ∧ RulesAt H (us.take k) rs ∧ (∀ r ∈ rs, r.Wf us.length) ∧
  (k = us.length → ∀ H', Same H H' → Q .non H') ∧ (∀ v, us[k]? = some v → (∃ (bx : Addr) (d : PyData), Rp bx H v d ∧ RFine d ∧ ruleB us.length d = false) ∧ ∀ H', Same H H' → Q (.int k) H')
theorem ok_bad (T : Txt K mg w) : FnOk P w K mg base CX0 9 T.f_bad T.fd_bad p_bad (spBad T.C_Hall) := by
  have G_Hall_init := ok_Hall_initX (P := P) (w := w) (base := base) T
  refine T.F_bad.ok sc_bad (fun vs H Q E h => ?_) (fun cdv A outer s H vs Q E hr h => ?_)
  · obtain ⟨l, us, k, rs, rfl, _⟩ := h
    rfl
  · obtain ⟨l, us, k, rs, rfl, hl, l1, l12, lk, ra, wf, q1, q2⟩ := h
    refine ⟨_, (pss_cons (ps_set (i := 1) sc_bad.nd rfl (.inl rfl) pe_non)
      (pss_cons (ps_try_keep (i := 2) rfl rfl rfl sc_bad.nd rfl rfl (tests2 (by exact ⟨rfl, by decide, .inl T.g_BadHall⟩) (by exact ⟨rfl, by decide, .inl T.g_BadRow⟩)) (fun W pn xe tk _ => (pss_one (ps_expr (pe_makeS T.mk_Hall G_Hall_init (hr.mono (by decide)) (by rfl) T.g_Hall T.b_Hall_init (fun σ => passAt tk σ) (pa_cons (pv 0) pa_nil))))) (fun a oe cls d pn _ _ => (pss_one (ps_set (i := 1) sc_bad.nd rfl (.inl rfl) (pv 2)))))
      (pss_one (ps_ret (pe_ifExp (PW.pt (pw_and (pt_val (pe_callB (call_or call_isi call_isX) (by rfl) T.m_isinstance (by decide +kernel) (pa_cons (pv 1) (pa_cons (pe_glob (v := .ref T.C_BadHall) (by rfl) T.g_BadHall rfl) pa_nil)))) (pw_and1 (pt_val (pe_callB (call_or call_isi call_isX) (by rfl) T.m_isinstance (by decide +kernel) (pa_cons (pv 1) (pa_cons (pe_bltn (v := .ty "ValueError") (by rfl) T.m_ValueError (by decide +kernel) rfl) pa_nil))))))) (pe_xk (pv 1)) pe_non))))), ?_⟩
    have xk := T.xc_BadHall
    have mB := exm_two T.em_BadHall_BadHall T.em_BadHall_BadRow
    refine seq_asg (seq_useN (fun σ H1 => (k = us.length ∧ σ = [some (.ref l), some .non, none] ∧ Same H H1) ∨ ∃ (e d : Addr) (v : V), us[k]? = some v ∧ σ = [some (.ref l), some (.ref e), none] ∧ Same H H1 ∧ H1 e = some (exK e (.ref T.C_BadHall) (some d)) ∧ H1 d = some (.xd [("person", .int k)])) (fun N hN => ?_) ?_)
    · refine ⟨.ref l, rfl, fun x dx nx ndx nxd => ?_⟩
      have sx : Same H (upd (upd H dx (.own x)) x (.ins T.C_Hall dx [])) := fun b o hb => by
        rw [upd_ne (ne_of_none hb nx), upd_ne (ne_of_none hb ndx)]
        exact hb
      refine ⟨x, dx, l, us, k, rs, rfl, upd_same, sx _ _ hl, l1, l12, lk, RulesAt.keep (Keep.same sx) ra, wf, fun ek H' keepH hA => ⟨rfl, hN _ _ (.inl ⟨ek, rfl, fun b o hb => keepH b o (ne_of_none hb nx) (sx b o hb)⟩)⟩, fun v hv => ⟨?_, fun d H' s' nd hd => ⟨mB, fun e ne => ⟨.ref e, rfl, ?_⟩⟩⟩⟩
      · obtain ⟨bx, d, rd, rf, rb⟩ := (q2 v hv).1
        exact ⟨bx, d, rd.ext (Ext.of sx), rf, rb⟩
      · have se := same_upd (o := exK e (.ref T.C_BadHall) (some d)) ne
        exact hN _ _ (.inr ⟨e, d, v, hv, rfl, sx.trans (s'.trans se), upd_same, se _ _ hd⟩)
    rintro σ H1 (⟨ek, rfl, s1⟩ | ⟨e, d, v, hv, rfl, s1, he, hd⟩)
    · refine ⟨.non, rfl, .inl ⟨.non, .ref T.C_BadHall, .type "NoneType", .ref T.C_BadHall, false, rfl, .own _, .base .non, kit_none xk.hd T.ox_BadHall.tyC, ?_⟩⟩
      exact ⟨_, rfl, iteN rfl (iteN rfl (q1 ek H1 s1))⟩
    · refine ⟨.ref e, rfl, .inr ⟨e, T.C_BadHall, d, _, .ref T.C_BadHall, .ref T.C_BadHall, _, rfl, he, hd, xk, fun u h => h, T.ki_BadHall_BadHall, ?_⟩⟩
      refine ⟨_, rfl, iteP rfl ?_⟩
      refine ⟨.ref e, rfl, .inr ⟨e, T.C_BadHall, d, _, .ty "ValueError", .type "ValueError", _, rfl, he, hd, xk, fun u h => h, T.ki_BadHall_ValueError, ?_⟩⟩
      refine ⟨_, rfl, iteP rfl ?_⟩
      exact ⟨.ref e, rfl, e, T.C_BadHall, d, _, .int k, rfl, he, hd, T.xf_BadHall, T.na_BadHall_person, rfl, (q2 v hv).2 H1 s1⟩
end
end Lh

namespace Lh
open PySem PySem.Spec PyProof.Rows L2
/-- an order in which each sees those ahead of it alone -/
def Flat (rs : List Rule) : Prop := ∃ ms : List Int, ms.Nodup ∧ ms.length = rs.length ∧ (∀ x ∈ ms, 0 ≤ x ∧ x < (rs.length : Int)) ∧ ∀ (i : Nat) (hi : i < rs.length), ∃ (j : Nat) (hj : j < ms.length), ms[j] = (i : Int) ∧ ∀ o ∈ rs[i].persons, o ∈ ms.take j
/-- the true bounds of what is drawn -/
def Rule.Fine (wm : Int) : Rule → Prop
  | .held n => n ≤ 6
  | .sum own ties => own ≤ 3 ∧ ∀ q ∈ ties, q.2 ≤ wm
  | .cap own ties most => own ≤ 3 ∧ (∀ q ∈ ties, q.2 ≤ wm) ∧ most ≤ 5
  | .kinds own _ => own ≤ 2
  | .next _ => True
  | .free _ => True
theorem rules_ofP {H : Hp} {m : Int} {Pr : Nat → Rule → Prop} (us : List V) (h : ∀ (i : Nat) (_ : i < us.length), ∃ r, RuleAt H us[i] r ∧ r.Wf m ∧ Pr i r) : ∃ rs, RulesAt H us rs ∧ (∀ r ∈ rs, r.Wf m) ∧ ∀ (i : Nat) (h : i < rs.length), Pr i rs[i] := by
  have key : ∀ k, k ≤ us.length → ∃ rs, RulesAt H (us.take k) rs ∧ (∀ r ∈ rs, r.Wf m) ∧ ∀ (i : Nat) (h : i < rs.length), Pr i rs[i] := fun k => by
    induction k with
    | zero => exact fun _ => ⟨[], .nil, fun r hr => absurd hr (by simp), fun i hi => absurd hi (by simp)⟩
    | succ k ih =>
      intro hk
      obtain ⟨rs, h1, h2, h3⟩ := ih (by omega)
      obtain ⟨r, r1, r2, r3⟩ := h k (by omega)
      have lr : rs.length = k := by
        have e := h1.length
        rw [List.length_take] at e
        omega
      refine ⟨rs ++ [r], ?_, fun r' hr' => ?_, fun i hi => ?_⟩
      · rw [List.take_add_one, List.getElem?_eq_getElem (show k < us.length by omega)]
        exact Paired.snoc (R := RuleAt _) r1 h1
      · rcases List.mem_append.mp hr' with z | z
        · exact h2 r' z
        · rw [List.mem_singleton.mp z]; exact r2
      · by_cases c : i < rs.length
        · rw [List.getElem_append_left c]; exact h3 i c
        · have e : i = rs.length := by rw [List.length_append] at hi; have : i < rs.length + 1 := hi; omega
          subst e
          rw [List.getElem_append_right (Nat.le_refl _)]
          simp only [Nat.sub_self, List.getElem_singleton]
          rw [lr]; exact r3
  obtain ⟨rs, h1, h2, h3⟩ := key us.length (Nat.le_refl _)
  rw [List.take_length] at h1
  exact ⟨rs, h1, h2, h3⟩
section
variable {P : Program} {w : World} {K : PySem.W.Frag} {mg : Str → Option Value} {base : Heap}
def spSumRuleF : Sp := fun vs H Q _ => ∃ (bx p : Addr) (c far many : Int) (ns : List Int), vs = [.ref bx, .ref p, .int far] ∧ 2 ≤ far ∧ far ≤ 999 ∧ c + 2 * ns.length + 4 ≤ 1000000000 ∧ ns.length ≤ 1000 ∧ Box bx c H ∧ H p = some (.lst (ns.map V.int)) ∧ p ≠ bx ∧ Rising many ns ∧
  ∀ (v : V) (r : Rule) (H' : Hp), Ext bx H H' → Box bx (c + 2 * ns.length + 4) H' → RuleAt H' v r → r.Wf many → r.persons = ns → r.Fine far → Q v H'
theorem ok_sum_ruleF (T : Txt K mg w) : FnOk P w K mg base CX0 2 T.f_sum_rule T.fd_sum_rule p_sum_rule spSumRuleF := by
  have G_take := ok_take (P := P) (w := w) (base := base) T
  refine T.F_sum_rule.ok sc_sum_rule (fun vs H Q E h => ?_) (fun cdv A outer s H vs Q E hr h => ?_)
  · obtain ⟨bx, p, c, far, many, ns, rfl, _⟩ := h
    rfl
  · obtain ⟨bx, p, c, far, many, ns, rfl, f0, f1, c1, hl, hB, hp, np, rs, q⟩ := h
    refine ⟨_, (pss_cons (ps_set (i := 3) sc_sum_rule.nd rfl (.inl rfl) (pe_ix ix_list (pe_lst (pa_cons pe_int (pa_cons pe_int (pa_cons pe_int (pa_cons (pe_call G_take (hr.mono (by decide)) (by rfl) T.g_take T.F_take.kp T.b_take .nil pass0 (pa_cons (pv 0) (pa_cons pe_int pa_nil))) pa_nil))))) (pe_call G_take (hr.mono (by decide)) (by rfl) T.g_take T.F_take.kp T.b_take .nil pass0 (pa_cons (pv 0) (pa_cons pe_int pa_nil))) (fun _ _ => rfl)))
      (pss_cons (ps_set (i := 4) sc_sum_rule.nd rfl (.inl rfl) (pe_callTy call_tupleF (by rfl) T.m_tuple (by decide +kernel) (pa_cons (pe_lc (own := [("_law_one", 5)]) (g := gName 5) (by rfl) sc_sum_rule.nd (pi_list (pv 1)) (blkOk_by (own := [("_law_one", 5)]) (N := n_sum_rule) (sc := defScope s_sum_rule) (by decide +kernel)) (fun _ _ _ _ _ => (pg_name (i := 5) sc_sum_rule.nd rfl (.inl rfl) (.inr rfl))) (fun _ _ _ _ _ => pts_nil) (fun _ _ _ _ _ => (pe_tup (pa_cons (pv 5) (pa_cons (pe_ix (r := rIxL K) ix_list (pe_lst (pa_cons pe_int (pa_cons pe_int (pa_cons pe_int (pa_cons (pe_op op_add pe_int (pe_call G_take (hr.mono (by decide)) (by rfl) T.g_take T.F_take.kp T.b_take .nil pass0 (pa_cons (pv 0) (pa_cons (pv 2) pa_nil)))) pa_nil))))) (pe_call G_take (hr.mono (by decide)) (by rfl) T.g_take T.F_take.kp T.b_take .nil pass0 (pa_cons (pv 0) (pa_cons pe_int pa_nil))) (fun _ _ => rfl)) pa_nil))))) pa_nil)))
      (pss_one (ps_ret (pe_ifExp (pt_cmpR op_gt (pe_call G_take (hr.mono (by decide)) (by rfl) T.g_take T.F_take.kp T.b_take .nil pass0 (pa_cons (pv 0) (pa_cons pe_int pa_nil))) pe_int (nomark _)) (pe_tup (pa_cons pe_str (pa_cons (pv 3) (pa_cons (pv 4) pa_nil)))) (pe_tup (pa_cons pe_str (pa_cons (pv 3) (pa_cons (pv 4) (pa_cons (pe_call G_take (hr.mono (by decide)) (by rfl) T.g_take T.F_take.kp T.b_take .nil pass0 (pa_cons (pv 0) (pa_cons pe_int pa_nil))) pa_nil)))))))))), ?_⟩
    -- the own number
    refine ⟨.ref bx, rfl, bx, c, 4, rfl, by decide, by decide, by omega, hB, fun r1 H1 r10 r11 e1 b1 => ⟨by show 4 ≤ sizeLine; decide, fun l hl1 => ?_⟩⟩
    have nl : l ≠ bx := b1.ne hl1
    refine ⟨.ref bx, rfl, bx, c + 1, 4, rfl, by decide, by decide, by omega, b1.new hl1, fun r2 H2 r20 r21 e2 b2 => ?_⟩
    obtain ⟨v0, m0, a0⟩ := pick (xs := [V.int 0, .int 0, .int 1, .int r1]) r20 (by simpa using r21)
    have hl2 : H2 l = some (.lst [V.int 0, .int 0, .int 1, .int r1]) := e2 _ _ nl upd_same
    refine ⟨l, _, r2, v0, rfl, rfl, .inl (.inl hl2), a0, ?_⟩
    obtain ⟨own, rfl, o1⟩ : ∃ own : Int, v0 = .int own ∧ smallI own ∧ own ≤ 3 := by
      simp only [List.mem_cons, List.not_mem_nil, or_false] at m0
      rcases m0 with rfl | rfl | rfl | rfl
      · exact ⟨0, rfl, ⟨by decide, by decide⟩, by decide⟩
      · exact ⟨0, rfl, ⟨by decide, by decide⟩, by decide⟩
      · exact ⟨1, rfl, ⟨by decide, by decide⟩, by decide⟩
      · exact ⟨r1, rfl, ⟨r10, by omega⟩, by omega⟩
    have eX : Ext bx H H2 := (e1.trans ((Ext.refl _).new hl1)).trans e2
    have hp2 := eX _ _ np hp
    -- the ties
    refine ⟨.ref p, rfl, p, rfl, ⟨_, .inl (.inl hp2)⟩, fun D hD => ?_⟩
    have nD : D ≠ bx := b2.ne hD
    refine lc_it (walk_list (xs := ns.map V.int)) (fun i H3 => ∃ (ps : List Addr) (ties : List (Int × Int)), Ext bx H2 H3 ∧ Box bx (c + 2 + 2 * i) H3 ∧ H3 D = some (.lst (ps.map V.ref)) ∧ Paired (PairAtH H3) ps ties ∧ ties.map (·.1) = ns.take i ∧ ∀ q ∈ ties, 1 ≤ q.2 ∧ q.2 ≤ 1000 ∧ q.2 ≤ far)
      ⟨[], [], (Ext.refl _).new hD, (b2.new hD).mono (by omega), upd_same, .nil, rfl, fun q h => absurd h (by simp)⟩ ?_ ?_ ?_
    · rintro i H3 _ ⟨ps, ties, e, _⟩
      exact .inl (.inl (e _ _ np hp2))
    · rintro i x H3 H4 hi ⟨ps, ties, e, hb, hD3, pr, tf, tw⟩ ⟨rfl, hx⟩
      rw [List.length_map] at hi
      rw [List.getElem?_map, List.getElem?_eq_getElem hi] at hx
      have ex : x = .int ns[i] := (Option.some.inj hx).symm
      subst ex
      have tk : ns.take (i + 1) = ns.take i ++ [ns[i]] := by rw [List.take_add_one, List.getElem?_eq_getElem hi]; rfl
      have pl : ps.length = i := by
        have h1 : ps.length = ties.length := pr.length
        have h2 := congrArg List.length tf
        rw [List.length_map, List.length_take] at h2
        omega
      refine ⟨rfl, yes (iteT ?_)⟩
      refine ⟨.int ns[i], rfl, .ref bx, rfl, .int far, rfl, bx, c + 2 + 2 * i, far, rfl, by omega, by omega, by omega, hb, fun r5 H5 r50 r51 e5 b5 => ⟨1, r5, rfl, rfl, by show 4 ≤ sizeLine; decide, fun l5 hl5 => ?_⟩⟩
      have nl5 : l5 ≠ bx := b5.ne hl5
      refine ⟨.ref bx, rfl, bx, c + 2 + 2 * i + 1, 4, rfl, by decide, by decide, by omega, b5.new hl5, fun r6 H6 r60 r61 e6 b6 => ?_⟩
      obtain ⟨v6, m6, a6⟩ := pick (xs := [V.int 1, .int 1, .int 2, .int (1 + r5)]) r60 (by simpa using r61)
      have hl6 : H6 l5 = some (.lst [V.int 1, .int 1, .int 2, .int (1 + r5)]) := e6 _ _ nl5 upd_same
      obtain ⟨wt, rfl, w1⟩ : ∃ wt : Int, v6 = .int wt ∧ 1 ≤ wt ∧ wt ≤ 1000 ∧ wt ≤ far := by
        simp only [List.mem_cons, List.not_mem_nil, or_false] at m6
        rcases m6 with rfl | rfl | rfl | rfl
        · exact ⟨1, rfl, by decide, by decide, by omega⟩
        · exact ⟨1, rfl, by decide, by decide, by omega⟩
        · exact ⟨2, rfl, by decide, by decide, f0⟩
        · exact ⟨1 + r5, rfl, by omega, by omega, by omega⟩
      refine ⟨l5, _, r6, _, rfl, rfl, .inl (.inl hl6), a6, by show 2 ≤ sizeLine; decide, fun t ht => ?_⟩
      have k36 : Keep H4 H6 := (Keep.ext e5 hb).trans ((Keep.same (same_upd hl5)).trans (Keep.ext e6 (b5.new hl5)))
      have e36 : Ext bx H4 H6 := (e5.trans ((Ext.refl _).new hl5)).trans e6
      have hD6 := e36 _ _ nD hD3
      refine ⟨_, by rw [upd_ne (ne_of_none hD6 ht)]; exact hD6, by rw [List.length_map]; exact small1000 (by omega), ps ++ [t], ties ++ [(ns[i], wt)], ?_, ?_, ?_, ?_, ?_, ?_⟩
      · exact ((e.trans e36).trans ((Ext.refl _).new ht)).new hD
      · exact ((b6.new ht).at nD).mono (by omega)
      · rw [upd_same, List.map_append]; rfl
      · have ntD : t ≠ D := (ne_of_none hD6 ht).symm
        have kT : Keep H6 (upd (upd H6 t (.tup [.int ns[i], .int wt])) D (.lst (ps.map V.ref ++ [.ref t]))) := by
          refine ⟨fun a xs h => ?_, fun a o u h => ?_⟩
          · rw [upd_ne (ne_of h hD6 (by intro z; cases z)), upd_ne (ne_of_none h ht)]; exact h
          · rw [upd_ne (ne_of h hD6 (by intro z; cases z)), upd_ne (ne_of_none h ht)]; exact h
        refine Paired.snoc ?_ (pairs_keep (k36.trans kT) pr)
        show upd (upd H6 t _) D _ t = _
        rw [upd_ne ntD, upd_same]
      · rw [List.map_append, tf, tk]; rfl
      · intro q hq
        rcases List.mem_append.mp hq with hq | hq
        · exact tw q hq
        · rw [List.mem_singleton.mp hq]; exact w1
    · rintro H3 ⟨ps, ties, e, hb, hD3, pr, tf, tw⟩
      rw [List.length_map] at hb tf
      rw [List.take_length] at tf
      refine ⟨D, _, rfl, .inl (.inl hD3), fun t o nt od => ?_⟩
      have nt2 : t ≠ bx := hb.ne nt
      have b4 := hb.new (o := .frz o (.tup (ps.map V.ref))) nt
      -- sum or cap
      refine ⟨.ref bx, rfl, bx, _, 4, rfl, by decide, by decide, ?_, b4, fun r5 H5 r50 r51 e5 b5 => ?_⟩
      · omega
      have k5 := Keep.ext e5 b4
      have tA : TiesAt H5 t ties := ⟨o, ps, od, k5.frz _ _ _ upd_same, pairs_keep ((Keep.same (same_upd nt)).trans k5) pr⟩
      have eA : Ext bx H H5 := ((eX.trans e).trans ((Ext.refl _).new nt)).trans e5
      refine ⟨_, 0, rfl, rfl, _, rfl, ite2 (fun z => ?_) (fun z => ?_)⟩
      · refine ⟨.int own, rfl, .ref t, rfl, by show 3 ≤ sizeLine; decide, fun a ha => ?_⟩
        refine q (.ref a) (.sum own ties) _ (eA.trans ((Ext.refl _).new ha)) ((b5.new ha).mono (by omega)) ⟨a, t, rfl, upd_same, tA.keep (Keep.same (same_upd ha))⟩ ⟨o1.1, by rw [tf]; exact rs, fun q hq => ⟨(tw q hq).1, (tw q hq).2.1⟩⟩ tf ⟨o1.2, fun q hq => (tw q hq).2.2⟩
      · refine ⟨.int own, rfl, .ref t, rfl, .ref bx, rfl, bx, _, 6, rfl, by decide, by decide, ?_, b5, fun r6 H6 r60 r61 e6 b6 => ⟨by show 4 ≤ sizeLine; decide, fun a ha => ?_⟩⟩
        · omega
        refine q (.ref a) (.cap own ties r6) _ ((eA.trans e6).trans ((Ext.refl _).new ha)) ((b6.new ha).mono (by omega)) ⟨a, t, rfl, upd_same, (tA.keep (Keep.ext e6 b5)).keep (Keep.same (same_upd ha))⟩ ⟨o1.1, by rw [tf]; exact rs, fun q hq => ⟨(tw q hq).1, (tw q hq).2.1⟩, r60, by omega⟩ tf ⟨o1.2, fun q hq => (tw q hq).2.2, by omega⟩
def spRuleF : Sp := fun vs H Q _ => ∃ (bx p : Addr) (c far many : Int) (m : V) (ns : List Int), vs = [.ref bx, m, .ref p, .int far] ∧ 2 ≤ far ∧ far ≤ 999 ∧ c + 3 * ns.length + 6 ≤ 1000000000 ∧ ns.length ≤ 1000 ∧ Box bx c H ∧ H p = some (.lst (ns.map V.int)) ∧ p ≠ bx ∧ Rising many ns ∧
  ∀ (v : V) (r : Rule) (H' : Hp), Ext bx H H' → Box bx (c + 3 * ns.length + 6) H' → RuleAt H' v r → r.Wf many → r.persons.Sublist ns → r.Fine far → Q v H'
theorem ok_ruleF (T : Txt K mg w) : FnOk P w K mg base CX0 3 T.f_rule T.fd_rule p_rule spRuleF := by
  have G_take := ok_take (P := P) (w := w) (base := base) T
  have G_some := ok_some (P := P) (w := w) (base := base) T
  have G_sum_rule := ok_sum_ruleF (P := P) (w := w) (base := base) T
  refine T.F_rule.ok sc_rule (fun vs H Q E h => ?_) (fun cdv A outer s H vs Q E hr h => ?_)
  · obtain ⟨bx, p, c, far, many, m, ns, rfl, _⟩ := h
    rfl
  · obtain ⟨bx, p, c, far, many, m, ns, rfl, f0, f1, c1, hl, hB, hp, np, rs, q⟩ := h
    refine ⟨_, (pss_cons (ps_par (i := 4) (j := 5) (by rfl) sc_rule.nd rfl rfl (by decide) rfl rfl (pa_cons (pe_call G_some (hr.mono (by decide)) (by rfl) T.g_some T.F_some.kp T.b_some .nil pass0 (pa_cons (pv 0) (pa_cons (pv 2) (pa_cons pe_int pa_nil)))) (pa_cons (pe_call G_take (hr.mono (by decide)) (by rfl) T.g_take T.F_take.kp T.b_take .nil pass0 (pa_cons (pv 0) (pa_cons pe_int pa_nil))) pa_nil)) (by rfl))
      (pss_cons (ps_if (pt_cmpR op_eq (pv 5) pe_int (nomark _))
        (pss_one (ps_ret (pe_tup (pa_cons pe_str (pa_cons (pe_call G_take (hr.mono (by decide)) (by rfl) T.g_take T.F_take.kp T.b_take .nil pass0 (pa_cons (pv 0) (pa_cons pe_int pa_nil))) pa_nil)))))
        pss_nil)
      (pss_cons (ps_if (pt_cmpR op_eq (pv 5) pe_int (nomark _))
        (pss_one (ps_ret (pe_tup (pa_cons pe_str (pa_cons (pe_call G_take (hr.mono (by decide)) (by rfl) T.g_take T.F_take.kp T.b_take .nil pass0 (pa_cons (pv 0) (pa_cons pe_int pa_nil))) (pa_cons (pe_callTy call_tupleF (by rfl) T.m_tuple (by decide +kernel) (pa_cons (pv 4) pa_nil)) pa_nil))))))
        pss_nil)
      (pss_cons (ps_if (pt_cmpR op_eq (pv 5) pe_int (nomark _))
        (pss_one (ps_ret (pe_tup (pa_cons pe_str (pa_cons (pe_callTy call_tupleF (by rfl) T.m_tuple (by decide +kernel) (pa_cons (pv 4) pa_nil)) pa_nil)))))
        pss_nil)
      (pss_one (ps_ret (pe_ifExp (pt_cmpR op_eq (pv 5) pe_int (nomark _)) (pe_tup (pa_cons pe_str (pa_cons (pe_callTy call_tupleF (by rfl) T.m_tuple (by decide +kernel) (pa_cons (pv 4) pa_nil)) pa_nil))) (pe_call G_sum_rule (hr.mono (by decide)) (by rfl) T.g_sum_rule T.F_sum_rule.kp T.b_sum_rule .nil pass0 (pa_cons (pv 0) (pa_cons (pv 4) (pa_cons (pv 3) pa_nil))))))))))), ?_⟩
    refine ⟨.ref bx, rfl, .ref p, rfl, bx, p, c, 2, ns, rfl, by decide, by decide, by omega, hl, hB, hp, np, fun z ms H1 e1 b1 nz hz sub => ?_⟩
    have nz2 : z ≠ bx := hB.ne nz
    have ml := sub.length_le
    refine ⟨.ref bx, rfl, bx, _, 10, rfl, by decide, by decide, by omega, b1, fun r2 H2 r20 r21 e2 b2 => ⟨_, _, rfl, ?_⟩⟩
    have hz2 := e2 _ _ nz2 hz
    have eX := e1.trans e2
    refine ⟨.int r2, rfl, rfl, _, rfl, ite2 (fun w0 => ?_) (fun w0 => ?_)⟩
    · refine ⟨.ref bx, rfl, bx, _, 7, rfl, by decide, by decide, by omega, b2, fun r3 H3 r30 r31 e3 b3 => ⟨by show 2 ≤ sizeLine; decide, fun a ha => ?_⟩⟩
      exact q (.ref a) (.held r3) _ ((eX.trans e3).trans ((Ext.refl _).new ha)) ((b3.new ha).mono (by omega)) ⟨a, rfl, upd_same⟩ ⟨r30, by omega⟩ (List.nil_sublist _) (by show r3 ≤ 6; omega)
    refine ⟨.int r2, rfl, rfl, _, rfl, ite2 (fun w1 => ?_) (fun w1 => ?_)⟩
    · refine ⟨.ref bx, rfl, bx, _, 3, rfl, by decide, by decide, by omega, b2, fun r3 H3 r30 r31 e3 b3 => ?_⟩
      refine ⟨.ref z, rfl, z, _, rfl, .inl (.inl (e3 _ _ nz2 hz2)), fun t o nt od => ⟨by show 3 ≤ sizeLine; decide, fun a ha => ?_⟩⟩
      exact q (.ref a) (.kinds r3 ms) _ (((eX.trans e3).trans ((Ext.refl _).new nt)).trans ((Ext.refl _).new ha)) (((b3.new nt).new ha).mono (by omega)) ⟨a, t, rfl, upd_same, .inr ⟨o, od, by rw [upd_ne (ne_of_none upd_same ha)]; exact upd_same⟩⟩ ⟨⟨r30, by omega⟩, rs.sub sub⟩ sub (by show r3 ≤ 2; omega)
    refine ⟨.int r2, rfl, rfl, _, rfl, ite2 (fun w2 => ?_) (fun w2 => ?_)⟩
    · refine ⟨.ref z, rfl, z, _, rfl, .inl (.inl hz2), fun t o nt od => ⟨by show 2 ≤ sizeLine; decide, fun a ha => ?_⟩⟩
      exact q (.ref a) (.next ms) _ ((eX.trans ((Ext.refl _).new nt)).trans ((Ext.refl _).new ha)) (((b2.new nt).new ha).mono (by omega)) ⟨a, t, rfl, upd_same, .inr ⟨o, od, by rw [upd_ne (ne_of_none upd_same ha)]; exact upd_same⟩⟩ (rs.sub sub) sub trivial
    refine ⟨.int r2, rfl, rfl, _, rfl, ite2 (fun w3 => ?_) (fun w3 => ?_)⟩
    · refine ⟨.ref z, rfl, z, _, rfl, .inl (.inl hz2), fun t o nt od => ⟨by show 2 ≤ sizeLine; decide, fun a ha => ?_⟩⟩
      exact q (.ref a) (.free ms) _ ((eX.trans ((Ext.refl _).new nt)).trans ((Ext.refl _).new ha)) (((b2.new nt).new ha).mono (by omega)) ⟨a, t, rfl, upd_same, .inr ⟨o, od, by rw [upd_ne (ne_of_none upd_same ha)]; exact upd_same⟩⟩ (rs.sub sub) sub trivial
    · refine ⟨.ref bx, rfl, .ref z, rfl, .int far, rfl, bx, z, _, far, many, ms, rfl, f0, f1, ?_, by omega, b2, hz2, nz2, rs.sub sub, fun v r H3 e3 b3 ra wf pe fi => ?_⟩
      · omega
      · exact q v r H3 (eX.trans e3) (b3.mono (by omega)) ra wf (by rw [pe]; exact sub) fi
def spHallF : Sp := fun vs H Q _ => ∃ (bx : Addr) (c : Int), vs = [.ref bx] ∧ c + 100 ≤ 1000000000 ∧ Box bx c H ∧
  ∀ (l : Addr) (us : List V) (rs : List Rule) (H' : Hp), Ext bx H H' → Box bx (c + 100) H' → H l = none → H' l = some (.lst us) → RulesAt H' us rs → Halls rs → rs.length ≤ 5 → (∀ r ∈ rs, r.Fine 3) → (rs.length = 5 → ∀ r ∈ rs, ∃ own ties, r = .sum own ties ∧ own ≤ 1 ∧ ∀ q ∈ ties, q.2 = 1) → Q (.ref l) H'
set_option maxHeartbeats 2000000 in
theorem ok_hallF (T : Txt K mg w) : FnOk P w K mg base CX0 4 T.f_hall T.fd_hall p_hall spHallF := by
  have G_take := ok_take (P := P) (w := w) (base := base) T
  have G_some := ok_some (P := P) (w := w) (base := base) T
  have G_rule := ok_ruleF (P := P) (w := w) (base := base) T
  refine T.F_hall.ok sc_hall (fun vs H Q E h => ?_) (fun cdv A outer s H vs Q E hr h => ?_)
  · obtain ⟨bx, c, rfl, _⟩ := h
    rfl
  · obtain ⟨bx, c, rfl, c1, hB, q⟩ := h
    refine ⟨_, (pss_cons (ps_set (i := 1) sc_hall.nd rfl (.inr rfl) (pe_op op_add pe_int (pe_call G_take (hr.mono (by decide)) (by rfl) T.g_take T.F_take.kp T.b_take .nil pass0 (pa_cons (pv 0) (pa_cons pe_int pa_nil)))))
      (pss_cons (ps_if (pt_cmpR op_eq (pv 1) pe_int (nomark _))
        (pss_cons (ps_set (i := 2) sc_hall.nd rfl (.inl rfl) (pe_lst pa_nil))
        (pss_cons (ps_for PassesOwn.never rfl (pi_range1 (by rfl) T.m_range (pa_cons pe_int pa_nil)) (pg_name (i := 3) sc_hall.nd rfl (.inl rfl))
          (pss_cons (ps_set (i := 4) sc_hall.nd rfl (.inl rfl) (pe_call G_some (hr.mono (by decide)) (by rfl) T.g_some T.F_some.kp T.b_some .nil pass0 (pa_cons (pv 0) (pa_cons (pe_listRg (by rfl) (by rfl) T.m_list (prg_1 (by rfl) T.m_range pe_int)) (pa_cons pe_int pa_nil)))))
          (pss_one (ps_expr (pe_bm PySem.F.plainAttrs_list PySem.F.slot_list_append PySem.F.type_list_append mt_append (pv 2) (pa_cons (pe_tup (pa_cons pe_str (pa_cons (pe_call G_take (hr.mono (by decide)) (by rfl) T.g_take T.F_take.kp T.b_take .nil pass0 (pa_cons (pv 0) (pa_cons pe_int pa_nil))) (pa_cons (pe_callTy call_tupleF (by rfl) T.m_tuple (by decide +kernel) (pa_cons (pe_lc (own := [("_law_other", 5)]) (g := gName 5) (by rfl) sc_hall.nd (pi_list (pv 4)) (blkOk_by (own := [("_law_other", 5)]) (N := n_hall) (sc := defScope s_hall) (by decide +kernel)) (fun _ _ _ _ _ => (pg_name (i := 5) sc_hall.nd rfl (.inl rfl) (.inr rfl))) (fun _ _ _ _ _ => pts_nil) (fun _ _ _ _ _ => (pe_tup (pa_cons (pv 5) (pa_cons pe_int pa_nil))))) pa_nil)) pa_nil)))) pa_nil))))))
        (pss_one (ps_ret (pv 2)))))
        pss_nil)
      (pss_one (ps_ret (pe_lc (own := [("_law_one", 3)]) (g := gName 3) (by rfl) sc_hall.nd (pi_range1 (by rfl) T.m_range (pa_cons (pv 1) pa_nil)) (blkOk_by (own := [("_law_one", 3)]) (N := n_hall) (sc := defScope s_hall) (by decide +kernel)) (fun _ _ _ _ _ => (pg_name (i := 3) sc_hall.nd rfl (.inl rfl) (.inr rfl))) (fun _ _ _ _ _ => pts_nil) (fun _ _ _ _ _ => (pe_call G_rule (hr.mono (by decide)) (by rfl) T.g_rule T.F_rule.kp T.b_rule .nil pass0 (pa_cons (pv 0) (pa_cons (pv 1) (pa_cons (pe_listRg (by rfl) (by rfl) T.m_list (prg_1 (by rfl) T.m_range (pv 1))) (pa_cons pe_int pa_nil))))))))))), ?_⟩
    refine ⟨.ref bx, rfl, bx, _, 5, rfl, by decide, by decide, by omega, hB, fun r1 H1 r10 r11 e1 b1 => ⟨1, r1, rfl, rfl, ?_⟩⟩
    refine ⟨.int (1 + r1), rfl, rfl, _, rfl, ite2 (fun w0 => ?_) (fun w0 => ?_)⟩
    · refine ⟨by show 0 ≤ sizeLine; decide, fun l nl => ?_⟩
      have nlb := b1.ne nl
      have nlH : H l = none := e1.free nlb nl
      refine ⟨5, rfl, by decide, by decide, ?_⟩
      refine for_it walk_range (fun i σ H3 => ∃ (y3 y4 y5 : Option V) (us : List V) (rs : List Rule), σ = [some (.ref bx), some (.int (1 + r1)), some (.ref l), y3, y4, y5] ∧ Ext bx H H3 ∧ Box bx (c + 1 + 6 * i) H3 ∧ H3 l = some (.lst us) ∧ RulesAt H3 us rs ∧ rs.length = i ∧ ∀ r ∈ rs, r.Wf 5 ∧ ∃ own ties, r = .sum own ties ∧ own ≤ 1 ∧ ∀ q ∈ ties, q.2 = 1) ⟨none, none, none, [], [], rfl, e1.trans ((Ext.refl _).new nl), by simpa using b1.new nl, upd_same, .nil, rfl, fun r h => absurd h (by simp)⟩ (fun _ _ _ _ _ => trivial) ?_ ?_
      · rintro i x σ H3 H3' hi ⟨y3, y4, y5, us, rs, rfl, e3, b3, h3, ra3, l3, wf3⟩ ⟨rfl, rfl⟩
        have hi' : i < 5 := hi
        have lu : us.length = rs.length := ra3.length
        refine ⟨.ref bx, rfl, 5, rfl, RgOk.of_le (by decide) (by decide) (by decide) (by decide), fun pl npl => ?_⟩
        have nb := b3.ne npl
        have b4 := b3.new (o := .lst (rgV 0 5)) npl
        have len : ((List.range (5 : Int).toNat).map fun k : Nat => (k : Int)).length = 5 := by decide
        refine ⟨bx, pl, _, 2, (List.range (5 : Int).toNat).map (fun k : Nat => (k : Int)), rfl, by decide, by decide, by omega, by omega, b4, by rw [upd_same, rg_ints], nb, fun z ms H5 e5 b5 nz hz sub => ?_⟩
        have nzb : z ≠ bx := b4.ne nz
        have ml : ms.length ≤ 5 := by rw [← len]; exact sub.length_le
        have k35 : Keep H3' H5 := (Keep.same (same_upd npl)).trans (Keep.ext e5 b4)
        have e35 : Ext bx H H5 := (e3.trans ((Ext.refl _).new npl)).trans e5
        have h5 : H5 l = some (.lst us) := e5 _ _ nlb (same_upd npl _ _ h3)
        refine ⟨.ref l, rfl, .inl ⟨rfl, _, .inl (.inl h5)⟩, .ref bx, rfl, bx, _, 2, rfl, by decide, by decide, by omega, b5, fun r6 H6 r60 r61 e6 b6 => ?_⟩
        have hz6 := e6 _ _ nzb hz
        have h6 := e6 _ _ nlb h5
        refine ⟨.ref z, rfl, z, rfl, ⟨_, .inl (.inl hz6)⟩, fun D hD => ?_⟩
        refine lc_onesL hz6 hD (by omega) (fun _ => rfl) (fun _ => rfl) (fun H7 ps s7 h7 pr7 => ?_)
        refine ⟨D, _, rfl, .inl (.inl h7), fun t o nt od => ⟨by show 3 ≤ sizeLine; decide, fun a ha => ?_⟩⟩
        have s8 : Same H6 (upd (upd H7 t (.frz o (.tup (ps.map V.ref)))) a (.tup [.str "sum", .int r6, .ref t])) := (s7.trans (same_upd nt)).trans (same_upd ha)
        have h8 := s8 _ _ h6
        refine ⟨l, us, .ref a, rfl, rfl, h8, small1000 (by omega), ?_⟩
        have kL := keep_lst (ys := us ++ [.ref a]) h8
        have k38 := ((k35.trans (Keep.ext e6 b5)).trans (Keep.same s8)).trans kL
        refine ⟨_, _, _, us ++ [V.ref a], rs ++ [.sum r6 (ms.map fun n => (n, 1))], rfl, ?_, ?_, upd_same, ?_, ?_, ?_⟩
        · exact ((e35.trans e6).trans (Ext.of s8)).new nlH
        · exact ((b6.same s8).at nlb).mono (by omega)
        · refine Paired.snoc (R := RuleAt _) ?_ (ra3.keep k38)
          refine ⟨a, t, rfl, kL.tup _ _ upd_same, o, ps, od, kL.frz _ _ _ (same_upd ha _ _ upd_same), ?_⟩
          exact pairs_keep (((Keep.same (same_upd nt)).trans (Keep.same (same_upd ha))).trans kL) pr7
        · rw [List.length_append, l3]; rfl
        · intro r hr'
          rcases List.mem_append.mp hr' with h | h
          · exact wf3 r h
          · rw [List.mem_singleton.mp h]
            have ris : Rising 5 ms := (rg_rising 5 (by decide)).sub sub
            refine ⟨⟨⟨r60, by omega⟩, ?_, fun q hq => ?_⟩, _, _, rfl, by omega, fun q hq => ?_⟩
            · rw [List.map_map]
              have : (ms.map ((fun q : Int × Int => q.1) ∘ fun n => (n, 1))) = ms := by
                rw [show ((fun q : Int × Int => q.1) ∘ fun n : Int => (n, (1 : Int))) = id from rfl, List.map_id]
              rw [this]
              exact ris
            · obtain ⟨n, _, rfl⟩ := List.mem_map.mp hq
              exact ⟨Int.le_refl _, by show (1 : Int) ≤ 1000; decide⟩
            · obtain ⟨n, _, rfl⟩ := List.mem_map.mp hq
              rfl
      · rintro σ H3 ⟨y3, y4, y5, us, rs, rfl, e3, b3, h3, ra3, l3, wf3⟩
        have l3' : rs.length = 5 := l3
        exact ⟨.ref l, rfl, q l us rs H3 e3 (b3.mono (by show c + 1 + 6 * ((5 : Nat) : Int) ≤ c + 100; omega)) nlH h3 ra3 ⟨by omega, by omega, by rw [l3']; exact fun r hr => (wf3 r hr).1⟩ (by omega) (fun r hr => by obtain ⟨own, ties, e, h1, h2⟩ := (wf3 r hr).2; subst e; exact ⟨by omega, fun q hq => by rw [h2 q hq]; decide⟩) fun _ r hr => (wf3 r hr).2⟩
    · have w1 : ¬ 1 + r1 = 5 := fun z => w0 (decide_eq_true (by rw [z]))
      refine ⟨.int (1 + r1), rfl, _, rfl, by omega, by omega, fun D hD => ?_⟩
      have nDb := b1.ne hD
      have nDH : H D = none := e1.free nDb hD
      refine lc_it walk_range (fun i H3 => ∃ (us : List V) (rs : List Rule), Ext bx H1 H3 ∧ Box bx (c + 1 + 18 * i) H3 ∧ H3 D = some (.lst us) ∧ RulesAt H3 us rs ∧ rs.length = i ∧ ∀ r ∈ rs, r.Wf (1 + r1) ∧ r.Fine 3) ⟨[], [], (Ext.refl _).new hD, by simpa using b1.new hD, upd_same, .nil, rfl, fun r h => absurd h (by simp)⟩ (fun _ _ _ _ => trivial) ?_ ?_
      · rintro i x H3 H4 hi ⟨us, rs, e3, b3, h3, ra3, l3, wf3⟩ ⟨rfl, rfl⟩
        have hi' : i < 4 := by omega
        have lu : us.length = rs.length := ra3.length
        refine ⟨rfl, yes (iteT ?_)⟩
        refine ⟨.ref bx, rfl, .int (1 + r1), rfl, .int (1 + r1), rfl, _, rfl, RgOk.of_le (by omega) (by omega) (by omega) (by omega), fun pl npl => ?_⟩
        have nb := b3.ne npl
        have b4 := b3.new (o := .lst (rgV 0 (1 + r1))) npl
        have len : ((List.range (1 + r1).toNat).map fun k : Nat => (k : Int)).length ≤ 4 := by rw [List.length_map, List.length_range]; omega
        refine ⟨bx, pl, _, 3, 1 + r1, .int (1 + r1), (List.range (1 + r1).toNat).map (fun k : Nat => (k : Int)), rfl, by decide, by decide, by omega, by omega, b4, by rw [upd_same, rg_ints], nb, rg_rising _ (by omega), fun v r H5 e5 b5 ra5 wf sub5 fi5 => ?_⟩
        have e35 : Ext bx H4 H5 := ((Ext.refl _).new npl).trans e5
        have k35 : Keep H4 H5 := (Keep.same (same_upd npl)).trans (Keep.ext e5 b4)
        have h5 := e35 _ _ nDb h3
        have kL := keep_lst (ys := us ++ [v]) h5
        refine ⟨us, h5, small1000 (by omega), us ++ [v], rs ++ [r], (e3.trans e35).new hD, (b5.at nDb).mono (by omega), upd_same, Paired.snoc (R := RuleAt _) (ra5.keep kL) (ra3.keep (k35.trans kL)), by rw [List.length_append, l3]; rfl, ?_⟩
        intro r' hr'
        rcases List.mem_append.mp hr' with h | h
        · exact wf3 r' h
        · rw [List.mem_singleton.mp h]; exact ⟨wf, fi5⟩
      · rintro H3 ⟨us, rs, e3, b3, h3, ra3, l3, wf3⟩
        have l4 : (rs.length : Int) = 1 + r1 := by rw [l3]; omega
        refine q D us rs H3 (e1.trans e3) (b3.mono (by omega)) nDH h3 ra3 ⟨by omega, by omega, by rw [l4]; exact fun r hr => (wf3 r hr).1⟩ (by omega) (fun r hr => (wf3 r hr).2) fun e => absurd e (by omega)
def spFlatF : Sp := fun vs H Q _ => ∃ (bx : Addr) (c m : Int), vs = [.ref bx, .int m] ∧ 0 < m ∧ m ≤ 12 ∧ c + 1000 ≤ 1000000000 ∧ Box bx c H ∧
  ∀ (l : Addr) (us : List V) (rs : List Rule) (H' : Hp), Ext bx H H' → Box bx (c + 1000) H' → H l = none → H' l = some (.lst us) → RulesAt H' us rs → Halls rs → (rs.length : Int) ≤ m → (∀ r ∈ rs, r.Fine 9) → Flat rs → Q (.ref l) H'
set_option maxHeartbeats 2000000 in
theorem ok_flatF (T : Txt K mg w) : FnOk P w K mg base CX0 4 T.f_flat T.fd_flat p_flat spFlatF := by
  have G_take := ok_take (P := P) (w := w) (base := base) T
  have G_strewn := ok_strewn (P := P) (w := w) (base := base) T
  have G_rule := ok_ruleF (P := P) (w := w) (base := base) T
  refine T.F_flat.ok sc_flat (fun vs H Q E h => ?_) (fun cdv A outer s H vs Q E hr h => ?_)
  · obtain ⟨bx, c, m, rfl, _⟩ := h
    rfl
  · obtain ⟨bx, c, m, rfl, m0, m1, c1, hB, q⟩ := h
    refine ⟨_, (pss_cons (ps_set (i := 2) sc_flat.nd rfl (.inl rfl) (pe_op op_add pe_int (pe_call G_take (hr.mono (by decide)) (by rfl) T.g_take T.F_take.kp T.b_take .nil pass0 (pa_cons (pv 0) (pa_cons (pv 1) pa_nil)))))
      (pss_cons (ps_par (i := 3) (j := 4) (by rfl) sc_flat.nd rfl rfl (by decide) rfl rfl (pa_cons (pe_call G_strewn (hr.mono (by decide)) (by rfl) T.g_strewn T.F_strewn.kp T.b_strewn .nil pass0 (pa_cons (pv 0) (pa_cons (pe_listRg (by rfl) (by rfl) T.m_list (prg_1 (by rfl) T.m_range (pv 2))) pa_nil))) (pa_cons (pe_op op_rep (pe_lst (pa_cons pe_non pa_nil)) (pv 2)) pa_nil)) (by rfl))
      (pss_cons (ps_for PassesOwn.never rfl (pi_enum (by rfl) T.m_enumerate (pa_cons (pv 3) pa_nil)) (pg_tup rfl (pgs_cons (pg_name (i := 5) sc_flat.nd rfl (.inl rfl)) (pgs_cons (pg_name (i := 6) sc_flat.nd rfl (.inl rfl)) pgs_nil)))
        (pss_one (ps_asg (pe_call G_rule (hr.mono (by decide)) (by rfl) T.g_rule T.F_rule.kp T.b_rule .nil pass0 (pa_cons (pv 0) (pa_cons (pv 2) (pa_cons (pe_callB cr_sortedI (by rfl) T.m_sorted (by decide +kernel) (pa_cons (pe_slice sl_list (pv 3) po_none (po_some (pv 5))) pa_nil)) (pa_cons pe_int pa_nil))))) (pg_sub (pv 4) (pv 6) set_list))))
      (pss_one (ps_ret (pv 4)))))), ?_⟩
    refine ⟨.ref bx, rfl, .int m, rfl, bx, _, m, rfl, m0, by omega, by omega, hB, fun r1 H1 r10 r11 e1 b1 => ⟨1, r1, rfl, rfl, ?_⟩⟩
    refine ⟨.ref bx, rfl, .int (1 + r1), rfl, _, rfl, RgOk.of_le (by omega) (by omega) (by omega) (by omega), fun pl npl => ?_⟩
    have nb := b1.ne npl
    have b2 := b1.new (o := .lst (rgV 0 (1 + r1))) npl
    have len : ((List.range (1 + r1).toNat).map fun k : Nat => (k : Int)).length = (1 + r1).toNat := by rw [List.length_map, List.length_range]
    refine ⟨bx, pl, _, (List.range (1 + r1).toNat).map (fun k : Nat => (k : Int)), rfl, by omega, by omega, b2, by rw [upd_same, rg_ints], nb, fun z ms H3 e3 b3 nz hz pm => ?_⟩
    have nzb : z ≠ bx := b2.ne nz
    have ml : ms.length = (1 + r1).toNat := by rw [pm.length_eq, len]
    have ris := rg_rising (1 + r1) (by omega)
    have mn : ms.Nodup := pm.nodup_iff.mpr ris.nodup
    have mi : ∀ x ∈ ms, 0 ≤ x ∧ x < 1 + r1 := fun x hx => ris.2 x (pm.mem_iff.mp hx)
    have eX : Ext bx H H3 := (e1.trans ((Ext.refl _).new npl)).trans e3
    refine ⟨by show 1 ≤ sizeLine; decide, fun l1 nl1 => ?_⟩
    refine ⟨.int (1 + r1), rfl, l1, 1 + r1, _, rfl, rfl, upd_same, by omega, by omega, ?_, fun l nl => ⟨_, _, rfl, ?_⟩⟩
    · show 1 * (1 + r1).toNat ≤ sizeLine
      exact Nat.le_of_lt (small1000 (by omega))
    rw [rep_one]
    have b4 := (b3.new (o := .lst [V.non]) nl1).new (o := .lst (List.replicate (1 + r1).toNat V.non)) nl
    have nlb := (b3.new (o := .lst [V.non]) nl1).ne nl
    have s4 : Same H3 (upd (upd H3 l1 (.lst [V.non])) l (.lst (List.replicate (1 + r1).toNat V.non))) := (same_upd nl1).trans (same_upd nl)
    have hz4 := s4 _ _ hz
    have nlH : H l = none := eX.free nlb ((same_upd nl1).free nl)
    refine ⟨.ref z, rfl, z, _, rfl, .inl (.inl hz4), ?_⟩
    refine for_it (walk_enum (xs := ms.map V.int)) (fun i σ H5 => ∃ (y5 y6 : Option V) (us : List V), σ = [some (.ref bx), some (.int m), some (.int (1 + r1)), some (.ref z), some (.ref l), y5, y6] ∧ Ext bx H H5 ∧ Box bx (c + 20 + 50 * i) H5 ∧ H5 z = some (.lst (ms.map V.int)) ∧ H5 l = some (.lst us) ∧ us.length = (1 + r1).toNat ∧ ∀ (j : Nat) (hj : j < ms.length), j < i → ∃ v r, us[ms[j].toNat]? = some v ∧ RuleAt H5 v r ∧ r.Wf (1 + r1) ∧ r.Fine 9 ∧ ∀ o ∈ r.persons, o ∈ ms.take j)
      ⟨none, none, _, rfl, eX.trans (Ext.of s4), b4.mono (by omega), hz4, upd_same, List.length_replicate, fun j _ hj => absurd hj (by omega)⟩ ?_ ?_ ?_
    · rintro i σ H5 _ ⟨y5, y6, us, rfl, e5, b5, hz5, _⟩
      exact .inl (.inl hz5)
    · rintro i y σ H5 H6 hi ⟨y5, y6, us, rfl, e5, b5, hz5, hl5, lu, al⟩ ⟨t, x1, x2, rfl, nt, rfl, e1', e2'⟩
      rw [List.length_map] at hi
      have e2'' : (ms.map V.int)[i]? = some x2 := e2'
      rw [List.getElem?_map, List.getElem?_eq_getElem hi] at e2''
      cases e2''
      cases e1'
      have sT := same_upd (o := .tup [V.int ((i : Nat) : Int), V.int ms[i]]) nt
      refine ⟨t, _, rfl, .inl (.inl upd_same), rfl, _, _, rfl, _, _, rfl, rfl, ?_⟩
      refine ⟨.ref bx, rfl, .int (1 + r1), rfl, .ref z, rfl, .int i, rfl, i, rfl, z, _, rfl, .inl (.inl (sT _ _ hz5)), fun z2 nz2 => ?_⟩
      rw [cut_map, cut_to ms i (by omega)]
      refine ⟨z2, ms.take i, rfl, .inl (.inl upd_same), fun ns' p' pm' sd' np' => ?_⟩
      have b7 := ((b5.same sT).new (o := .lst ((ms.take i).map V.int)) nz2).new (o := .lst (ns'.map V.int)) np'
      have npb := ((b5.same sT).new (o := .lst ((ms.take i).map V.int)) nz2).ne np'
      have s57 : Same H5 (upd (upd (upd H5 t (.tup [V.int ((i : Nat) : Int), V.int ms[i]])) z2 (.lst ((ms.take i).map V.int))) p' (.lst (ns'.map V.int))) := (sT.trans (same_upd nz2)).trans (same_upd np')
      have ln : ns'.length ≤ 12 := by rw [pm'.length_eq, List.length_take]; omega
      have rn : Rising (1 + r1) ns' := ⟨strict_of sd' (pm'.nodup_iff.mpr (mn.sublist (List.take_sublist _ _))), fun n hn => mi n (List.mem_of_mem_take (pm'.mem_iff.mp hn))⟩
      refine ⟨bx, p', _, 9, 1 + r1, .int (1 + r1), ns', rfl, by decide, by decide, by omega, by omega, b7, upd_same, npb, rn, fun v r H8 e8 b8 ra8 wf8 sub8 fi8 => ?_⟩
      have e58 : Ext bx H5 H8 := (Ext.of s57).trans e8
      have k58 : Keep H5 H8 := (Keep.same s57).trans (Keep.ext e8 b7)
      have hl8 := e58 _ _ nlb hl5
      have mii := mi _ (List.getElem_mem hi)
      refine ⟨.ref l, rfl, .int ms[i], rfl, l, _, _, ms[i].toNat, rfl, rfl, hl8, ?_, ?_⟩
      · have h1 : ((ms[i].toNat : Nat) : Int) = ms[i] := by omega
        have h2 := ixN_at (n := us.length) (j := ms[i].toNat) (by omega)
        rw [h1] at h2
        exact h2
      have kL := keep_lst (ys := us.set ms[i].toNat v) hl8
      refine ⟨_, _, us.set ms[i].toNat v, rfl, (e5.trans e58).new nlH, (b8.at nlb).mono (by omega), ?_, upd_same, by rw [List.length_set]; exact lu, fun j hj hji => ?_⟩
      · have nzl : z ≠ l := fun q => by
          have q2 := e5 l
          subst q
          rw [hz5] at hl5
          have := ne_of_none (same_upd (o := .lst [V.non]) nl1 _ _ hz) nl
          exact this rfl
        rw [upd_ne nzl]
        exact e58 _ _ nzb hz5
      · have mij := mi _ (List.getElem_mem hj)
        by_cases cx : j = i
        · subst cx
          exact ⟨v, r, by rw [List.getElem?_set, if_pos rfl, if_pos (by omega)], ra8.keep kL, wf8, fi8, fun o ho => pm'.mem_iff.mp (sub8.subset ho)⟩
        · obtain ⟨v', r', h1, h2, h3, h4, h5⟩ := al j hj (by omega)
          have ne : ms[j] ≠ ms[i] := fun e => cx ((List.getElem_inj mn).mp e)
          exact ⟨v', r', by rw [List.getElem?_set, if_neg (by omega)]; exact h1, (h2.keep k58).keep kL, h3, h4, h5⟩
    · rintro σ H5 ⟨y5, y6, us, rfl, e5, b5, hz5, hl5, lu, al⟩
      rw [List.length_map] at al b5
      obtain ⟨rs, ra, wf, pr⟩ := rules_ofP (H := H5) (m := 1 + r1) (Pr := fun i r => r.Fine 9 ∧ ∃ (j : Nat) (hj : j < ms.length), ms[j] = (i : Int) ∧ ∀ o ∈ r.persons, o ∈ ms.take j) us (fun i hi => by
        have hm : (i : Int) ∈ ms := pm.mem_iff.mpr (List.mem_map.mpr ⟨i, List.mem_range.mpr (by omega), rfl⟩)
        obtain ⟨j, hj, ej⟩ := List.mem_iff_getElem.mp hm
        obtain ⟨v, r, h1, h2, h3, h4, h5⟩ := al j hj hj
        rw [ej, Int.toNat_natCast, List.getElem?_eq_getElem hi] at h1
        cases h1
        exact ⟨r, h2, h3, h4, j, hj, ej, h5⟩)
      have lr : rs.length = (1 + r1).toNat := by rw [← lu]; exact ra.length.symm
      have lr' : (rs.length : Int) = 1 + r1 := by omega
      refine ⟨.ref l, rfl, q l us rs H5 e5 (b5.mono (by omega)) nlH hl5 ra ⟨by omega, by omega, by rw [lr']; exact wf⟩ (by omega) (fun r hr => ?_) ⟨ms, mn, by rw [ml, lr], fun x hx => by have := mi x hx; omega, fun i hi => ?_⟩⟩
      · obtain ⟨i, hi, e⟩ := List.mem_iff_getElem.mp hr
        rw [← e]
        exact (pr i hi).1
      · exact (pr i hi).2
end
end Lh

namespace Lh
open PySem PySem.Spec PyProof.Rows L2
theorem okD_ints {n : Nat} {ns : List Int} (h : ns.length ≤ 8388608) : okD (n + 1) (.tuple (ns.map PyData.int)) := by
  refine ⟨by rw [List.length_map]; exact h, fun d hd => ?_⟩
  obtain ⟨x, _, rfl⟩ := List.mem_map.mp hd
  cases n <;> trivial
def wayD (nss : List (List Int)) : PyData := .list (nss.map fun ms => .tuple (ms.map PyData.int))
theorem okD_way {n : Nat} {nss : List (List Int)} (h : nss.length ≤ 8388608) (h2 : ∀ ms ∈ nss, ms.length ≤ 8388608) : okD (n + 2) (wayD nss) := by
  refine ⟨by rw [List.length_map]; exact h, fun d hd => ?_⟩
  obtain ⟨x, hx, rfl⟩ := List.mem_map.mp hd
  exact okD_ints (h2 x hx)
theorem tup_nb {bx : Addr} {c : Int} {H : Hp} {t : Addr} {xs : List V} (b : Box bx c H) (h : TupAt H t xs) : t ≠ bx := by
  obtain ⟨_, _, _, hb, _⟩ := b
  rcases h with h | ⟨o, _, h⟩
  · exact ne_of h hb (by intro z; cases z)
  · exact ne_of h hb (by intro z; cases z)
theorem StandsAt.rp {bx : Addr} {c : Int} {H : Hp} (b : Box bx c H) : ∀ {vs : List V} {nss : List (List Int)}, StandsAt H vs nss → RpAll bx H vs (nss.map fun ms => .tuple (ms.map PyData.int))
  | _, _, .nil => .nil
  | _, _, .cons ⟨t, e, h⟩ r => by
    subst e
    exact .cons (.tup h (tup_nb b h) (RpAll.ints _)) (StandsAt.rp b r)
theorem StandsAt.drop {H : Hp} : ∀ {vs : List V} {nss : List (List Int)} (k : Nat), StandsAt H vs nss → StandsAt H (vs.drop k) (nss.drop k)
  | _, _, 0, h => h
  | _, _, k + 1, .nil => .nil
  | _, _, k + 1, .cons _ r => StandsAt.drop k r
theorem StandsAt.take {H : Hp} : ∀ {vs : List V} {nss : List (List Int)} (k : Nat), StandsAt H vs nss → StandsAt H (vs.take k) (nss.take k)
  | _, _, 0, h => .nil
  | _, _, k + 1, .nil => .nil
  | _, _, k + 1, .cons h r => .cons h (StandsAt.take k r)
/-- what stands while a hall is asked -/
structure F7 (C bx : Addr) (c : Int) (H0 : Hp) (l x t : Addr) (us : List V) (rs : List Rule) (ns : List Int) (Hk : Hp) : Prop where
  e : Ext bx H0 Hk
  b : Box bx c Hk
  hl : Hk l = some (.lst us)
  ra : RulesAt Hk us rs
  hA : HallAt C Hk x rs
  hS : TupAt Hk t (ns.map V.int)
theorem F7.same {C bx : Addr} {c : Int} {H0 : Hp} {l x t : Addr} {us : List V} {rs : List Rule} {ns : List Int} {Hk H' : Hp} (f : F7 C bx c H0 l x t us rs ns Hk) (s : Same Hk H') : F7 C bx c H0 l x t us rs ns H' :=
  ⟨f.e.trans (Ext.of s), f.b.same s, s _ _ f.hl, f.ra.keep (Keep.same s), f.hA.keep s, f.hS.keep (Keep.same s)⟩
theorem F7.draw {C bx : Addr} {c c' : Int} {H0 : Hp} {l x t : Addr} {us : List V} {rs : List Rule} {ns : List Int} {Hk H' : Hp} (f : F7 C bx c H0 l x t us rs ns Hk) (nl : l ≠ bx) (e : Ext bx Hk H') (b : Box bx c' H') : F7 C bx c' H0 l x t us rs ns H' :=
  ⟨f.e.trans e, b, e _ _ nl f.hl, f.ra.keep (Keep.ext e f.b), f.hA.ext e f.b, f.hS.keep (Keep.ext e f.b)⟩
theorem F7.lst {C bx : Addr} {c : Int} {H0 : Hp} {l x t d : Addr} {us ys zs : List V} {rs : List Rule} {ns : List Int} {Hk : Hp} (f : F7 C bx c H0 l x t us rs ns Hk) (hd : Hk d = some (.lst ys)) (n1 : d ≠ bx) (n2 : l ≠ d) (n0 : H0 d = none) : F7 C bx c H0 l x t us rs ns (upd Hk d (.lst zs)) := by
  have kT := keep_lst (ys := zs) hd
  refine ⟨f.e.new n0, f.b.at n1, by rw [upd_ne n2]; exact f.hl, f.ra.keep kT, ?_, f.hS.keep kT⟩
  obtain ⟨dx, t', vs, h1, h2, h3⟩ := f.hA
  refine ⟨dx, t', vs, ?_, h2.keep kT, h3.keep kT⟩
  rw [upd_ne (ne_of h1 hd (by intro z; cases z))]
  exact h1
def tupD (ms : List Int) : PyData := .tuple (ms.map PyData.int)
theorem TupAt.rpI {bx : Addr} {c : Int} {H : Hp} (b : Box bx c H) {t : Addr} {ms : List Int} (h : TupAt H t (ms.map V.int)) : Rp bx H (.ref t) (tupD ms) := .tup h (tup_nb b h) (RpAll.ints _)
theorem okD_tups {n : Nat} {ds : List (List Int)} (h : ds.length ≤ 8388608) (h2 : ∀ ms ∈ ds, ms.length ≤ 8388608) : okD (n + 2) (.list (ds.map tupD)) := okD_way h h2
theorem okD_intsL {n : Nat} {ns : List Int} (h : ns.length ≤ 8388608) : okD (n + 1) (.list (ns.map PyData.int)) := by
  refine ⟨by rw [List.length_map]; exact h, fun d hd => ?_⟩
  obtain ⟨x, _, rfl⟩ := List.mem_map.mp hd
  cases n <;> trivial
def spRight : Sp := fun vs H Q _ => ∃ bx : Addr, vs = [.ref bx] ∧ Box bx 0 H ∧ ∀ H', Ext bx H H' → Q (.bl true) H'
end Lh

namespace Lh
open PySem PySem.Spec PyProof.Rows L2
section
variable {P : Program} {w : World} {K : PySem.W.Frag} {mg : Str → Option Value} {base : Heap}
def spOneOf : Sp := fun vs H Q _ => ∃ (bx a : Addr) (c : Int) (os : List V), vs = [.ref bx, .ref a] ∧ H a = some (.lst os) ∧ a ≠ bx ∧ 1 ≤ os.length ∧ os.length ≤ 1000 ∧ c + 1 ≤ 1000000000 ∧ Box bx c H ∧
  ∀ (v : V) (H' : Hp), v ∈ os → Ext bx H H' → Box bx (c + 1) H' → Q v H'
theorem ok_one_of (T : Txt K mg w) : FnOk P w K mg base CX0 2 T.f_one_of T.fd_one_of p_one_of (spOneOf) := by
  have G_take := ok_take (P := P) (w := w) (base := base) T
  refine T.F_one_of.ok sc_one_of (fun vs H Q E h => ?_) (fun cdv A outer s H vs Q E hr h => ?_)
  · obtain ⟨bx, a, c, os, rfl, _⟩ := h
    rfl
  · obtain ⟨bx, a, c, os, rfl, ha, nab, l1, l2, c1, hB, q⟩ := h
    refine ⟨_, (pss_one (ps_ret (pe_ix ix_list (pv 1) (pe_call G_take (hr.mono (by decide)) (by rfl) T.g_take T.F_take.kp T.b_take .nil pass0 (pa_cons (pv 0) (pa_cons (pe_callB call_len_seq (by rfl) T.m_len (by decide +kernel) (pa_cons (pv 1) pa_nil)) pa_nil))) (fun _ _ => rfl)))), ?_⟩
    refine ⟨.ref a, rfl, .ref bx, rfl, .ref a, rfl, a, _, rfl, .inl (.inl (.inl ha)), bx, _, _, rfl, by omega, by omega, by omega, hB, fun r H1 r0 r1 e1 b1 => ?_⟩
    obtain ⟨v, mv, av⟩ := pick (xs := os) r0 r1
    exact ⟨a, os, r, v, rfl, rfl, .inl (.inl (e1 _ _ nab ha)), av, q v H1 mv e1 b1⟩
end
end Lh

namespace Lh
open PySem PySem.Spec PyProof.Rows L2
section
variable {P : Program} {w : World} {K : PySem.W.Frag} {mg : Str → Option Value} {base : Heap}
def spSeen : Sp := fun vs H Q _ => ∃ (v : V) (r : Rule), vs = [v] ∧ RuleAt H v r ∧ r.persons.length ≤ 1000 ∧ ∀ (p : Addr) (ps : List Addr) (H' : Hp), Same H H' → H p = none → H' p = some (.lst (ps.map V.ref)) → Paired (PairAtH H') ps (seenPairs r) → Q (.ref p) H'
theorem ok_seen (T : Txt K mg w) : FnOk P w K mg base CX0 1 T.f_seen T.fd_seen p_seen spSeen := by
  refine T.F_seen.ok sc_seen (fun vs H Q E h => ?_) (fun cdv A outer s H vs Q E hr h => ?_)
  · obtain ⟨v, r, rfl, _⟩ := h
    rfl
  · obtain ⟨v, r, rfl, hv, hl, q⟩ := h
    refine ⟨_, (pss_cons (ps_if (pt_cmpR op_eq (pe_ix ix_tup (pv 0) pe_int (fun _ _ => rfl)) pe_str (nomark _))
        (pss_one (ps_ret (pe_lst pa_nil)))
        pss_nil)
      (pss_one (ps_ret (pe_ifExp (pt_cmpR op_in_seq (pe_ix ix_tup (pv 0) pe_int (fun _ _ => rfl)) (pe_tup (pa_cons pe_str (pa_cons pe_str pa_nil))) (by rfl)) (pe_callTy call_list_of (by rfl) T.m_list (by decide +kernel) (pa_cons (pe_ix ix_tup (pv 0) pe_int (fun _ _ => rfl)) pa_nil)) (pe_lc (own := [("_law_one", 1)]) (g := gName 1) (by rfl) sc_seen.nd (pi_tup (pe_ix ix_tup (pv 0) (pe_un un_neg pe_int) (fun _ _ => rfl))) (blkOk_by (own := [("_law_one", 1)]) (N := n_seen) (sc := defScope s_seen) (by decide +kernel)) (fun _ _ _ _ _ => (pg_name (i := 1) sc_seen.nd rfl (.inl rfl) (.inr rfl))) (fun _ _ _ _ _ => pts_nil) (fun _ _ _ _ _ => (pe_tup (pa_cons (pv 1) (pa_cons pe_int pa_nil))))))))), ?_⟩
    cases r with
    | held n =>
      obtain ⟨a, rfl, ha⟩ := hv
      refine ⟨.ref a, rfl, a, _, 0, _, rfl, rfl, .inl (.inl ha), rfl, rfl, _, rfl, iteP (by decide +kernel) ?_⟩
      exact ⟨Nat.zero_le _, fun p np => q p [] _ (same_upd np) np upd_same .nil⟩
    | sum own ties =>
      obtain ⟨a, t, rfl, ha, o, ps, od, ht, pr⟩ := hv
      refine ⟨.ref a, rfl, a, _, 0, _, rfl, rfl, .inl (.inl ha), rfl, rfl, _, rfl, iteN (by decide +kernel) ?_⟩
      refine ⟨.ref a, rfl, a, _, 0, _, rfl, rfl, .inl (.inl ha), rfl, by show 2 ≤ sizeLine; decide, fun u hu => ⟨u, _, rfl, .inr (.inl (.inl upd_same)), rfl, rfl, _, rfl, iteP (by decide +kernel) ?_⟩⟩
      have s1 := same_upd (o := .tup [.str "sum", .str "cap"]) hu
      refine ⟨.ref a, rfl, a, _, 2, _, rfl, rfl, .inl (.inl (s1 _ _ ha)), rfl, t, _, rfl, .inr (.inl (.inr ⟨o, s1 _ _ ht⟩)), fun p np => ?_⟩
      exact q p ps _ (s1.trans (same_upd np)) (s1.free np) upd_same (pairs_keep (Keep.same (s1.trans (same_upd np))) pr)
    | cap own ties most =>
      obtain ⟨a, t, rfl, ha, o, ps, od, ht, pr⟩ := hv
      refine ⟨.ref a, rfl, a, _, 0, _, rfl, rfl, .inl (.inl ha), rfl, rfl, _, rfl, iteN (by decide +kernel) ?_⟩
      refine ⟨.ref a, rfl, a, _, 0, _, rfl, rfl, .inl (.inl ha), rfl, by show 2 ≤ sizeLine; decide, fun u hu => ⟨u, _, rfl, .inr (.inl (.inl upd_same)), rfl, rfl, _, rfl, iteP (by decide +kernel) ?_⟩⟩
      have s1 := same_upd (o := .tup [.str "sum", .str "cap"]) hu
      refine ⟨.ref a, rfl, a, _, 2, _, rfl, rfl, .inl (.inl (s1 _ _ ha)), rfl, t, _, rfl, .inr (.inl (.inr ⟨o, s1 _ _ ht⟩)), fun p np => ?_⟩
      exact q p ps _ (s1.trans (same_upd np)) (s1.free np) upd_same (pairs_keep (Keep.same (s1.trans (same_upd np))) pr)
    | kinds own seen =>
      obtain ⟨a, t, rfl, ha, hs⟩ := hv
      refine ⟨.ref a, rfl, a, _, 0, _, rfl, rfl, .inl (.inl ha), rfl, rfl, _, rfl, iteN (by decide +kernel) ?_⟩
      refine ⟨.ref a, rfl, a, _, 0, _, rfl, rfl, .inl (.inl ha), rfl, by show 2 ≤ sizeLine; decide, fun u hu => ⟨u, _, rfl, .inr (.inl (.inl upd_same)), rfl, rfl, _, rfl, iteN (by decide +kernel) ?_⟩⟩
      have s1 := same_upd (o := .tup [.str "sum", .str "cap"]) hu
      have hs1 := hs.keep (Keep.same s1)
      refine ⟨.ref a, rfl, 1, rfl, a, _, -1, _, rfl, rfl, .inl (.inl (s1 _ _ ha)), rfl, t, rfl, ⟨_, TupAt.sq hs1⟩, fun D hD => ?_⟩
      exact lc_ones hs1 hD hl (fun _ => rfl) (fun _ => rfl) (fun H3 ps s3 h3 pr => q D ps H3 (s1.trans s3) (s1.free hD) h3 pr)
    | next seen =>
      obtain ⟨a, t, rfl, ha, hs⟩ := hv
      refine ⟨.ref a, rfl, a, _, 0, _, rfl, rfl, .inl (.inl ha), rfl, rfl, _, rfl, iteN (by decide +kernel) ?_⟩
      refine ⟨.ref a, rfl, a, _, 0, _, rfl, rfl, .inl (.inl ha), rfl, by show 2 ≤ sizeLine; decide, fun u hu => ⟨u, _, rfl, .inr (.inl (.inl upd_same)), rfl, rfl, _, rfl, iteN (by decide +kernel) ?_⟩⟩
      have s1 := same_upd (o := .tup [.str "sum", .str "cap"]) hu
      have hs1 := hs.keep (Keep.same s1)
      refine ⟨.ref a, rfl, 1, rfl, a, _, -1, _, rfl, rfl, .inl (.inl (s1 _ _ ha)), rfl, t, rfl, ⟨_, TupAt.sq hs1⟩, fun D hD => ?_⟩
      exact lc_ones hs1 hD hl (fun _ => rfl) (fun _ => rfl) (fun H3 ps s3 h3 pr => q D ps H3 (s1.trans s3) (s1.free hD) h3 pr)
    | free seen =>
      obtain ⟨a, t, rfl, ha, hs⟩ := hv
      refine ⟨.ref a, rfl, a, _, 0, _, rfl, rfl, .inl (.inl ha), rfl, rfl, _, rfl, iteN (by decide +kernel) ?_⟩
      refine ⟨.ref a, rfl, a, _, 0, _, rfl, rfl, .inl (.inl ha), rfl, by show 2 ≤ sizeLine; decide, fun u hu => ⟨u, _, rfl, .inr (.inl (.inl upd_same)), rfl, rfl, _, rfl, iteN (by decide +kernel) ?_⟩⟩
      have s1 := same_upd (o := .tup [.str "sum", .str "cap"]) hu
      have hs1 := hs.keep (Keep.same s1)
      refine ⟨.ref a, rfl, 1, rfl, a, _, -1, _, rfl, rfl, .inl (.inl (s1 _ _ ha)), rfl, t, rfl, ⟨_, TupAt.sq hs1⟩, fun D hD => ?_⟩
      exact lc_ones hs1 hD hl (fun _ => rfl) (fun _ => rfl) (fun H3 ps s3 h3 pr => q D ps H3 (s1.trans s3) (s1.free hD) h3 pr)
end
end Lh

namespace Lh
open PySem PySem.Spec PyProof.Rows L2
theorem okD_rule {n : Nat} {m : Int} {r : Rule} (h : r.Wf m) (hm : m ≤ 1000) (m0 : 0 ≤ m) : okD (n + 3) r.data := by
  have lp := (wf_len h hm m0).1
  have pr : ∀ ties : List (Int × Int), ties.length ≤ 1000 → okD (n + 2) (.tuple (ties.map pairD)) := fun ties ht => by
    refine ⟨by rw [List.length_map]; omega, fun d hd => ?_⟩
    obtain ⟨q, _, rfl⟩ := List.mem_map.mp hd
    refine ⟨by show 2 ≤ 8388608; decide, fun d hd => ?_⟩
    rcases List.mem_cons.mp hd with rfl | hd
    · cases n <;> trivial
    · rw [List.mem_singleton.mp hd]; cases n <;> trivial
  have sn : ∀ seen : List Int, seen.length ≤ 1000 → okD (n + 2) (.tuple (seen.map PyData.int)) := fun seen hs => by
    refine ⟨by rw [List.length_map]; omega, fun d hd => ?_⟩
    obtain ⟨q, _, rfl⟩ := List.mem_map.mp hd
    trivial
  cases r with
  | held n => exact ⟨by show 2 ≤ 8388608; decide, fun d hd => by
      simp only [List.mem_cons, List.not_mem_nil, or_false] at hd
      rcases hd with rfl | rfl <;> trivial⟩
  | sum own ties => exact ⟨by show 3 ≤ 8388608; decide, fun d hd => by
      simp only [List.mem_cons, List.not_mem_nil, or_false] at hd
      rcases hd with rfl | rfl | rfl
      · trivial
      · trivial
      · exact pr _ (by simpa [Rule.persons] using lp)⟩
  | cap own ties most => exact ⟨by show 4 ≤ 8388608; decide, fun d hd => by
      simp only [List.mem_cons, List.not_mem_nil, or_false] at hd
      rcases hd with rfl | rfl | rfl | rfl
      · trivial
      · trivial
      · exact pr _ (by simpa [Rule.persons] using lp)
      · trivial⟩
  | kinds own seen => exact ⟨by show 3 ≤ 8388608; decide, fun d hd => by
      simp only [List.mem_cons, List.not_mem_nil, or_false] at hd
      rcases hd with rfl | rfl | rfl
      · trivial
      · trivial
      · exact sn _ lp⟩
  | next seen => exact ⟨by show 2 ≤ 8388608; decide, fun d hd => by
      simp only [List.mem_cons, List.not_mem_nil, or_false] at hd
      rcases hd with rfl | rfl
      · trivial
      · exact sn _ lp⟩
  | free seen => exact ⟨by show 2 ≤ 8388608; decide, fun d hd => by
      simp only [List.mem_cons, List.not_mem_nil, or_false] at hd
      rcases hd with rfl | rfl
      · trivial
      · exact sn _ lp⟩
def rulesD (rs : List Rule) : PyData := .tuple (rs.map Rule.data)
theorem okD_rules {n : Nat} {rs : List Rule} (h : Halls rs) : okD (n + 4) (rulesD rs) := by
  have := h.2.1
  refine ⟨by rw [List.length_map]; omega, fun d hd => ?_⟩
  obtain ⟨r, hr, rfl⟩ := List.mem_map.mp hd
  exact okD_rule (h.2.2 r hr) (by omega) (by omega)
theorem RulesAt.rp {bx : Addr} {c : Int} {H : Hp} (b : Box bx c H) {us : List V} {rs : List Rule} (h : RulesAt H us rs) : RpAll bx H us (rs.map Rule.data) := RulesAt.rpN b h
end Lh

namespace Lh
open PySem PySem.Spec PyProof.Rows L2
theorem start03 (bx : Addr) : L2.start n_right [V.ref bx] = [some (V.ref bx), none, none, none, none, none, none, none, none, none, none, none, none, none, none, none, none, none, none, none] := rfl
/-- what stands in a turn -/
structure F3 (C bx : Addr) (c : Int) (H0 : Hp) (l x : Addr) (us : List V) (rs : List Rule) (Hk : Hp) : Prop where
  e : Ext bx H0 Hk
  b : Box bx c Hk
  hl : Hk l = some (.lst us)
  ra : RulesAt Hk us rs
  hA : HallAt C Hk x rs
theorem F3.same {C bx : Addr} {c : Int} {H0 : Hp} {l x : Addr} {us : List V} {rs : List Rule} {Hk H' : Hp} (f : F3 C bx c H0 l x us rs Hk) (s : Same Hk H') : F3 C bx c H0 l x us rs H' := ⟨f.e.trans (Ext.of s), f.b.same s, s _ _ f.hl, f.ra.keep (Keep.same s), f.hA.keep s⟩
theorem F3.draw {C bx : Addr} {c c' : Int} {H0 : Hp} {l x : Addr} {us : List V} {rs : List Rule} {Hk H' : Hp} (f : F3 C bx c H0 l x us rs Hk) (n : l ≠ bx) (e : Ext bx Hk H') (b : Box bx c' H') : F3 C bx c' H0 l x us rs H' := ⟨f.e.trans e, b, e _ _ n f.hl, f.ra.keep (Keep.ext e f.b), f.hA.ext e f.b⟩
theorem F3.lst {C bx : Addr} {c : Int} {H0 : Hp} {l x d : Addr} {us ys zs : List V} {rs : List Rule} {Hk : Hp} (f : F3 C bx c H0 l x us rs Hk) (hd : Hk d = some (.lst ys)) (n1 : d ≠ bx) (n2 : l ≠ d) (n0 : H0 d = none) : F3 C bx c H0 l x us rs (upd Hk d (.lst zs)) := by
  have kT := keep_lst (ys := zs) hd
  refine ⟨f.e.new n0, f.b.at n1, by rw [upd_ne n2]; exact f.hl, f.ra.keep kT, ?_⟩
  obtain ⟨dx, t', vs, h1, h2, h3⟩ := f.hA
  refine ⟨dx, t', vs, ?_, h2.keep kT, h3.keep kT⟩
  rw [upd_ne (ne_of h1 hd (by intro z; cases z))]
  exact h1
theorem ext_free {bx : Addr} {H H' : Hp} {g : Addr} (e : Ext bx H H') (n : g ≠ bx) (h : H' g = none) : H g = none := by
  cases hg : H g with
  | none => rfl
  | some o => exact absurd (e _ _ n hg) (by rw [h]; intro z; cases z)
theorem name_law : ∀ n : Nat, n < 13 → (Str.ofString "Hall(").length + (Str.ofString (toString (n : Int))).length ≤ sizeLine ∧ (Str.ofString "Hall(" ++ Str.ofString (toString (n : Int))).length + (Str.ofString " persons)").length ≤ sizeLine ∧ Str.ofString "Hall(" ++ Str.ofString (toString (n : Int)) ++ Str.ofString " persons)" = nameS n := by decide +kernel
theorem cutV_any (xs : List V) (lo hi : Option Int) : cutV xs lo hi = cutI xs lo hi := by
  have h := cut_map id xs lo hi
  rw [List.map_id, List.map_id] at h
  exact h
theorem paired_put {α β : Type} {R : α → β → Prop} : ∀ {xs : List α} {ys : List β}, Paired R xs ys → ∀ (i : Nat) {x : α} {y : β}, R x y → Paired R (xs.set i x) (ys.set i y)
  | _, _, .nil, _, _, _, _ => .nil
  | _, _, .cons _ r, 0, _, _, h => .cons h r
  | _, _, .cons g r, i + 1, _, _, h => .cons g (paired_put r i h)
theorem data77 : ∀ r : Rule, (∀ n, r = .held n → n ≤ 6) → PyData.eqv r.data (.tuple [.str "held", .int 77]) = false
  | .held n, h => by
    have h1 := h n rfl
    show PyData.eqv (.tuple [.str "held", .int n]) (.tuple [.str "held", .int 77]) = false
    have e : (n == 77) = false := by rw [beq_eq_false_iff_ne]; omega
    simp [PyData.eqv, PyData.eqvAll, e]
  | .sum own ts, _ => by
    show PyData.eqv (.tuple [.str "sum", .int own, .tuple (ts.map pairD)]) (.tuple [.str "held", .int 77]) = false
    simp [PyData.eqv, PyData.eqvAll]
  | .cap own ts m, _ => by
    show PyData.eqv (.tuple [.str "cap", .int own, .tuple (ts.map pairD), .int m]) (.tuple [.str "held", .int 77]) = false
    simp [PyData.eqv, PyData.eqvAll]
  | .kinds own ss, _ => by
    show PyData.eqv (.tuple [.str "kinds", .int own, .tuple (ss.map PyData.int)]) (.tuple [.str "held", .int 77]) = false
    simp [PyData.eqv, PyData.eqvAll]
  | .next ss, _ => by
    show PyData.eqv (.tuple [.str "next", .tuple (ss.map PyData.int)]) (.tuple [.str "held", .int 77]) = false
    simp [PyData.eqv, PyData.eqvAll]
  | .free ss, _ => by
    show PyData.eqv (.tuple [.str "free", .tuple (ss.map PyData.int)]) (.tuple [.str "held", .int 77]) = false
    simp [PyData.eqv, PyData.eqvAll]
theorem all77 : ∀ {rs : List Rule}, (∀ r ∈ rs, ∀ n, r = .held n → n ≤ 6) → ∀ {k : Nat}, k < rs.length → PyData.eqvAll (rs.map Rule.data) ((rs.set k (.held 77)).map Rule.data) = false
  | [], _, _, hk => absurd hk (Nat.not_lt_zero _)
  | r :: rs, h, 0, _ => by
    show PyData.eqvAll (r.data :: rs.map Rule.data) (.tuple [.str "held", .int 77] :: rs.map Rule.data) = false
    rw [PyData.eqvAll, data77 r (h r List.mem_cons_self)]
    rfl
  | r :: rs, h, k + 1, hk => by
    show PyData.eqvAll (r.data :: rs.map Rule.data) (r.data :: (rs.set k (.held 77)).map Rule.data) = false
    rw [PyData.eqvAll, all77 (fun q hq => h q (List.mem_cons_of_mem _ hq)) (Nat.lt_of_succ_lt_succ hk), Bool.and_false]
/-- things that are no rules of so many -/
def oddsD (n : Nat) : List PyData := [.none, .int 7, .str "sum", .tuple [], .tuple [.str "held"], .tuple [.str "held", .bool true], .list [.str "held", .int 1], .tuple [.str "free", .tuple [.int n]], .tuple [.str "next", .list [.int 0]]]
theorem odds_none : ∀ n : Nat, n < 13 → (oddsD n).all (fun d => !ruleB n d) = true := by decide +kernel
theorem odds_ok (n : Nat) (h : n < 13) : ∀ d ∈ oddsD n, RFine d ∧ ruleB n d = false := by
  intro d hd
  refine ⟨?_, by simpa using List.all_eq_true.mp (odds_none n h) d hd⟩
  unfold oddsD at hd
  simp only [List.mem_cons, List.not_mem_nil, or_false] at hd
  rcases hd with rfl | rfl | rfl | rfl | rfl | rfl | rfl | rfl | rfl
  · exact ⟨fun x ds e => (by cases e), fun ds e => (by cases e)⟩
  · exact ⟨fun x ds e => (by cases e), fun ds e => (by cases e)⟩
  · exact ⟨fun x ds e => (by cases e), fun ds e => (by cases e)⟩
  · exact ⟨fun x ds e => (by cases e), fun ds e => by cases e; exact ⟨by decide, fun e he => absurd he (by simp)⟩⟩
  · exact ⟨fun x ds e => by cases e; decide +kernel, fun ds e => by
      cases e
      refine ⟨by decide, fun e he es h => ?_⟩
      rw [List.mem_singleton.mp he] at h; cases h⟩
  · exact ⟨fun x ds e => by cases e; decide +kernel, fun ds e => by
      cases e
      refine ⟨by decide, fun e he es h => ?_⟩
      simp only [List.mem_cons, List.not_mem_nil, or_false] at he
      rcases he with rfl | rfl <;> cases h⟩
  · exact ⟨fun x ds e => (by cases e), fun ds e => (by cases e)⟩
  · exact ⟨fun x ds e => by cases e; decide +kernel, fun ds e => by
      cases e
      refine ⟨by show 2 ≤ 1000; decide, fun e he es h => ?_⟩
      simp only [List.mem_cons, List.not_mem_nil, or_false] at he
      rcases he with rfl | rfl
      · cases h
      · cases h; show 1 ≤ 1000; decide⟩
  · exact ⟨fun x ds e => by cases e; decide +kernel, fun ds e => by
      cases e
      refine ⟨by show 2 ≤ 1000; decide, fun e he es h => ?_⟩
      simp only [List.mem_cons, List.not_mem_nil, or_false] at he
      rcases he with rfl | rfl <;> cases h⟩
theorem rp_mem {bx : Addr} {H : Hp} : ∀ {vs : List V} {ds : List PyData}, RpAll bx H vs ds → ∀ v ∈ vs, ∃ d ∈ ds, Rp bx H v d
  | _, _, .nil, v, h => absurd h (by simp)
  | _, _, .cons h r, v, hv => by
    rcases List.mem_cons.mp hv with rfl | hv
    · exact ⟨_, List.mem_cons_self, h⟩
    · obtain ⟨d, hd, rd⟩ := rp_mem r v hv
      exact ⟨d, List.mem_cons_of_mem _ hd, rd⟩
theorem paired_take {α β : Type} {R : α → β → Prop} : ∀ {xs : List α} {ys : List β}, Paired R xs ys → ∀ k, Paired R (xs.take k) (ys.take k)
  | _, _, .nil, k => by rw [List.take_nil, List.take_nil]; exact .nil
  | _, _, .cons _ _, 0 => .nil
  | _, _, .cons h r, k + 1 => .cons h (paired_take r k)
theorem ws_take {S : List Nat} {us : List V} {ov : V} {n k0 : Nat} (hn : us.length = n) (h : ∀ j ∈ S, k0 ≤ j) : ((List.range n).map fun j => if j ∈ S then ov else us.getD j .non).take k0 = us.take k0 := by
  refine List.ext_getElem (by rw [List.length_take, List.length_take, List.length_map, List.length_range, hn]) fun j h1 h2 => ?_
  rw [List.length_take] at h2
  have hj : j < us.length := by omega
  have nj : j ∉ S := fun z => by have := h j z; omega
  rw [List.getElem_take, List.getElem_take, List.getElem_map, List.getElem_range, if_neg nj, List.getD_eq_getElem?_getD, List.getElem?_eq_getElem hj]
  rfl
theorem uneq77 {rs : List Rule} (h : ∀ r ∈ rs, ∀ n, r = .held n → n ≤ 6) {k : Nat} (hk : k < rs.length) : PyData.eqv (rulesT rs) (rulesT (rs.set k (.held 77))) = false := by
  unfold rulesT
  rw [PyData.eqv]
  exact all77 h hk
section
variable {P : Program} {w : World} {K : PySem.W.Frag} {mg : Str → Option Value} {base : Heap}
def spRules3 (C : Addr) : Sp := fun vs H Q _ => ∃ (x : Addr) (rs : List Rule), vs = [.ref x] ∧ HallAt C H x rs ∧ ∀ (t : Addr) (us : List V), TupAt H t us → RulesAt H us rs → Q (.ref t) H
theorem ok_Hall_rules (T : Txt K mg w) : FnOk P w K mg base CX0 1 T.f_Hall_rules T.fd_Hall_rules p_Hall_rules (spRules3 T.C_Hall) := by
  refine T.F_Hall_rules.ok sc_Hall_rules (fun vs H Q E h => ?_) (fun cdv A outer s H vs Q E hr h => ?_)
  · obtain ⟨x, rs, rfl, _⟩ := h
    rfl
  · obtain ⟨x, rs, rfl, ⟨dx, t, vs, hx, ht, hv⟩, q⟩ := h
    refine ⟨_, (pss_one (ps_ret (pe_fld (pv 0) rfl))), ?_⟩
    exact ⟨.ref x, rfl, x, T.C_Hall, dx, _, _, rfl, hx, T.cl_Hall, T.na_Hall_kept, kept_yes _, q t vs ht hv⟩
set_option maxHeartbeats 16000000 in
theorem ok_right (T : Txt K mg w) : FnG P w K mg base 11 T.f_right T.fd_right p_right spRight := by
  have G_take := ok_take (P := P) (w := w) (base := base) T
  have G_hall := ok_hallF (P := P) (w := w) (base := base) T
  have G_flat := ok_flatF (P := P) (w := w) (base := base) T
  have G_Hall_init := fn_or (ok_Hall_init (P := P) (w := w) (base := base) T) (ok_Hall_initT (P := P) (w := w) (base := base) T)
  have G_Hall_rules := ok_Hall_rules (P := P) (w := w) (base := base) T
  have G_Hall_rule := ok_Hall_rule (P := P) (w := w) (base := base) T
  have G_Hall_sees := ok_Hall_sees (P := P) (w := w) (base := base) T
  have G_Hall_seers := ok_Hall_seers (P := P) (w := w) (base := base) T
  have G_Hall_len := ok_Hall_len (P := P) (w := w) (base := base) T
  have G_Hall_repr := ok_Hall_repr (P := P) (w := w) (base := base) T
  have G_Hall_eq := ok_Hall_eqG (P := P) (w := w) (base := base) T
  have G_seen := ok_seen (P := P) (w := w) (base := base) T
  have G_one_of := ok_one_of (P := P) (w := w) (base := base) T
  have G_bad := ok_bad (P := P) (w := w) (base := base) T
  have G_no_person := ok_no_person (P := P) (w := w) (base := base) T
  have G_same := ok_same (P := P) (w := w) (base := base) T 6
  refine okG T.F_right sc_right (fun vs H Q E h => ?_) (fun cdv A outer s H vs Q E hr hG h => ?_)
  · obtain ⟨bx, rfl, _⟩ := h
    rfl
  · obtain ⟨bx, rfl, hB, q⟩ := h
    refine ⟨_, (pss_cons (ps_for PassesOwn.never rfl (pi_range1 (by rfl) T.m_range (pa_cons pe_int pa_nil)) (pg_name (i := 1) sc_right.nd rfl (.inl rfl))
        (pss_cons (ps_set (i := 2) sc_right.nd rfl (.inr rfl) (pe_ifExp (pt_cmpR op_eq (pe_call G_take (hr.mono (by decide)) (by rfl) T.g_take T.F_take.kp T.b_take .nil pass0 (pa_cons (pv 0) (pa_cons pe_int pa_nil))) pe_int (nomark _)) (pe_call G_hall (hr.mono (by decide)) (by rfl) T.g_hall T.F_hall.kp T.b_hall .nil pass0 (pa_cons (pv 0) pa_nil)) (pe_call G_flat (hr.mono (by decide)) (by rfl) T.g_flat T.F_flat.kp T.b_flat .nil pass0 (pa_cons (pv 0) (pa_cons pe_int pa_nil)))))
        (pss_cons (ps_par (i := 3) (j := 4) (by rfl) sc_right.nd rfl rfl (by decide) rfl rfl (pa_cons (pe_callB call_len_seq (by rfl) T.m_len (by decide +kernel) (pa_cons (pv 2) pa_nil)) (pa_cons (pe_ix ix_list (pe_lst (pa_cons (pe_callTy call_list_of (by rfl) T.m_list (by decide +kernel) (pa_cons (pv 2) pa_nil)) (pa_cons (pe_callTy call_tuple_of (by rfl) T.m_tuple (by decide +kernel) (pa_cons (pv 2) pa_nil)) pa_nil))) (pe_call G_take (hr.mono (by decide)) (by rfl) T.g_take T.F_take.kp T.b_take .nil pass0 (pa_cons (pv 0) (pa_cons pe_int pa_nil))) (fun _ _ => rfl)) pa_nil)) (by rfl))
        (pss_cons (ps_set (i := 5) sc_right.nd rfl (.inr rfl) (pe_make T.mk_Hall G_Hall_init (hr.mono (by decide)) (by rfl) T.g_Hall T.b_Hall_init .nil pass0 (pa_cons (pv 4) pa_nil)))
        (pss_cons (ps_if (pt_val (pe_callB call_isi (by rfl) T.m_isinstance (by decide +kernel) (pa_cons (pv 4) (pa_cons (pe_bltn (v := .ty "list") (by rfl) T.m_list (by decide +kernel) rfl) pa_nil))))
          (pss_cons (ps_expr (pe_bm0 PySem.F.plainAttrs_list PySem.F.slot_list_reverse PySem.F.type_list_reverse mt_reverse (pv 4)))
          (pss_one (ps_expr (pe_bm PySem.F.plainAttrs_list PySem.F.slot_list_append PySem.F.type_list_append mt_append (pv 4) (pa_cons pe_int pa_nil)))))
          pss_nil)
        (pss_cons (ps_for PassesOwn.never rfl (pi_range1 (by rfl) T.m_range (pa_cons (pv 3) pa_nil)) (pg_name (i := 6) sc_right.nd rfl (.inr rfl))
          (pss_cons (ps_setLc (i := 7) (own := [("_law_other", 8), ("_law_weight", 9)]) (g := gTup K 2 (gCons (gName 8) (gCons (gName 9) gNil))) (by rfl) sc_right.nd rfl rfl (sw_true rfl rfl rfl (by decide +kernel)) (pi_list (pe_call G_seen (hr.mono (by decide)) (by rfl) T.g_seen T.F_seen.kp T.b_seen .nil pass0 (pa_cons (pe_ix ix_list (pv 2) (pv 6) (fun _ _ => rfl)) pa_nil))) (blkOk_by (own := [("_law_other", 8), ("_law_weight", 9)]) (N := n_right) (sc := defScope s_right) (by decide +kernel)) (fun _ _ _ _ _ => (pg_tup rfl (pgs_cons (pg_name (i := 8) sc_right.nd rfl (.inl rfl) (.inr rfl)) (pgs_cons (pg_name (i := 9) sc_right.nd rfl (.inl rfl) (.inr rfl)) pgs_nil)))) (fun _ _ _ _ _ => pts_nil) (fun _ _ _ _ _ => (pv 8)))
          (pss_cons (ps_setLc (i := 10) (own := [("_law_other", 8)]) (g := gName 8) (by rfl) sc_right.nd rfl rfl (sw_true rfl rfl rfl (by decide +kernel)) (pi_range1 (by rfl) T.m_range (pa_cons (pv 3) pa_nil)) (blkOk_by (own := [("_law_other", 8)]) (N := n_right) (sc := defScope s_right) (by decide +kernel)) (fun _ _ _ _ _ => (pg_name (i := 8) sc_right.nd rfl (.inl rfl) (.inr rfl))) (fun _ _ _ _ _ => (pts_one (pt_cmpR (r := rIn K false) op_in_seq (pv 6) (pe_lc (own := [("_law_its", 11), ("_law_weight", 9)]) (g := gTup K 2 (gCons (gName 11) (gCons (gName 9) gNil))) (wi := iList K (tCall spSeen [] E0 (tCons (tOp (rIxL K) (tVar 2) (tVar 8)) tNil))) (by rfl) sc_right.nd (pi_list (pe_call G_seen (hr.mono (by decide)) (by rfl) T.g_seen T.F_seen.kp T.b_seen .nil pass0 (pa_cons (pe_ix (r := rIxL K) ix_list (pv 2) (pv 8) (fun _ _ => rfl)) pa_nil))) (blkOk_sc (own := [("_law_its", 11), ("_law_weight", 9)]) (N := n_right) (sc2 := relS (lcSc (asgE ((forB ((forB ((defBody s_right).getD 0 noS)).getD 4 noS)).getD 1 noS))) (defScope s_right)) rfl (by decide +kernel)) (fun _ _ _ _ _ => (pg_tup rfl (pgs_cons (pg_name (i := 11) sc_right.nd rfl (.inl rfl) (.inr rfl)) (pgs_cons (pg_name (i := 9) sc_right.nd rfl (.inl rfl) (.inr rfl)) pgs_nil)))) (fun _ _ _ _ _ => pts_nil) (fun _ _ _ _ _ => (pv 11))) (by rfl)))) (fun _ _ _ _ _ => (pv 8)))
          (pss_cons (ps_set (i := 12) sc_right.nd rfl (.inl rfl) (pe_lst (pa_cons (pe_meth (pv 5) T.cl_Hall T.me_Hall_rule G_Hall_rule (hr.mono (by decide)) T.b_Hall_rule .nil pass0 (pa_cons (pv 6) pa_nil)) (pa_cons (pe_meth (pv 5) T.cl_Hall T.me_Hall_sees G_Hall_sees (hr.mono (by decide)) T.b_Hall_sees .nil pass0 (pa_cons (pv 6) pa_nil)) (pa_cons (pe_meth (pv 5) T.cl_Hall T.me_Hall_seers G_Hall_seers (hr.mono (by decide)) T.b_Hall_seers .nil pass0 (pa_cons (pv 6) pa_nil)) pa_nil)))))
          (pss_cons (ps_if (PW.pt (pw_or (pt_not (pt_val (pe_call G_same (hr.mono (by decide)) (by rfl) T.g_same T.F_same.kp T.b_same .nil pass0 (pa_cons (pv 12) (pa_cons (pe_lst (pa_cons (pe_ix ix_list (pv 2) (pv 6) (fun _ _ => rfl)) (pa_cons (pv 7) (pa_cons (pv 10) pa_nil)))) pa_nil))))) (pw_or1 (pt_not (pt_val (pe_call G_same (hr.mono (by decide)) (by rfl) T.g_same T.F_same.kp T.b_same .nil pass0 (pa_cons (pe_methN0 (pv 5) T.cl_Hall T.me_Hall_sees G_Hall_sees (hr.mono (by decide)) T.kb_Hall_sees pass0 (pk_cons (pv 6) pk_nil)) (pa_cons (pv 7) pa_nil))))))))
            (pss_one (ps_ret pe_bl))
            pss_nil)
          (pss_cons (ps_expr (pe_bm PySem.F.plainAttrs_list PySem.F.slot_list_append PySem.F.type_list_append mt_append (pe_ix ix_list (pv 12) pe_int (fun _ _ => rfl)) (pa_cons pe_int pa_nil)))
          (pss_one (ps_expr (pe_bm PySem.F.plainAttrs_list PySem.F.slot_list_append PySem.F.type_list_append mt_append (pe_ix ix_list (pv 12) pe_int (fun _ _ => rfl)) (pa_cons pe_int pa_nil))))))))))
        (pss_cons (ps_set (i := 13) sc_right.nd rfl (.inl rfl) (pe_op op_add_str (pe_op op_add_str pe_str (pe_callTy call_str_int (by rfl) T.m_str (by decide +kernel) (pa_cons (pv 3) pa_nil))) pe_str))
        (pss_cons (ps_if (pt_not (pt_val (pe_call G_same (hr.mono (by decide)) (by rfl) T.g_same T.F_same.kp T.b_same .nil pass0 (pa_cons (pe_lst (pa_cons (pe_meth0 (pv 5) T.cl_Hall T.me_Hall_rules G_Hall_rules (hr.mono (by decide)) T.b_Hall_rules .nil pass0) (pa_cons (pe_callB (run_len T.me_Hall_len G_Hall_len T.b_Hall_len (hr.mono (by decide))) (by rfl) T.m_len (by decide +kernel) (pa_cons (pv 5) pa_nil)) (pa_cons (pe_callB (run_repr T.me_Hall_repr G_Hall_repr T.b_Hall_repr (hr.mono (by decide)) hr.in1.units0) (by rfl) T.m_repr (by decide +kernel) (pa_cons (pv 5) pa_nil)) pa_nil)))) (pa_cons (pe_lst (pa_cons (pe_callTy call_tuple_of (by rfl) T.m_tuple (by decide +kernel) (pa_cons (pv 2) pa_nil)) (pa_cons (pv 3) (pa_cons (pv 13) pa_nil)))) pa_nil)))))
          (pss_one (ps_ret pe_bl))
          pss_nil)
        (pss_cons (ps_if (PW.pt (pw_or (pt_not (pt_cmpR (op_eqInsN T.me_Hall_eq G_Hall_eq T.b_Hall_eq (hr.mono (by decide))) (pv 5) (pe_makeN0 T.mk_Hall G_Hall_init (hr.mono (by decide)) (by rfl) T.g_Hall T.kb_Hall_init pass0 (pk_cons (pv 2) pk_nil)) (nomark _))) (pw_or (pt_cmpR (op_neIns T.ne_Hall T.is_Hall.hm T.me_Hall_eq G_Hall_eq T.b_Hall_eq (hr.mono (by decide))) (pv 5) (pe_make T.mk_Hall G_Hall_init (hr.mono (by decide)) (by rfl) T.g_Hall T.b_Hall_init .nil pass0 (pa_cons (pv 2) pa_nil)) (nomark _)) (pw_or (pt_cmpR (op_eqOff T.me_Hall_eq G_Hall_eq T.b_Hall_eq (hr.mono (by decide))) (pv 5) (pv 2) (nomark _)) (pw_or1 (pt_cmpR (op_eqOff T.me_Hall_eq G_Hall_eq T.b_Hall_eq (hr.mono (by decide))) (pv 5) (pe_callTy call_tuple_of (by rfl) T.m_tuple (by decide +kernel) (pa_cons (pv 2) pa_nil)) (nomark _)))))))
          (pss_one (ps_ret pe_bl))
          pss_nil)
        (pss_cons (ps_set (i := 14) sc_right.nd rfl (.inl rfl) (pe_call G_take (hr.mono (by decide)) (by rfl) T.g_take T.F_take.kp T.b_take .nil pass0 (pa_cons (pv 0) (pa_cons (pv 3) pa_nil))))
        (pss_cons (ps_set (i := 8) sc_right.nd rfl (.inl rfl) (pe_op op_cat (pe_op op_cat (pe_slice sl_list (pv 2) po_none (po_some (pv 14))) (pe_lst (pa_cons (pe_tup (pa_cons pe_str (pa_cons pe_int pa_nil))) pa_nil))) (pe_slice sl_list (pv 2) (po_some (pe_op op_add (pv 14) pe_int)) po_none)))
        (pss_cons (ps_if (PW.pt (pw_or (pt_cmpR (op_eqInsN T.me_Hall_eq G_Hall_eq T.b_Hall_eq (hr.mono (by decide))) (pv 5) (pe_make T.mk_Hall G_Hall_init (hr.mono (by decide)) (by rfl) T.g_Hall T.b_Hall_init .nil pass0 (pa_cons (pv 8) pa_nil)) (nomark _)) (pw_or1 (pt_not (pt_cmpR (op_neIns T.ne_Hall T.is_Hall.hm T.me_Hall_eq G_Hall_eq T.b_Hall_eq (hr.mono (by decide))) (pv 5) (pe_make T.mk_Hall G_Hall_init (hr.mono (by decide)) (by rfl) T.g_Hall T.b_Hall_init .nil pass0 (pa_cons (pv 8) pa_nil)) (nomark _))))))
          (pss_one (ps_ret pe_bl))
          pss_nil)
        (pss_cons (ps_set (i := 15) sc_right.nd rfl (.inr rfl) (pe_lc (own := [("_law_k", 16)]) (g := gName 16) (by rfl) sc_right.nd (pi_range1 (by rfl) T.m_range (pa_cons (pv 3) pa_nil)) (blkOk_by (own := [("_law_k", 16)]) (N := n_right) (sc := defScope s_right) (by decide +kernel)) (fun _ _ _ _ _ => (pg_name (i := 16) sc_right.nd rfl (.inl rfl) (.inr rfl))) (fun _ _ _ _ _ => (pts_one (pt_cmpR op_eq (pe_call G_take (hr.mono (by decide)) (by rfl) T.g_take T.F_take.kp T.b_take .nil pass0 (pa_cons (pv 0) (pa_cons pe_int pa_nil))) pe_int (nomark _)))) (fun _ _ _ _ _ => (pv 16))))
        (pss_cons (ps_set (i := 17) sc_right.nd rfl (.inl rfl) (pe_lst (pa_cons pe_non (pa_cons pe_int (pa_cons pe_str (pa_cons (pe_tup pa_nil) (pa_cons (pe_tup (pa_cons pe_str pa_nil)) (pa_cons (pe_tup (pa_cons pe_str (pa_cons pe_bl pa_nil))) (pa_cons (pe_lst (pa_cons pe_str (pa_cons pe_int pa_nil))) (pa_cons (pe_tup (pa_cons pe_str (pa_cons (pe_tup (pa_cons (pv 3) pa_nil)) pa_nil))) (pa_cons (pe_tup (pa_cons pe_str (pa_cons (pe_lst (pa_cons pe_int pa_nil)) pa_nil))) pa_nil)))))))))))
        (pss_cons (ps_set (i := 18) sc_right.nd rfl (.inr rfl) (pe_call G_one_of (hr.mono (by decide)) (by rfl) T.g_one_of T.F_one_of.kp T.b_one_of .nil pass0 (pa_cons (pv 0) (pa_cons (pv 17) pa_nil))))
        (pss_cons (ps_if (pt_cmpR op_ne (pe_call G_bad (hr.mono (by decide)) (by rfl) T.g_bad T.F_bad.kp T.b_bad .nil pass0 (pa_cons (pe_lc (own := [("_law_k", 16)]) (g := gName 16) (by rfl) sc_right.nd (pi_range1 (by rfl) T.m_range (pa_cons (pv 3) pa_nil)) (blkOk_by (own := [("_law_k", 16)]) (N := n_right) (sc := defScope s_right) (by decide +kernel)) (fun _ _ _ _ _ => (pg_name (i := 16) sc_right.nd rfl (.inl rfl) (.inr rfl))) (fun _ _ _ _ _ => pts_nil) (fun _ _ _ _ _ => (pe_ifExp (pt_cmpR (r := rIn K false) op_in_seq (pv 16) (pv 15) (by rfl)) (pv 18) (pe_ix (r := rIxL K) ix_list (pv 2) (pv 16) (fun _ _ => rfl))))) pa_nil)) (pe_ifExp (pt_cmpR (op_neD hr.units) (pv 15) (pe_lst pa_nil) (nomark _)) (pe_ix ix_list (pv 15) pe_int (fun _ _ => rfl)) pe_non) (nomark _))
          (pss_one (ps_ret pe_bl))
          pss_nil)
        (pss_one (ps_for PassesOwn.never rfl (pi_tup (pe_tup (pa_cons (pe_un un_neg pe_int) (pa_cons (pv 3) (pa_cons (pe_op op_add (pv 3) pe_int) pa_nil))))) (pg_name (i := 6) sc_right.nd rfl (.inr rfl))
          (pss_one (ps_if (pt_not (pt_val (pe_callB (cr_all rfl) (by rfl) T.m_all (by decide +kernel) (pa_cons (pe_lc (own := [("_law_word", 19)]) (g := gName 19) (by rfl) sc_right.nd (pi_tup (pe_tup (pa_cons pe_str (pa_cons pe_str (pa_cons pe_str pa_nil))))) (blkOk_by (own := [("_law_word", 19)]) (N := n_right) (sc := defScope s_right) (by decide +kernel)) (fun _ _ _ _ _ => (pg_name (i := 19) sc_right.nd rfl (.inl rfl) (.inr rfl))) (fun _ _ _ _ _ => pts_nil) (fun _ _ _ _ _ => (pe_call G_no_person (hr.mono (by decide)) (by rfl) T.g_no_person T.F_no_person.kp T.b_no_person .nil pass0 (pa_cons (pv 5) (pa_cons (pv 19) (pa_cons (pv 6) pa_nil)))))) pa_nil))))
            (pss_one (ps_ret pe_bl))
            pss_nil))))))))))))))))))))
      (pss_one (ps_ret pe_bl))), ?_⟩
    rw [start03]
    refine ⟨8, rfl, by decide, by decide, ?_⟩
    refine for_it walk_range (fun i σ H3 => ∃ y1 y2 y3 y4 y5 y6 y7 y8 y9 y10 y11 y12 y13 y14 y15 y16 y17 y18 y19 : Option V, σ = [some (.ref bx), y1, y2, y3, y4, y5, y6, y7, y8, y9, y10, y11, y12, y13, y14, y15, y16, y17, y18, y19] ∧ Ext bx H H3 ∧ Box bx (2000 * i) H3) ⟨_, _, _, _, _, _, _, _, _, _, _, _, _, _, _, _, _, _, _, rfl, Ext.of (Same.refl H), hB.mono (by omega)⟩ (fun _ _ _ _ _ => trivial) ?_ ?_
    · rintro i x0 σ H3 H4 hi ⟨y1, y2, y3, y4, y5, y6, y7, y8, y9, y10, y11, y12, y13, y14, y15, y16, y17, y18, y19, rfl, e3, b3⟩ ⟨rfl, rfl⟩
      have hi' : i < 8 := hi
      refine gname_step ?_
      simp only [List.set_cons_zero, List.set_cons_succ]
      refine seq_useN (t := tAsg _ _) (fun σ H5 => ∃ (l : Addr) (us : List V) (rs : List Rule), σ = [some (.ref bx), some (.int (0 + (i : Int))), some (.ref l), y3, y4, y5, y6, y7, y8, y9, y10, y11, y12, y13, y14, y15, y16, y17, y18, y19] ∧ Ext bx H H5 ∧ Box bx (2000 * i + 1001) H5 ∧ l ≠ bx ∧ H5 l = some (.lst us) ∧ RulesAt H5 us rs ∧ Halls rs ∧ ∀ r ∈ rs, ∀ n, r = .held n → n ≤ 6) (fun N hN => ?_) ?_
      · refine ⟨.ref bx, rfl, bx, _, 2, rfl, by decide, by decide, by omega, b3, fun r0 H5 r00 r01 e5 b5 => ⟨rfl, _, rfl, ite2 (fun z => ?_) (fun z => ?_)⟩⟩
        · refine ⟨.ref bx, rfl, bx, _, rfl, by omega, b5, fun l us rs H6 e6 b6 nl hl ra hh l5 fine _ => hN _ _ ⟨l, us, rs, rfl, (e3.trans e5).trans e6, b6.mono (by omega), b5.ne nl, hl, ra, hh, fun r hr n e => ?_⟩⟩
          have := fine r hr
          rw [e] at this
          exact this
        · refine ⟨.ref bx, rfl, bx, _, 12, rfl, by decide, by decide, by omega, b5, fun l us rs H6 e6 b6 nl hl ra hh l5 fine _ => hN _ _ ⟨l, us, rs, rfl, (e3.trans e5).trans e6, b6.mono (by omega), b5.ne nl, hl, ra, hh, fun r hr n e => ?_⟩⟩
          have := fine r hr
          rw [e] at this
          exact this
      rintro σ H5 ⟨l, us, rs, rfl, e5, b5, nlb, hl, ra, hh, h77⟩
      clear e3 b3 hi
      have lus : us.length = rs.length := ra.length
      have r1 := hh.1
      have r12 := hh.2.1
      -- handed in as a list or a tuple
      refine seq_useN (fun σ H6 => ∃ (g : Addr), σ = [some (.ref bx), some (.int (0 + (i : Int))), some (.ref l), some (.int rs.length), some (.ref g), y5, y6, y7, y8, y9, y10, y11, y12, y13, y14, y15, y16, y17, y18, y19] ∧ Ext bx H5 H6 ∧ Box bx (2000 * i + 1002) H6 ∧ H5 g = none ∧ (H6 g = some (.lst us) ∨ TupAt H6 g us)) (fun N hN => ?_) ?_
      · refine ⟨.ref l, rfl, l, us, rfl, .inl (.inl (.inl hl)), .ref l, rfl, l, us, rfl, .inl (.inl (.inl hl)), fun a na => ?_⟩
        rw [lus]
        have sa := same_upd (o := .lst us) na
        have ha := upd_same (H := H5) (a := a) (o := HO.lst us)
        generalize upd H5 a (.lst us) = Ha at sa ha ⊢
        refine ⟨.ref l, rfl, l, us, rfl, .inl ⟨.inl (.inl (sa _ _ hl)), fun b nb => ⟨by show 2 ≤ sizeLine; decide, fun pl npl => ?_⟩⟩⟩
        have sb := same_upd (o := .tup us) nb
        have hb := upd_same (H := Ha) (a := b) (o := HO.tup us)
        generalize upd Ha b (.tup us) = Hb at sb hb npl ⊢
        have sp := same_upd (o := .lst [V.ref a, .ref b]) npl
        have hp := upd_same (H := Hb) (a := pl) (o := HO.lst [V.ref a, .ref b])
        generalize upd Hb pl (.lst [V.ref a, .ref b]) = Hc at sp hp ⊢
        have b7 := ((b5.same sa).same sb).same sp
        refine ⟨.ref bx, rfl, bx, _, 2, rfl, by decide, by decide, by omega, b7, fun k H7 k0 k1 e7 b8 => ?_⟩
        have nab := b5.ne na
        have nbb := (b5.same sa).ne nb
        have npb := ((b5.same sa).same sb).ne npl
        have eAll : Ext bx H5 H7 := (Ext.of (sa.trans (sb.trans sp))).trans e7
        rcases (by omega : k = 0 ∨ k = 1) with rfl | rfl
        · exact ⟨pl, _, 0, .ref a, rfl, rfl, .inl (.inl (e7 _ _ npb hp)), rfl, _, _, rfl, hN _ _ ⟨a, rfl, eAll, b8.mono (by omega), na, .inl (e7 _ _ nab (sp _ _ (sb _ _ ha)))⟩⟩
        · exact ⟨pl, _, 1, .ref b, rfl, rfl, .inl (.inl (e7 _ _ npb hp)), rfl, _, _, rfl, hN _ _ ⟨b, rfl, eAll, b8.mono (by omega), sa.free nb, .inr (.inl (e7 _ _ nbb (sp _ _ hb)))⟩⟩
      rintro σ H6 ⟨g, rfl, e6, b6, ng, hg⟩
      have ngb := b5.ne ng
      have n0g := ext_free e5 ngb ng
      have nlg : l ≠ g := ne_of_none hl ng
      have hl6 := e6 _ _ nlb hl
      have ra6 := ra.keep (Keep.ext e6 b5)
      have e06 := e5.trans e6
      -- the hall
      refine seq_useN (fun σ H7 => ∃ x : Addr, σ = [some (.ref bx), some (.int (0 + (i : Int))), some (.ref l), some (.int rs.length), some (.ref g), some (.ref x), y6, y7, y8, y9, y10, y11, y12, y13, y14, y15, y16, y17, y18, y19] ∧ F3 T.C_Hall bx (2000 * i + 1002) H l x us rs H7 ∧ (H7 g = some (.lst us) ∨ TupAt H7 g us)) (fun N hN => ?_) ?_
      · refine ⟨.ref g, rfl, fun x dx nx ndx nxd => ?_⟩
        have sx : Same H6 (upd (upd H6 dx (.own x)) x (.ins T.C_Hall dx [])) := fun b o hb => by
          rw [upd_ne (ne_of_none hb nx), upd_ne (ne_of_none hb ndx)]
          exact hb
        have fin : ∀ H', (∀ b o, b ≠ x → (upd (upd H6 dx (.own x)) x (.ins T.C_Hall dx [])) b = some o → H' b = some o) → HallAt T.C_Hall H' x rs → (V.non = .non ∧ N _ H') := fun H' k hA => by
          have s' : Same H6 H' := fun b o hb => k b o (ne_of_none hb nx) (sx b o hb)
          refine ⟨rfl, hN _ _ ⟨x, rfl, ⟨e06.trans (Ext.of s'), b6.same s', s' _ _ hl6, ra6.keep (Keep.same s'), hA⟩, ?_⟩⟩
          rcases hg with h | h
          · exact .inl (s' _ _ h)
          · exact .inr (h.keep (Keep.same s'))
        rcases hg with h | h
        · exact .inl ⟨x, dx, g, us, rs, rfl, upd_same, sx _ _ h, RulesAt.keep (Keep.same sx) ra6, hh, fun H' k hA => fin H' k hA⟩
        · exact .inr ⟨x, dx, g, us, rs, rfl, upd_same, h.keep (Keep.same sx), RulesAt.keep (Keep.same sx) ra6, hh, fun H' k hA => fin H' k hA⟩
      rintro σ H7 ⟨x, rfl, F7, hg7⟩
      -- what was handed in is changed
      refine seq_useN (fun σ H8 => σ = [some (.ref bx), some (.int (0 + (i : Int))), some (.ref l), some (.int rs.length), some (.ref g), some (.ref x), y6, y7, y8, y9, y10, y11, y12, y13, y14, y15, y16, y17, y18, y19] ∧ F3 T.C_Hall bx (2000 * i + 1002) H l x us rs H8) (fun N hN => ?_) ?_
      · rcases hg7 with h | h
        · refine ⟨.ref g, rfl, .ref g, .ty "list", .type "list", .type "list", true, rfl, .ty "list", .base (.lst h), kit_ty (by decide +kernel), true, rfl, iteP rfl ?_⟩
          have F8 := F7.lst (zs := us.reverse) h ngb nlg n0g
          refine ⟨.ref g, rfl, .inl ⟨rfl, _, .inl (.inl h)⟩, g, _, rfl, rfl, h, ?_⟩
          refine ⟨.ref g, rfl, .inl ⟨rfl, _, .inl (.inl upd_same)⟩, g, _, _, rfl, rfl, upd_same, by rw [List.length_reverse, lus]; exact small1000 (by omega), ?_⟩
          exact hN _ _ ⟨rfl, F8.lst upd_same ngb nlg n0g⟩
        · refine ⟨.ref g, rfl, .ref g, .ty "list", .type "tuple", .type "list", false, rfl, .ty "list", h.ty, kit_ty (by decide +kernel), false, rfl, iteN rfl ?_⟩
          exact hN _ _ ⟨rfl, F7⟩
      rintro σ H8 ⟨rfl, F8⟩
      clear F7 hg7 hg ra6 hl6 e06 n0g ngb nlg ng e6 b6 ra hl e5 b5
      -- rule by rule
      refine seq_useN (fun σ H9 => ∃ z6 z7 z8 z9 z10 z11 z12 : Option V, σ = [some (.ref bx), some (.int (0 + (i : Int))), some (.ref l), some (.int rs.length), some (.ref g), some (.ref x), z6, z7, z8, z9, z10, z11, z12, y13, y14, y15, y16, y17, y18, y19] ∧ F3 T.C_Hall bx (2000 * i + 1002) H l x us rs H9) (fun N hN => ?_) ?_
      · refine ⟨.int rs.length, rfl, _, rfl, by omega, by omega, ?_⟩
        refine for_it walk_range (fun k σ H9 => ∃ z6 z7 z8 z9 z10 z11 z12 : Option V, σ = [some (.ref bx), some (.int (0 + (i : Int))), some (.ref l), some (.int rs.length), some (.ref g), some (.ref x), z6, z7, z8, z9, z10, z11, z12, y13, y14, y15, y16, y17, y18, y19] ∧ F3 T.C_Hall bx (2000 * i + 1002) H l x us rs H9) ⟨_, _, _, _, _, _, _, rfl, F8⟩ (fun _ _ _ _ _ => trivial) ?_ (fun σ H9 h => hN σ H9 h)
        rintro k xk σ H9 HA hk ⟨z6, z7, z8, z9, z10, z11, z12, rfl, F9⟩ ⟨rfl, rfl⟩
        have hk' : k < rs.length := by have : k < ((rs.length : Nat) : Int).toNat := hk; omega
        refine gname_step ?_
        simp only [List.set_cons_zero, List.set_cons_succ, Int.zero_add]
        have few := hh.few hk'
        have wfk := hh.2.2 _ (List.getElem_mem hk')
        -- whom it sees, by this law
        refine seq_useN (fun σ HB => ∃ D : Addr, σ = [some (.ref bx), some (.int (i : Int)), some (.ref l), some (.int rs.length), some (.ref g), some (.ref x), some (.int k), some (.ref D), z8, z9, z10, z11, z12, y13, y14, y15, y16, y17, y18, y19] ∧ F3 T.C_Hall bx (2000 * i + 1002) H l x us rs HB ∧ D ≠ bx ∧ HB D = some (.lst (rs[k].persons.map V.int))) (fun N hN => ?_) ?_
        · obtain ⟨v, hv, rv⟩ := F9.ra.get k hk'
          refine ⟨.ref l, rfl, .int k, rfl, l, us, k, v, rfl, rfl, .inl (.inl F9.hl), atI_nat hv, v, rs[k], rfl, rv, by omega, fun z ps HB sB nz hz pr => ⟨z, rfl, ⟨_, .inl (.inl hz)⟩, fun D hD => ?_⟩⟩
          have lps : ps.length ≤ 12 := by rw [pr.length, ← List.length_map (f := (·.1)), seen_persons]; exact few
          refine lc_pairs (·.1) (walk_listR ps) pr hD (by omega) (fun H4 s4 => .inl (.inl (s4 _ _ hz))) (fun _ _ => rfl) (fun q _ H4 _ Q h => ⟨_, rfl, h⟩) (fun H4 s4 h4 => ?_)
          have e4 : (seenPairs rs[k]).map (·.1) = rs[k].persons := seen_persons _
          rw [e4] at h4
          exact hN _ _ ⟨D, rfl, F9.same (sB.trans s4), F9.b.ne (sB.free hD), h4⟩
        rintro σ HB ⟨D, rfl, FB, nDb, hD⟩
        -- who sees it, by this law
        refine seq_useN (fun σ HC => ∃ D2 : Addr, σ = [some (.ref bx), some (.int (i : Int)), some (.ref l), some (.int rs.length), some (.ref g), some (.ref x), some (.int k), some (.ref D), z8, z9, some (.ref D2), z11, z12, y13, y14, y15, y16, y17, y18, y19] ∧ Same HB HC ∧ D2 ≠ bx ∧ HC D2 = some (.lst ((seersL rs k).map V.int))) (fun N hN => ?_) ?_
        · refine ⟨.int rs.length, rfl, _, rfl, by omega, by omega, fun D2 hD2 => ?_⟩
          refine lc_filt walk_range (fun j => decide ((k : Int) ∈ (rs.getD j (.held 0)).persons)) (fun j => .int (j : Nat)) hD2 (by omega) (fun _ _ => trivial) ?_ ?_
          · rintro j y H3 H4' hj s3 ⟨rfl, rfl⟩ Q' Z hQ hZ
            have hj' : j < rs.length := by have : j < ((rs.length : Nat) : Int).toNat := hj; omega
            have F3' := FB.same s3
            obtain ⟨v, hv, rv⟩ := F3'.ra.get j hj'
            have gd : rs.getD j (.held 0) = rs[j] := by rw [List.getD_eq_getElem?_getD, List.getElem?_eq_getElem hj']; rfl
            have fewj := hh.few hj'
            rw [gd] at hQ hZ
            refine ⟨rfl, .int k, rfl, .ref l, rfl, .int (0 + j), rfl, l, us, 0 + (j : Int), v, rfl, rfl, .inl (.inl F3'.hl), by rw [Int.zero_add]; exact atI_nat hv, v, rs[j], rfl, rv, by omega, fun z ps HC sC nz hz pr => ⟨z, rfl, ⟨_, .inl (.inl hz)⟩, fun D3 hD3 => ?_⟩⟩
            have lps : ps.length ≤ 12 := by rw [pr.length, ← List.length_map (f := (·.1)), seen_persons]; exact fewj
            refine lc_pairs (·.1) (walk_listR ps) pr hD3 (by omega) (fun H5 s5 => .inl (.inl (s5 _ _ hz))) (fun _ _ => rfl) (fun q _ H5 _ Q h => ⟨_, rfl, h⟩) (fun H5 s5 h5 => ?_)
            have e4 : (seenPairs rs[j]).map (·.1) = rs[j].persons := seen_persons _
            rw [e4] at h5
            refine ⟨D3, _, rfl, .inl (.inl (.inl h5)), rfl, flat_ints _, _, rfl, ?_⟩
            rw [if_neg (by decide : ¬ (false = true)), in_ints]
            refine ite2 (fun e => ?_) (fun e => ?_)
            · exact ⟨.int (0 + j), rfl, by rw [Int.zero_add]; exact hQ e _ (sC.trans s5)⟩
            · exact hZ (Bool.eq_false_iff.mpr e) _ (sC.trans s5)
          intro HC sC hC
          refine hN _ _ ⟨D2, rfl, sC, FB.b.ne hD2, ?_⟩
          rw [hC, show ((rs.length : Nat) : Int).toNat = rs.length by omega]
          unfold seersL
          rw [List.map_map]
          rfl
        rintro σ HC ⟨D2, rfl, sC, nD2b, hD2⟩
        have FC := FB.same sC
        have hDC := sC _ _ hD
        clear FB hD sC
        have lsr : (seersL rs k).length ≤ 12 := by
          unfold seersL
          rw [List.length_map]
          exact Nat.le_trans (List.length_filter_le _ _) (by rw [List.length_range]; exact r12)
        -- told
        refine seq_useN (fun σ HD => ∃ (tl p1 p2 : Addr) (v : V), σ = [some (.ref bx), some (.int (i : Int)), some (.ref l), some (.int rs.length), some (.ref g), some (.ref x), some (.int k), some (.ref D), z8, z9, some (.ref D2), z11, some (.ref tl), y13, y14, y15, y16, y17, y18, y19] ∧ Same HC HD ∧ HC p1 = none ∧ HC p2 = none ∧ HC tl = none ∧ p1 ≠ p2 ∧ p1 ≠ tl ∧ RuleAt HD v rs[k] ∧ HD tl = some (.lst [v, .ref p1, .ref p2]) ∧ HD p1 = some (.lst (rs[k].persons.map V.int)) ∧ HD p2 = some (.lst ((seersL rs k).map V.int))) (fun N hN => ?_) ?_
        · obtain ⟨dx, tx, vx, ex, _, _⟩ := id FC.hA
          refine ⟨.ref x, rfl, x, dx, _, rfl, ex, kept_no _ (by decide +kernel), .int k, rfl, x, k, rs, hk', rfl, FC.hA, fun v rv => ?_⟩
          refine ⟨.ref x, rfl, x, dx, _, rfl, ex, kept_no _ (by decide +kernel), .int k, rfl, x, k, rs, hk', rfl, FC.hA, hh, fun p1 HD s1 n1 h1 => ?_⟩
          refine ⟨.ref x, rfl, x, dx, _, rfl, s1 _ _ ex, kept_no _ (by decide +kernel), .int k, rfl, x, k, rs, rfl, hk', FC.hA.keep s1, hh, fun p2 HE s2 n2 h2 => ⟨by show 3 ≤ sizeLine; decide, fun tl ntl => ?_⟩⟩
          have s3 := same_upd (o := .lst [v, .ref p1, .ref p2]) ntl
          exact hN _ _ ⟨tl, p1, p2, v, rfl, s1.trans (s2.trans s3), n1, s1.free n2, s1.free (s2.free ntl), (ne_of_none h1 n2), (ne_of_none (s2 _ _ h1) ntl), rv.keep (Keep.same (s1.trans (s2.trans s3))), upd_same, s3 _ _ (s2 _ _ h1), s3 _ _ h2⟩
        rintro σ HD ⟨tl, p1, p2, v, rfl, sD, np1, np2, ntl, n12, n1t, rv, htl, hp1, hp2⟩
        have FD := FC.same sD
        have hDD := sD _ _ hDC
        have hD2D := sD _ _ hD2
        have np1b := FC.b.ne np1
        have np2b := FC.b.ne np2
        have ntlb := FC.b.ne ntl
        refine seq_useN (fun σ HE => σ = [some (.ref bx), some (.int (i : Int)), some (.ref l), some (.int rs.length), some (.ref g), some (.ref x), some (.int k), some (.ref D), z8, z9, some (.ref D2), z11, some (.ref tl), y13, y14, y15, y16, y17, y18, y19] ∧ Same HD HE) (fun N hN => ?_) ?_
        · obtain ⟨v2, hv2, rv2⟩ := FD.ra.get k hk'
          refine ⟨.ref tl, rfl, .ref l, rfl, .int k, rfl, l, us, k, v2, rfl, rfl, .inl (.inl FD.hl), atI_nat hv2, .ref D, rfl, .ref D2, rfl, by show 3 ≤ sizeLine; decide, fun l3 nl3 => ?_⟩
          have s3 := same_upd (o := .lst [v2, .ref D, .ref D2]) nl3
          have b3 := FD.b.same s3
          refine ⟨bx, .ref tl, .ref l3, .list [rs[k].data, .list (rs[k].persons.map PyData.int), .list ((seersL rs k).map PyData.int)], rfl, .lst (s3 _ _ htl) ntlb (.cons ((rv.keep (Keep.same s3)).rp b3) (.cons (.lst (s3 _ _ hp1) np1b (RpAll.ints _)) (.cons (.lst (s3 _ _ hp2) np2b (RpAll.ints _)) .nil))), .lst upd_same (FD.b.ne nl3) (.cons ((rv2.keep (Keep.same s3)).rp b3) (.cons (.lst (s3 _ _ hDD) nDb (RpAll.ints _)) (.cons (.lst (s3 _ _ hD2D) nD2b (RpAll.ints _)) .nil))), ⟨by show 3 ≤ 8388608; decide, fun d hd => ?_⟩, fun HE sE => ⟨_, rfl, iteN rfl ?_⟩⟩
          · simp only [List.mem_cons, List.not_mem_nil, or_false] at hd
            rcases hd with rfl | rfl | rfl
            · exact okD_rule wfk (by omega) (by omega)
            · exact okD_intsL (by omega)
            · exact okD_intsL (by omega)
          have FE := (FD.same s3).same sE
          obtain ⟨dx, tx, vx, ex, _, _⟩ := id FE.hA
          refine ⟨.ref x, rfl, x, dx, _, rfl, ex, kept_no _ (by decide +kernel), .int k, rfl, rfl, x, k, rs, hk', rfl, FE.hA, hh, fun p3 HF sF n3 h3 => ?_⟩
          refine ⟨.ref D, rfl, bx, .ref p3, .ref D, .list (rs[k].persons.map PyData.int), rfl, .lst h3 (FE.b.ne n3) (RpAll.ints _), .lst (sF _ _ (sE _ _ (s3 _ _ hDD))) nDb (RpAll.ints _), okD_intsL (by omega), fun HG sG => ⟨_, rfl, iteN rfl ?_⟩⟩
          exact hN _ _ ⟨rfl, s3.trans (sE.trans (sF.trans sG))⟩
        rintro σ HE ⟨rfl, sE⟩
        have FE := FD.same sE
        have hp1E := sE _ _ hp1
        have hp2E := sE _ _ hp2
        have htlE := sE _ _ htl
        have l1 : l ≠ p1 := ne_of_none FC.hl np1
        have l2 : l ≠ p2 := ne_of_none FC.hl np2
        have nt1 : tl ≠ p1 := n1t.symm
        have F4 := FE.lst (zs := rs[k].persons.map V.int ++ [.int 0]) hp1E np1b l1 (ext_free FC.e np1b np1)
        have hp2' : (upd HE p1 (.lst (rs[k].persons.map V.int ++ [.int 0]))) p2 = some (.lst ((seersL rs k).map V.int)) := by rw [upd_ne n12.symm]; exact hp2E
        have F5 := F4.lst (zs := (seersL rs k).map V.int ++ [.int 0]) hp2' np2b l2 (ext_free FC.e np2b np2)
        refine ⟨.ref tl, rfl, tl, _, 1, .ref p1, rfl, rfl, .inl (.inl htlE), rfl, .inl ⟨rfl, _, .inl (.inl hp1E)⟩, p1, _, _, rfl, rfl, hp1E, by rw [List.length_map]; exact small1000 (by omega), ?_⟩
        refine ⟨.ref tl, rfl, tl, _, 2, .ref p2, rfl, rfl, .inl (.inl (by rw [upd_ne nt1]; exact htlE)), rfl, .inl ⟨rfl, _, .inl (.inl hp2')⟩, p2, _, _, rfl, rfl, hp2', by rw [List.length_map]; exact small1000 (by omega), ?_⟩
        exact ⟨_, _, _, _, _, _, _, rfl, F5⟩
      rintro σ H9 ⟨z6, z7, z8, z9, z10, z11, z12, rfl, F9⟩
      clear F8
      -- what it's called
      refine seq_useN (fun σ HA => σ = [some (.ref bx), some (.int (0 + (i : Int))), some (.ref l), some (.int rs.length), some (.ref g), some (.ref x), z6, z7, z8, z9, z10, z11, z12, some (.str (nameS rs.length)), y14, y15, y16, y17, y18, y19] ∧ HA = H9) (fun N hN => ?_) ?_
      · refine ⟨.int rs.length, rfl, rs.length, rfl, (by decide +kernel : ∀ n : Nat, n < 13 → (n : Int).natAbs.log2 < 1920) _ (by omega), ?_⟩
        obtain ⟨g1, g2, g3⟩ := name_law rs.length (by omega)
        refine ⟨_, _, rfl, rfl, g1, _, _, rfl, rfl, g2, ?_⟩
        rw [g3]
        exact hN _ _ ⟨rfl, rfl⟩
      rintro σ HA ⟨rfl, rfl⟩
      refine seq_useN (fun σ HA => σ = [some (.ref bx), some (.int (0 + (i : Int))), some (.ref l), some (.int rs.length), some (.ref g), some (.ref x), z6, z7, z8, z9, z10, z11, z12, some (.str (nameS rs.length)), y14, y15, y16, y17, y18, y19] ∧ F3 T.C_Hall bx (2000 * i + 1002) H l x us rs HA) (fun N hN => ?_) ?_
      · obtain ⟨dx, tx, vx, ex, _, _⟩ := id F9.hA
        refine ⟨.ref x, rfl, x, dx, _, rfl, ex, kept_no _ (by decide +kernel), x, rs, rfl, F9.hA, fun t ut ht rt => ?_⟩
        refine ⟨.ref x, rfl, x, dx, _, rfl, ex, x, rs, rfl, F9.hA, _, rfl, by omega, by omega, ?_⟩
        refine ⟨.ref x, rfl, x, dx, _, rfl, ex, x, rs, rfl, F9.hA, r12, _, rfl, by show 3 ≤ sizeLine; decide, fun p1 np1 => ?_⟩
        have s1 := same_upd (o := .lst [.ref t, .int rs.length, .str (nameS rs.length)]) np1
        have h1 := upd_same (H := HA) (a := p1) (o := HO.lst [.ref t, .int rs.length, .str (nameS rs.length)])
        generalize upd HA p1 (.lst [.ref t, .int rs.length, .str (nameS rs.length)]) = HB at s1 h1 ⊢
        have FB := F9.same s1
        refine ⟨.ref l, rfl, l, us, rfl, .inl ⟨.inl (.inl FB.hl), fun t2 nt2 => ?_⟩⟩
        have s2 := same_upd (o := .tup us) nt2
        have h2 := upd_same (H := HB) (a := t2) (o := HO.tup us)
        generalize upd HB t2 (.tup us) = HC at s2 h2 ⊢
        refine ⟨.int rs.length, rfl, .str (nameS rs.length), rfl, by show 3 ≤ sizeLine; decide, fun p2 np2 => ?_⟩
        have FC := FB.same s2
        have s3 := same_upd (o := .lst [.ref t2, .int rs.length, .str (nameS rs.length)]) np2
        have FD := FC.same s3
        have ht3 := ht.keep (Keep.same (s1.trans (s2.trans s3)))
        have rt3 := rt.keep (Keep.same (s1.trans (s2.trans s3)))
        refine ⟨bx, .ref p1, .ref p2, .list [rulesD rs, .int rs.length, .str (nameS rs.length)], rfl, .lst (s3 _ _ (s2 _ _ h1)) (F9.b.ne np1) (.cons (.tup ht3 (tup_nb FD.b ht3) (rt3.rp FD.b)) (.cons (.int _) (.cons (.str _) .nil))), .lst upd_same (FC.b.ne np2) (.cons (.tup (.inl (s3 _ _ h2)) (FD.b.neT (s3 _ _ h2)) (FD.ra.rp FD.b)) (.cons (.int _) (.cons (.str _) .nil))), ⟨by show 3 ≤ 8388608; decide, fun d hd => ?_⟩, fun HE sE => ⟨_, rfl, iteN rfl ?_⟩⟩
        · simp only [List.mem_cons, List.not_mem_nil, or_false] at hd
          rcases hd with rfl | rfl | rfl
          · exact okD_rules hh
          · trivial
          · trivial
        · exact hN _ _ ⟨rfl, FD.same sE⟩
      rintro σ HB ⟨rfl, FB⟩
      clear F9
      -- the same, and what isn't
      refine seq_useN (fun σ HC => σ = [some (.ref bx), some (.int (0 + (i : Int))), some (.ref l), some (.int rs.length), some (.ref g), some (.ref x), z6, z7, z8, z9, z10, z11, z12, some (.str (nameS rs.length)), y14, y15, y16, y17, y18, y19] ∧ F3 T.C_Hall bx (2000 * i + 1002) H l x us rs HC) (fun N hN => ?_) ?_
      · obtain ⟨dx, tx, vx, ex, _, _⟩ := id FB.hA
        refine ⟨.ref x, rfl, .ref l, rfl, rfl, rfl, fun x2 dx2 nx ndx nxd => ?_⟩
        have sx : Same HB (upd (upd HB dx2 (.own x2)) x2 (.ins T.C_Hall dx2 [])) := fun b o hb => by
          rw [upd_ne (ne_of_none hb nx), upd_ne (ne_of_none hb ndx)]
          exact hb
        have FX := FB.same sx
        refine .inl ⟨x2, dx2, l, us, rs, rfl, upd_same, FX.hl, FX.ra, hh, fun H1 k hA2 => ⟨rfl, ?_⟩⟩
        have s1 : Same HB H1 := fun b o hb => k b o (ne_of_none hb nx) (sx b o hb)
        have F1 := FB.same s1
        obtain ⟨d2, t2, v2, e2, _, _⟩ := id hA2
        refine ⟨x, x2, dx, d2, _, _, rfl, rfl, s1 _ _ ex, e2, bx, x, x2, _, rs, rfl, F1.b, F1.hA, .inl ⟨rs, hA2, _, rfl, ?_⟩⟩
        rw [show PyData.eqv (rulesT rs) (rulesT rs) = true from eqv_rules rs]
        refine ⟨_, rfl, iteN rfl ?_⟩
        refine ⟨.ref x, rfl, .ref l, rfl, fun x3 dx3 nx3 ndx3 nxd3 => ?_⟩
        have sx3 : Same H1 (upd (upd H1 dx3 (.own x3)) x3 (.ins T.C_Hall dx3 [])) := fun b o hb => by
          rw [upd_ne (ne_of_none hb nx3), upd_ne (ne_of_none hb ndx3)]
          exact hb
        have FX3 := F1.same sx3
        refine .inl ⟨x3, dx3, l, us, rs, rfl, upd_same, FX3.hl, FX3.ra, hh, fun H2 k3 hA3 => ⟨rfl, ?_⟩⟩
        have s2 : Same H1 H2 := fun b o hb => k3 b o (ne_of_none hb nx3) (sx3 b o hb)
        have F2 := F1.same s2
        obtain ⟨d3, t3, v3, e3, _, _⟩ := id hA3
        have ex2 := s2 _ _ (s1 _ _ ex)
        refine ⟨x, x3, dx, d3, _, _, rfl, rfl, ex2, e3, bx, x, x3, _, rs, rfl, F2.b, F2.hA, .inl ⟨rs, hA3, _, rfl, ?_⟩⟩
        rw [show PyData.eqv (rulesT rs) (rulesT rs) = true from eqv_rules rs]
        refine ⟨_, rfl, iteN rfl ?_⟩
        refine ⟨.ref x, rfl, .ref l, rfl, x, l, dx, _, us, rfl, rfl, ex2, .inl F2.hl, bx, x, l, _, rs, rfl, F2.b, F2.hA, .inr ⟨us, .inl F2.hl, _, rfl, ?_⟩⟩
        refine ⟨_, rfl, iteN rfl ?_⟩
        refine ⟨.ref x, rfl, .ref l, rfl, l, us, rfl, .inl ⟨.inl (.inl F2.hl), fun t nt => ?_⟩⟩
        have st := same_upd (o := .tup us) nt
        have ht := upd_same (H := H2) (a := t) (o := HO.tup us)
        generalize upd H2 t (.tup us) = H3' at st ht ⊢
        have F3' := F2.same st
        exact ⟨x, t, dx, _, us, rfl, rfl, st _ _ ex2, .inr (.inl ht), bx, x, t, _, rs, rfl, F3'.b, F3'.hA, .inr ⟨us, .inr (.inl ht), _, rfl, _, rfl, iteN rfl (hN _ _ ⟨rfl, F3'⟩)⟩⟩
      rintro σ HC ⟨rfl, FC⟩
      clear FB
      -- one rule otherwise
      refine seq_useN (fun σ HD => ∃ at_ : Nat, σ = [some (.ref bx), some (.int (0 + (i : Int))), some (.ref l), some (.int rs.length), some (.ref g), some (.ref x), z6, z7, z8, z9, z10, z11, z12, some (.str (nameS rs.length)), some (.int at_), y15, y16, y17, y18, y19] ∧ F3 T.C_Hall bx (2000 * i + 1003) H l x us rs HD ∧ at_ < rs.length) (fun N hN => ?_) ?_
      · refine ⟨.ref bx, rfl, .int rs.length, rfl, bx, _, rs.length, rfl, by omega, by omega, by omega, FC.b, fun r HD r0 r1' eD bD => ?_⟩
        refine hN _ _ ⟨r.toNat, ?_, FC.draw nlb eD (bD.mono (by omega)), by omega⟩
        rw [show ((r.toNat : Nat) : Int) = r by omega]
        rfl
      rintro σ HD ⟨at_, rfl, FD, hat⟩
      refine seq_useN (fun σ HE => ∃ (D h : Addr), σ = [some (.ref bx), some (.int (0 + (i : Int))), some (.ref l), some (.int rs.length), some (.ref g), some (.ref x), z6, z7, some (.ref D), z9, z10, z11, z12, some (.str (nameS rs.length)), some (.int at_), y15, y16, y17, y18, y19] ∧ Same HD HE ∧ HE D = some (.lst (us.set at_ (.ref h))) ∧ HE h = some (.tup [.str "held", .int 77])) (fun N hN => ?_) ?_
      · refine ⟨.ref l, rfl, ?_⟩
        dsimp only [tNoPart]
        refine ⟨.int at_, rfl, _, rfl, l, us, rfl, .inl (.inl FD.hl), fun c nc => ?_⟩
        rw [cutV_any, cut_to _ _ (by omega)]
        have sc := same_upd (o := .lst (us.take at_)) nc
        have hc := upd_same (H := HD) (a := c) (o := HO.lst (us.take at_))
        generalize upd HD c (.lst (us.take at_)) = H1 at sc hc ⊢
        refine ⟨by show 2 ≤ sizeLine; decide, fun h nh => ⟨by show 1 ≤ sizeLine; decide, fun l1 nl1 => ?_⟩⟩
        have sh := same_upd (o := .tup [.str (Str.ofString "held"), .int 77]) nh
        have hh1 := upd_same (H := H1) (a := h) (o := HO.tup [.str (Str.ofString "held"), .int 77])
        generalize upd H1 h (.tup [.str (Str.ofString "held"), .int 77]) = H2 at sh hh1 nl1 ⊢
        have sl := same_upd (o := .lst [.ref h]) nl1
        have hl1 := upd_same (H := H2) (a := l1) (o := HO.lst [.ref h])
        generalize upd H2 l1 (.lst [.ref h]) = H3' at sl hl1 ⊢
        refine ⟨c, l1, _, _, rfl, rfl, sl _ _ (sh _ _ hc), hl1, by rw [List.length_take]; exact Nat.le_of_lt (small1000 (by show min at_ us.length + 1 ≤ 1000; omega)), fun e ne => ?_⟩
        have se := same_upd (o := .lst (us.take at_ ++ [.ref h])) ne
        have he := upd_same (H := H3') (a := e) (o := HO.lst (us.take at_ ++ [.ref h]))
        generalize upd H3' e (.lst (us.take at_ ++ [.ref h])) = H4 at se he ⊢
        have s4 := sc.trans (sh.trans (sl.trans se))
        refine ⟨.ref l, rfl, .int at_, rfl, _, _, rfl, rfl, _, rfl, ?_⟩
        dsimp only [tNoPart]
        refine ⟨l, us, rfl, .inl (.inl (s4 _ _ FD.hl)), fun c2 nc2 => ?_⟩
        rw [cutV_any, show (at_ : Int) + 1 = ((at_ + 1 : Nat) : Int) by omega, cut_from _ _ (by omega)]
        have s5 := same_upd (o := .lst (us.drop (at_ + 1))) nc2
        refine ⟨e, c2, _, _, rfl, rfl, s5 _ _ he, upd_same, by rw [List.length_append, List.length_take, List.length_drop]; exact Nat.le_of_lt (small1000 (by show min at_ us.length + 1 + (us.length - (at_ + 1)) ≤ 1000; omega)), fun e2 ne2 => ?_⟩
        have s6 := same_upd (o := .lst (us.take at_ ++ [.ref h] ++ us.drop (at_ + 1))) ne2
        refine hN _ _ ⟨e2, h, rfl, s4.trans (s5.trans s6), ?_, s6 _ _ (s5 _ _ (se _ _ (sl _ _ hh1)))⟩
        rw [upd_same, List.set_eq_take_append_cons_drop, if_pos (by omega), List.append_assoc]
        rfl
      rintro σ HE ⟨D, h, rfl, sE, hDE, hhE⟩
      have FE := FD.same sE
      have raE : RulesAt HE (us.set at_ (.ref h)) (rs.set at_ (.held 77)) := paired_put FE.ra at_ ⟨h, rfl, hhE⟩
      have hh2 : Halls (rs.set at_ (.held 77)) := by
        refine ⟨by rw [List.length_set]; exact r1, by rw [List.length_set]; exact r12, fun r hr => ?_⟩
        rw [List.length_set]
        rcases List.mem_or_eq_of_mem_set hr with h | h
        · exact hh.2.2 r h
        · rw [h]; exact ⟨by decide, by decide⟩
      have uneq := uneq77 (h77) hat
      clear FD
      refine seq_useN (fun σ HF => σ = [some (.ref bx), some (.int (0 + (i : Int))), some (.ref l), some (.int rs.length), some (.ref g), some (.ref x), z6, z7, some (.ref D), z9, z10, z11, z12, some (.str (nameS rs.length)), some (.int at_), y15, y16, y17, y18, y19] ∧ F3 T.C_Hall bx (2000 * i + 1003) H l x us rs HF) (fun N hN => ?_) ?_
      · obtain ⟨dx, tx, vx, ex, _, _⟩ := id FE.hA
        refine ⟨.ref x, rfl, .ref D, rfl, fun x2 dx2 nx ndx nxd => ?_⟩
        have sx : Same HE (upd (upd HE dx2 (.own x2)) x2 (.ins T.C_Hall dx2 [])) := fun b o hb => by
          rw [upd_ne (ne_of_none hb nx), upd_ne (ne_of_none hb ndx)]
          exact hb
        refine .inl ⟨x2, dx2, D, us.set at_ (.ref h), rs.set at_ (.held 77), rfl, upd_same, sx _ _ hDE, RulesAt.keep (Keep.same sx) raE, hh2, fun H1 k hA2 => ⟨rfl, ?_⟩⟩
        have s1 : Same HE H1 := fun b o hb => k b o (ne_of_none hb nx) (sx b o hb)
        have F1 := FE.same s1
        obtain ⟨d2, t2, v2, e2, _, _⟩ := id hA2
        refine ⟨x, x2, dx, d2, _, _, rfl, rfl, s1 _ _ ex, e2, bx, x, x2, _, rs, rfl, F1.b, F1.hA, .inl ⟨_, hA2, _, rfl, ?_⟩⟩
        rw [uneq]
        refine ⟨_, rfl, iteN rfl ?_⟩
        refine ⟨.ref x, rfl, .ref D, rfl, fun x3 dx3 nx3 ndx3 nxd3 => ?_⟩
        have sx3 : Same H1 (upd (upd H1 dx3 (.own x3)) x3 (.ins T.C_Hall dx3 [])) := fun b o hb => by
          rw [upd_ne (ne_of_none hb nx3), upd_ne (ne_of_none hb ndx3)]
          exact hb
        refine .inl ⟨x3, dx3, D, us.set at_ (.ref h), rs.set at_ (.held 77), rfl, upd_same, sx3 _ _ (s1 _ _ hDE), RulesAt.keep (Keep.same (s1.trans sx3)) raE, hh2, fun H2 k3 hA3 => ⟨rfl, ?_⟩⟩
        have s2 : Same H1 H2 := fun b o hb => k3 b o (ne_of_none hb nx3) (sx3 b o hb)
        have F2 := F1.same s2
        obtain ⟨d3, t3, v3, e3, _, _⟩ := id hA3
        have ex2 := s2 _ _ (s1 _ _ ex)
        refine ⟨x, x3, dx, d3, _, _, rfl, rfl, ex2, e3, bx, x, x3, _, rs, rfl, F2.b, F2.hA, .inl ⟨_, hA3, _, rfl, ?_⟩⟩
        rw [uneq]
        exact ⟨_, rfl, iteN rfl (hN _ _ ⟨rfl, F2⟩)⟩
      rintro σ HF ⟨rfl, FF⟩
      clear FE raE hh2 uneq hDE hhE sE
      -- some of them are none
      refine seq_useN (fun σ HG => ∃ (D2 : Addr) (S : List Nat), σ = [some (.ref bx), some (.int (0 + (i : Int))), some (.ref l), some (.int rs.length), some (.ref g), some (.ref x), z6, z7, some (.ref D), z9, z10, z11, z12, some (.str (nameS rs.length)), some (.int at_), some (.ref D2), y16, y17, y18, y19] ∧ F3 T.C_Hall bx (2000 * i + 1015) H l x us rs HG ∧ D2 ≠ bx ∧ HG D2 = some (.lst ((S.map fun k : Nat => (k : Int)).map V.int)) ∧ S.Pairwise (· < ·) ∧ ∀ k ∈ S, k < rs.length) (fun N hN => ?_) ?_
      · refine ⟨.int rs.length, rfl, _, rfl, by omega, by omega, fun D2 hD2 => ?_⟩
        have nD2b := FF.b.ne hD2
        have lD2 : l ≠ D2 := ne_of_none FF.hl hD2
        have n0D2 := ext_free FF.e nD2b hD2
        refine lc_it walk_range (fun j HG => ∃ S : List Nat, F3 T.C_Hall bx (2000 * i + 1003 + j) H l x us rs HG ∧ HG D2 = some (.lst ((S.map fun k : Nat => (k : Int)).map V.int)) ∧ S.Pairwise (· < ·) ∧ S.length ≤ j ∧ ∀ k ∈ S, k < j) ⟨[], by simpa using FF.same (same_upd hD2), upd_same, List.Pairwise.nil, Nat.le_refl _, fun k hk => absurd hk (by simp)⟩ (fun _ _ _ _ => trivial) ?_ ?_
        · rintro j y H1 H2 hj ⟨S, F1, h1, pw, ls, inS⟩ ⟨rfl, rfl⟩
          have hj' : j < rs.length := by have : j < ((rs.length : Nat) : Int).toNat := hj; omega
          refine ⟨rfl, .ref bx, rfl, bx, _, 3, rfl, by decide, by decide, by omega, F1.b, fun r H3 r0 r1' e3 b3 => ⟨rfl, _, rfl, ite2 (fun z => ?_) (fun z => ?_)⟩⟩
          · have F3' := F1.draw nlb e3 (b3.mono (d := 2000 * i + 1003 + (j + 1 : Nat)) (by omega))
            have h3 := e3 _ _ nD2b h1
            refine ⟨.int (0 + j), rfl, _, h3, by rw [List.length_map, List.length_map]; exact small1000 (by omega), S ++ [j], F3'.lst h3 nD2b lD2 n0D2, ?_, ?_, by rw [List.length_append]; show S.length + 1 ≤ j + 1; omega, ?_⟩
            · rw [upd_same, List.map_append, List.map_append, Int.zero_add]; rfl
            · rw [List.pairwise_append]
              exact ⟨pw, List.pairwise_singleton _ _, fun a ha b hb => by rw [List.mem_singleton.mp hb]; exact inS a ha⟩
            · intro k hk
              rcases List.mem_append.mp hk with h | h
              · have := inS k h; omega
              · rw [List.mem_singleton.mp h]; omega
          · exact ⟨S, F1.draw nlb e3 (b3.mono (by omega)), e3 _ _ nD2b h1, pw, by omega, fun k hk => by have := inS k hk; omega⟩
        · rintro HG ⟨S, FG, hG2, pw, ls, inS⟩
          rw [show ((rs.length : Nat) : Int).toNat = rs.length by omega] at inS FG
          exact hN _ _ ⟨D2, S, rfl, ⟨FG.e, FG.b.mono (by omega), FG.hl, FG.ra, FG.hA⟩, nD2b, hG2, pw, inS⟩
      rintro σ HG ⟨D2, S, rfl, FG, nD2b, hD2, pw, inS⟩
      clear FF
      -- things that are no rules
      refine seq_useN (fun σ HI => ∃ (D3 : Addr) (os : List V), σ = [some (.ref bx), some (.int (0 + (i : Int))), some (.ref l), some (.int rs.length), some (.ref g), some (.ref x), z6, z7, some (.ref D), z9, z10, z11, z12, some (.str (nameS rs.length)), some (.int at_), some (.ref D2), y16, some (.ref D3), y18, y19] ∧ Same HG HI ∧ D3 ≠ bx ∧ HI D3 = some (.lst os) ∧ RpAll bx HI os (oddsD rs.length)) (fun N hN => ?_) ?_
      · refine ⟨Nat.zero_le _, fun t1 n1 => ⟨by show 1 ≤ sizeLine; decide, fun t2 n2 => ⟨by show 2 ≤ sizeLine; decide, fun t3 n3 => ⟨by show 2 ≤ sizeLine; decide, fun l4 n4 => ⟨.int rs.length, rfl, by show 1 ≤ sizeLine; decide, fun t5 n5 => ⟨by show 2 ≤ sizeLine; decide, fun t6 n6 => ⟨by show 1 ≤ sizeLine; decide, fun l7 n7 => ⟨by show 2 ≤ sizeLine; decide, fun t8 n8 => ⟨by show 9 ≤ sizeLine; decide, fun D3 n9 => ?_⟩⟩⟩⟩⟩⟩⟩⟩⟩
        have s1 := same_upd (o := .tup []) n1
        have s2 := same_upd (o := .tup [.str (Str.ofString "held")]) n2
        have s3 := same_upd (o := .tup [.str (Str.ofString "held"), .bl true]) n3
        have s4 := same_upd (o := .lst [.str (Str.ofString "held"), .int 1]) n4
        have s5 := same_upd (o := .tup [.int rs.length]) n5
        have s6 := same_upd (o := .tup [.str (Str.ofString "free"), .ref t5]) n6
        have s7 := same_upd (o := .lst [.int 0]) n7
        have s8 := same_upd (o := .tup [.str (Str.ofString "next"), .ref l7]) n8
        have s9 := same_upd (o := .lst [.non, .int 7, .str (Str.ofString "sum"), .ref t1, .ref t2, .ref t3, .ref l4, .ref t6, .ref t8]) n9
        have g8 := s9 _ _ (upd_same (a := t8))
        have s89 := s8.trans s9
        have g7 := s89 _ _ (upd_same (a := l7))
        have s79 := s7.trans s89
        have g6 := s79 _ _ (upd_same (a := t6))
        have s69 := s6.trans s79
        have g5 := s69 _ _ (upd_same (a := t5))
        have s59 := s5.trans s69
        have g4 := s59 _ _ (upd_same (a := l4))
        have s49 := s4.trans s59
        have g3 := s49 _ _ (upd_same (a := t3))
        have s39 := s3.trans s49
        have g2 := s39 _ _ (upd_same (a := t2))
        have s29 := s2.trans s39
        have g1 := s29 _ _ (upd_same (a := t1))
        have s19 := s1.trans s29
        have bI := FG.b.same s19
        have ne : ∀ {t : Addr} {o : HO}, HG t = none → t ≠ bx := fun h => FG.b.ne h
        have nl4 := ((((FG.b.same s1).same s2).same s3)).ne n4
        have nl7 := (((((((FG.b.same s1).same s2).same s3).same s4).same s5).same s6)).ne n7
        have nD3 := (((((((((FG.b.same s1).same s2).same s3).same s4).same s5).same s6).same s7).same s8)).ne n9
        refine hN _ _ ⟨D3, _, rfl, s19, nD3, upd_same, ?_⟩
        exact .cons .non (.cons (.int _) (.cons (.str _) (.cons (.tup (.inl g1) (bI.neT g1) .nil) (.cons (.tup (.inl g2) (bI.neT g2) (.cons (.str _) .nil)) (.cons (.tup (.inl g3) (bI.neT g3) (.cons (.str _) (.cons (.bl _) .nil))) (.cons (.lst g4 nl4 (.cons (.str _) (.cons (.int _) .nil)))
          (.cons (.tup (.inl g6) (bI.neT g6) (.cons (.str _) (.cons (.tup (.inl g5) (bI.neT g5) (.cons (.int _) .nil)) .nil))) (.cons (.tup (.inl g8) (bI.neT g8) (.cons (.str _) (.cons (.lst g7 nl7 (.cons (.int _) .nil)) .nil))) .nil))))))))
      rintro σ HI ⟨D3, os, rfl, sI, nD3b, hD3, rpo⟩
      have FI := FG.same sI
      have hD2I := sI _ _ hD2
      clear FG hD2 sI
      refine seq_useN (fun σ HJ => ∃ (ov : V) (d : PyData), σ = [some (.ref bx), some (.int (0 + (i : Int))), some (.ref l), some (.int rs.length), some (.ref g), some (.ref x), z6, z7, some (.ref D), z9, z10, z11, z12, some (.str (nameS rs.length)), some (.int at_), some (.ref D2), y16, some (.ref D3), some ov, y19] ∧ F3 T.C_Hall bx (2000 * i + 1016) H l x us rs HJ ∧ HJ D2 = some (.lst ((S.map fun k : Nat => (k : Int)).map V.int)) ∧ Rp bx HJ ov d ∧ RFine d ∧ ruleB rs.length d = false) (fun N hN => ?_) ?_
      · have lo : os.length = 9 := rpo.length
        refine ⟨.ref bx, rfl, .ref D3, rfl, bx, D3, _, os, rfl, hD3, nD3b, by omega, by omega, by omega, FI.b, fun v HJ mv eJ bJ => ?_⟩
        obtain ⟨d, md, rd⟩ := rp_mem rpo v mv
        obtain ⟨o1, o2⟩ := odds_ok rs.length (by omega) d md
        exact hN _ _ ⟨v, d, rfl, FI.draw nlb eJ (bJ.mono (by omega)), eJ _ _ nD2b hD2I, rd.ext eJ, o1, o2⟩
      rintro σ HJ ⟨ov, d, rfl, FJ, hD2J, rd, rf, rb⟩
      clear FI hD2I rpo hD3
      refine seq_useN (fun σ HK => σ = [some (.ref bx), some (.int (0 + (i : Int))), some (.ref l), some (.int rs.length), some (.ref g), some (.ref x), z6, z7, some (.ref D), z9, z10, z11, z12, some (.str (nameS rs.length)), some (.int at_), some (.ref D2), y16, some (.ref D3), some ov, y19] ∧ F3 T.C_Hall bx (2000 * i + 1016) H l x us rs HK) (fun N hN => ?_) ?_
      · refine ⟨.int rs.length, rfl, _, rfl, by omega, by omega, fun D4 hD4 => ?_⟩
        refine lc_map walk_range (fun j => if j ∈ S then ov else us.getD j .non) hD4 (by omega) (fun _ _ => trivial) ?_ ?_
        · rintro j y H1 H2 hj s1 ⟨rfl, rfl⟩ Q' Z hQ
          have hj' : j < rs.length := by have : j < ((rs.length : Nat) : Int).toNat := hj; omega
          have h2 := s1 _ _ hD2J
          have F1 := FJ.same s1
          refine ⟨rfl, yes (iteT ?_)⟩
          refine ⟨.int (0 + j), rfl, .ref D2, rfl, D2, _, rfl, .inl (.inl (.inl h2)), rfl, flat_ints _, _, rfl, ?_⟩
          have e : decide ((0 + (j : Int)) ∈ S.map fun k : Nat => (k : Int)) = decide (j ∈ S) := by
            rw [Int.zero_add]
            refine decide_eq_decide.mpr ⟨fun z => ?_, fun z => List.mem_map.mpr ⟨j, z, rfl⟩⟩
            obtain ⟨k, hk, ek⟩ := List.mem_map.mp z
            rw [show j = k by omega]
            exact hk
          rw [if_neg (by decide : ¬ (false = true)), in_ints, e]
          refine ite2 (fun z => ?_) (fun z => ?_)
          · rw [if_pos (of_decide_eq_true z)] at hQ
            exact ⟨ov, rfl, hQ _ (Same.refl _)⟩
          · rw [if_neg (by simpa using z)] at hQ
            exact ⟨.ref l, rfl, .int (0 + j), rfl, l, us, 0 + (j : Int), us.getD j .non, rfl, rfl, .inl (.inl F1.hl), by rw [Int.zero_add]; exact atI_nat (by rw [List.getD_eq_getElem?_getD, List.getElem?_eq_getElem (by omega)]; rfl), hQ _ (Same.refl _)⟩
        intro H1 s1 h1
        rw [show ((rs.length : Nat) : Int).toNat = rs.length by omega] at h1
        have F1 := FJ.same s1
        have h2 := s1 _ _ hD2J
        have lw : ((List.range rs.length).map fun j => if j ∈ S then ov else us.getD j .non).length = rs.length := by rw [List.length_map, List.length_range]
        rcases S with _ | ⟨s0, S'⟩
        · refine ⟨D4, _, rs.length, rs, rfl, h1, by omega, by omega, by omega, ?_, by rw [lw]; exact hh.2.2, fun _ H2 s2 => ?_, fun v hv => ?_⟩
          · rw [ws_take lus (fun j hj => absurd hj (by simp)), List.take_of_length_le (by omega)]
            exact F1.ra
          · refine ⟨.ref D2, rfl, Nat.zero_le _, fun z nz => ?_⟩
            have sz := same_upd (o := .lst []) nz
            refine ⟨.list [], .list [], .lst (.inl (.inl (sz _ _ (s2 _ _ h2)))) .nil, .lst (.inl (.inl upd_same)) .nil, by decide +kernel, by decide +kernel, _, rfl, iteN (by decide +kernel) ?_⟩
            exact ⟨rfl, _, rfl, iteN (by decide +kernel) (hN _ _ ⟨rfl, (F1.same s2).same sz⟩)⟩
          · rw [List.getElem?_eq_none (by omega)] at hv
            cases hv
        · have hs0 : s0 < rs.length := inS s0 List.mem_cons_self
          refine ⟨D4, _, s0, rs.take s0, rfl, h1, by omega, by omega, by omega, ?_, by rw [lw]; exact fun r hr => hh.2.2 r (List.mem_of_mem_take hr), fun e => absurd e (by omega), fun v hv => ⟨?_, fun H2 s2 => ?_⟩⟩
          · rw [ws_take lus (fun j hj => by
              rcases List.mem_cons.mp hj with rfl | hj
              · exact Nat.le_refl _
              · exact Nat.le_of_lt ((List.pairwise_cons.mp pw).1 j hj))]
            exact paired_take F1.ra s0
          · rw [List.getElem?_map, List.getElem?_range hs0] at hv
            cases hv
            rw [lw]
            refine ⟨bx, d, ?_, rf, rb⟩
            show Rp bx H1 (if s0 ∈ s0 :: S' then ov else us.getD s0 .non) d
            rw [if_pos List.mem_cons_self]
            exact rd.ext (Ext.of s1)
          · refine ⟨.ref D2, rfl, Nat.zero_le _, fun z nz => ?_⟩
            have sz := same_upd (o := .lst []) nz
            have h3 := sz _ _ (s2 _ _ h2)
            refine ⟨.list (((s0 :: S').map fun k : Nat => (k : Int)).map PyData.int), .list [], .lst (.inl (.inl h3)) (RpAll.dp (bx := bx) (RpAll.ints _)), .lst (.inl (.inl upd_same)) .nil, shaped_ints _, by decide +kernel, _, rfl, ?_⟩
            rw [show PyData.eqv (.list (((s0 :: S').map fun k : Nat => (k : Int)).map PyData.int)) (.list []) = false from by simp [PyData.eqv, PyData.eqvAll]]
            refine iteP rfl ⟨.ref D2, rfl, D2, _, 0, .int s0, rfl, rfl, .inl (.inl h3), atI_nat (j := 0) rfl, ?_⟩
            exact ⟨rfl, _, rfl, iteN (by simp) (hN _ _ ⟨rfl, (F1.same s2).same sz⟩)⟩
      rintro σ HK ⟨rfl, FK⟩
      clear FJ hD2J rd
      refine ⟨_, rfl, .int rs.length, rfl, .int rs.length, rfl, _, _, rfl, rfl, by show 3 ≤ sizeLine; decide, fun tq ntq => ?_⟩
      have sq := same_upd (o := .tup [.int (-1), .int rs.length, .int ((rs.length : Int) + 5)]) ntq
      have hq : (upd HK tq (.tup [.int (-1), .int rs.length, .int ((rs.length : Int) + 5)])) tq = some (.tup [.int (-1), .int rs.length, .int ((rs.length : Int) + 5)]) := upd_same
      have FL := FK.same sq
      generalize upd HK tq (.tup [.int (-1), .int rs.length, .int ((rs.length : Int) + 5)]) = HL at sq hq FL ⊢
      refine ⟨tq, rfl, ⟨_, TupAt.sq (.inl hq)⟩, ?_⟩
      refine for_it (walk_tup (xs := [.int (-1), .int rs.length, .int ((rs.length : Int) + 5)])) (fun k σ HM => ∃ (z6 y19 : Option V), σ = [some (.ref bx), some (.int (0 + (i : Int))), some (.ref l), some (.int rs.length), some (.ref g), some (.ref x), z6, z7, some (.ref D), z9, z10, z11, z12, some (.str (nameS rs.length)), some (.int at_), some (.ref D2), y16, some (.ref D3), some ov, y19] ∧ Same HL HM) ⟨_, _, rfl, Same.refl _⟩ (fun _ _ HM _ ⟨_, _, _, sM⟩ => TupAt.sq (.inl (sM _ _ hq))) ?_ ?_
      · rintro k y σ HM HN' hk ⟨z6', y19', rfl, sM⟩ ⟨rfl, hy⟩
        have hp : ∃ p : Int, y = .int p ∧ ¬ (0 ≤ p ∧ p < rs.length) := by
          rcases (by have : k < 3 := hk; omega : k = 0 ∨ k = 1 ∨ k = 2) with rfl | rfl | rfl <;> cases hy
          · exact ⟨_, rfl, by omega⟩
          · exact ⟨_, rfl, by omega⟩
          · exact ⟨_, rfl, by omega⟩
        obtain ⟨p, rfl, no⟩ := hp
        have FM := FL.same sM
        refine gname_step ?_
        simp only [List.set_cons_zero, List.set_cons_succ]
        refine ⟨by show 3 ≤ sizeLine; decide, fun tw ntw => ?_⟩
        have sw := same_upd (o := .tup [.str (Str.ofString "rule"), .str (Str.ofString "sees"), .str (Str.ofString "seers")]) ntw
        have hw := upd_same (H := HN') (a := tw) (o := .tup [.str (Str.ofString "rule"), .str (Str.ofString "sees"), .str (Str.ofString "seers")])
        generalize upd HN' tw (.tup [.str (Str.ofString "rule"), .str (Str.ofString "sees"), .str (Str.ofString "seers")]) = HP at sw hw ⊢
        have FP := FM.same sw
        refine ⟨tw, rfl, ⟨_, TupAt.sq (.inl hw)⟩, fun D5 hD5 => ?_⟩
        refine lc_map (walk_tup (xs := [.str (Str.ofString "rule"), .str (Str.ofString "sees"), .str (Str.ofString "seers")])) (fun _ => .bl true) hD5 (by decide) (fun H3 s3 => TupAt.sq (.inl (s3 _ _ hw))) ?_ ?_
        · rintro j y H1 H2 hj s1 ⟨rfl, hy⟩ Q' Z hQ
          have hwd : ∃ wd : Str, y = .str wd := by
            rcases (by have : j < 3 := hj; omega : j = 0 ∨ j = 1 ∨ j = 2) with rfl | rfl | rfl <;> cases hy <;> exact ⟨_, rfl⟩
          obtain ⟨wd, rfl⟩ := hwd
          refine ⟨rfl, yes (iteT ?_)⟩
          exact ⟨.ref x, rfl, .str wd, rfl, .int p, rfl, x, wd, p, rs, rfl, (FP.same s1).hA, no, fun H' s' => hQ _ s'⟩
        intro H3 s3 h3
        have h3' : H3 D5 = some (.lst ((List.replicate 3 true).map V.bl)) := h3
        exact ⟨D5, _, rfl, .inl (.inl h3'), _, rfl, iteN rfl ⟨_, _, rfl, sM.trans (sw.trans s3)⟩⟩
      · rintro σ HM ⟨z6', y19', rfl, sM⟩
        have FM := FL.same sM
        exact ⟨_, _, _, _, _, _, _, _, _, _, _, _, _, _, _, _, _, _, _, rfl, FM.e, FM.b.mono (by omega)⟩
    · rintro σ H3 ⟨y1, y2, y3, y4, y5, y6, y7, y8, y9, y10, y11, y12, y13, y14, y15, y16, y17, y18, y19, rfl, e3, b3⟩
      exact q H3 e3
end
end Lh

namespace Lh
open PySem PySem.Spec PyProof.Rows L2
section
variable {P : Program} {w : World} {K : PySem.W.Frag} {mg : Str → Option Value} {base : Heap}
def spLaw (K : PySem.W.Frag) : Sp := fun vs H Q _ => ∃ (a : Addr) (ns : List Int), vs = [.ref a] ∧ SqL K H a (ns.map V.int) ∧ ns.length ≤ 63 ∧ ∀ H', Q (.bl true) H'
theorem ok_law (T : Txt K mg w) : FnG P w K mg base 12 T.f_law T.fd_law ["_law_script"] (spLaw K) := by
  have G_folded := ok_folded (P := P) (w := w) (base := base) T
  have G_dip := ok_dip (P := P) (w := w) (base := base) T
  have G_right := ok_right (P := P) (w := w) (base := base) T
  refine okG T.F_law sc_law (fun vs H Q E h => ?_) (fun cdv A outer s H vs Q E hr hG h => ?_)
  · obtain ⟨a, ns, rfl, _⟩ := h
    rfl
  · obtain ⟨a, ns, rfl, hS, hl, q⟩ := h
    refine ⟨_, (pss_cons (ps_set (i := 1) sc_law.nd rfl (.inr rfl) (pe_call G_folded (hr.mono (by decide)) (by rfl) T.g_folded T.F_folded.kp T.b_folded .nil pass0 (pa_cons (pv 0) (pa_cons pe_int pa_nil))))
      (pss_one (ps_ret (pe_callB (cr_all rfl) (by rfl) T.m_all (by decide +kernel) (pa_cons (pe_lc (own := [("_law_k", 2)]) (g := gName 2) (by rfl) sc_law.nd (pi_range1 (by rfl) T.m_range (pa_cons (pe_callB (call_max2 rfl) (by rfl) T.m_max (by decide +kernel) (pa_cons pe_int (pa_cons (pe_callB call_len_seq (by rfl) T.m_len (by decide +kernel) (pa_cons (pv 1) pa_nil)) pa_nil))) pa_nil)) (blkOk_by (own := [("_law_k", 2)]) (N := n_law) (sc := defScope s_law) (by decide +kernel)) (fun _ _ _ _ _ => (pg_name (i := 2) sc_law.nd rfl (.inl rfl) (.inr rfl))) (fun _ _ _ _ _ => pts_nil) (fun _ _ _ _ _ => (pe_callG G_right (hr.mono (by decide)) hG (by rfl) T.g_right T.F_right.kp T.b_right (pa_cons (pe_call G_dip (hr.mono (by decide)) (by rfl) T.g_dip T.F_dip.kp T.b_dip .nil pass0 (pa_cons (pv 1) (pa_cons (pv 2) pa_nil))) pa_nil)))) pa_nil))))), ?_⟩
    refine ⟨.ref a, rfl, a, ns, rfl, hS, hl, fun p ms H1 s1 np hp ml => ?_⟩
    refine ⟨.ref p, rfl, p, _, rfl, .inl (.inl (.inl hp)), 1, _, rfl, _, rfl, ?_, ?_, fun D hD => ?_⟩
    · rw [List.length_map]; split <;> omega
    · rw [List.length_map]; split <;> omega
    generalize hn : (if ((ms.map V.int).length : Int) > 1 then ((ms.map V.int).length : Int) else 1).toNat = n
    have hn3 : n ≤ 3 := by
      rw [← hn, List.length_map]
      split <;> omega
    refine lc_it walk_range (fun i H3 => H3 p = some (.lst (ms.map V.int)) ∧ H3 D = some (.lst (List.replicate i (.bl true)))) ⟨same_upd hD _ _ hp, upd_same⟩ (fun _ _ _ _ => trivial) ?_ ?_
    · rintro i x H3 H4 hi ⟨h1, h2⟩ ⟨rfl, rfl⟩
      refine ⟨rfl, yes (iteT ?_)⟩
      refine ⟨.ref p, rfl, .int (0 + i), rfl, p, ms, i, by show [V.ref p, V.int (0 + (i : Int))] = _; rw [Int.zero_add], .inl (.inl h1), by omega, fun bx H5 s5 nb bB => ?_⟩
      refine ⟨bx, rfl, bB, fun H6 e6 => ?_⟩
      have nD : D ≠ bx := ne_of_none h2 nb
      have nP : p ≠ bx := ne_of_none h1 nb
      have nPD : p ≠ D := ne_of_none hp hD
      refine ⟨_, e6 _ _ nD (s5 _ _ h2), by rw [List.length_replicate]; exact small1000 (by omega), ?_, ?_⟩
      · rw [upd_ne nPD]; exact e6 _ _ nP (s5 _ _ h1)
      · rw [upd_same, List.replicate_succ']
    · rintro H3 ⟨h1, h2⟩
      refine ⟨D, List.replicate n true, rfl, .inl (.inl (by rw [h2, List.map_replicate])), blT ?_ (q _)⟩
      rw [List.all_eq_true]
      intro z hz
      rw [List.eq_of_mem_replicate hz]
      rfl
end

set_option maxHeartbeats 4000000 in
theorem all_mk {l : PySem.W.OpenLaw} {w : World} {K : PySem.W.Frag} {h : Heap} {mg : Str → Option Value} {fa : Addr} (X : K.In h) (G : h.Ns mainGlobals mg) (hfa : mg "law" = some (.ref fa))
    {CHall : Addr} (aCHall : PySem.W.nsIn K mainGlobals "Hall" = some (some (.ref CHall)))
    {CBadRow : Addr} (aCBadRow : PySem.W.nsIn K mainGlobals "BadRow" = some (some (.ref CBadRow)))
    {CNoRest : Addr} (aCNoRest : PySem.W.nsIn K mainGlobals "NoRest" = some (some (.ref CNoRest)))
    {CBadHall : Addr} (aCBadHall : PySem.W.nsIn K mainGlobals "BadHall" = some (some (.ref CBadHall)))
    {CNoPerson : Addr} (aCNoPerson : PySem.W.nsIn K mainGlobals "NoPerson" = some (some (.ref CNoPerson)))
    {f0 : Addr} {od0 an0 : Option Addr} {sl0 : Array (Option Value)} {oc0 kV0 dc0 pm0 cd0 ct0 : Value}
    (a0 : PySem.W.findIn K (.ref CBadHall) "__init__" = some (some (.ref f0))) (i0 : PySem.W.isFn K (.ref f0) = true)
    (l0 : K.lookup f0 = some ⟨oc0, od0, .func (PySem.W.fnOf "__init__" "BadHall.__init__" (defArgs s_BadHall_init) (defBody s_BadHall_init) (defScope s_BadHall_init) .none kV0 dc0 pm0 an0 cd0 ct0), sl0⟩) (c0 : PySem.W.codeIn K cd0 "BadHall.__init__" = true) (k0 : PySem.W.keepIn K (.ref f0) = true)
    {f1 : Addr} {od1 an1 : Option Addr} {sl1 : Array (Option Value)} {oc1 kV1 dc1 pm1 cd1 ct1 : Value}
    (a1 : PySem.W.findIn K (.ref CNoPerson) "__init__" = some (some (.ref f1))) (i1 : PySem.W.isFn K (.ref f1) = true)
    (l1 : K.lookup f1 = some ⟨oc1, od1, .func (PySem.W.fnOf "__init__" "NoPerson.__init__" (defArgs s_NoPerson_init) (defBody s_NoPerson_init) (defScope s_NoPerson_init) .none kV1 dc1 pm1 an1 cd1 ct1), sl1⟩) (c1 : PySem.W.codeIn K cd1 "NoPerson.__init__" = true) (k1 : PySem.W.keepIn K (.ref f1) = true)
    {f2 : Addr} {od2 an2 : Option Addr} {sl2 : Array (Option Value)} {oc2 kV2 dc2 pm2 cd2 ct2 : Value}
    (a2 : PySem.W.nsIn K mainGlobals "is_number" = some (some (.ref f2)))
    (l2 : K.lookup f2 = some ⟨oc2, od2, .func (PySem.W.fnOf "is_number" "is_number" (defArgs s_is_number) (defBody s_is_number) (defScope s_is_number) .none kV2 dc2 pm2 an2 cd2 ct2), sl2⟩) (c2 : PySem.W.codeIn K cd2 "is_number" = true) (k2 : PySem.W.keepIn K (.ref f2) = true)
    {f3 : Addr} {od3 an3 : Option Addr} {sl3 : Array (Option Value)} {oc3 kV3 dc3 pm3 cd3 ct3 : Value}
    (a3 : PySem.W.nsIn K mainGlobals "is_person" = some (some (.ref f3)))
    (l3 : K.lookup f3 = some ⟨oc3, od3, .func (PySem.W.fnOf "is_person" "is_person" (defArgs s_is_person) (defBody s_is_person) (defScope s_is_person) .none kV3 dc3 pm3 an3 cd3 ct3), sl3⟩) (c3 : PySem.W.codeIn K cd3 "is_person" = true) (k3 : PySem.W.keepIn K (.ref f3) = true)
    {f4 : Addr} {od4 an4 : Option Addr} {sl4 : Array (Option Value)} {oc4 kV4 dc4 pm4 cd4 ct4 : Value}
    (a4 : PySem.W.nsIn K mainGlobals "are_persons" = some (some (.ref f4)))
    (l4 : K.lookup f4 = some ⟨oc4, od4, .func (PySem.W.fnOf "are_persons" "are_persons" (defArgs s_are_persons) (defBody s_are_persons) (defScope s_are_persons) .none kV4 dc4 pm4 an4 cd4 ct4), sl4⟩) (c4 : PySem.W.codeIn K cd4 "are_persons" = true) (k4 : PySem.W.keepIn K (.ref f4) = true)
    {f5 : Addr} {od5 an5 : Option Addr} {sl5 : Array (Option Value)} {oc5 kV5 dc5 pm5 cd5 ct5 : Value}
    (a5 : PySem.W.nsIn K mainGlobals "rises" = some (some (.ref f5)))
    (l5 : K.lookup f5 = some ⟨oc5, od5, .func (PySem.W.fnOf "rises" "rises" (defArgs s_rises) (defBody s_rises) (defScope s_rises) .none kV5 dc5 pm5 an5 cd5 ct5), sl5⟩) (c5 : PySem.W.codeIn K cd5 "rises" = true) (k5 : PySem.W.keepIn K (.ref f5) = true)
    {f6 : Addr} {od6 an6 : Option Addr} {sl6 : Array (Option Value)} {oc6 kV6 dc6 pm6 cd6 ct6 : Value}
    (a6 : PySem.W.nsIn K mainGlobals "is_rule" = some (some (.ref f6)))
    (l6 : K.lookup f6 = some ⟨oc6, od6, .func (PySem.W.fnOf "is_rule" "is_rule" (defArgs s_is_rule) (defBody s_is_rule) (defScope s_is_rule) .none kV6 dc6 pm6 an6 cd6 ct6), sl6⟩) (c6 : PySem.W.codeIn K cd6 "is_rule" = true) (k6 : PySem.W.keepIn K (.ref f6) = true)
    {f7 : Addr} {od7 an7 : Option Addr} {sl7 : Array (Option Value)} {oc7 kV7 dc7 pm7 cd7 ct7 : Value}
    (a7 : PySem.W.nsIn K mainGlobals "is_part" = some (some (.ref f7)))
    (l7 : K.lookup f7 = some ⟨oc7, od7, .func (PySem.W.fnOf "is_part" "is_part" (defArgs s_is_part) (defBody s_is_part) (defScope s_is_part) .none kV7 dc7 pm7 an7 cd7 ct7), sl7⟩) (c7 : PySem.W.codeIn K cd7 "is_part" = true) (k7 : PySem.W.keepIn K (.ref f7) = true)
    {f8 : Addr} {od8 an8 : Option Addr} {sl8 : Array (Option Value)} {oc8 kV8 dc8 pm8 cd8 ct8 : Value}
    (a8 : PySem.W.nsIn K mainGlobals "are_ties" = some (some (.ref f8)))
    (l8 : K.lookup f8 = some ⟨oc8, od8, .func (PySem.W.fnOf "are_ties" "are_ties" (defArgs s_are_ties) (defBody s_are_ties) (defScope s_are_ties) .none kV8 dc8 pm8 an8 cd8 ct8), sl8⟩) (c8 : PySem.W.codeIn K cd8 "are_ties" = true) (k8 : PySem.W.keepIn K (.ref f8) = true)
    {f9 : Addr} {od9 an9 : Option Addr} {sl9 : Array (Option Value)} {oc9 kV9 dc9 pm9 cd9 ct9 : Value}
    (a9 : PySem.W.nsIn K mainGlobals "is_tie" = some (some (.ref f9)))
    (l9 : K.lookup f9 = some ⟨oc9, od9, .func (PySem.W.fnOf "is_tie" "is_tie" (defArgs s_is_tie) (defBody s_is_tie) (defScope s_is_tie) .none kV9 dc9 pm9 an9 cd9 ct9), sl9⟩) (c9 : PySem.W.codeIn K cd9 "is_tie" = true) (k9 : PySem.W.keepIn K (.ref f9) = true)
    {f10 : Addr} {od10 an10 : Option Addr} {sl10 : Array (Option Value)} {oc10 kV10 dc10 pm10 cd10 ct10 : Value}
    (a10 : PySem.W.nsIn K mainGlobals "seen_by" = some (some (.ref f10)))
    (l10 : K.lookup f10 = some ⟨oc10, od10, .func (PySem.W.fnOf "seen_by" "seen_by" (defArgs s_seen_by) (defBody s_seen_by) (defScope s_seen_by) .none kV10 dc10 pm10 an10 cd10 ct10), sl10⟩) (c10 : PySem.W.codeIn K cd10 "seen_by" = true) (k10 : PySem.W.keepIn K (.ref f10) = true)
    {f11 : Addr} {od11 an11 : Option Addr} {sl11 : Array (Option Value)} {oc11 kV11 dc11 pm11 cd11 ct11 : Value}
    (a11 : PySem.W.findIn K (.ref CHall) "__init__" = some (some (.ref f11))) (i11 : PySem.W.isFn K (.ref f11) = true)
    (l11 : K.lookup f11 = some ⟨oc11, od11, .func (PySem.W.fnOf "__init__" "Hall.__init__" (defArgs s_Hall_init) (defBody s_Hall_init) (defScope s_Hall_init) .none kV11 dc11 pm11 an11 cd11 ct11), sl11⟩) (c11 : PySem.W.codeIn K cd11 "Hall.__init__" = true) (k11 : PySem.W.keepIn K (.ref f11) = true)
    {f12 : Addr} {od12 an12 : Option Addr} {sl12 : Array (Option Value)} {oc12 kV12 dc12 pm12 cd12 ct12 : Value}
    (a12 : PySem.W.findIn K (.ref CHall) "must_have" = some (some (.ref f12))) (i12 : PySem.W.isFn K (.ref f12) = true)
    (l12 : K.lookup f12 = some ⟨oc12, od12, .func (PySem.W.fnOf "must_have" "Hall.must_have" (defArgs s_Hall_must_have) (defBody s_Hall_must_have) (defScope s_Hall_must_have) .none kV12 dc12 pm12 an12 cd12 ct12), sl12⟩) (c12 : PySem.W.codeIn K cd12 "Hall.must_have" = true) (k12 : PySem.W.keepIn K (.ref f12) = true)
    {f13 : Addr} {od13 an13 : Option Addr} {sl13 : Array (Option Value)} {oc13 kV13 dc13 pm13 cd13 ct13 : Value}
    (a13 : PySem.W.findIn K (.ref CHall) "rules" = some (some (.ref f13))) (i13 : PySem.W.isFn K (.ref f13) = true)
    (l13 : K.lookup f13 = some ⟨oc13, od13, .func (PySem.W.fnOf "rules" "Hall.rules" (defArgs s_Hall_rules) (defBody s_Hall_rules) (defScope s_Hall_rules) .none kV13 dc13 pm13 an13 cd13 ct13), sl13⟩) (c13 : PySem.W.codeIn K cd13 "Hall.rules" = true) (k13 : PySem.W.keepIn K (.ref f13) = true)
    {f14 : Addr} {od14 an14 : Option Addr} {sl14 : Array (Option Value)} {oc14 kV14 dc14 pm14 cd14 ct14 : Value}
    (a14 : PySem.W.findIn K (.ref CHall) "rule" = some (some (.ref f14))) (i14 : PySem.W.isFn K (.ref f14) = true)
    (l14 : K.lookup f14 = some ⟨oc14, od14, .func (PySem.W.fnOf "rule" "Hall.rule" (defArgs s_Hall_rule) (defBody s_Hall_rule) (defScope s_Hall_rule) .none kV14 dc14 pm14 an14 cd14 ct14), sl14⟩) (c14 : PySem.W.codeIn K cd14 "Hall.rule" = true) (k14 : PySem.W.keepIn K (.ref f14) = true)
    {f15 : Addr} {od15 an15 : Option Addr} {sl15 : Array (Option Value)} {oc15 kV15 dc15 pm15 cd15 ct15 : Value}
    (a15 : PySem.W.findIn K (.ref CHall) "sees" = some (some (.ref f15))) (i15 : PySem.W.isFn K (.ref f15) = true)
    (l15 : K.lookup f15 = some ⟨oc15, od15, .func (PySem.W.fnOf "sees" "Hall.sees" (defArgs s_Hall_sees) (defBody s_Hall_sees) (defScope s_Hall_sees) .none kV15 dc15 pm15 an15 cd15 ct15), sl15⟩) (c15 : PySem.W.codeIn K cd15 "Hall.sees" = true) (k15 : PySem.W.keepIn K (.ref f15) = true)
    {f16 : Addr} {od16 an16 : Option Addr} {sl16 : Array (Option Value)} {oc16 kV16 dc16 pm16 cd16 ct16 : Value}
    (a16 : PySem.W.findIn K (.ref CHall) "seers" = some (some (.ref f16))) (i16 : PySem.W.isFn K (.ref f16) = true)
    (l16 : K.lookup f16 = some ⟨oc16, od16, .func (PySem.W.fnOf "seers" "Hall.seers" (defArgs s_Hall_seers) (defBody s_Hall_seers) (defScope s_Hall_seers) .none kV16 dc16 pm16 an16 cd16 ct16), sl16⟩) (c16 : PySem.W.codeIn K cd16 "Hall.seers" = true) (k16 : PySem.W.keepIn K (.ref f16) = true)
    {f17 : Addr} {od17 an17 : Option Addr} {sl17 : Array (Option Value)} {oc17 kV17 dc17 pm17 cd17 ct17 : Value}
    (a17 : PySem.W.findIn K (.ref CHall) "__eq__" = some (some (.ref f17))) (i17 : PySem.W.isFn K (.ref f17) = true)
    (l17 : K.lookup f17 = some ⟨oc17, od17, .func (PySem.W.fnOf "__eq__" "Hall.__eq__" (defArgs s_Hall_eq) (defBody s_Hall_eq) (defScope s_Hall_eq) .none kV17 dc17 pm17 an17 cd17 ct17), sl17⟩) (c17 : PySem.W.codeIn K cd17 "Hall.__eq__" = true) (k17 : PySem.W.keepIn K (.ref f17) = true)
    {f18 : Addr} {od18 an18 : Option Addr} {sl18 : Array (Option Value)} {oc18 kV18 dc18 pm18 cd18 ct18 : Value}
    (a18 : PySem.W.findIn K (.ref CHall) "__len__" = some (some (.ref f18))) (i18 : PySem.W.isFn K (.ref f18) = true)
    (l18 : K.lookup f18 = some ⟨oc18, od18, .func (PySem.W.fnOf "__len__" "Hall.__len__" (defArgs s_Hall_len) (defBody s_Hall_len) (defScope s_Hall_len) .none kV18 dc18 pm18 an18 cd18 ct18), sl18⟩) (c18 : PySem.W.codeIn K cd18 "Hall.__len__" = true) (k18 : PySem.W.keepIn K (.ref f18) = true)
    {f19 : Addr} {od19 an19 : Option Addr} {sl19 : Array (Option Value)} {oc19 kV19 dc19 pm19 cd19 ct19 : Value}
    (a19 : PySem.W.findIn K (.ref CHall) "__repr__" = some (some (.ref f19))) (i19 : PySem.W.isFn K (.ref f19) = true)
    (l19 : K.lookup f19 = some ⟨oc19, od19, .func (PySem.W.fnOf "__repr__" "Hall.__repr__" (defArgs s_Hall_repr) (defBody s_Hall_repr) (defScope s_Hall_repr) .none kV19 dc19 pm19 an19 cd19 ct19), sl19⟩) (c19 : PySem.W.codeIn K cd19 "Hall.__repr__" = true) (k19 : PySem.W.keepIn K (.ref f19) = true)
    {f20 : Addr} {od20 an20 : Option Addr} {sl20 : Array (Option Value)} {oc20 kV20 dc20 pm20 cd20 ct20 : Value}
    (a20 : PySem.W.nsIn K mainGlobals "_law_dip" = some (some (.ref f20)))
    (l20 : K.lookup f20 = some ⟨oc20, od20, .func (PySem.W.fnOf "_law_dip" "_law_dip" (defArgs s_dip) (defBody s_dip) (defScope s_dip) .none kV20 dc20 pm20 an20 cd20 ct20), sl20⟩) (c20 : PySem.W.codeIn K cd20 "_law_dip" = true) (k20 : PySem.W.keepIn K (.ref f20) = true)
    {f21 : Addr} {od21 an21 : Option Addr} {sl21 : Array (Option Value)} {oc21 kV21 dc21 pm21 cd21 ct21 : Value}
    (a21 : PySem.W.nsIn K mainGlobals "_law_take" = some (some (.ref f21)))
    (l21 : K.lookup f21 = some ⟨oc21, od21, .func (PySem.W.fnOf "_law_take" "_law_take" (defArgs s_take) (defBody s_take) (defScope s_take) .none kV21 dc21 pm21 an21 cd21 ct21), sl21⟩) (c21 : PySem.W.codeIn K cd21 "_law_take" = true) (k21 : PySem.W.keepIn K (.ref f21) = true)
    {f22 : Addr} {od22 an22 : Option Addr} {sl22 : Array (Option Value)} {oc22 kV22 dc22 pm22 cd22 ct22 : Value}
    (a22 : PySem.W.nsIn K mainGlobals "_law_folded" = some (some (.ref f22)))
    (l22 : K.lookup f22 = some ⟨oc22, od22, .func (PySem.W.fnOf "_law_folded" "_law_folded" (defArgs s_folded) (defBody s_folded) (defScope s_folded) .none kV22 dc22 pm22 an22 cd22 ct22), sl22⟩) (c22 : PySem.W.codeIn K cd22 "_law_folded" = true) (k22 : PySem.W.keepIn K (.ref f22) = true)
    {f23 : Addr} {od23 an23 : Option Addr} {sl23 : Array (Option Value)} {oc23 kV23 dc23 pm23 cd23 ct23 : Value}
    (a23 : PySem.W.nsIn K mainGlobals "_law_one_of" = some (some (.ref f23)))
    (l23 : K.lookup f23 = some ⟨oc23, od23, .func (PySem.W.fnOf "_law_one_of" "_law_one_of" (defArgs s_one_of) (defBody s_one_of) (defScope s_one_of) .none kV23 dc23 pm23 an23 cd23 ct23), sl23⟩) (c23 : PySem.W.codeIn K cd23 "_law_one_of" = true) (k23 : PySem.W.keepIn K (.ref f23) = true)
    {f24 : Addr} {od24 an24 : Option Addr} {sl24 : Array (Option Value)} {oc24 kV24 dc24 pm24 cd24 ct24 : Value}
    (a24 : PySem.W.nsIn K mainGlobals "_law_strewn" = some (some (.ref f24)))
    (l24 : K.lookup f24 = some ⟨oc24, od24, .func (PySem.W.fnOf "_law_strewn" "_law_strewn" (defArgs s_strewn) (defBody s_strewn) (defScope s_strewn) .none kV24 dc24 pm24 an24 cd24 ct24), sl24⟩) (c24 : PySem.W.codeIn K cd24 "_law_strewn" = true) (k24 : PySem.W.keepIn K (.ref f24) = true)
    {f25 : Addr} {od25 an25 : Option Addr} {sl25 : Array (Option Value)} {oc25 kV25 dc25 pm25 cd25 ct25 : Value}
    (a25 : PySem.W.nsIn K mainGlobals "_law_same" = some (some (.ref f25)))
    (l25 : K.lookup f25 = some ⟨oc25, od25, .func (PySem.W.fnOf "_law_same" "_law_same" (defArgs s_same) (defBody s_same) (defScope s_same) .none kV25 dc25 pm25 an25 cd25 ct25), sl25⟩) (c25 : PySem.W.codeIn K cd25 "_law_same" = true) (k25 : PySem.W.keepIn K (.ref f25) = true)
    {f26 : Addr} {od26 an26 : Option Addr} {sl26 : Array (Option Value)} {oc26 kV26 dc26 pm26 cd26 ct26 : Value}
    (a26 : PySem.W.nsIn K mainGlobals "_law_some" = some (some (.ref f26)))
    (l26 : K.lookup f26 = some ⟨oc26, od26, .func (PySem.W.fnOf "_law_some" "_law_some" (defArgs s_some) (defBody s_some) (defScope s_some) .none kV26 dc26 pm26 an26 cd26 ct26), sl26⟩) (c26 : PySem.W.codeIn K cd26 "_law_some" = true) (k26 : PySem.W.keepIn K (.ref f26) = true)
    {f27 : Addr} {od27 an27 : Option Addr} {sl27 : Array (Option Value)} {oc27 kV27 dc27 pm27 cd27 ct27 : Value}
    (a27 : PySem.W.nsIn K mainGlobals "_law_sum_rule" = some (some (.ref f27)))
    (l27 : K.lookup f27 = some ⟨oc27, od27, .func (PySem.W.fnOf "_law_sum_rule" "_law_sum_rule" (defArgs s_sum_rule) (defBody s_sum_rule) (defScope s_sum_rule) .none kV27 dc27 pm27 an27 cd27 ct27), sl27⟩) (c27 : PySem.W.codeIn K cd27 "_law_sum_rule" = true) (k27 : PySem.W.keepIn K (.ref f27) = true)
    {f28 : Addr} {od28 an28 : Option Addr} {sl28 : Array (Option Value)} {oc28 kV28 dc28 pm28 cd28 ct28 : Value}
    (a28 : PySem.W.nsIn K mainGlobals "_law_rule" = some (some (.ref f28)))
    (l28 : K.lookup f28 = some ⟨oc28, od28, .func (PySem.W.fnOf "_law_rule" "_law_rule" (defArgs s_rule) (defBody s_rule) (defScope s_rule) .none kV28 dc28 pm28 an28 cd28 ct28), sl28⟩) (c28 : PySem.W.codeIn K cd28 "_law_rule" = true) (k28 : PySem.W.keepIn K (.ref f28) = true)
    {f29 : Addr} {od29 an29 : Option Addr} {sl29 : Array (Option Value)} {oc29 kV29 dc29 pm29 cd29 ct29 : Value}
    (a29 : PySem.W.nsIn K mainGlobals "_law_hall" = some (some (.ref f29)))
    (l29 : K.lookup f29 = some ⟨oc29, od29, .func (PySem.W.fnOf "_law_hall" "_law_hall" (defArgs s_hall) (defBody s_hall) (defScope s_hall) .none kV29 dc29 pm29 an29 cd29 ct29), sl29⟩) (c29 : PySem.W.codeIn K cd29 "_law_hall" = true) (k29 : PySem.W.keepIn K (.ref f29) = true)
    {f30 : Addr} {od30 an30 : Option Addr} {sl30 : Array (Option Value)} {oc30 kV30 dc30 pm30 cd30 ct30 : Value}
    (a30 : PySem.W.nsIn K mainGlobals "_law_flat" = some (some (.ref f30)))
    (l30 : K.lookup f30 = some ⟨oc30, od30, .func (PySem.W.fnOf "_law_flat" "_law_flat" (defArgs s_flat) (defBody s_flat) (defScope s_flat) .none kV30 dc30 pm30 an30 cd30 ct30), sl30⟩) (c30 : PySem.W.codeIn K cd30 "_law_flat" = true) (k30 : PySem.W.keepIn K (.ref f30) = true)
    {f31 : Addr} {od31 an31 : Option Addr} {sl31 : Array (Option Value)} {oc31 kV31 dc31 pm31 cd31 ct31 : Value}
    (a31 : PySem.W.nsIn K mainGlobals "_law_seen" = some (some (.ref f31)))
    (l31 : K.lookup f31 = some ⟨oc31, od31, .func (PySem.W.fnOf "_law_seen" "_law_seen" (defArgs s_seen) (defBody s_seen) (defScope s_seen) .none kV31 dc31 pm31 an31 cd31 ct31), sl31⟩) (c31 : PySem.W.codeIn K cd31 "_law_seen" = true) (k31 : PySem.W.keepIn K (.ref f31) = true)
    {f32 : Addr} {od32 an32 : Option Addr} {sl32 : Array (Option Value)} {oc32 kV32 dc32 pm32 cd32 ct32 : Value}
    (a32 : PySem.W.nsIn K mainGlobals "_law_no_person" = some (some (.ref f32)))
    (l32 : K.lookup f32 = some ⟨oc32, od32, .func (PySem.W.fnOf "_law_no_person" "_law_no_person" (defArgs s_no_person) (defBody s_no_person) (defScope s_no_person) .none kV32 dc32 pm32 an32 cd32 ct32), sl32⟩) (c32 : PySem.W.codeIn K cd32 "_law_no_person" = true) (k32 : PySem.W.keepIn K (.ref f32) = true)
    {f33 : Addr} {od33 an33 : Option Addr} {sl33 : Array (Option Value)} {oc33 kV33 dc33 pm33 cd33 ct33 : Value}
    (a33 : PySem.W.nsIn K mainGlobals "_law_bad" = some (some (.ref f33)))
    (l33 : K.lookup f33 = some ⟨oc33, od33, .func (PySem.W.fnOf "_law_bad" "_law_bad" (defArgs s_bad) (defBody s_bad) (defScope s_bad) .none kV33 dc33 pm33 an33 cd33 ct33), sl33⟩) (c33 : PySem.W.codeIn K cd33 "_law_bad" = true) (k33 : PySem.W.keepIn K (.ref f33) = true)
    {f34 : Addr} {od34 an34 : Option Addr} {sl34 : Array (Option Value)} {oc34 kV34 dc34 pm34 cd34 ct34 : Value}
    (a34 : PySem.W.nsIn K mainGlobals "_law_right" = some (some (.ref f34)))
    (l34 : K.lookup f34 = some ⟨oc34, od34, .func (PySem.W.fnOf "_law_right" "_law_right" (defArgs s_right) (defBody s_right) (defScope s_right) .none kV34 dc34 pm34 an34 cd34 ct34), sl34⟩) (c34 : PySem.W.codeIn K cd34 "_law_right" = true) (k34 : PySem.W.keepIn K (.ref f34) = true)
    {f35 : Addr} {od35 an35 : Option Addr} {sl35 : Array (Option Value)} {oc35 kV35 dc35 pm35 cd35 ct35 : Value}
    (a35 : PySem.W.nsIn K mainGlobals "law" = some (some (.ref f35)))
    (l35 : K.lookup f35 = some ⟨oc35, od35, .func (PySem.W.fnOf "law" "law" (defArgs s_law) (defBody s_law) (defScope s_law) .none kV35 dc35 pm35 an35 cd35 ct35), sl35⟩) (c35 : PySem.W.codeIn K cd35 "law" = true) (k35 : PySem.W.keepIn K (.ref f35) = true)
    (pgHall : PySem.W.plainGet K CHall Str.empty = true) (hdHall : PySem.W.hasDictIn K CHall = true) (poHall : PySem.W.plainOver K CHall = true) (saHall : PySem.W.findIn K (.ref CHall) "__setattr__" = some (some (.builtin "object.__setattr__"))) (mkHall : PySem.W.makesIn K CHall = true) (kcHall : PySem.W.keepIn K (.ref CHall) = true)
    (nHall_kept : PySem.W.findIn K (.ref CHall) "kept" = some none)
    (neHall : PySem.W.findIn K (.ref CHall) "__ne__" = some (some (.builtin "object.__ne__"))) (j1Hall : PySem.W.findIn K (.ref CHall) "__class__" = some (some (.builtin "object.__class__"))) (j2Hall : PySem.W.specialIn K (.builtin "object.__class__") "__get__" = some (some (.builtin "getset_descriptor.__get__"))) (j3Hall : PySem.W.takesIn K (.builtin "object.__class__") = some true) (j4Hall : PySem.W.mroIn K CHall (.type "object") = some true)
    (tyHall : PySem.W.typeIn K (.ref CHall) = some (.type "type"))
    (ebBadRow : PySem.W.subIn K (.ref CBadRow) (.type "BaseException") = some true) (hdBadRow : PySem.W.hasDictIn K CBadRow = true) (tyBadRow : PySem.W.typeIn K (.ref CBadRow) = some (.type "type"))
    (ebNoRest : PySem.W.subIn K (.ref CNoRest) (.type "BaseException") = some true) (hdNoRest : PySem.W.hasDictIn K CNoRest = true) (tyNoRest : PySem.W.typeIn K (.ref CNoRest) = some (.type "type"))
    (ebBadHall : PySem.W.subIn K (.ref CBadHall) (.type "BaseException") = some true) (hdBadHall : PySem.W.hasDictIn K CBadHall = true) (tyBadHall : PySem.W.typeIn K (.ref CBadHall) = some (.type "type"))
    {nmBadHall qqBadHall : Str} {NBadHall : Addr} {bsBadHall : List Value} {snBadHall : List Str} {sbBadHall : List Value} {abBadHall : Bool} {coBadHall : Option Bool} {ddBadHall : Option Addr} {m0BadHall m1BadHall m2BadHall m3BadHall m5BadHall : Option Value}
    (xLBadHall : K.lookup CBadHall = some (excClassObj nmBadHall qqBadHall CBadHall NBadHall bsBadHall [.type "ValueError", .type "Exception", .type "BaseException", .type "object"] true snBadHall sbBadHall abBadHall coBadHall ddBadHall m0BadHall m1BadHall m2BadHall m3BadHall m5BadHall "ValueError.__new__"))
    (saBadHall : PySem.W.findIn K (.ref CBadHall) "__setattr__" = some (some (.builtin "object.__setattr__"))) (kcBadHall : PySem.W.keepIn K (.ref CBadHall) = true) (tiBadHall : PySem.W.typeIn K (.ref f0) = some (.type "function"))
    (gaBadHall : PySem.W.findIn K (.ref CBadHall) "__getattribute__" = some (some (.builtin "BaseException.__getattribute__"))) (ggBadHall : PySem.W.findIn K (.ref CBadHall) "__getattr__" = some none)
    (j1BadHall : PySem.W.findIn K (.ref CBadHall) "__class__" = some (some (.builtin "object.__class__"))) (j2BadHall : PySem.W.specialIn K (.builtin "object.__class__") "__get__" = some (some (.builtin "getset_descriptor.__get__"))) (j3BadHall : PySem.W.takesIn K (.builtin "object.__class__") = some true) (j4BadHall : PySem.W.mroIn K CBadHall (.type "object") = some true)
    (nBadHall_person : PySem.W.findIn K (.ref CBadHall) "person" = some none)
    (sbBadHall_NoPerson : PySem.W.subIn K (.ref CBadHall) (.ref CNoPerson) = some false)
    (sbBadHall_NoRest : PySem.W.subIn K (.ref CBadHall) (.ref CNoRest) = some false)
    (sbBadHall_BadHall : PySem.W.subIn K (.ref CBadHall) (.ref CBadHall) = some true)
    (sbBadHall_BadRow : PySem.W.subIn K (.ref CBadHall) (.ref CBadRow) = some false)
    (suBadHall_IndexError : PySem.W.subIn K (.ref CBadHall) (.type "IndexError") = some false)
    (suBadHall_ValueError : PySem.W.subIn K (.ref CBadHall) (.type "ValueError") = some true)
    (ebNoPerson : PySem.W.subIn K (.ref CNoPerson) (.type "BaseException") = some true) (hdNoPerson : PySem.W.hasDictIn K CNoPerson = true) (tyNoPerson : PySem.W.typeIn K (.ref CNoPerson) = some (.type "type"))
    {nmNoPerson qqNoPerson : Str} {NNoPerson : Addr} {bsNoPerson : List Value} {snNoPerson : List Str} {sbNoPerson : List Value} {abNoPerson : Bool} {coNoPerson : Option Bool} {ddNoPerson : Option Addr} {m0NoPerson m1NoPerson m2NoPerson m3NoPerson m5NoPerson : Option Value}
    (xLNoPerson : K.lookup CNoPerson = some (excClassObj nmNoPerson qqNoPerson CNoPerson NNoPerson bsNoPerson [.type "IndexError", .type "LookupError", .type "Exception", .type "BaseException", .type "object"] true snNoPerson sbNoPerson abNoPerson coNoPerson ddNoPerson m0NoPerson m1NoPerson m2NoPerson m3NoPerson m5NoPerson "IndexError.__new__"))
    (saNoPerson : PySem.W.findIn K (.ref CNoPerson) "__setattr__" = some (some (.builtin "object.__setattr__"))) (kcNoPerson : PySem.W.keepIn K (.ref CNoPerson) = true) (tiNoPerson : PySem.W.typeIn K (.ref f1) = some (.type "function"))
    (gaNoPerson : PySem.W.findIn K (.ref CNoPerson) "__getattribute__" = some (some (.builtin "BaseException.__getattribute__"))) (ggNoPerson : PySem.W.findIn K (.ref CNoPerson) "__getattr__" = some none)
    (j1NoPerson : PySem.W.findIn K (.ref CNoPerson) "__class__" = some (some (.builtin "object.__class__"))) (j2NoPerson : PySem.W.specialIn K (.builtin "object.__class__") "__get__" = some (some (.builtin "getset_descriptor.__get__"))) (j3NoPerson : PySem.W.takesIn K (.builtin "object.__class__") = some true) (j4NoPerson : PySem.W.mroIn K CNoPerson (.type "object") = some true)
    (nNoPerson_person : PySem.W.findIn K (.ref CNoPerson) "person" = some none)
    (sbNoPerson_NoPerson : PySem.W.subIn K (.ref CNoPerson) (.ref CNoPerson) = some true)
    (sbNoPerson_NoRest : PySem.W.subIn K (.ref CNoPerson) (.ref CNoRest) = some false)
    (sbNoPerson_BadHall : PySem.W.subIn K (.ref CNoPerson) (.ref CBadHall) = some false)
    (sbNoPerson_BadRow : PySem.W.subIn K (.ref CNoPerson) (.ref CBadRow) = some false)
    (suNoPerson_IndexError : PySem.W.subIn K (.ref CNoPerson) (.type "IndexError") = some true)
    (suNoPerson_ValueError : PySem.W.subIn K (.ref CNoPerson) (.type "ValueError") = some false)
    (viIndexError : PySem.W.findCls K (.type "IndexError") (.type "type") "__init__" = some (.val (.builtin "IndexError.__init__")))
    (viValueError : PySem.W.findCls K (.type "ValueError") (.type "type") "__init__" = some (.val (.builtin "ValueError.__init__")))
    {DPARTS : Addr} {esPARTS : Array DictEntry} {enPARTS : Nat} (aDPARTS : PySem.W.nsIn K mainGlobals "PARTS" = some (some (.ref DPARTS))) (lDPARTS : K.lookup DPARTS = some ⟨.type "dict", none, .dict esPARTS enPARTS, #[]⟩) (kDPARTS : PySem.W.KeysLit w.params esPARTS.toList) (yDPARTS : (DPARTS == sysModules) = false)
    (dnPARTS : PySem.W.nsIn K DPARTS "" = some none)
    {tPARTS_held : Addr} {oPARTS_held : Option Addr} {itPARTS_held : Array Value} {inPARTS_held : Nat} {tsPARTS_held : Array (Option Value)} (ePARTS_held : PySem.W.nsIn K DPARTS "held" = some (some (.ref tPARTS_held))) (ltPARTS_held : K.lookup tPARTS_held = some ⟨.type "tuple", oPARTS_held, .seq itPARTS_held inPARTS_held, tsPARTS_held⟩) (ztPARTS_held : itPARTS_held.size ≤ sizeLine) (vtPARTS_held : Vals [V.str "number"] itPARTS_held.toList)
    {tPARTS_sum : Addr} {oPARTS_sum : Option Addr} {itPARTS_sum : Array Value} {inPARTS_sum : Nat} {tsPARTS_sum : Array (Option Value)} (ePARTS_sum : PySem.W.nsIn K DPARTS "sum" = some (some (.ref tPARTS_sum))) (ltPARTS_sum : K.lookup tPARTS_sum = some ⟨.type "tuple", oPARTS_sum, .seq itPARTS_sum inPARTS_sum, tsPARTS_sum⟩) (ztPARTS_sum : itPARTS_sum.size ≤ sizeLine) (vtPARTS_sum : Vals [V.str "number", V.str "ties"] itPARTS_sum.toList)
    {tPARTS_cap : Addr} {oPARTS_cap : Option Addr} {itPARTS_cap : Array Value} {inPARTS_cap : Nat} {tsPARTS_cap : Array (Option Value)} (ePARTS_cap : PySem.W.nsIn K DPARTS "cap" = some (some (.ref tPARTS_cap))) (ltPARTS_cap : K.lookup tPARTS_cap = some ⟨.type "tuple", oPARTS_cap, .seq itPARTS_cap inPARTS_cap, tsPARTS_cap⟩) (ztPARTS_cap : itPARTS_cap.size ≤ sizeLine) (vtPARTS_cap : Vals [V.str "number", V.str "ties", V.str "number"] itPARTS_cap.toList)
    {tPARTS_kinds : Addr} {oPARTS_kinds : Option Addr} {itPARTS_kinds : Array Value} {inPARTS_kinds : Nat} {tsPARTS_kinds : Array (Option Value)} (ePARTS_kinds : PySem.W.nsIn K DPARTS "kinds" = some (some (.ref tPARTS_kinds))) (ltPARTS_kinds : K.lookup tPARTS_kinds = some ⟨.type "tuple", oPARTS_kinds, .seq itPARTS_kinds inPARTS_kinds, tsPARTS_kinds⟩) (ztPARTS_kinds : itPARTS_kinds.size ≤ sizeLine) (vtPARTS_kinds : Vals [V.str "number", V.str "seen"] itPARTS_kinds.toList)
    {tPARTS_next : Addr} {oPARTS_next : Option Addr} {itPARTS_next : Array Value} {inPARTS_next : Nat} {tsPARTS_next : Array (Option Value)} (ePARTS_next : PySem.W.nsIn K DPARTS "next" = some (some (.ref tPARTS_next))) (ltPARTS_next : K.lookup tPARTS_next = some ⟨.type "tuple", oPARTS_next, .seq itPARTS_next inPARTS_next, tsPARTS_next⟩) (ztPARTS_next : itPARTS_next.size ≤ sizeLine) (vtPARTS_next : Vals [V.str "seen"] itPARTS_next.toList)
    {tPARTS_free : Addr} {oPARTS_free : Option Addr} {itPARTS_free : Array Value} {inPARTS_free : Nat} {tsPARTS_free : Array (Option Value)} (ePARTS_free : PySem.W.nsIn K DPARTS "free" = some (some (.ref tPARTS_free))) (ltPARTS_free : K.lookup tPARTS_free = some ⟨.type "tuple", oPARTS_free, .seq itPARTS_free inPARTS_free, tsPARTS_free⟩) (ztPARTS_free : itPARTS_free.size ≤ sizeLine) (vtPARTS_free : Vals [V.str "seen"] itPARTS_free.toList)
    (z0 : PySem.W.nsIn K mainGlobals "IndexError" = some none)
    (z1 : PySem.W.nsIn K mainGlobals "ValueError" = some none)
    (z2 : PySem.W.nsIn K mainGlobals "abs" = some none)
    (z3 : PySem.W.nsIn K mainGlobals "all" = some none)
    (z4 : PySem.W.nsIn K mainGlobals "bool" = some none)
    (z5 : PySem.W.nsIn K mainGlobals "enumerate" = some none)
    (z6 : PySem.W.nsIn K mainGlobals "int" = some none)
    (z7 : PySem.W.nsIn K mainGlobals "isinstance" = some none)
    (z8 : PySem.W.nsIn K mainGlobals "len" = some none)
    (z9 : PySem.W.nsIn K mainGlobals "list" = some none)
    (z10 : PySem.W.nsIn K mainGlobals "max" = some none)
    (z11 : PySem.W.nsIn K mainGlobals "range" = some none)
    (z12 : PySem.W.nsIn K mainGlobals "repr" = some none)
    (z13 : PySem.W.nsIn K mainGlobals "sorted" = some none)
    (z14 : PySem.W.nsIn K mainGlobals "str" = some none)
    (z15 : PySem.W.nsIn K mainGlobals "tuple" = some none)
    (z16 : PySem.W.nsIn K mainGlobals "zip" = some none) :
    ∃ fd : FuncData, (∀ (t : Shared) (v : Value), BindsTo t fd ⟨[v], []⟩ [("_law_script", v)]) ∧ ∀ base : Heap, K.In base → base.Ns mainGlobals mg → FnG l.prog w K mg base 12 fa fd ["_law_script"] (spLaw K) := by
  have e := hfa.symm.trans (PySem.W.mg_of X G a35)
  cases e
  refine ⟨PySem.W.fnOf "law" "law" (defArgs s_law) (defBody s_law) (defScope s_law) .none kV35 dc35 pm35 an35 cd35 ct35, fun t v => .of_eq rfl, fun base _ _ => ?_⟩
  exact ok_law (w := w) {
    t_BadHall_init := ⟨_, _, fun_mk (st := s_BadHall_init) l0 c0 k0, (fun_mk (st := s_BadHall_init) l0 c0 k0).binds (ps := p_BadHall_init) fun _ _ _ _ _ _ us hl => match us, hl with | [_, _], _ => rfl⟩,
    t_NoPerson_init := ⟨_, _, fun_mk (st := s_NoPerson_init) l1 c1 k1, (fun_mk (st := s_NoPerson_init) l1 c1 k1).binds (ps := p_NoPerson_init) fun _ _ _ _ _ _ us hl => match us, hl with | [_, _], _ => rfl⟩,
    t_is_number := ⟨_, _, fun_mk (st := s_is_number) l2 c2 k2, (fun_mk (st := s_is_number) l2 c2 k2).binds (ps := p_is_number) fun _ _ _ _ _ _ us hl => match us, hl with | [_], _ => rfl⟩,
    g_is_number := PySem.W.mg_of X G a2,
    t_is_person := ⟨_, _, fun_mk (st := s_is_person) l3 c3 k3, (fun_mk (st := s_is_person) l3 c3 k3).binds (ps := p_is_person) fun _ _ _ _ _ _ us hl => match us, hl with | [_, _], _ => rfl⟩,
    g_is_person := PySem.W.mg_of X G a3,
    t_are_persons := ⟨_, _, fun_mk (st := s_are_persons) l4 c4 k4, (fun_mk (st := s_are_persons) l4 c4 k4).binds (ps := p_are_persons) fun _ _ _ _ _ _ us hl => match us, hl with | [_, _], _ => rfl⟩,
    g_are_persons := PySem.W.mg_of X G a4,
    t_rises := ⟨_, _, fun_mk (st := s_rises) l5 c5 k5, (fun_mk (st := s_rises) l5 c5 k5).binds (ps := p_rises) fun _ _ _ _ _ _ us hl => match us, hl with | [_], _ => rfl⟩,
    g_rises := PySem.W.mg_of X G a5,
    t_is_rule := ⟨_, _, fun_mk (st := s_is_rule) l6 c6 k6, (fun_mk (st := s_is_rule) l6 c6 k6).binds (ps := p_is_rule) fun _ _ _ _ _ _ us hl => match us, hl with | [_, _], _ => rfl⟩,
    g_is_rule := PySem.W.mg_of X G a6,
    t_is_part := ⟨_, _, fun_mk (st := s_is_part) l7 c7 k7, (fun_mk (st := s_is_part) l7 c7 k7).binds (ps := p_is_part) fun _ _ _ _ _ _ us hl => match us, hl with | [_, _, _], _ => rfl⟩,
    g_is_part := PySem.W.mg_of X G a7,
    t_are_ties := ⟨_, _, fun_mk (st := s_are_ties) l8 c8 k8, (fun_mk (st := s_are_ties) l8 c8 k8).binds (ps := p_are_ties) fun _ _ _ _ _ _ us hl => match us, hl with | [_, _], _ => rfl⟩,
    g_are_ties := PySem.W.mg_of X G a8,
    t_is_tie := ⟨_, _, fun_mk (st := s_is_tie) l9 c9 k9, (fun_mk (st := s_is_tie) l9 c9 k9).binds (ps := p_is_tie) fun _ _ _ _ _ _ us hl => match us, hl with | [_, _], _ => rfl⟩,
    g_is_tie := PySem.W.mg_of X G a9,
    t_seen_by := ⟨_, _, fun_mk (st := s_seen_by) l10 c10 k10, (fun_mk (st := s_seen_by) l10 c10 k10).binds (ps := p_seen_by) fun _ _ _ _ _ _ us hl => match us, hl with | [_], _ => rfl⟩,
    g_seen_by := PySem.W.mg_of X G a10,
    t_Hall_init := ⟨_, _, fun_mk (st := s_Hall_init) l11 c11 k11, (fun_mk (st := s_Hall_init) l11 c11 k11).binds (ps := p_Hall_init) fun _ _ _ _ _ _ us hl => match us, hl with | [_, _], _ => rfl⟩,
    kb_Hall_init := ⟨fun s us ws _ h1 h2 => match us, ws, h1, h2 with | [_], [_], _, _ => .of_eq rfl, fun r1 r2 => r1.append r2⟩,
    t_Hall_must_have := ⟨_, _, fun_mk (st := s_Hall_must_have) l12 c12 k12, (fun_mk (st := s_Hall_must_have) l12 c12 k12).binds (ps := p_Hall_must_have) fun _ _ _ _ _ _ us hl => match us, hl with | [_, _], _ => rfl⟩,
    t_Hall_rules := ⟨_, _, fun_mk (st := s_Hall_rules) l13 c13 k13, (fun_mk (st := s_Hall_rules) l13 c13 k13).binds (ps := p_Hall_rules) fun _ _ _ _ _ _ us hl => match us, hl with | [_], _ => rfl⟩,
    t_Hall_rule := ⟨_, _, fun_mk (st := s_Hall_rule) l14 c14 k14, (fun_mk (st := s_Hall_rule) l14 c14 k14).binds (ps := p_Hall_rule) fun _ _ _ _ _ _ us hl => match us, hl with | [_, _], _ => rfl⟩,
    t_Hall_sees := ⟨_, _, fun_mk (st := s_Hall_sees) l15 c15 k15, (fun_mk (st := s_Hall_sees) l15 c15 k15).binds (ps := p_Hall_sees) fun _ _ _ _ _ _ us hl => match us, hl with | [_, _], _ => rfl⟩,
    kb_Hall_sees := ⟨fun s us ws _ h1 h2 => match us, ws, h1, h2 with | [_], [_], _, _ => .of_eq rfl, fun r1 r2 => r1.append r2⟩,
    t_Hall_seers := ⟨_, _, fun_mk (st := s_Hall_seers) l16 c16 k16, (fun_mk (st := s_Hall_seers) l16 c16 k16).binds (ps := p_Hall_seers) fun _ _ _ _ _ _ us hl => match us, hl with | [_, _], _ => rfl⟩,
    t_Hall_eq := ⟨_, _, fun_mk (st := s_Hall_eq) l17 c17 k17, (fun_mk (st := s_Hall_eq) l17 c17 k17).binds (ps := p_Hall_eq) fun _ _ _ _ _ _ us hl => match us, hl with | [_, _], _ => rfl⟩,
    t_Hall_len := ⟨_, _, fun_mk (st := s_Hall_len) l18 c18 k18, (fun_mk (st := s_Hall_len) l18 c18 k18).binds (ps := p_Hall_len) fun _ _ _ _ _ _ us hl => match us, hl with | [_], _ => rfl⟩,
    t_Hall_repr := ⟨_, _, fun_mk (st := s_Hall_repr) l19 c19 k19, (fun_mk (st := s_Hall_repr) l19 c19 k19).binds (ps := p_Hall_repr) fun _ _ _ _ _ _ us hl => match us, hl with | [_], _ => rfl⟩,
    t_dip := ⟨_, _, fun_mk (st := s_dip) l20 c20 k20, (fun_mk (st := s_dip) l20 c20 k20).binds (ps := p_dip) fun _ _ _ _ _ _ us hl => match us, hl with | [_, _], _ => rfl⟩,
    g_dip := PySem.W.mg_of X G a20,
    t_take := ⟨_, _, fun_mk (st := s_take) l21 c21 k21, (fun_mk (st := s_take) l21 c21 k21).binds (ps := p_take) fun _ _ _ _ _ _ us hl => match us, hl with | [_, _], _ => rfl⟩,
    g_take := PySem.W.mg_of X G a21,
    t_folded := ⟨_, _, fun_mk (st := s_folded) l22 c22 k22, (fun_mk (st := s_folded) l22 c22 k22).binds (ps := p_folded) fun _ _ _ _ _ _ us hl => match us, hl with | [_, _], _ => rfl⟩,
    g_folded := PySem.W.mg_of X G a22,
    t_one_of := ⟨_, _, fun_mk (st := s_one_of) l23 c23 k23, (fun_mk (st := s_one_of) l23 c23 k23).binds (ps := p_one_of) fun _ _ _ _ _ _ us hl => match us, hl with | [_, _], _ => rfl⟩,
    g_one_of := PySem.W.mg_of X G a23,
    t_strewn := ⟨_, _, fun_mk (st := s_strewn) l24 c24 k24, (fun_mk (st := s_strewn) l24 c24 k24).binds (ps := p_strewn) fun _ _ _ _ _ _ us hl => match us, hl with | [_, _], _ => rfl⟩,
    g_strewn := PySem.W.mg_of X G a24,
    t_same := ⟨_, _, fun_mk (st := s_same) l25 c25 k25, (fun_mk (st := s_same) l25 c25 k25).binds (ps := p_same) fun _ _ _ _ _ _ us hl => match us, hl with | [_, _], _ => rfl⟩,
    g_same := PySem.W.mg_of X G a25,
    t_some := ⟨_, _, fun_mk (st := s_some) l26 c26 k26, (fun_mk (st := s_some) l26 c26 k26).binds (ps := p_some) fun _ _ _ _ _ _ us hl => match us, hl with | [_, _, _], _ => rfl⟩,
    g_some := PySem.W.mg_of X G a26,
    t_sum_rule := ⟨_, _, fun_mk (st := s_sum_rule) l27 c27 k27, (fun_mk (st := s_sum_rule) l27 c27 k27).binds (ps := p_sum_rule) fun _ _ _ _ _ _ us hl => match us, hl with | [_, _, _], _ => rfl⟩,
    g_sum_rule := PySem.W.mg_of X G a27,
    t_rule := ⟨_, _, fun_mk (st := s_rule) l28 c28 k28, (fun_mk (st := s_rule) l28 c28 k28).binds (ps := p_rule) fun _ _ _ _ _ _ us hl => match us, hl with | [_, _, _, _], _ => rfl⟩,
    g_rule := PySem.W.mg_of X G a28,
    t_hall := ⟨_, _, fun_mk (st := s_hall) l29 c29 k29, (fun_mk (st := s_hall) l29 c29 k29).binds (ps := p_hall) fun _ _ _ _ _ _ us hl => match us, hl with | [_], _ => rfl⟩,
    g_hall := PySem.W.mg_of X G a29,
    t_flat := ⟨_, _, fun_mk (st := s_flat) l30 c30 k30, (fun_mk (st := s_flat) l30 c30 k30).binds (ps := p_flat) fun _ _ _ _ _ _ us hl => match us, hl with | [_, _], _ => rfl⟩,
    g_flat := PySem.W.mg_of X G a30,
    t_seen := ⟨_, _, fun_mk (st := s_seen) l31 c31 k31, (fun_mk (st := s_seen) l31 c31 k31).binds (ps := p_seen) fun _ _ _ _ _ _ us hl => match us, hl with | [_], _ => rfl⟩,
    g_seen := PySem.W.mg_of X G a31,
    t_no_person := ⟨_, _, fun_mk (st := s_no_person) l32 c32 k32, (fun_mk (st := s_no_person) l32 c32 k32).binds (ps := p_no_person) fun _ _ _ _ _ _ us hl => match us, hl with | [_, _, _], _ => rfl⟩,
    g_no_person := PySem.W.mg_of X G a32,
    t_bad := ⟨_, _, fun_mk (st := s_bad) l33 c33 k33, (fun_mk (st := s_bad) l33 c33 k33).binds (ps := p_bad) fun _ _ _ _ _ _ us hl => match us, hl with | [_], _ => rfl⟩,
    g_bad := PySem.W.mg_of X G a33,
    t_right := ⟨_, _, fun_mk (st := s_right) l34 c34 k34, (fun_mk (st := s_right) l34 c34 k34).binds (ps := p_right) fun _ _ _ _ _ _ us hl => match us, hl with | [_], _ => rfl⟩,
    g_right := PySem.W.mg_of X G a34,
    t_law := ⟨_, _, fun_mk (st := s_law) l35 c35 k35, (fun_mk (st := s_law) l35 c35 k35).binds (ps := p_law) fun _ _ _ _ _ _ us hl => match us, hl with | [_], _ => rfl⟩,
    g_law := PySem.W.mg_of X G a35,
    C_Hall := CHall,
    g_Hall := PySem.W.mg_of X G aCHall,
    cl_Hall := ⟨pgHall, hdHall, poHall, saHall⟩,
    mk_Hall := ⟨mkHall, a11, i11, kcHall⟩,
    me_Hall_init := ⟨a11, i11, k11⟩,
    me_Hall_must_have := ⟨a12, i12, k12⟩,
    me_Hall_rules := ⟨a13, i13, k13⟩,
    me_Hall_rule := ⟨a14, i14, k14⟩,
    me_Hall_sees := ⟨a15, i15, k15⟩,
    me_Hall_seers := ⟨a16, i16, k16⟩,
    me_Hall_eq := ⟨a17, i17, k17⟩,
    me_Hall_len := ⟨a18, i18, k18⟩,
    me_Hall_repr := ⟨a19, i19, k19⟩,
    na_Hall_kept := nHall_kept,
    ty_Hall := tyHall,
    ne_Hall := neHall,
    is_Hall := ⟨⟨pgHall, hdHall, poHall, saHall⟩, j1Hall, j2Hall, j3Hall, j4Hall, if_pos (beq_self_eq_true _)⟩,
    C_BadRow := CBadRow,
    g_BadRow := PySem.W.mg_of X G aCBadRow,
    C_NoRest := CNoRest,
    g_NoRest := PySem.W.mg_of X G aCNoRest,
    C_BadHall := CBadHall,
    g_BadHall := PySem.W.mg_of X G aCBadHall,
    ox_BadHall := ⟨⟨nmBadHall, qqBadHall, NBadHall, bsBadHall, _, snBadHall, sbBadHall, abBadHall, coBadHall, ddBadHall, m0BadHall, m1BadHall, m2BadHall, m3BadHall, m5BadHall, xLBadHall, by decide +kernel⟩, saBadHall, ebBadHall, tyBadHall, kcBadHall⟩,
    me_BadHall_init := ⟨a0, i0, k0⟩,
    ti_BadHall := tiBadHall,
    na_BadHall_person := nBadHall_person,
    xf_BadHall := ⟨gaBadHall, ggBadHall, ebBadHall, hdBadHall⟩,
    xc_BadHall := ⟨gaBadHall, ggBadHall, ebBadHall, hdBadHall, j1BadHall, j2BadHall, j3BadHall, j4BadHall⟩,
    em_BadHall_NoPerson := PySem.W.exm_ref ebNoPerson hdNoPerson tyNoPerson sbBadHall_NoPerson,
    em_BadHall_NoRest := PySem.W.exm_ref ebNoRest hdNoRest tyNoRest sbBadHall_NoRest,
    em_BadHall_BadHall := PySem.W.exm_ref ebBadHall hdBadHall tyBadHall sbBadHall_BadHall,
    em_BadHall_BadRow := PySem.W.exm_ref ebBadRow hdBadRow tyBadRow sbBadHall_BadRow,
    ki_BadHall_NoPerson := kit_not hdNoPerson tyNoPerson sbBadHall_NoPerson sbBadHall_BadHall,
    ki_BadHall_IndexError := kit_type (by decide +kernel) suBadHall_IndexError,
    ki_BadHall_BadHall := if_pos (beq_self_eq_true _),
    ki_BadHall_ValueError := kit_type (by decide +kernel) suBadHall_ValueError,
    C_NoPerson := CNoPerson,
    g_NoPerson := PySem.W.mg_of X G aCNoPerson,
    ox_NoPerson := ⟨PySem.F.excBase_IndexError, by decide +kernel, ⟨nmNoPerson, qqNoPerson, NNoPerson, bsNoPerson, _, snNoPerson, sbNoPerson, abNoPerson, coNoPerson, ddNoPerson, m0NoPerson, m1NoPerson, m2NoPerson, m3NoPerson, m5NoPerson, xLNoPerson, fun _ => rfl, LhX.over_one PySem.F.store_IndexError.passes⟩, saNoPerson, ebNoPerson, tyNoPerson, kcNoPerson⟩,
    me_NoPerson_init := ⟨a1, i1, k1⟩,
    ti_NoPerson := tiNoPerson,
    na_NoPerson_person := nNoPerson_person,
    xf_NoPerson := ⟨gaNoPerson, ggNoPerson, ebNoPerson, hdNoPerson⟩,
    xc_NoPerson := ⟨gaNoPerson, ggNoPerson, ebNoPerson, hdNoPerson, j1NoPerson, j2NoPerson, j3NoPerson, j4NoPerson⟩,
    em_NoPerson_NoPerson := PySem.W.exm_ref ebNoPerson hdNoPerson tyNoPerson sbNoPerson_NoPerson,
    em_NoPerson_NoRest := PySem.W.exm_ref ebNoRest hdNoRest tyNoRest sbNoPerson_NoRest,
    em_NoPerson_BadHall := PySem.W.exm_ref ebBadHall hdBadHall tyBadHall sbNoPerson_BadHall,
    em_NoPerson_BadRow := PySem.W.exm_ref ebBadRow hdBadRow tyBadRow sbNoPerson_BadRow,
    ki_NoPerson_NoPerson := if_pos (beq_self_eq_true _),
    ki_NoPerson_IndexError := kit_type (by decide +kernel) suNoPerson_IndexError,
    ki_NoPerson_BadHall := kit_not hdBadHall tyBadHall sbNoPerson_BadHall sbNoPerson_NoPerson,
    ki_NoPerson_ValueError := kit_type (by decide +kernel) suNoPerson_ValueError,
    vi_IndexError := viIndexError,
    vi_ValueError := viValueError,
    D_PARTS := DPARTS,
    g_PARTS := PySem.W.mg_of X G aDPARTS,
    es_PARTS := esPARTS,
    en_PARTS := enPARTS,
    kd_PARTS := ⟨lDPARTS, kDPARTS, yDPARTS⟩,
    dn_PARTS := dnPARTS,
    t_PARTS_held := tPARTS_held,
    dk_PARTS_held := ePARTS_held,
    sq_PARTS_held := fun _ => .inr ⟨_, itPARTS_held, inPARTS_held, ltPARTS_held, rfl, rfl, ztPARTS_held, vtPARTS_held⟩,
    t_PARTS_sum := tPARTS_sum,
    dk_PARTS_sum := ePARTS_sum,
    sq_PARTS_sum := fun _ => .inr ⟨_, itPARTS_sum, inPARTS_sum, ltPARTS_sum, rfl, rfl, ztPARTS_sum, vtPARTS_sum⟩,
    t_PARTS_cap := tPARTS_cap,
    dk_PARTS_cap := ePARTS_cap,
    sq_PARTS_cap := fun _ => .inr ⟨_, itPARTS_cap, inPARTS_cap, ltPARTS_cap, rfl, rfl, ztPARTS_cap, vtPARTS_cap⟩,
    t_PARTS_kinds := tPARTS_kinds,
    dk_PARTS_kinds := ePARTS_kinds,
    sq_PARTS_kinds := fun _ => .inr ⟨_, itPARTS_kinds, inPARTS_kinds, ltPARTS_kinds, rfl, rfl, ztPARTS_kinds, vtPARTS_kinds⟩,
    t_PARTS_next := tPARTS_next,
    dk_PARTS_next := ePARTS_next,
    sq_PARTS_next := fun _ => .inr ⟨_, itPARTS_next, inPARTS_next, ltPARTS_next, rfl, rfl, ztPARTS_next, vtPARTS_next⟩,
    t_PARTS_free := tPARTS_free,
    dk_PARTS_free := ePARTS_free,
    sq_PARTS_free := fun _ => .inr ⟨_, itPARTS_free, inPARTS_free, ltPARTS_free, rfl, rfl, ztPARTS_free, vtPARTS_free⟩,
    m_IndexError := PySem.W.mg_none_of X G z0,
    m_ValueError := PySem.W.mg_none_of X G z1,
    m_abs := PySem.W.mg_none_of X G z2,
    m_all := PySem.W.mg_none_of X G z3,
    m_bool := PySem.W.mg_none_of X G z4,
    m_enumerate := PySem.W.mg_none_of X G z5,
    m_int := PySem.W.mg_none_of X G z6,
    m_isinstance := PySem.W.mg_none_of X G z7,
    m_len := PySem.W.mg_none_of X G z8,
    m_list := PySem.W.mg_none_of X G z9,
    m_max := PySem.W.mg_none_of X G z10,
    m_range := PySem.W.mg_none_of X G z11,
    m_repr := PySem.W.mg_none_of X G z12,
    m_sorted := PySem.W.mg_none_of X G z13,
    m_str := PySem.W.mg_none_of X G z14,
    m_tuple := PySem.W.mg_none_of X G z15,
    m_zip := PySem.W.mg_none_of X G z16 }
end Lh
open PySem PySem.W PyProof.Rows
set_option maxHeartbeats 0 in
theorem PySem.Challenge.cw_lesserhall_k03_halls_as_handed_in_holds : PySem.Challenge.rw_lesserhall_k03_halls_as_handed_in.Holds := by
  w_on; o_law; k_head; (case hw => w_witness2)
  k_fill
  refine Lh.walk_G (l := PySem.Challenge.rw_lesserhall_k03_halls_as_handed_in) (n := 63) (k := 12) (x := "_law_script") (sp := fun w => Lh.spLaw _) rfl (by decide) rfl ⟨rfl, by decide, by decide⟩ (fun w h Y => PySem.W.kIn_of Y) ?F (fun _ _ a ns hl _ hS => ⟨a, ns, rfl, hS, hl, fun _ => rfl⟩)
  case F =>
    intro w mg fa h KX G hmg
    refine' Lh.all_mk KX G hmg ?aCHall ?aCBadRow ?aCNoRest ?aCBadHall ?aCNoPerson ?a0 ?i0 ?l0 ?c0 ?k0 ?a1 ?i1 ?l1 ?c1 ?k1 ?a2 ?l2 ?c2 ?k2 ?a3 ?l3 ?c3 ?k3 ?a4 ?l4 ?c4 ?k4 ?a5 ?l5 ?c5 ?k5 ?a6 ?l6 ?c6 ?k6 ?a7 ?l7 ?c7 ?k7 ?a8 ?l8 ?c8 ?k8 ?a9 ?l9 ?c9 ?k9 ?a10 ?l10 ?c10 ?k10 ?a11 ?i11 ?l11 ?c11 ?k11 ?a12 ?i12 ?l12 ?c12 ?k12 ?a13 ?i13 ?l13 ?c13 ?k13 ?a14 ?i14 ?l14 ?c14 ?k14 ?a15 ?i15 ?l15 ?c15 ?k15 ?a16 ?i16 ?l16 ?c16 ?k16 ?a17 ?i17 ?l17 ?c17 ?k17 ?a18 ?i18 ?l18 ?c18 ?k18 ?a19 ?i19 ?l19 ?c19 ?k19 ?a20 ?l20 ?c20 ?k20 ?a21 ?l21 ?c21 ?k21 ?a22 ?l22 ?c22 ?k22 ?a23 ?l23 ?c23 ?k23 ?a24 ?l24 ?c24 ?k24 ?a25 ?l25 ?c25 ?k25 ?a26 ?l26 ?c26 ?k26 ?a27 ?l27 ?c27 ?k27 ?a28 ?l28 ?c28 ?k28 ?a29 ?l29 ?c29 ?k29 ?a30 ?l30 ?c30 ?k30 ?a31 ?l31 ?c31 ?k31 ?a32 ?l32 ?c32 ?k32 ?a33 ?l33 ?c33 ?k33 ?a34 ?l34 ?c34 ?k34 ?a35 ?l35 ?c35 ?k35 ?pgHall ?hdHall ?poHall ?saHall ?mkHall ?kcHall ?nHall_kept ?neHall ?j1Hall ?j2Hall ?j3Hall ?j4Hall ?tyHall ?ebBadRow ?hdBadRow ?tyBadRow ?ebNoRest ?hdNoRest ?tyNoRest ?ebBadHall ?hdBadHall ?tyBadHall ?xLBadHall ?saBadHall ?kcBadHall ?tiBadHall ?gaBadHall ?ggBadHall ?j1BadHall ?j2BadHall ?j3BadHall ?j4BadHall ?nBadHall_person ?sbBadHall_NoPerson ?sbBadHall_NoRest ?sbBadHall_BadHall ?sbBadHall_BadRow ?suBadHall_IndexError ?suBadHall_ValueError ?ebNoPerson ?hdNoPerson ?tyNoPerson ?xLNoPerson ?saNoPerson ?kcNoPerson ?tiNoPerson ?gaNoPerson ?ggNoPerson ?j1NoPerson ?j2NoPerson ?j3NoPerson ?j4NoPerson ?nNoPerson_person ?sbNoPerson_NoPerson ?sbNoPerson_NoRest ?sbNoPerson_BadHall ?sbNoPerson_BadRow ?suNoPerson_IndexError ?suNoPerson_ValueError ?viIndexError ?viValueError ?aDPARTS ?lDPARTS ?kDPARTS ?yDPARTS ?dnPARTS ?ePARTS_held ?ltPARTS_held ?ztPARTS_held ?vtPARTS_held ?ePARTS_sum ?ltPARTS_sum ?ztPARTS_sum ?vtPARTS_sum ?ePARTS_cap ?ltPARTS_cap ?ztPARTS_cap ?vtPARTS_cap ?ePARTS_kinds ?ltPARTS_kinds ?ztPARTS_kinds ?vtPARTS_kinds ?ePARTS_next ?ltPARTS_next ?ztPARTS_next ?vtPARTS_next ?ePARTS_free ?ltPARTS_free ?ztPARTS_free ?vtPARTS_free ?z0 ?z1 ?z2 ?z3 ?z4 ?z5 ?z6 ?z7 ?z8 ?z9 ?z10 ?z11 ?z12 ?z13 ?z14 ?z15 ?z16
    (case aCHall => k_is); (case aCBadRow => k_is); (case aCNoRest => k_is); (case aCBadHall => k_is); (case aCNoPerson => k_is); (case a0 => k_is); (case i0 => k_is); (case l0 => k_is); (case c0 => k_is); (case k0 => k_is); (case a1 => k_is); (case i1 => k_is); (case l1 => k_is); (case c1 => k_is); (case k1 => k_is); (case a2 => k_is); (case l2 => k_is); (case c2 => k_is); (case k2 => k_is); (case a3 => k_is); (case l3 => k_is); (case c3 => k_is); (case k3 => k_is); (case a4 => k_is); (case l4 => k_is); (case c4 => k_is); (case k4 => k_is); (case a5 => k_is); (case l5 => k_is); (case c5 => k_is); (case k5 => k_is); (case a6 => k_is); (case l6 => k_is); (case c6 => k_is); (case k6 => k_is); (case a7 => k_is); (case l7 => k_is); (case c7 => k_is); (case k7 => k_is); (case a8 => k_is); (case l8 => k_is); (case c8 => k_is); (case k8 => k_is); (case a9 => k_is); (case l9 => k_is); (case c9 => k_is); (case k9 => k_is); (case a10 => k_is); (case l10 => k_is); (case c10 => k_is); (case k10 => k_is); (case a11 => k_is); (case i11 => k_is); (case l11 => k_is); (case c11 => k_is); (case k11 => k_is); (case a12 => k_is); (case i12 => k_is); (case l12 => k_is); (case c12 => k_is); (case k12 => k_is); (case a13 => k_is); (case i13 => k_is); (case l13 => k_is); (case c13 => k_is); (case k13 => k_is); (case a14 => k_is); (case i14 => k_is); (case l14 => k_is); (case c14 => k_is); (case k14 => k_is); (case a15 => k_is); (case i15 => k_is); (case l15 => k_is); (case c15 => k_is); (case k15 => k_is); (case a16 => k_is); (case i16 => k_is); (case l16 => k_is); (case c16 => k_is); (case k16 => k_is); (case a17 => k_is); (case i17 => k_is); (case l17 => k_is); (case c17 => k_is); (case k17 => k_is); (case a18 => k_is); (case i18 => k_is); (case l18 => k_is); (case c18 => k_is); (case k18 => k_is); (case a19 => k_is); (case i19 => k_is); (case l19 => k_is); (case c19 => k_is); (case k19 => k_is); (case a20 => k_is); (case l20 => k_is); (case c20 => k_is); (case k20 => k_is); (case a21 => k_is); (case l21 => k_is); (case c21 => k_is); (case k21 => k_is); (case a22 => k_is); (case l22 => k_is); (case c22 => k_is); (case k22 => k_is); (case a23 => k_is); (case l23 => k_is); (case c23 => k_is); (case k23 => k_is); (case a24 => k_is); (case l24 => k_is); (case c24 => k_is); (case k24 => k_is); (case a25 => k_is); (case l25 => k_is); (case c25 => k_is); (case k25 => k_is); (case a26 => k_is); (case l26 => k_is); (case c26 => k_is); (case k26 => k_is); (case a27 => k_is); (case l27 => k_is); (case c27 => k_is); (case k27 => k_is); (case a28 => k_is); (case l28 => k_is); (case c28 => k_is); (case k28 => k_is); (case a29 => k_is); (case l29 => k_is); (case c29 => k_is); (case k29 => k_is); (case a30 => k_is); (case l30 => k_is); (case c30 => k_is); (case k30 => k_is); (case a31 => k_is); (case l31 => k_is); (case c31 => k_is); (case k31 => k_is); (case a32 => k_is); (case l32 => k_is); (case c32 => k_is); (case k32 => k_is); (case a33 => k_is); (case l33 => k_is); (case c33 => k_is); (case k33 => k_is); (case a34 => k_is); (case l34 => k_is); (case c34 => k_is); (case k34 => k_is); (case a35 => k_is); (case l35 => k_is); (case c35 => k_is); (case k35 => k_is); (case pgHall => k_is); (case hdHall => k_is); (case poHall => k_is); (case saHall => k_is); (case mkHall => k_is); (case kcHall => k_is); (case nHall_kept => k_is); (case neHall => k_is); (case j1Hall => k_is); (case j2Hall => k_is); (case j3Hall => k_is); (case j4Hall => k_is); (case tyHall => k_is); (case ebBadRow => k_is); (case hdBadRow => k_is); (case tyBadRow => k_is); (case ebNoRest => k_is); (case hdNoRest => k_is); (case tyNoRest => k_is); (case ebBadHall => k_is); (case hdBadHall => k_is); (case tyBadHall => k_is); (case xLBadHall => k_is); (case saBadHall => k_is); (case kcBadHall => k_is); (case tiBadHall => k_is); (case gaBadHall => k_is); (case ggBadHall => k_is); (case j1BadHall => k_is); (case j2BadHall => k_is); (case j3BadHall => k_is); (case j4BadHall => k_is); (case nBadHall_person => k_is); (case sbBadHall_NoPerson => first | rfl | k_is); (case sbBadHall_NoRest => first | rfl | k_is); (case sbBadHall_BadHall => first | rfl | k_is); (case sbBadHall_BadRow => first | rfl | k_is); (case suBadHall_IndexError => k_is); (case suBadHall_ValueError => k_is); (case ebNoPerson => k_is); (case hdNoPerson => k_is); (case tyNoPerson => k_is); (case xLNoPerson => k_is); (case saNoPerson => k_is); (case kcNoPerson => k_is); (case tiNoPerson => k_is); (case gaNoPerson => k_is); (case ggNoPerson => k_is); (case j1NoPerson => k_is); (case j2NoPerson => k_is); (case j3NoPerson => k_is); (case j4NoPerson => k_is); (case nNoPerson_person => k_is); (case sbNoPerson_NoPerson => first | rfl | k_is); (case sbNoPerson_NoRest => first | rfl | k_is); (case sbNoPerson_BadHall => first | rfl | k_is); (case sbNoPerson_BadRow => first | rfl | k_is); (case suNoPerson_IndexError => k_is); (case suNoPerson_ValueError => k_is); (case viIndexError => k_is); (case viValueError => k_is); (case aDPARTS => k_is); (case lDPARTS => k_is); (case kDPARTS => exact ⟨⟨_, _, rfl, rfl⟩, ⟨_, _, rfl, rfl⟩, ⟨_, _, rfl, rfl⟩, ⟨_, _, rfl, rfl⟩, ⟨_, _, rfl, rfl⟩, ⟨_, _, rfl, rfl⟩, trivial⟩); (case yDPARTS => decide +kernel); (case dnPARTS => k_is); (case ePARTS_held => k_is); (case ltPARTS_held => k_is); (case ztPARTS_held => decide +kernel); (case vtPARTS_held => exact .cons ⟨_, rfl⟩ (.nil)); (case ePARTS_sum => k_is); (case ltPARTS_sum => k_is); (case ztPARTS_sum => decide +kernel); (case vtPARTS_sum => exact .cons ⟨_, rfl⟩ (.cons ⟨_, rfl⟩ (.nil))); (case ePARTS_cap => k_is); (case ltPARTS_cap => k_is); (case ztPARTS_cap => decide +kernel); (case vtPARTS_cap => exact .cons ⟨_, rfl⟩ (.cons ⟨_, rfl⟩ (.cons ⟨_, rfl⟩ (.nil)))); (case ePARTS_kinds => k_is); (case ltPARTS_kinds => k_is); (case ztPARTS_kinds => decide +kernel); (case vtPARTS_kinds => exact .cons ⟨_, rfl⟩ (.cons ⟨_, rfl⟩ (.nil))); (case ePARTS_next => k_is); (case ltPARTS_next => k_is); (case ztPARTS_next => decide +kernel); (case vtPARTS_next => exact .cons ⟨_, rfl⟩ (.nil)); (case ePARTS_free => k_is); (case ltPARTS_free => k_is); (case ztPARTS_free => decide +kernel); (case vtPARTS_free => exact .cons ⟨_, rfl⟩ (.nil)); (case z0 => k_is); (case z1 => k_is); (case z2 => k_is); (case z3 => k_is); (case z4 => k_is); (case z5 => k_is); (case z6 => k_is); (case z7 => k_is); (case z8 => k_is); (case z9 => k_is); (case z10 => k_is); (case z11 => k_is); (case z12 => k_is); (case z13 => k_is); (case z14 => k_is); (case z15 => k_is); (case z16 => k_is)
