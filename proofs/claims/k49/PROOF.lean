import PyProof.Rows.All
import Wide.All
import OpenK.AllK
import Wide.FinOn
import HandS.ForMost
import HandS.Flow
import HandS.IsInst
import HandS.Zip
import HandS.SortInts
import HandS.Defaults
import HandS.Conv
import HandS.Strs
import HandS.MakeKwOnly
import PyProof.ReprRoads
import HandS.SetFor
import HandS.SortKw
import KE.DataMinMax
import KE.KDictPairs
import PyProof.ReprLen
import HandS.Exc
import HandS.WordsExc
import HandS.ExcOwn
import HandS.ExcInit
import KE.KExcIs
import HandS.ExcIs
import HandS.ExcField
import KE.KTryMore
import KE.KExcInit
import PyProof.ExcBaseAll.IndexError
import PyProof.ExcBaseAll.RuntimeError
import PyProof.ExcBaseAll.OverflowError
import HandS.ExcBuiltin
import HandS.Codes
import HandS.Walk
import HandS.TupAny
import HandS.More
import KE.GoesMore
import PyProof.ReprBulk
import HandS.Star
import HandS.SortRule
import HandS.DictComp
import HandS.WordsDict
import HandS.Style
import PySem.Challenge.RW_lesserhall_k49_held_and_tied
set_option Elab.async false
set_option linter.all false
set_option maxRecDepth 100000

namespace Lh
open PySem PySem.Spec PyProof.Rows L2

/-! ### heaps -/
/-- all that was tracked is as it was, but for the box -/
def Ext (bx : Addr) (H H' : Hp) : Prop := ∀ a o, a ≠ bx → H a = some o → H' a = some o
theorem Ext.refl {bx : Addr} (H : Hp) : Ext bx H H := fun _ _ _ h => h
theorem Ext.trans {bx : Addr} {H H1 H2 : Hp} (a : Ext bx H H1) (b : Ext bx H1 H2) : Ext bx H H2 := fun x o n h => b x o n (a x o n h)
theorem Ext.of {bx : Addr} {H H' : Hp} (a : Same H H') : Ext bx H H' := fun x o _ h => a x o h
theorem Ext.new {bx : Addr} {H H' : Hp} {p : Addr} {o : HO} (e : Ext bx H H') (h : H p = none) : Ext bx H (upd H' p o) := fun x u n hx => by
  rw [upd_ne (ne_of_none hx h)]
  exact e x u n hx
theorem Ext.box {bx : Addr} {H H' : Hp} {o : HO} (e : Ext bx H H') : Ext bx H (upd H' bx o) := fun x u n hx => by
  rw [upd_ne n]
  exact e x u n hx
theorem Ext.free {bx : Addr} {H H' : Hp} (e : Ext bx H H') {l : Addr} (n : l ≠ bx) (h : H' l = Option.none) : H l = Option.none := by
  cases q : H l with
  | none => rfl
  | some o =>
    rw [e l o n q] at h
    cases h
theorem same_upd {H : Hp} {p : Addr} {o : HO} (h : H p = none) : Same H (upd H p o) := fun b x e => by
  rw [upd_ne (ne_of_none e h)]
  exact e
theorem same_mut {H H' : Hp} {p : Addr} {o : HO} (e : Same H H') (h : H p = none) : Same H (upd H' p o) := fun a u ha => by
  rw [upd_ne (ne_of_none ha h)]
  exact e a u ha

/-- the box: three ints, the last a count -/
def Box (bx : Addr) (c : Int) (H : Hp) : Prop := ∃ a b n : Int, H bx = some (.lst [.int a, .int b, .int n]) ∧ 0 ≤ a ∧ 0 ≤ b ∧ b < 2 ^ 62 ∧ 0 ≤ n ∧ n ≤ c
theorem Box.has {bx : Addr} {c : Int} {H : Hp} (h : Box bx c H) : ∃ o, H bx = some o := by
  obtain ⟨a, b, n, h, _⟩ := h
  exact ⟨_, h⟩
theorem Box.ne {bx : Addr} {c : Int} {H : Hp} (h : Box bx c H) {p : Addr} (n : H p = none) : p ≠ bx := by
  obtain ⟨o, h⟩ := h.has
  exact (ne_of_none h n).symm
theorem Box.neT {bx : Addr} {c : Int} {H : Hp} (h : Box bx c H) {p : Addr} {xs : List V} (n : H p = some (.tup xs)) : p ≠ bx := by
  obtain ⟨a, b, n', h, _⟩ := h
  exact ne_of n h (by intro z; cases z)
theorem Box.mono {bx : Addr} {c d : Int} {H : Hp} (h : Box bx c H) (e : c ≤ d) : Box bx d H := by
  obtain ⟨a, b, n, h, h1, h2, h3, h4, h5⟩ := h
  exact ⟨a, b, n, h, h1, h2, h3, h4, by omega⟩
theorem Box.same {bx : Addr} {c : Int} {H H' : Hp} (h : Box bx c H) (e : Same H H') : Box bx c H' := by
  obtain ⟨a, b, n, h, r⟩ := h
  exact ⟨a, b, n, e _ _ h, r⟩
theorem Box.new {bx : Addr} {c : Int} {H : Hp} (h : Box bx c H) {p : Addr} {o : HO} (n : H p = none) : Box bx c (upd H p o) := h.same (same_upd n)
theorem Box.at {bx : Addr} {c : Int} {H : Hp} (h : Box bx c H) {p : Addr} {o : HO} (n : p ≠ bx) : Box bx c (upd H p o) := by
  obtain ⟨a, b, m, h, r⟩ := h
  exact ⟨a, b, m, by rw [upd_ne n.symm]; exact h, r⟩

/-- a tuple, one whose object is known to bear no names among them -/
def TupAt (H : Hp) (a : Addr) (xs : List V) : Prop := H a = some (.tup xs) ∨ ∃ o : Obj, o.dict = none ∧ H a = some (.frz o (.tup xs))
theorem TupAt.sq {K : PySem.W.Frag} {H : Hp} {a : Addr} {xs : List V} (h : TupAt H a xs) : SqT K H a xs := by
  rcases h with h | ⟨o, _, h⟩
  · exact .inl (.inl h)
  · exact .inl (.inr ⟨o, h⟩)
theorem TupAt.ext {bx : Addr} {H H' : Hp} {a : Addr} {xs : List V} (e : Ext bx H H') (n : a ≠ bx) (h : TupAt H a xs) : TupAt H' a xs := by
  rcases h with h | ⟨o, d, h⟩
  · exact .inl (e _ _ n h)
  · exact .inr ⟨o, d, e _ _ n h⟩
theorem TupAt.ty {K : PySem.W.Frag} {H : Hp} {a : Addr} {xs : List V} (h : TupAt H a xs) : TyX K H (.ref a) (.type "tuple") := by
  rcases h with h | ⟨o, d, h⟩
  · exact .base (.tup h)
  · exact .fTuple h
/-! data in the heap, the box not among it -/
mutual
inductive Rp (bx : Addr) (H : Hp) : V → PyData → Prop
  | non : Rp bx H .non .none
  | bl (b : Bool) : Rp bx H (.bl b) (.bool b)
  | int (i : Int) : Rp bx H (.int i) (.int i)
  | str (x : Str) : Rp bx H (.str x) (.str x)
  | lst {a : Addr} {xs : List V} {ds : List PyData} : H a = some (.lst xs) → a ≠ bx → RpAll bx H xs ds → Rp bx H (.ref a) (.list ds)
  | tup {a : Addr} {xs : List V} {ds : List PyData} : TupAt H a xs → a ≠ bx → RpAll bx H xs ds → Rp bx H (.ref a) (.tuple ds)
inductive RpAll (bx : Addr) (H : Hp) : List V → List PyData → Prop
  | nil : RpAll bx H [] []
  | cons {v : V} {vs : List V} {d : PyData} {ds : List PyData} : Rp bx H v d → RpAll bx H vs ds → RpAll bx H (v :: vs) (d :: ds)
end
mutual
theorem Rp.ext {bx : Addr} {H H' : Hp} (e : Ext bx H H') : ∀ {v : V} {d : PyData}, Rp bx H v d → Rp bx H' v d
  | _, _, .non => .non
  | _, _, .bl b => .bl b
  | _, _, .int i => .int i
  | _, _, .str x => .str x
  | _, _, .lst h n r => .lst (e _ _ n h) n (RpAll.ext e r)
  | _, _, .tup h n r => .tup (h.ext e n) n (RpAll.ext e r)
theorem RpAll.ext {bx : Addr} {H H' : Hp} (e : Ext bx H H') : ∀ {vs : List V} {ds : List PyData}, RpAll bx H vs ds → RpAll bx H' vs ds
  | _, _, .nil => .nil
  | _, _, .cons h r => .cons (Rp.ext e h) (RpAll.ext e r)
end
mutual
theorem Rp.dp {bx : Addr} {K : PySem.W.Frag} {H : Hp} : ∀ {v : V} {d : PyData}, Rp bx H v d → Dp K H v d
  | _, _, .non => .non
  | _, _, .bl b => .bl b
  | _, _, .int i => .int i
  | _, _, .str x => .str x
  | _, _, .lst h n r => .lst (.inl (.inl h)) (RpAll.dp r)
  | _, _, .tup h n r => .tup h.sq (RpAll.dp r)
theorem RpAll.dp {bx : Addr} {K : PySem.W.Frag} {H : Hp} : ∀ {vs : List V} {ds : List PyData}, RpAll bx H vs ds → DpAll K H vs ds
  | _, _, .nil => .nil
  | _, _, .cons h r => .cons (Rp.dp h) (RpAll.dp r)
end
theorem RpAll.length {bx : Addr} {H : Hp} : ∀ {vs : List V} {ds : List PyData}, RpAll bx H vs ds → vs.length = ds.length
  | _, _, .nil => rfl
  | _, _, .cons _ r => by rw [List.length_cons, List.length_cons, r.length]
theorem RpAll.get {bx : Addr} {H : Hp} : ∀ {vs : List V} {ds : List PyData} {i : Nat} {d : PyData}, RpAll bx H vs ds → ds[i]? = some d → ∃ v, vs[i]? = some v ∧ Rp bx H v d
  | _, _, _, _, .nil, e => by simp at e
  | _, _, 0, _, .cons r _, e => by simp at e; subst e; exact ⟨_, rfl, r⟩
  | _, _, i + 1, d, .cons _ t, e => by
    obtain ⟨u, h1, h2⟩ := RpAll.get (i := i) (d := d) t (by simpa using e)
    exact ⟨u, by simpa using h1, h2⟩
theorem RpAll.append {bx : Addr} {H : Hp} : ∀ {vs ws : List V} {ds es : List PyData}, RpAll bx H vs ds → RpAll bx H ws es → RpAll bx H (vs ++ ws) (ds ++ es)
  | _, _, _, _, .nil, s => s
  | _, _, _, _, .cons r t, s => .cons r (RpAll.append t s)
theorem RpAll.ints {bx : Addr} {H : Hp} : ∀ (ns : List Int), RpAll bx H (ns.map V.int) (ns.map PyData.int)
  | [] => .nil
  | n :: r => .cons (.int n) (RpAll.ints r)
theorem RpAll.ofInts {bx : Addr} {H : Hp} : ∀ {ns : List Int} {vs : List V}, RpAll bx H vs (ns.map PyData.int) → vs = ns.map V.int
  | [], _, .nil => rfl
  | n :: r, _, .cons (.int _) t => by rw [RpAll.ofInts t]; rfl
end Lh

namespace Lh
open PySem PySem.Spec PyProof.Rows L2

/-! ### defs that want to know that no repr is under way around them -/
structure FnG (P : Program) (w : World) (K : PySem.W.Frag) (mg : Str → Option Value) (base : Heap) (k : Nat) (f : Addr) (fd : FuncData) (ps : List Str) (sp : Sp) : Prop where
  len : ∀ vs H Q E, sp vs H Q E → vs.length = ps.length
  run : ∀ (B : Around) (out : List Env) (t : Shared) (H : Hp) (args : Args) (us : List Value) (vs : List V) (Q : VK) (E : XK), Room k B → B.guards = some [] →
    Env0 P w K mg base B out t H → BindsTo t fd args (ps.zip us) → Vals vs us → sp vs H Q E → codeAny (model P w) B (.call (.ref f) args) (CR CX0 out P w H t Q E) t
section
variable {P : Program} {w : World} {K : PySem.W.Frag} {mg : Str → Option Value} {base : Heap}
theorem okG {x qual : Str} {st : Stmt} {f : Addr} {fd : FuncData} {N ps : List Str} {k : Nat} {sp : Sp} (F : Fun K x qual st f fd) (S : FnScope N ps (defScope st)) (len : ∀ vs H Q E, sp vs H Q E → vs.length = ps.length)
    (body : ∀ (cd : Value) (B : Around) (out : List Env) (t : Shared) (H : Hp) (vs : List V) (Q : VK) (E : XK), Room k (B.deeper (envOfC qual (defScope st) t.heap.objs.size f cd)) →
      (B.deeper (envOfC qual (defScope st) t.heap.objs.size f cd)).guards = some [] → sp vs H Q E →
      ∃ r, PSs (cxOf CX0 P w K mg base N qual (defScope st) f cd B out t H E).nox (defBody st) r ∧ r { nx := fun _ H' => Q .non H', rt := Q } (start N vs) H) : FnG P w K mg base (k + 1) f fd ps sp := by
  obtain ⟨oc, od, kV, doc, pm, an, cd, ct, osl, rfl, lk, hcd⟩ := F.ex
  refine ⟨len, fun B out t H args us vs Q E hr hG e0 hb r hsp => ?_⟩
  have hl := len _ _ _ _ hsp
  have kx : K.In t.heap := e0.mod.kin.keeps fun b o e => (e0.bs b o e).1
  have li : t.heap.NoLimit := e0.mod.nolimit.keeps fun b o e => (e0.bs b o e).1
  have kind : ∀ y ∈ ps.zip us, (defScope st).names.lookup y.1 = some .local ∨ ((defScope st).names.lookup y.1 = some .cell ∧ ((cellsFrom (t.heap.objs.size + 1) (defScope st).names []).lookup y.1).isSome = true) := by
    rintro ⟨n, v⟩ hy
    rcases S.par n (List.of_mem_zip hy).1 with q | q
    · exact .inl q
    · exact .inr ⟨q, PySem.W.cellsFrom_some _ _ _ (.inl q)⟩
  refine codeAny_call_function hr.depth (kx _ _ lk) rfl S.co S.gen rfl (PySem.W.codeRec_of kx hcd) (hb _ _ _ _ ?_)
  refine wpAny_newFunctionEnv_cells S.kind kind fun env he t1 x => ?_
  subst he
  refine ⟨li.keeps x.toInCall.keep, codeAny_func ?_⟩
  obtain ⟨rd, h0, hq⟩ := body cd B out t H vs Q E (hr.deeper _) hG hsp
  have hrd := h0.nox
  have I : Inv (cxOf CX0 P w K mg base N qual (defScope st) f cd B out t H E) [] (start N vs) H t1 := inv_start S hr.hd e0 hl r x
  refine wpAny_mono (hrd.run [] t1 (start N vs) H _ I hq) (fun fl t' hs => ?_) fun e t' hs => hs
  have fin : ∀ {σ' : L2.St} {H' : Hp} {v : V} {u : Value}, Inv (cxOf CX0 P w K mg base N qual (defScope st) f cd B out t H E) [] σ' H' t' → RelV v u → Q v H' → CE out P w H t Q u t' := by
    intro σ' H' v u J rv q
    exact ⟨v, H', J.os, J.bare, J.base, J.hok, rv, q⟩
  cases fl with
  | ret u =>
    obtain ⟨v, σ', H', J, rv, q⟩ := hs
    exact fin J rv q
  | next =>
    obtain ⟨σ', H', J, q⟩ := hs
    exact fin (v := V.non) (u := Value.none) J rfl q
  | brk => obtain ⟨_, _, _, q⟩ := hs; exact False.elim q
  | cont => obtain ⟨_, _, _, q⟩ := hs; exact False.elim q
end
section
variable {X : Cx} {k n : Nat} {f : Addr} {fd : FuncData} {ps ks : List Str} {sp : Sp} {x : Str} {p pos : Pos} {e : Expr} {es : List Expr} {kws : List Keyword} {t tk : TA} {g : List Value → List Value → List Value} {gV : List V → List V → List V}
theorem pe_callG (F : FnG X.prog X.w X.K X.mg X.base k f fd ps sp) (hr : Room k X.A) (hG : X.A.guards = some []) (hg : Gl X x) (hm : X.mg x = some (.ref f)) (hk : PySem.W.keepIn X.K (.ref f) = true) (hb : Binds X.K fd ps [])
    (ha : PA X (e :: es) t) (hdb : (x == ("__debug__" : Str)) = false := by decide) (he : starEach (e :: es) X.env = (false, eval e X.env) :: starEach es X.env := by rfl) (hpl : (backTo pos (starEach es X.env)).any (·.1) = false := by rfl) :
    PE X (.Call (.Name x p) (e :: es) [] pos) (tCall sp [] E0 t) := by
  refine ⟨fun pins s σ H Q I h => ?_⟩
  refine wpAny_Call_Name_kw (ld_glob I hg hm ?_ hdb)
  refine PySem.W.callWith_K (h₀ := X.base) I.ok.mod.kin hk (thn (ha.run pos pins s σ H _ I h) fun us s1 ⟨vs, H1, I1, r, q⟩ => ⟨I1.kIn, ?_⟩) he hpl
  have r2 : Vals (vs ++ []) (us ++ []) := r.append .nil
  have hl : (us ++ []).length = ps.length := by rw [← r2.length]; exact F.len _ _ _ _ q
  refine wpAny_call (codeAny_mono (F.run X.A X.stack s1 H1 ⟨us, []⟩ (us ++ []) (vs ++ []) Q E0 hr hG I1.env0 (hb s1 us I1.kIn hl) r2 q) fun r s' hq => ?_)
  cases r with
  | error e => exact False.elim hq
  | ok fl =>
    cases fl with
    | ret u => exact I1.after hq
    | next => exact False.elim hq
    | brk => exact False.elim hq
    | cont => exact False.elim hq
/-- f(k = v, ..): keywords alone -/
theorem pe_callN0 (F : FnOk X.prog X.w X.K X.mg X.base CX0 k f fd ps sp) (hr : Room k X.A) (hg : Gl X x) (hm : X.mg x = some (.ref f)) (hk : PySem.W.keepIn X.K (.ref f) = true) (hb : KBn X.K fd ps 0 ks g gV)
    (hkw : PK X kws tk) (hall : (backToKw pos (keywordEach kws X.env)).all (·.1.isSome) = true := by rfl) (hks : (backToKw pos (keywordEach kws X.env)).filterMap (·.1) = ks := by rfl)
    (hdb : (x == ("__debug__" : Str)) = false := by decide)
    (hpl : ((backTo pos (starEach [] X.env)).any (·.1) || (backToKw pos (keywordEach kws X.env)).any (·.1.isNone)) = false := by rfl) :
    PE X (.Call (.Name x p) [] kws pos) (tCallN 0 ks.length sp gV E0 tNil tk) := by
  refine ⟨fun pins s σ H Q I h => ?_⟩
  refine wpAny_Call_Name_kw (ld_glob I hg hm ?_ hdb)
  refine PySem.W.callWith_KW0 (h₀ := X.base) I.ok.mod.kin hk hall ?_ hpl
  refine thn (hkw.run pos pins s σ H _ I h) fun ws s2 ⟨zs, H2, I2, rz, l1, l2, q2⟩ => ⟨I2.kIn, ?_⟩
  rw [hks]
  exact run_fnN (us := []) (vs := []) F hr hb pass0 I2 .nil rz rfl l2 q2
end
/-- values put in another order -/
def permV {α : Type} (js : List Nat) (xs : List α) : List α := js.filterMap fun j => xs[j]?
theorem permV_rel (js : List Nat) : ∀ {vs : List V} {us : List Value}, Vals vs us → Vals (permV js vs) (permV js us) := by
  intro vs us r
  induction js with
  | nil => exact .nil
  | cons j js ih =>
    unfold permV
    rw [List.filterMap_cons, List.filterMap_cons]
    cases e : vs[j]? with
    | none =>
      rw [r.none_of e]
      exact ih
    | some v =>
      obtain ⟨u, e1, e2⟩ := r.get e
      rw [e1]
      exact .cons e2 ih

/-! ### the law's call -/
theorem law_callG {P : Program} {w : World} {K : PySem.W.Frag} {mg mb : Str → Option Value} {k : Nat} {fa a : Addr} {fd : FuncData} {x : Str} {sp : Sp} {t : Shared} {vs : List Value} {ns : List Int}
    (kx : K.In t.heap) (hns : t.heap.Ns mainGlobals mg) (hb : t.heap.Ns builtinsNs mb) (hbb : ∀ x : Str, x ≠ "__name__" → mb x = bootBuiltins x) (li : t.heap.NoLimit) (hg : t.gens = #[])
    (ha : t.heap.get? a = some { cls := .type "list", data := .seq vs.toArray }) (hi : IntsAre vs ns) (hl : ns.length ≤ sizeLine) (hr : Room k callerA)
    (F : ∀ base : Heap, K.In base → base.Ns mainGlobals mg → FnG P w K mg base k fa fd [x] sp) (bd : ∀ (s : Shared) (u : Value), BindsTo s fd ⟨[u], []⟩ [(x, u)])
    (hsp : ∀ H : Hp, Only H → SqL K H a (ns.map V.int) → sp [.ref a] H (fun v _ => v = .bl true) fun _ _ _ => False) :
    codeAny (model P w) callerA (.call (.ref fa) ⟨[.ref a], []⟩) (fun r t' => r = .ok (.ret (.bool true)) ∧ OldK t.heap t'.heap ∧ t'.os = t.os ∧ AllBare t'.gens) t := by
  have rv := vals_ints hi
  have lenV := hi.length
  have core : ∀ H : Hp, Only H → SqL K H a (ns.map V.int) → HOk P w H t.heap → (∀ b, H b ≠ none → b = a) → (H a ≠ none → K.lookup a = none) →
      codeAny (model P w) callerA (.call (.ref fa) ⟨[.ref a], []⟩) (fun r t' => r = .ok (.ret (.bool true)) ∧ OldK t.heap t'.heap ∧ t'.os = t.os ∧ AllBare t'.gens) t := by
    intro H hO hS ok hA hK
    have bo : ∀ {b : Addr} {o : Obj}, t.heap.get? b = some o → H b = none → (hidT t.heap H).get? b = some o := fun e n => hidT_get e n
    have nd : ∀ {b : Addr} {o : Obj} {es : Array DictEntry} {ep : Nat}, t.heap.get? b = some o → o.data = .dict es ep → H b = none := by
      intro b o es ep e d
      cases q : H b with
      | none => rfl
      | some u =>
        have e' : b = a := hA b (by rw [q]; simp)
        subst e'
        rw [ha] at e; cases e
        have d2 : Data.seq vs.toArray _ = Data.dict es ep := d
        cases d2
    have nk : ∀ {b : Addr} {m : Str → Option Value}, t.heap.Ns b m → (hidT t.heap H).Ns b m := by
      rintro b m ⟨o, es, ep, e, d, r⟩
      exact ⟨o, es, ep, bo e (nd e d), d, r⟩
    have kb : K.In (hidT t.heap H) := by
      intro b o e
      refine bo (kx b o e) ?_
      cases q : H b with
      | none => rfl
      | some u =>
        have e' : b = a := hA b (by rw [q]; simp)
        subst e'
        rw [hK (by rw [q]; simp)] at e; cases e
    have hM : Mod K mg (hidT t.heap H) := by
      obtain ⟨mc, h1, h2⟩ := li
      exact ⟨kb, nk hns, ⟨mb, nk hb, hbb⟩, ⟨mc, nk h1, h2⟩⟩
    have e0 : Env0 P w K mg (hidT t.heap H) callerA [] t H := by
      refine ⟨rfl, hM, fun b o e => of_hidT e, Nat.le_of_eq (hidT_size _ _), trivial, ?_, ok, .of_eq hg⟩
      intro b hb
      exact absurd (show b ∈ ([] : List Addr) from hb) (by simp)
    refine codeAny_mono ((F _ kb (nk hns)).run callerA [] t H ⟨[.ref a], []⟩ [.ref a] [.ref a] _ _ hr rfl e0 (bd t (.ref a)) (.cons rfl .nil) (hsp H hO hS)) ?_
    intro r t' h
    cases r with
    | error e => exact False.elim h
    | ok fl =>
      cases fl with
      | next => exact False.elim h
      | brk => exact False.elim h
      | cont => exact False.elim h
      | ret u =>
        obtain ⟨v, H', os, bare, un, ok', r', q⟩ := h
        have q2 : v = .bl true := q
        subst q2
        obtain rfl : u = Value.bool true := r'
        refine ⟨rfl, OldK.of_keep fun b o e => ?_, os, bare⟩
        cases q : H b with
        | none =>
          refine un.keep b o e q ?_ (by simp)
          intro z
          exact absurd (show b ∈ ([] : List Addr) from z) (by simp)
        | some u =>
          rcases hO b with z | ⟨ob, xs, z⟩
          · rw [q] at z; cases z
          · have z2 := un.frzs b ob _ z
            obtain ⟨e1, _⟩ := ok b _ z
            obtain ⟨e2, _⟩ := ok' b _ z2
            rw [e] at e1; cases e1
            exact e2
  cases hk : K.lookup a with
  | some o =>
    have e := kx a o hk
    rw [ha] at e
    cases e
    refine core (fun _ => none) (fun _ => .inl rfl) (.inr ⟨_, vs.toArray, _, hk, rfl, rfl, rfl, by rw [List.size_toArray, lenV]; exact hl, by simpa using rv⟩) ?_ (fun b z => absurd rfl z) fun z => absurd rfl z
    intro b u z
    have z2 : (none : Option HO) = some u := z
    cases z2
  | none =>
    refine core (fun b => if b = a then some (.frz { cls := .type "list", data := .seq vs.toArray } (.lst (ns.map V.int))) else none) (fun b => ?_) (.inl (.inr ⟨_, if_pos rfl⟩)) (fun b u z => ?_) (fun b z => ?_) fun _ => hk
    · by_cases hb : b = a
      · exact .inr ⟨_, _, if_pos hb⟩
      · exact .inl (if_neg hb)
    · by_cases hb : b = a
      · have z2 := (if_pos hb).symm.trans z
        cases z2
        subst hb
        exact ⟨ha, by rw [List.length_map]; exact hl, vs, _, rv, ha⟩
      · have z2 := (if_neg hb).symm.trans z
        cases z2
    · by_cases hb : b = a
      · exact hb
      · exact absurd (if_neg hb) z
theorem walk_G {l : PySem.W.OpenLaw} {n k : Nat} {q : Program} {loose : List Str} {XP : (Str → Option Value) → Heap → Prop} {YP : World → Heap → Prop} {d : DefRec} {K : Params → PySem.W.Frag} {sp : World → Sp} {x : Str}
    (hn : l.most = some n) (hn2 : n ≤ sizeLine) (hdf : d.params.defaults = []) (hr : Room k callerA)
    (hY : ∀ (w : World) (h : Heap), YP w h → (K w.params).In h)
    (F : ∀ (w : World) (mg : Str → Option Value) (fa : Addr) (h : Heap), (K w.params).In h → h.Ns mainGlobals mg → mg d.name = some (.ref fa) →
      ∃ fd : FuncData, (∀ (s : Shared) (u : Value), BindsTo s fd ⟨[u], []⟩ [(x, u)]) ∧
        ∀ base : Heap, (K w.params).In base → base.Ns mainGlobals mg → FnG l.prog w (K w.params) mg base k fa fd [x] (sp w))
    (hsp : ∀ (w : World) (H : Hp) (a : Addr) (ns : List Int), ns.length ≤ n → Only H → SqL (K w.params) H a (ns.map V.int) → sp w [.ref a] H (fun v _ => v = .bl true) fun _ _ _ => False) :
    PySem.W.WalkO q loose XP YP l.row.toRowW d [] (fun f vs => PySem.call f vs) := by
  refine Att.attach_call hn hdf ?_
  intro w s₀ t mg mb fa o pm cd doc a vs ns G Y ho hd hcd hmg hobj hints hlen hg
  obtain ⟨fd, hb, hF⟩ := F w mg fa _ (hY w _ Y) G.T.g hmg
  exact law_callG (hY w _ Y) G.T.g G.T.b G.T.builtins G.T.nolimit hg hobj hints (Nat.le_trans hlen hn2) hr hF hb (fun H hO hS => hsp w H a ns hlen hO hS)
end Lh

namespace Lh
open PySem PySem.Spec PyProof.Rows L2
/-! ### set(numbers), numbers a list -/
/-- a set as it is first laid -/
abbrev bareSet (w : World) : Obj := { cls := .type "set", dict := none, data := .set #[] 0 (.fresh 0 0 (!w.params.followText "set-order")) }
/-- the set at the heap's end holds just ns, all else is kept -/
def Filled (w : World) (s t : Shared) (ns : List Int) : Prop := ∃ (g : Heap) (tk c : Nat), t = { s with heap := g, toks := tk } ∧ SetR w g s.heap.objs.size (fun j => decide (j ∈ ns)) c ∧ c ≤ ns.length ∧ ∀ b o, s.heap.get? b = some o → g.get? b = some o
theorem ints_at : ∀ {us : List Value} {ns : List Int}, IntsAre us ns → us.length = ns.length ∧ ∀ (i : Nat) (v : Value), us[i]? = some v → ∃ k t, ns[i]? = some k ∧ v = .int k t
  | _, _, .nil => ⟨rfl, fun i v e => absurd e (by simp)⟩
  | _, _, .cons n t r => by
    obtain ⟨h1, h2⟩ := ints_at r
    refine ⟨congrArg (· + 1) h1, fun i v e => ?_⟩
    cases i with
    | zero => exact ⟨n, t, rfl, (Option.some.inj e).symm⟩
    | succ i => exact h2 i v e
section
variable {P : Program} {w : World} {A : Around} {E : Value → Shared → Prop} {s : Shared} {l : Addr} {items : Array Value} {ns : List Int}
set_option maxHeartbeats 3200000 in
theorem set_init (hh : A.handled = none) (hl : s.heap.IsList l items) (hi : IntsAre items.toList ns) (hb : ns.length + 1 < scanBound) :
    codeAny (model P w) A (.call (.builtin "set.__init__") ⟨[.ref s.heap.objs.size, .ref l], []⟩) (wants (fun r t => r = .none ∧ Filled w s t ns) E) { s with heap := s.heap.push (bareSet w) } := by
  obtain ⟨hsz, hat⟩ := ints_at hi
  rw [Array.length_toList] at hsz
  have top : (s.heap.push (bareSet w)).get? s.heap.objs.size = some (bareSet w) := Heap.get?_push_size _ rfl
  refine codeAny_call_builtin F.called_set.init.plain F.entry_set_init (check_set_init_1 ⟨_, top, rfl⟩ ?_)
  have hl0 := hl
  obtain ⟨⟨k, dc, da, sl⟩, ho, ek, n, ed⟩ := hl
  dsimp only at ek ed
  subst ek ed
  have lt := Heap.lt_size ho
  have ho2 : (s.heap.push (bareSet w)).get? l = _ := Heap.get?_push_of_some _ ho
  have f1 := F.sub_list_set
  have f2 := F.sub_list_frozenset
  have f3 : (Value.type "list" == Value.type "dict") = false := by decide
  unfold Builtin.«set.__init__»
  unfold noKeywords
  unfold Builtin.Frozenset.updateFrom
  generalize ei : pyIter = it
  wp_walk
  subst ei
  have sz : (s.heap.push (bareSet w)).objs.size = s.heap.objs.size + 1 := Heap.size_push ..
  refine wpAny_pyIter_list (hl0.push _) (wpAny_bind (wpAny_runValue ?_))
  have wk := fun (B : Around) (hB : B.handled = none) => (Walks.list (prog := P) (w := w) (A := B) hB (s.heap.push (bareSet w)).objs.size l (by rw [sz]; exact Nat.ne_of_lt (Nat.lt_succ_of_lt lt)) items).toS
  refine set_update_ints (wk _ (by simp [hh])) s.heap.objs.size (by rw [sz]; exact fun z => (List.mem_cons.mp z).elim (Nat.ne_of_lt (Nat.lt_succ_self _)) fun z => Nat.ne_of_gt lt (List.mem_singleton.mp z)) ns hsz hb (fun i v e => hat i v (by rw [Array.getElem?_toList]; exact e)) items.size 0 _ (by omega) (Nat.zero_le _) ⟨⟨_, Heap.get?_push_size _ rfl, rfl, rfl⟩, (hl0.push _).push _⟩ ⟨0, Nat.le_refl 0, setR_new_at (Heap.get?_push_of_some _ top)⟩ ?_
  rintro ⟨g, g2, d2, tk, o2⟩ c mv hc R
  cases (show g2 = s.gens from mv.gens)
  cases (show d2 = s.drawn from mv.drawn)
  cases (show o2 = s.os from mv.os)
  refine wpAny_pure (show wpAny _ _ (ret Value.none) _ _ _ from wpAny_pure ⟨rfl, g, tk, c, rfl, R, by omega, fun b o e => ?_⟩)
  have lb := Heap.lt_size e
  exact mv.heap b o (by rw [sz]; exact fun z => (List.mem_cons.mp z).elim (Nat.ne_of_lt lb) fun z => Nat.ne_of_lt (Nat.lt_succ_of_lt lb) (List.mem_singleton.mp z)) (Heap.get?_push_of_some _ (Heap.get?_push_of_some _ e))
set_option maxHeartbeats 3200000 in
theorem set_of_list (ns : List Int) {Q : Value → Shared → Prop} (hh : A.handled = none) (hl : s.heap.IsList l items) (hi : IntsAre items.toList ns) (hb : ns.length + 1 < scanBound) (q : ∀ t, Filled w s t ns → Q (.ref s.heap.objs.size) t) :
    wpAny (model P w) A (call (.type "set") [.ref l]) Q E s := by
  have c1 := F.called_set.made
  have c2 := F.called_set.sub
  have c3 := F.called_set.notType
  have c4 := F.called_set.canCreate
  have c5 := F.typeCall_set_1 (.ref l)
  have c6 := F.called_set.init.lookup
  have c7 := F.called_set.init.bind (.ref s.heap.objs.size)
  obtain ⟨m1, m2, c8⟩ := F.called_set.mro
  refine wpAny_call (codeAny_of_tree (show wpAny _ _ (callAny (.type "set") _) _ _ _ from wpAny_pure ⟨Code.quiet_builtin _ (by decide +kernel), codeAny_builtin F.entry_type_call ?_⟩))
  rw [Around.under_plain (weight_type_call_type "set" [.ref l] []) rfl]
  repeat any_goals first | assumption | wp_step
  refine codeAny_mono (code_set_led1 (.ref l) (E := E) (Q₁ := fun x t => x = .ref s.heap.objs.size ∧ t = { s with heap := s.heap.push (bareSet w) }) ⟨rfl, rfl⟩) ?_
  rintro (e | fl) t ht
  · exact ht
  cases fl with
  | next => exact ht.elim
  | brk => exact ht.elim
  | cont => exact ht.elim
  | ret x =>
    obtain ⟨rfl, rfl⟩ := ht
    have ty : Shared.TypeIs { s with heap := s.heap.push (bareSet w) } (.ref s.heap.objs.size) "set" := ⟨_, Heap.get?_push_size _ rfl, rfl⟩
    repeat any_goals first | assumption | wp_step
    refine codeAny_mono (set_init (E := E) (by simp [hh]) hl hi hb) ?_
    rintro (e | fl) t2 ht2
    · exact ht2
    cases fl with
    | next => exact ht2.elim
    | brk => exact ht2.elim
    | cont => exact ht2.elim
    | ret y =>
      obtain ⟨rfl, f⟩ := ht2
      repeat any_goals first | assumption | wp_step
      exact q _ f
end
end Lh

namespace Lh
open PySem PySem.Spec PyProof.Rows L2
section
variable {X : Cx}
/-- repr of data -/
def rRepr (K : PySem.W.Frag) : List V → Hp → VK → Prop := fun xs H Q => ∃ (a : Addr) (d : PyData), xs = [.ref a] ∧ Dp K H (.ref a) d ∧ d.showable = true ∧ d.hasDict = false ∧ d.depth ≤ 60 ∧ d.shown.length ≤ sizeLine ∧ Q (.str d.shown) H
theorem call_reprD (hG : X.A.guards = some []) (hu : X.A.units + 64 < cLine) : CallR X (.builtin "repr") (rRepr X.K) := by
  intro pins s σ H xs us Q I r h
  obtain ⟨a, d, rfl, hd, h1, h2, h3, h4, q⟩ := h
  have e := Vals.ref1 r
  subst e
  obtain ⟨as, rd⟩ := Dp.reads I d (.ref a) (.ref a) hd rfl
  exact repr_of_reads' rd h1 (fun z => by rw [h2] at z; cases z) hG (by omega) (fun b o e => e) (fun h' u tk hk => ⟨.str d.shown, H, I.kept hk, ⟨u, rfl⟩, q⟩) h4
/-- max(numbers, default=d) of a list of ints -/
def rMaxD (K : PySem.W.Frag) : List V → List V → Hp → VK → Prop := fun xs zs H Q => ∃ (a : Addr) (ns : List Int) (d : Int), xs = [.ref a] ∧ zs = [.int d] ∧ SqL K H a (ns.map V.int) ∧
  ∀ m, (ns = [] → m = d) → (ns ≠ [] → m ∈ ns ∧ ∀ y ∈ ns, y ≤ m) → Q (.int m) H
theorem foldl_max (ns : List Int) : ∀ n : Int, (ns.foldl max n = n ∨ ns.foldl max n ∈ ns) ∧ n ≤ ns.foldl max n ∧ ∀ y ∈ ns, y ≤ ns.foldl max n := by
  induction ns with
  | nil => intro n; exact ⟨.inl rfl, Int.le_refl _, fun y h => absurd h (by simp)⟩
  | cons m r ih =>
    intro n
    obtain ⟨h1, h2, h3⟩ := ih (max n m)
    rw [List.foldl_cons]
    refine ⟨?_, by omega, fun y hy => ?_⟩
    · rcases h1 with h1 | h1
      · by_cases c : n ≤ m
        · right; rw [h1]; rw [Int.max_eq_right c]; exact List.mem_cons_self
        · left; rw [h1]; omega
      · right; exact List.mem_cons_of_mem _ h1
    · rcases List.mem_cons.mp hy with rfl | hy
      · omega
      · exact h3 y hy
theorem cr_maxD (hc : X.calm = true) (hu : X.A.units + 64 < cLine) : CallRK X (.builtin "max") [Str.ofString "default"] (rMaxD X.K) := by
  intro pins s σ H xs zs us ws Q I r rz h
  obtain ⟨a, ns, d, rfl, rfl, hs, q⟩ := h
  obtain ⟨its, rv, hl, _⟩ := I.list hs
  rw [Vals.ref1 r]
  cases rz with
  | cons rd rt =>
    cases rt
    obtain ⟨td, rfl⟩ := rd
    obtain ⟨as, ra⟩ := Dp.readsAll I (ns.map PyData.int) _ its (RpAll.dp (bx := 0) (RpAll.ints ns)) rv
    have dpt : ∀ l : List Int, PyData.depthAll (l.map PyData.int) = 0 := fun l => by
      induction l with
      | nil => rfl
      | cons x r ih => rw [List.map_cons]; show max 0 (PyData.depthAll (r.map PyData.int)) = 0; rw [ih]; rfl
    refine PySem.W.max_list_default (I.ok.hd hc) hl.isList (vs := its.toArray) (xs := ns.map PyData.int) (by simpa using ra) ⟨fun x hx y hy => ?_, fun x hx => ?_⟩ (by rw [dpt]; omega) (fun e h' tk hk => ?_) (fun y ys i v h' tk bs e hv rd hk => ?_)
    · obtain ⟨i, _, rfl⟩ := List.mem_map.mp hx
      obtain ⟨j, _, rfl⟩ := List.mem_map.mp hy
      rfl
    · obtain ⟨i, _, rfl⟩ := List.mem_map.mp hx
      intro z; cases z
    · have e0 : ns = [] := List.map_eq_nil_iff.mp e
      exact ⟨.int d, H, I.kept hk, ⟨_, rfl⟩, q d (fun _ => rfl) (fun z => absurd e0 z)⟩
    · cases ns with
      | nil => cases e
      | cons n r =>
        rw [List.map_cons] at e
        cases e
        rw [PySem.W.maxD_ints] at rd
        cases rd
        obtain ⟨h1, h2, h3⟩ := foldl_max r n
        refine ⟨.int (r.foldl max n), H, I.kept hk, ⟨_, rfl⟩, q _ (fun z => by cases z) (fun _ => ⟨?_, fun y hy => ?_⟩)⟩
        · rcases h1 with h1 | h1
          · rw [h1]; exact List.mem_cons_self
          · exact List.mem_cons_of_mem _ h1
        · rcases List.mem_cons.mp hy with rfl | hy
          · exact h2
          · exact h3 y hy
/-- set(numbers) of a list of ints -/
def rSetL (K : PySem.W.Frag) (w : World) : List V → Hp → VK → Prop := fun xs H Q => ∃ (a : Addr) (ns : List Int), xs = [.ref a] ∧ SqL K H a (ns.map V.int) ∧ ns.length ≤ 1000 ∧
  ∀ (p : Addr) (c : Nat) (ks : List Int), H p = none → ks.Nodup → ks.length = c → c ≤ ns.length → (∀ k, k ∈ ks ↔ k ∈ ns) → Q (.ref p) (upd H p (SetO w p (fun j => decide (j ∈ ns)) c))
theorem cr_setL (hc : X.calm = true) : CallR X (.type "set") (rSetL X.K X.w) := by
  intro pins s σ H xs us Q I r h
  obtain ⟨a, ns, rfl, hs, hl, q⟩ := h
  obtain ⟨its, rv, pl, _⟩ := I.list hs
  rw [Vals.ref1 r]
  refine set_of_list ns (I.ok.hd hc) pl.isList (by simpa using RZ.intsAre_vals rv) (by unfold scanBound; omega) ?_
  rintro t ⟨h', tk, c, rfl, R, hle, hk⟩
  have R' := R
  obtain ⟨o, es, ep, t, ho, _, _, _, nd, hm, _, _, hn, _⟩ := R'
  refine ⟨.ref s.heap.objs.size, upd H s.heap.objs.size (SetO X.w s.heap.objs.size (fun j => decide (j ∈ ns)) c), I.laid (t' := tk) hk (Nat.le_refl _) (setO_new R), rfl, ?_⟩
  refine q _ c (es.toList.map keyOf) (I.hok.fresh (Nat.le_refl _)) nd (by rw [List.length_map, Array.length_toList]; exact hn) hle fun k => ?_
  rw [← hm k]
  exact decide_eq_true_iff
/-- len of such a set -/
def rLenSet (w : World) : List V → Hp → VK → Prop := fun xs H Q => ∃ (a : Addr) (S : Int → Bool) (c : Nat), xs = [.ref a] ∧ H a = some (SetO w a S c) ∧ c ≤ 1000 ∧ Q (.int (c : Int)) H
theorem cr_lenSet : CallR X (.builtin "len") (rLenSet X.w) := by
  intro pins s σ H xs us Q I r h
  obtain ⟨a, S, c, rfl, ha, hl, q⟩ := h
  rw [Vals.ref1 r]
  obtain ⟨o, es, ep, t, ho, hx, hd, _, _, _, _, hf, hn, _⟩ := setO_get I ha
  refine call_len_set ho hx hd hf (by rw [hn]; omega) ⟨.int (c : Int), H, I.tok _, ⟨_, by rw [hn]⟩, q⟩
/-- tuple(numbers) of a list: a new tuple, whose object bears no names -/
theorem call_tupleF : CallR X (.type "tuple") (fun xs H Q => ∃ p ys, xs = [.ref p] ∧ SqL X.K H p ys ∧ ∀ l (o : Obj), H l = none → o.dict = none → Q (.ref l) (upd H l (.frz o (.tup ys)))) := by
  intro pins s σ H xs us Q I r h
  obtain ⟨p, ys, rfl, hq, q⟩ := h
  rw [Vals.ref1 r]
  obtain ⟨its, rv, pl, hz⟩ := I.list hq
  have hlen := rv.length
  refine call_tuple_list pl.isList (fun h' kp => ?_) (by simp only [List.size_toArray]; omega)
  have J : Inv X pins σ H { s with heap := h' } := I.kept (t' := s.toks) kp
  have J2 := J.laid (t' := s.toks) (o := .frz { cls := .type "tuple", data := .seq its.toArray } (.tup ys)) (h' := h'.push { cls := .type "tuple", data := .seq its.toArray })
    (fun b o e => Heap.get?_push_of_some _ e) (Nat.le_refl _) ⟨Heap.get?_push_size _ rfl, hz, its, rv, IsTup.new _ _⟩
  exact ⟨.ref h'.objs.size, _, J2, rfl, q _ _ (J.hok.fresh (Nat.le_refl _)) rfl⟩
/-- dict(pairs) of such a tuple of pairs -/
theorem call_dictT (hc : X.calm = true) : CallR X (.type "dict") (fun xs H Q => ∃ (a : Addr) (o : Obj) (ps : List Addr) (kvs : List (Key × V)), xs = [.ref a] ∧ o.dict = none ∧ H a = some (.frz o (.tup (ps.map V.ref))) ∧ Paired (fun p kv => SqT X.K H p [kV kv.1, kv.2]) ps kvs ∧
    ∀ p, H p = none → Q (.ref p) (upd H p (.dK (mergeK [] kvs)))) := by
  intro pins s σ H xs us Q I r h
  obtain ⟨a, o, ps, kvs, rfl, hod, ha, hp, q⟩ := h
  rw [Vals.ref1 r]
  obtain ⟨hget, hz, its, rv, o', ho', hcls, n, hdat⟩ := I.hok a _ ha
  rw [hget] at ho'
  cases ho'
  have ei := refs_at rv
  subst ei
  rw [List.length_map] at hz
  obtain ⟨prs, rel, hl, hpr⟩ := pairs_of I hp
  have ch : ∀ j : Fin prs.length, ∃ u b, ps[j.val]? = some b ∧ IsTup s.heap b #[u, prs[j].2] ∧ keyIs prs[j].1 u = true := fun j => by
    obtain ⟨b, u, e1, e2, e3⟩ := hpr j.val prs[j] (List.getElem?_eq_getElem j.isLt)
    exact ⟨u, b, e1, e2, e3⟩
  let us : Fin prs.length → Value := fun j => Classical.choose (ch j)
  have hus : ∀ j, ∃ b, ps[j.val]? = some b ∧ IsTup s.heap b #[us j, prs[j].2] ∧ keyIs prs[j].1 (us j) = true := fun j => Classical.choose_spec (ch j)
  let qs : List (Value × Value) := List.ofFn fun j : Fin prs.length => (us j, prs[j].2)
  have qlen : qs.length = prs.length := List.length_ofFn
  have qat : ∀ i k v, qs[i]? = some (k, v) → ∃ h : i < prs.length, k = us ⟨i, h⟩ ∧ v = prs[i].2 := fun i k v e => by
    have hi : i < prs.length := by
      have := (List.getElem?_eq_some_iff.mp e).1
      rw [qlen] at this
      exact this
    refine ⟨hi, ?_⟩
    rw [List.getElem?_ofFn, dif_pos hi] at e
    cases e
    exact ⟨rfl, rfl⟩
  refine PySem.call_dict_pairs (knd := mixKind X.prog X.w) (kvs := prs) (PairArg.tuple (prog := X.prog) (w := X.w) a (ps.map Value.ref).toArray (fun j => ps.getD j 0) qs) (I.ok.hd hc) ⟨⟨o, n, hget, hcls, hod, hdat⟩, ?_, fun j k v e => ?_⟩ ⟨qlen.symm, fun i k v e => ?_⟩ (by rw [qlen, hl]; exact hz) (fun h' tk hd' hk => ?_)
  · rw [qlen, hl]; simp
  · obtain ⟨hj, rfl, rfl⟩ := qat j k v e
    obtain ⟨b, e1, e2, _⟩ := hus ⟨j, hj⟩
    have eb : ps.getD j 0 = b := by rw [List.getD_eq_getElem?_getD, e1]; rfl
    dsimp only
    rw [eb]
    refine ⟨?_, .inl e2⟩
    simp only [List.getElem?_toArray, List.getElem?_map]
    rw [e1]; rfl
  · obtain ⟨hj, rfl, rfl⟩ := qat i k v e
    obtain ⟨b, e1, e2, e3⟩ := hus ⟨i, hj⟩
    exact ⟨prs[i].1, List.getElem?_eq_getElem hj, e3⟩
  · have hm : (s.heap.objs.size == sysModules) = false := beq_eq_false_iff_ne.mpr (Nat.ne_of_gt I.big)
    have hlen : (mergeK [] kvs).length ≤ sizeLine := by
      refine Nat.le_trans (length_mergeK kvs []) ?_
      rw [List.length_nil, Nat.zero_add, rel.length, hl]
      exact hz
    exact ⟨.ref s.heap.objs.size, upd H s.heap.objs.size (.dK (mergeK [] kvs)), I.laid (t' := tk) (fun b o e => hk b o (by simp) e) (Nat.le_refl _) (show ObjOk X.prog X.w _ _ _ (.dK (mergeK [] kvs)) from ⟨hlen, hm, merged [] prs, KV.merge rel .nil, hd'⟩), rfl, q _ (I.hok.fresh (Nat.le_refl _))⟩
end
end Lh

namespace Lh
open PySem PySem.Spec PyProof.Rows L2
/-! ### an exception that a suite keeps under another name -/
/-- at a: an exception that was caught, of that class, its fields at d -/
def exK (a : Addr) (cls : Value) (d : Option Addr) : HO := .ext fun h => ∃ (oe : Obj) (vs : Array Value), h.get? a = some oe ∧ Zc cls d oe ∧ oe.data = .fields vs
theorem exK_at {P : Program} {w : World} {H : Hp} {h : Heap} {a : Addr} {cls : Value} {d : Option Addr} (hok : HOk P w H h) (e : H a = some (exK a cls d)) :
    ∃ (oe : Obj) (vs : Array Value), h.get? a = some oe ∧ Zc cls d oe ∧ oe.data = .fields vs := by
  have x : ObjOk P w H h a (.ext fun h => ∃ (oe : Obj) (vs : Array Value), h.get? a = some oe ∧ Zc cls d oe ∧ oe.data = .fields vs) := hok a _ e
  exact x.1
theorem Inv_track {X : Cx} {pins : List (Addr × Obj)} {σ : L2.St} {H : Hp} {s : Shared} {a : Addr} {oe : Obj} {vs : Array Value} {cls : Value} {d : Option Addr} (I : Inv X pins σ H s) (ha : s.heap.get? a = some oe)
    (hz : Zc cls d oe) (hd : oe.data = .fields vs) (na : H a = none) (n0 : X.s_0.heap.get? a = none) (hp : ∀ p ∈ X.pn ++ pins, p.1 ≠ a) : Inv X pins σ (upd H a (exK a cls d)) s := by
  have nL : a ≠ X.env.locals := by
    intro z
    obtain ⟨m, ⟨o, es, ep, ho, hdd, _⟩, _⟩ := I.loc
    rw [← z, ha] at ho
    cases ho
    rw [hd] at hdd
    cases hdd
  have nC : ∀ x c, X.env.cells.lookup x = some c → c ≠ a := by
    intro x c e z
    obtain ⟨v, o, ho, hc⟩ := I.cell x c e
    rw [z, ha] at ho
    cases ho
    rw [hd] at hc
    cases hc
  have ne0 : ∀ b o, X.s_0.heap.get? b = some o → b ≠ a := fun b o e z => by
    rw [z, n0] at e
    cases e
  have neS : ∀ {b : Addr} {u : HO}, H b = some u → b ≠ a := fun e => ne_of_none e na
  refine ⟨I.ok, I.os, I.bare, ⟨I.base.keep, I.base.slot, fun b o e n hx => by rw [upd_ne (ne0 b o e)]; exact I.base.free b o e n hx, I.base.there, fun b xs e => ?_, fun b o u e => ?_, fun b ps e => ?_⟩, I.loc, I.cell,
    by rw [upd_ne nL.symm]; exact I.free, fun x c e => by rw [upd_ne (nC x c e)]; exact I.freeC x c e, fun p h => ?_, fun b u e => ?_, I.len⟩
  · exact (upd_ne (neS (I.base.tups b xs e))).trans (I.base.tups b xs e)
  · exact (upd_ne (neS (I.base.frzs b o u e))).trans (I.base.frzs b o u e)
  · exact let ⟨m, q⟩ := I.base.tbls b ps e; ⟨m, (upd_ne (neS q)).trans q⟩
  · obtain ⟨e, n, r⟩ := I.pin p h
    exact ⟨e, by rw [upd_ne (hp p h)]; exact n, r⟩
  · by_cases hb : b = a
    · subst hb
      rw [upd_same] at e
      cases e
      exact ⟨⟨oe, vs, ha, hz, hd⟩, ⟨oe, ha⟩, fun h1 h2 ⟨o, v, q, r⟩ k => ⟨o, v, k o q, r⟩⟩
    · rw [upd_ne hb] at e
      exact (I.hok b u e).stay (fun c v hc q => q) (fun c q => by rw [upd_ne (neS q)]; exact q) fun c xs q => by rw [upd_ne (neS q)]; exact q
theorem fly_keeps {base h h' : Heap} {l : List Env} {e : Addr} {Z : Obj → Prop} (k : ∀ b o, h.get? b = some o → h'.get? b = some o) (f : HandSPX.FlyingZ base l e Z h) : HandSPX.FlyingZ base l e Z h' := by
  obtain ⟨f1, f2, f3, oe, vs, T, oT, ts, he, hz, hd, h1, hn, hT, hoT, hdT, h3⟩ := f
  exact ⟨fun b o q => k b o (f1 b o q), f2, f3.of_keeps (fun b o q _ => ⟨o, k b o q, rfl⟩), oe, vs, T, oT, ts, k _ _ he, hz, hd, h1, hn, hT, k _ _ hoT, hdT, h3⟩
/-- what 'except (x, ..) as n: suite' wishes of an exception whose class the test meets; behind it the exception is kept -/
def wKeep (Mt : Value → Prop) (i : Nat) (ts : Addr → Value → Option Addr → TS) (D : Ends) : WX := fun cls d σ H =>
  Mt cls ∧ ∀ a, H a = none → ts a cls d { nx := fun σ' H' => D.nx (σ'.set i none) (upd H' a (exK a cls d)), rt := fun _ _ => False, bk := fun _ _ => False, ct := fun _ _ => False } (σ.set i (some (.ref a))) H
section
variable {X : Cx} {pins : List (Addr × Obj)} {σ : L2.St} {H : Hp} {sI : Shared} {B h3 : Heap} {a : Addr} {Z : Obj → Prop}
/-- where an exception that landed stands: on no frame, on no pin, and it is new to the def -/
structure Apart (X : Cx) (pins : List (Addr × Obj)) (a : Addr) : Prop where
  loc : a ≠ X.env.locals
  fs : a ∉ X.fs
  new : X.s_0.heap.get? a = none
  pin : ∀ p ∈ X.pn ++ pins, p.1 ≠ a
theorem Apart.of (hst : X.stack = X.env :: X.outer) (hfm : X.env.frame = some X.env.locals) (hex : X.ex = []) (J : Inv X pins σ H sI) (ground : ∀ b o, sI.heap.get? b = some o → b ∉ frs X.stack → B.get? b = some o)
    (fl : HandSPX.FlyingZ B (X.env :: X.outer) a Z h3) : Apart X pins a := by
  obtain ⟨oa, va, ga, _, da⟩ := fl.there
  have off : a ∉ frs (X.env :: X.outer) := by
    intro hm
    obtain ⟨_, u, gu, hu⟩ := fl.2.2.1.mem hm
    cases ga.symm.trans gu
    exact hu _ da
  have other : ∀ {b o}, sI.heap.get? b = some o → b ∉ frs X.stack → b ≠ a := by
    intro b o gb nb z
    cases (ground b o gb nb).symm.trans (z ▸ fl.2.1)
  constructor
  · exact fun z => off (List.mem_filterMap.mpr ⟨X.env, .head _, hfm.trans (congrArg some z.symm)⟩)
  · exact fun z => let ⟨v, hv, q⟩ := List.mem_filterMap.mp z; off (List.mem_filterMap.mpr ⟨v, .tail _ hv, q⟩)
  · match g0 : X.s_0.heap.get? a with
    | none => rfl
    | some o =>
      obtain ⟨u, gu⟩ := J.base.there a o g0 (by simp [hex])
      exact absurd rfl (other gu (hst ▸ off))
  · intro p hp
    obtain ⟨gp, _, n1, n2, _⟩ := J.pin p hp
    exact other gp fun z => (List.mem_cons.mp (J.stkSub _ z)).elim n1 n2
variable {x y z n : Str} {c1 c2 c3 : Value} {i : Nat} {body suite : List Stmt} {b₀ : Stmt} {p1 p2 p3 pt pos pos' : Pos} {tb : WX → TS} {ts : Addr → Value → Option Addr → TS}
/-- a class by its name, read while an exception is handled -/
theorem named {s : Shared} {oa : Obj} {va : Array Value} (J : Inv X pins σ H s) (ga : s.heap.get? a = some oa) (da : oa.data = .fields va) (na : H a = none) (ap : Apart X pins a) {z : Str} {c : Value} {np : Pos} (hz : Names X z c)
    {Q E : Value → Shared → Prop} (q : Q c s) : wpAny (model X.prog X.w) (X.A.mark (some (.ref a))) (eval (.Name z np) X.env) Q E s := by
  have S := J.suite ga da na ap.loc ap.fs
  rcases hz with ⟨g1, g2, g3 | ⟨g3, g4, g5⟩⟩
  · exact ld_glob (X := X.suite a ((a, oa) :: (X.pn ++ pins))) S g1 g3 q g2
  · exact ld_blt (X := X.suite a ((a, oa) :: (X.pn ++ pins))) S g1 g3 g4 q g5 g2
/-- behind the suite the exception is tracked -/
theorem kept_on (ok : X.Ok) (hN : X.N.Nodup) (hi : X.N[i]? = some n) (hln : X.env.kindOf n = some .local) (ap : Apart X pins a) {oa : Obj} {va : Array Value} {cls : Value} {d : Option Addr} (hz : Zc cls d oa) (da : oa.data = .fields va)
    {σ6 : L2.St} {H6 : Hp} {s6 : Shared} (S : Inv (X.suite a ((a, oa) :: (X.pn ++ pins))) [] σ6 H6 s6) {Q : Shared → Prop} {E : Value → Shared → Prop} (q : ∀ s7, Inv X pins (σ6.set i none) (upd H6 a (exK a cls d)) s7 → Q s7) :
    wpAny (model X.prog X.w) X.A (do bindName X.env n .none; unbindBehindTheSuite X.env n pos') (fun _ s7 => Q s7) E s6 := by
  have pin' : ∀ p ∈ X.pn ++ ((a, oa) :: pins), p ∈ ((a, oa) :: (X.pn ++ pins)) ++ [] := fun p hp => by
    simp only [List.mem_append, List.mem_cons, List.append_nil] at hp ⊢
    rcases hp with z | z | z
    · exact .inr (.inl z)
    · exact .inl z
    · exact .inr (.inr z)
  have J : Inv X ((a, oa) :: pins) σ6 H6 s6 := ⟨ok, S.os, S.bare, S.base, S.loc, S.cell, S.free, S.freeC, fun p hp => S.pin p (pin' p hp), S.hok, S.len⟩
  refine gone_ok J hN hi hln fun s7 J7 => ?_
  have here := J7.pin (a, oa) (by simp)
  exact q s7 (Inv_track (J7.pins_of fun p hp => J7.pin p (by simp [hp])) here.1 hz da here.2.1 ap.new ap.pin)
/-- a clause's test says yes to exceptions of the classes Mt, and changes nothing but that it makes something -/
def Tests (X : Cx) (tst : Expr) (Mt : Value → Prop) : Prop := ∀ {pins : List (Addr × Obj)} {σ : L2.St} {H : Hp} {s : Shared} {a : Addr} {oa : Obj} {va : Array Value} {cls : Value} {d : Option Addr}, Inv X pins σ H s → s.heap.get? a = some oa → Zc cls d oa →
  oa.data = .fields va → H a = none → Apart X pins a → Mt cls → ∀ {R : Bool → Shared → Prop} {E : Value → Shared → Prop}, (∀ g, (∀ b o, s.heap.get? b = some o → g.get? b = some o) → R true { s with heap := g }) →
  wpAny (model X.prog X.w) (X.A.mark (some (.ref a))) (eval tst X.env) (fun c t => wpAny (model X.prog X.w) (X.A.mark (some (.ref a))) (excMatches (.ref a) c) R E t) E s
theorem tests2 (hc1 : Names X x c1) (hc2 : Names X y c2) {cx : Nat} : Tests X (.Tuple [.Name x p1, .Name y p2] cx pt) (fun cls => PySem.W.exmAny X.K cls [c1, c2] = some true) := by
  intro pins σ H s a oa va cls d I ga za da na ap one R E q
  refine wpAny_Tuple_spliced ?_
  show wpAny _ _ (spliced [(false, eval (.Name x p1) X.env), (false, eval (.Name y p2) X.env)]) _ _ _
  refine Calls.spliced_cons (named I ga da na ap hc1 (Calls.spliced_cons (named I ga da na ap hc2 (Calls.spliced_nil ⟨by show 2 ≤ sizeLine; decide, ?_⟩))))
  have old : ∀ b o, s.heap.get? b = some o → (s.heap.push { cls := .type "tuple", data := .seq [c1, c2].toArray }).get? b = some o := fun _ _ z => Heap.get?_push_of_some _ z
  have knd : PySem.W.Looks (model X.prog X.w) (s.heap.push { cls := .type "tuple", data := .seq [c1, c2].toArray }) (typeOf (.ref a)) cls := fun _ _ _ _ k q => wpAny_typeOf_ref (k _ _ (old _ _ ga)) (za.1.symm ▸ q)
  exact (PySem.W.exm_tup2 (M := model X.prog X.w) (I.kIn.keeps old) knd (Heap.get?_push_size s.heap rfl) one).here (q _ old)
theorem tests3 (hc1 : Names X x c1) (hc2 : Names X y c2) (hc3 : Names X z c3) {cx : Nat} : Tests X (.Tuple [.Name x p1, .Name y p2, .Name z p3] cx pt) (fun cls => PySem.W.exmAny X.K cls [c1, c2, c3] = some true) := by
  intro pins σ H s a oa va cls d I ga za da na ap one R E q
  refine wpAny_Tuple_spliced ?_
  show wpAny _ _ (spliced [(false, eval (.Name x p1) X.env), (false, eval (.Name y p2) X.env), (false, eval (.Name z p3) X.env)]) _ _ _
  refine Calls.spliced_cons (named I ga da na ap hc1 (Calls.spliced_cons (named I ga da na ap hc2 (Calls.spliced_cons (named I ga da na ap hc3 (Calls.spliced_nil ⟨by show 3 ≤ sizeLine; decide, ?_⟩))))))
  have old : ∀ b o, s.heap.get? b = some o → (s.heap.push { cls := .type "tuple", data := .seq [c1, c2, c3].toArray }).get? b = some o := fun _ _ z => Heap.get?_push_of_some _ z
  have knd : PySem.W.Looks (model X.prog X.w) (s.heap.push { cls := .type "tuple", data := .seq [c1, c2, c3].toArray }) (typeOf (.ref a)) cls := fun _ _ _ _ k q => wpAny_typeOf_ref (k _ _ (old _ _ ga)) (za.1.symm ▸ q)
  exact (PySem.W.exm_tup3 (M := model X.prog X.w) (I.kIn.keeps old) knd (Heap.get?_push_size s.heap rfl) one).here (q _ old)
set_option maxHeartbeats 2000000 in
theorem ps_try_keep {tst : Expr} {Mt : Value → Prop} (hst : X.stack = X.env :: X.outer) (hfm : X.env.frame = some X.env.locals) (hex : X.ex = []) (hN : X.N.Nodup) (hi : X.N[i]? = some n) (hln : X.env.kindOf n = some .local) (htst : Tests X tst Mt)
    (hbody : ∀ (W : WX) (pn : List (Addr × Obj)) (xe : Value → Shared → Prop), Takes (X.tr pn xe) W → PassesOwn (model X.prog X.w) X.A X.env xe → PSs (X.tr pn xe) body (tb W))
    (hsuite : ∀ (a : Addr) (oa : Obj) (cls : Value) (d : Option Addr) (pn : List (Addr × Obj)), Zc cls d oa → (∃ va, oa.data = .fields va) → PSs (X.suite a ((a, oa) :: pn)) (b₀ :: suite) (ts a cls d)) :
    PS X (.Try body [.ExceptHandler (some tst) (some n) (b₀ :: suite) pos'] [] [] pos) (fun D σ H => tb (wKeep Mt i ts D) D σ H) := by
  constructor
  intro pins s σ H D I want
  have ok := I.ok
  have frm : X.A.frames = some (X.env :: X.outer) := ok.frames.trans (congrArg some hst)
  refine wpAny_Try_except (wpAny_mono ((hbody (wKeep Mt i ts D) (X.pn ++ pins)
      (fun e t1 => wpAny (model X.prog X.w) X.A (noteFrame e X.env) (fun _ t2 => wpAny (model X.prog X.w) X.A (setFlight e none) (fun _ t3 => wpAny (model X.prog X.w) X.A (handleBy e X.env
        [.ExceptHandler (some tst) (some n) (b₀ :: suite) pos']) (SP X pins D) X.xe t3) X.xe t2) X.xe t1)
      (fun u t air => ?_) PassesOwn.looking).run [] s σ H D (I.toTry _) want) (fun fl t fin => ?_) fun _ _ z => z)
  case refine_2 =>
    cases fl with
    | next => exact let ⟨σ1, H1, I1, q⟩ := fin; wpAny_execs_nil ⟨σ1, H1, I1.ofTry ok, q⟩
    | brk => exact let ⟨σ1, H1, I1, q⟩ := fin; ⟨σ1, H1, I1.ofTry ok, q⟩
    | cont => exact let ⟨σ1, H1, I1, q⟩ := fin; ⟨σ1, H1, I1.ofTry ok, q⟩
    | ret u => exact let ⟨v, σ1, H1, I1, r, q⟩ := fin; ⟨v, σ1, H1, I1.ofTry ok, r, q⟩
  case refine_1 =>
    obtain ⟨a, B, t0, _, σ1, H1, cls, d, rfl, I0, ground, up, sky, na, os, bare, one, then_⟩ := air
    have I1 : Inv X pins σ1 H1 t0 := I0.ofTry ok
    refine Sky.land (L := X.env.locals) Zc.steady frm hfm (hst ▸ sky) fun g fl upg => ?_
    have ap := Apart.of hst hfm hex I1 ground fl
    have I3 : Inv X pins σ1 H1 { t with heap := g } := I1.landed ground fl.1 (up.trans upg) os bare
    obtain ⟨oa, va, ga, za, da⟩ := fl.there
    refine wpAny_handleBy_cons (codeAny_handlers_test (htst I3 ga za da na ap one fun g' old => ?_)) (fun z => nomatch z)
    refine codeAny_handlers_suite_as ?_
    refine HandSPX.lands_againZ (fly_keeps old fl) fun g4 fl4 up4 => ?_
    have I4 : Inv X pins σ1 H1 { t with heap := g4 } := I1.landed ground fl4.1 (((up.trans upg).trans (.of_keeps old)).trans up4) os bare
    obtain ⟨ob, vb, gb, zb, db⟩ := fl4.there
    refine store_ok (X := X.suite a ((a, ob) :: (X.pn ++ pins))) (v := .ref a) (I4.suite gb db na ap.loc ap.fs) hN hi (.inl hln) rfl (fun s5 S5 => ?_) (.inr hln)
    refine wpAny_mono ((hsuite a ob cls d (X.pn ++ pins) zb ⟨_, db⟩).run [] s5 _ H1 _ S5 (then_ a na)) (fun fw s6 fin => ?_) fun _ _ z => False.elim z
    cases fw with
    | next => exact let ⟨σ6, H6, S6, q⟩ := fin; kept_on ok hN hi hln ap zb db S6 fun s7 I7 => ⟨_, _, I7, q⟩
    | brk => exact let ⟨_, _, _, q⟩ := fin; q.elim
    | cont => exact let ⟨_, _, _, q⟩ := fin; q.elim
    | ret u => exact let ⟨_, _, _, _, _, q⟩ := fin; q.elim
end
section
variable {X : Cx}
/-- an exception that is kept, with its fields, as the library's words have it -/
theorem inst_of {pins : List (Addr × Obj)} {σ : L2.St} {H : Hp} {s : Shared} {a C dd : Addr} {fs : List (Str × V)} (I : Inv X pins σ H s) (ha : H a = some (exK a (.ref C) (some dd))) (hd : H dd = some (.xd fs)) :
    ∃ (ox od : Obj) (mA : Str → Option Value), PySem.W.InstAt s.heap a ox C (some od) ∧ (∀ f, RelO (fs.lookup f) (mA f)) ∧ ∀ f, PySem.W.lookIn f od = some (mA f) := by
  obtain ⟨oe, vs, he, hz, hdat⟩ := exK_at I.hok ha
  obtain ⟨mA, hns, hr⟩ : ∃ mA, s.heap.Ns1 dd mA ∧ ∀ f, RelO (fs.lookup f) (mA f) := I.hok dd _ hd
  obtain ⟨od, ho, hl⟩ := lookIn_ns hns
  exact ⟨oe, od, mA, ⟨he, hz.1, by unfold PySem.W.notCls; rw [hdat] <;> rfl, by rw [hz.2]; exact ho⟩, hr, hl⟩
/-- isinstance(e, c), e an exception that is kept -/
def rIsX (K : PySem.W.Frag) : List V → Hp → VK → Prop := fun xs H Q => ∃ (a C dd : Addr) (fs : List (Str × V)) (c : V) (cv : Value) (b : Bool), xs = [.ref a, c] ∧ H a = some (exK a (.ref C) (some dd)) ∧ H dd = some (.xd fs) ∧ ExcC K C ∧
  (∀ u, RelV c u → u = cv) ∧ PySem.W.kitOne K (.ref C) cv = some b ∧ Q (.bl b) H
theorem call_isX : CallR X (.builtin "isinstance") (rIsX X.K) := by
  intro pins s σ H xs us Q I r h
  obtain ⟨a, C, dd, fs, c, cv, b, rfl, ha, hd, F, hcv, e, q⟩ := h
  obtain ⟨ox, od, mA, J, _⟩ := inst_of I ha hd
  cases r with
  | cons rx rr =>
    cases rr with
    | cons rt rr =>
      cases rr
      cases rx
      cases hcv _ rt
      have F1 := PySem.W.any_some F.hd
      obtain ⟨cd, hc, _⟩ := F1
      exact PySem.W.kia_one (PySem.W.kitx_exc (by rw [hc]; rfl) F.hg F.hk F.hs F.ha F.hn F.ht F.hm) I.kIn J e (fun z => nomatch z) fun tk => ⟨.bl b, H, I.kept (t' := tk) fun _ _ z => z, rfl, q⟩
/-- isinstance(e, (c, ..)) -/
def rIsXT (K : PySem.W.Frag) : List V → Hp → VK → Prop := fun xs H Q => ∃ (a C dd p : Addr) (fs : List (Str × V)) (cs : List V) (cvs : List Value) (b : Bool), xs = [.ref a, .ref p] ∧ H a = some (exK a (.ref C) (some dd)) ∧ H dd = some (.xd fs) ∧ ExcC K C ∧ H p = some (.tup cs) ∧
  (∀ us, Vals cs us → us = cvs) ∧ PySem.W.kitAny K (.ref C) cvs = some b ∧ Q (.bl b) H
theorem call_isXT : CallR X (.builtin "isinstance") (rIsXT X.K) := by
  intro pins s σ H xs us Q I r h
  obtain ⟨a, C, dd, p, fs, cs, cvs, b, rfl, ha, hd, F, hp, hcv, e, q⟩ := h
  obtain ⟨ox, od, mA, J, _⟩ := inst_of I ha hd
  cases r with
  | cons rx rr =>
    cases rr with
    | cons rt rr =>
      cases rr
      cases rx
      cases rt
      obtain ⟨its, rv, o, ho, hc, n, hdat⟩ := (I.hok p _ hp).2
      cases hcv _ rv
      obtain ⟨oc, od', oda, osl⟩ := o
      dsimp only at hc hdat
      subst hc hdat
      obtain ⟨cd, hcl, _⟩ := PySem.W.any_some F.hd
      exact PySem.W.kia_tup (PySem.W.kitx_exc (by rw [hcl]; rfl) F.hg F.hk F.hs F.ha F.hn F.ht F.hm) I.kIn J ho e (fun z => nomatch z) fun tk => ⟨.bl b, H, I.kept (t' := tk) fun _ _ z => z, rfl, q⟩
/-- two words of one call, whichever is at hand -/
theorem call_or {f : Value} {r1 r2 : List V → Hp → VK → Prop} (h1 : CallR X f r1) (h2 : CallR X f r2) : CallR X f (fun xs H Q => r1 xs H Q ∨ r2 xs H Q) := by
  intro pins s σ H xs us Q I r h
  exact h.elim (h1 pins s σ H xs us Q I r) (h2 pins s σ H xs us Q I r)
/-- e.f, e an exception that is kept -/
def tXk (K : PySem.W.Frag) (f : Str) (te : TE) : TE := fun σ H Q => te σ H fun x H1 => ∃ (a C dd : Addr) (fs : List (Str × V)) (v : V), x = .ref a ∧ H1 a = some (exK a (.ref C) (some dd)) ∧ H1 dd = some (.xd fs) ∧ XfC K C ∧
  PySem.W.findIn K (.ref C) f = some none ∧ fs.lookup f = some v ∧ Q v H1
theorem pe_xk {e : Expr} {te : TE} {pos : Pos} {f : Str} (he : PE X e te) (hb : attributeBase e f X.env (eval e X.env) = eval e X.env := by rfl) : PE X (.Attribute e f pos) (tXk X.K f te) := by
  refine ⟨fun pins s σ H Q I h => attr_of hb (thn (he.run pins s σ H _ I h) fun u s1 hh => ?_)⟩
  obtain ⟨x, H1, I1, rx, a, C, dd, fs, v, rfl, ha, hd, T, hno, l, q⟩ := hh
  cases rx
  obtain ⟨ox, od, mA, J, hr, hl⟩ := inst_of I1 ha hd
  obtain ⟨u, hu, ru⟩ := RelO.some_of (v := v) (o := mA f) (by rw [← l]; exact hr f)
  have fo := PySem.W.findObj_own T.hdC hno rfl ((hl f).trans (congrArg some hu))
  exact HandSPX.exc_get I1.kIn J T.ga T.gg T.exC fo (handed_of ru) ⟨v, H1, I1.tok _, ru, q⟩
/-- what lets no exception out, of a def that may -/
theorem pass_none : Passes (L2.CX X.prog X.w) X (fun _ _ _ => False) := fun _ _ _ _ _ _ _ c => by
  obtain ⟨_, _, _, _, _, _, _, _, _, _, _, _, w⟩ := c
  exact w.elim
end
theorem kit_not {K : PySem.W.Frag} {C D : Addr} (hd : PySem.W.hasDictIn K D = true) (ht : PySem.W.typeIn K (.ref D) = some (.type "type")) (h : PySem.W.subIn K (.ref C) (.ref D) = some false) (hs : PySem.W.subIn K (.ref C) (.ref C) = some true) :
    PySem.W.kitOne K (.ref C) (.ref D) = some false := by
  have ne : (Value.ref C == Value.ref D) = false := by
    refine Bool.eq_false_iff.mpr fun z => ?_
    rw [← beq_iff_eq.mp z, hs] at h
    cases h
  obtain ⟨cd, hc, _⟩ := PySem.W.any_some hd
  unfold PySem.W.kitOne PySem.W.kitCls
  rw [ne, if_neg Bool.false_ne_true]
  dsimp only
  rw [hc, ht]
  exact h
theorem kit_type {K : PySem.W.Frag} {C : Addr} {T : String} {b : Bool} (hm : PySem.W.kitMeta T = true) (h : PySem.W.subIn K (.ref C) (.type T) = some b) : PySem.W.kitOne K (.ref C) (.type T) = some b := by
  have ne : (Value.ref C == Value.type T) = false := by simp
  unfold PySem.W.kitOne PySem.W.kitCls
  rw [ne, if_neg Bool.false_ne_true]
  dsimp only
  rw [hm, if_pos rfl]
  exact h
/-- a def that may raise, called where it doesn't -/
theorem fn_calm {P : Program} {w : World} {K : PySem.W.Frag} {mg : Str → Option Value} {base : Heap} {k : Nat} {f : Addr} {fd : FuncData} {ps : List Str} {sp : Sp} (F : FnOk P w K mg base (L2.CX P w) k f fd ps sp) :
    FnOk P w K mg base CX0 k f fd ps (fun vs H Q _ => sp vs H Q (fun _ _ _ => False)) := by
  refine ⟨fun vs H Q _ q => F.len vs H Q _ q, fun B out t H args us vs Q E a b c d e => codeAny_mono (F.run B out t H args us vs Q _ a b c d e) fun r t' h => ?_⟩
  cases r with
  | ok fl =>
    cases fl with
    | ret u => exact h
    | next => exact h
    | brk => exact h
    | cont => exact h
  | error e =>
    obtain ⟨_, _, _, _, _, _, _, _, _, _, _, _, no⟩ := h
    exact no.elim
theorem exm_three {K : PySem.W.Frag} {cls c1 c2 c3 : Value} {b1 b2 b3 : Bool} (h1 : PySem.W.exmOne K cls c1 = some b1) (h2 : PySem.W.exmOne K cls c2 = some b2) (h3 : PySem.W.exmOne K cls c3 = some b3) : PySem.W.exmAny K cls [c1, c2, c3] = some (b1 || (b2 || b3)) := by
  unfold PySem.W.exmAny
  rw [h1]
  unfold PySem.W.exmAny
  rw [h2]
  unfold PySem.W.exmAny
  rw [h3]
  unfold PySem.W.exmAny
  simp
theorem exm_two {K : PySem.W.Frag} {cls c1 c2 : Value} {b1 b2 : Bool} (h1 : PySem.W.exmOne K cls c1 = some b1) (h2 : PySem.W.exmOne K cls c2 = some b2) : PySem.W.exmAny K cls [c1, c2] = some (b1 || b2) := by
  unfold PySem.W.exmAny
  rw [h1]
  unfold PySem.W.exmAny
  rw [h2]
  unfold PySem.W.exmAny
  simp
/-- __init__(self, v): nothing but ValueError's own and self.f = v -/
def spInitF (C : Addr) (f : Str) : Sp := fun vs H Q _ => ∃ (a : Addr) (v : V), vs = [.ref a, v] ∧ H a = some (exo a C none) ∧ ∀ dx, H dx = none → dx ≠ a → Q .non (upd (upd H dx (exd dx [(f, v)])) a (exo a C (some dx)))
end Lh

set_option maxHeartbeats 4000000
namespace LhX
open PySem PySem.Builtin PySem.Builtin.ObjectAttr PyProof.Rows
/-! ### exceptions of own classes over any class that Python has -/
section
variable {P : Program} {w : World} {A : Around} {E : Value → Shared → Prop} {R : Result → Shared → Prop} {h0 : Heap} {gs : Array GenState} {dr : Drawn} {n0 : Nat} {oo : OsState}
/-- the first name that goes into an empty dict -/
theorem first_in {M : Model} {dd : Addr} {f : Str} {tk : Tok} {u : Value} {Q : Fin → Shared → Prop} (empty : h0.Ns dd (fun _ => none))
    (back : ∀ h1 tk1, h1.Ns1 dd (fun y => if y = f then some u else none) → Heap.SameBut dd h0 h1 → Q (.done (.ret .none)) ⟨h1, gs, dr, tk1, oo⟩) :
    wpAny M A (storeInDict dd (.str f tk) f u) Q E ⟨h0, gs, dr, n0, oo⟩ := by
  unfold storeInDict newKeyGuard
  apply wpAny_bind
  apply wpAny_pure
  apply wpAny_bind
  refine wpAny_nsSet1 (Heap.Ns1.of_empty empty) ?_
  intro h1 now same
  obtain ⟨od, _, _, at_, data, few⟩ := now.count (Within.cons f u Within.nil)
  apply wpAny_bind
  refine wpAny_lookBehind at_ ?_ ?_
  · rw [data]
    exact pastItsLine_dict (Nat.le_trans few (Nat.le_add_left 1 sizeLine))
  · wp_walk
    exact back h1 _ now same
/-- an own class: its own names for bases first, then those of the class that it stands over -/
structure Over (mro bm : List Value) : Prop where
  has : ∀ x : String, mro.contains (.type x) = bm.contains (.type x)
  pass : ∀ self : Value, refuseLoop self "__setattr__" mro = pure ()
  some_ : mro.isEmpty = false
theorem over_one {bm : List Value} {C : Addr} (p : ∀ self : Value, refuseLoop self "__setattr__" bm = pure ()) : Over (.ref C :: bm) bm where
  has := fun x => by rw [List.contains_cons]; rfl
  pass := fun self => by rw [refuseLoop_ref]; exact p self
  some_ := rfl
/-- self.f = u, where self has no dict yet -/
theorem put_first {K : W.Frag} {f : Str} {tk : Tok} {u : Value} {x C : Addr} {vals : Array Value} {cd : ClassData} {bm : List Value}
    (kin : K.In h0) (here : h0.get? x = some { cls := .ref C, data := .fields vals }) (isC : W.clsIn K C = some cd) (ov : Over cd.mro bm) (ob : bm.contains (.type "object") = true) (dy : cd.hasDict = true) (noF : W.findIn K (.ref C) f = some none)
    (back : ∀ h1 tk1 dd, (∀ b o, b ≠ x → h0.get? b = some o → h1.get? b = some o) → h0.objs.size ≤ dd → dd ≠ x → h1.get? x = some { cls := .ref C, dict := some dd, data := .fields vals } →
      h1.Ns1 dd (fun y => if y = f then some u else none) → R (.ok (.ret .none)) ⟨h1, gs, dr, tk1, oo⟩) :
    codeAny (model P w) A (.call (.builtin "object.__setattr__") ⟨[.ref x, .str f tk, u], []⟩) R ⟨h0, gs, dr, n0, oo⟩ := by
  have inst : W.InstAt h0 x { cls := .ref C, data := .fields vals } C none := ⟨here, rfl, rfl, trivial⟩
  have facts := F.store_object
  have apart : x ≠ h0.objs.size := Nat.ne_of_lt (Heap.lt_size here)
  have isO : W.mroIn K C (.type "object") = some true := by
    unfold W.mroIn
    rw [isC, Option.bind_some, if_neg (by rw [ov.some_]; decide), ov.has, ob]
  have lookO : W.Looks (model P w) h0 (isInstance (.ref x) (.type "object")) true := inst.type.andThen (W.looks_mroIn kin isO)
  have lookM : W.Looks (model P w) h0 (mroOf (.ref C)) cd.mro := (W.looks_clsIn kin isC).andThen .now
  have lookC : W.Looks (model P w) h0 (classData C) cd := W.looks_clsIn kin isC
  have lookN : W.Looks (model P w) h0 (storeTaker? none) none := .now
  have lookF := W.looks_findIn (M := model P w) kin noF
  refine codeAny_call_builtin facts.slot.plain facts.entry ?_
  refine @W.check_slot (model P w) _ _ ⟨h0, gs, dr, n0, oo⟩ "object.__setattr__" "object" "__setattr__" (.ref x) [.str f tk, u] [] _ facts.kind facts.split lookO (facts.args (.ref x) (.str f tk) u) ?_
  rw [W.osa_eq, refuse_eq]
  apply wpAny_bind
  apply wpAny_bind
  refine inst.type.at ?_
  apply wpAny_bind
  refine lookM.at ?_
  rw [ov.pass]
  apply wpAny_pure
  apply wpAny_bind
  refine inst.type.at ?_
  apply wpAny_bind
  refine lookF.at ?_
  apply wpAny_bind
  refine lookN.at ?_
  show wpAny _ _ (storeInOwnDict (.ref x) (.ref C) (.str f tk) f u false) _ _ _
  cases cd with
  | mk c1 c2 c3 c4 c5 c6 c7 c8 c9 c10 c11 =>
    have dy : c6 = true := dy
    subst dy
    unfold storeInOwnDict ownDictForStores
    repeat (first | with_reducible refine first_in ?_ ?_ | with_reducible refine wpAny_loadPart_at here ?_ | with_reducible refine lookC.at ?_ | wp_step)
    · refine ⟨_, #[], _, (Heap.get?_update_ne _ _ _ _ apart.symm).trans (Heap.get?_push_at rfl rfl), rfl, ?_, fun _ => rfl⟩
      intro e he
      simp at he
    · intro h1 tk1 now same
      have pushed : ∀ b o, h0.get? b = some o → (h0.push { cls := .type "dict", data := .dict #[] }).get? b = some o := fun b o e => Heap.get?_push_of_some _ e
      refine back h1 tk1 h0.objs.size ?_ (Nat.le_refl _) apart.symm ?_ now
      · intro b o nb e
        rw [same.2 b (Nat.ne_of_lt (Heap.lt_size e)), Heap.get?_update_ne _ _ _ _ nb]
        exact pushed b o e
      · rw [same.2 x apart]
        exact Heap.get?_update_self _ (pushed _ _ here) rfl
end
end LhX
namespace Lh
open PySem PySem.Spec PyProof.Rows L2 PySem.Builtin PySem.Builtin.ObjectAttr
/-- an own exception class over the class B of Python's -/
structure OvC (K : PySem.W.Frag) (C : Addr) (B newId initId : String) (bm : List Value) : Prop where
  facts : PySem.ExcBaseFacts B newId initId bm
  obj : bm.contains (.type "object") = true
  cls : ∃ nm qn N bs rest sn sub ab col dd a0 a1 a2 a3 a5, K.lookup C = some (excClassObj nm qn C N bs rest true sn sub ab col dd a0 a1 a2 a3 a5 newId) ∧ (∀ x : String, rest.contains (.type x) = bm.contains (.type x)) ∧ LhX.Over (.ref C :: rest) bm
  sa : PySem.W.findIn K (.ref C) "__setattr__" = some (some (.builtin "object.__setattr__"))
  exC : PySem.W.subIn K (.ref C) (.type "BaseException") = some true
  tyC : PySem.W.typeIn K (.ref C) = some (.type "type")
  kC : PySem.W.keepIn K (.ref C) = true
section
variable {X : Cx} {pins : List (Addr × Obj)} {σ : L2.St} {H : Hp} {s : Shared} {a C : Addr} {f : Str} {y : V} {u : Value} {B newId initId : String} {bm : List Value} {A : Around} {E : Value → Shared → Prop}
theorem upd_back {H : Hp} {a : Addr} {o : HO} (e : H a = some o) : upd H a o = H := by
  funext b
  by_cases z : b = a
  · subst z
    rw [upd_same, e]
  · exact upd_ne z
/-- self.f = y -/
theorem own_put {Q : Unit → Shared → Prop} (T : OvC X.K C B newId initId bm) (I : Inv X pins σ H s) (e : H a = some (exo a C none)) (no : PySem.W.findIn X.K (.ref C) f = some none) (ry : L2.RelV y u)
    (back : ∀ dx s1, H dx = none → dx ≠ a → Inv X pins σ (upd (upd H dx (exd dx [(f, y)])) a (exo a C (some dx))) s1 → Q () s1) : wpAny (model X.prog X.w) A (setAttr (.ref a) f u) Q E s := by
  obtain ⟨nm, qn, N, bs, rest, sn, sub, ab, col, dd, a0, a1, a2, a3, a5, look, _, ov⟩ := T.cls
  have isC : PySem.W.clsIn X.K C = some { name := nm, bases := bs, mro := .ref C :: rest, ns := N, qualname := qn, hasDict := true, slotNames := sn, subclasses := sub, abstract := ab, collection := col, hasDel := false } := by
    unfold PySem.W.clsIn
    rw [look] <;> rfl
  obtain ⟨tt, here⟩ := exo_at I.hok e
  cases s with
  | mk h0 g0 d0 t0 o0 =>
  refine PySem.W.set_plain I.kIn (ox := { cls := .ref C, dict := none, data := .fields #[.ref tt, .none, .none, .none, .bool false, .none] }) (od := none) ⟨here, rfl, rfl, trivial⟩ T.sa ?_
  refine LhX.put_first I.kIn here isC ov T.obj rfl no ?_
  intro h1 tk1 dx kept big ne hx hn
  have free : H dx = none := I.hok.fresh big
  have nd : ∀ {b : Addr} {o : Obj}, h0.get? b = some o → b ≠ dx := fun {b o} z => Nat.ne_of_lt (Nat.lt_of_lt_of_le (Heap.lt_size z) big)
  have na : ∀ {b : Addr}, H b = none → b ≠ a := fun {b} n z => by subst z; exact absurd e (by rw [n]; intro q; cases q)
  have stays : ∀ {b : Addr} {o : HO}, H b = some o → (∀ d, o ≠ exo a C d) → (upd (upd H dx (exd dx [(f, y)])) a (exo a C (some dx))) b = some o := fun {b o} hb df => by
    have n1 : b ≠ a := fun z => by subst z; exact df none (Option.some.inj (hb.symm.trans e))
    rw [upd_ne n1, upd_ne (ne_of_none hb free)]
    exact hb
  have un : Un X.fs [] H (upd (upd H dx (exd dx [(f, y)])) a (exo a C (some dx))) h0 h1 := {
    keep := fun b o z n _ _ => kept b o (na n) z
    slot := fun b o z n _ _ => ⟨_, kept b o (na n) z⟩
    free := fun b o z n _ => (upd_ne (na n)).trans ((upd_ne (nd z)).trans n)
    there := fun b o z _ => by
      by_cases c : b = a
      · subst c; exact ⟨_, hx⟩
      · exact ⟨_, kept b o c z⟩
    tups := fun b xs z => stays z fun d => exo_tup.symm
    frzs := fun b o v z => stays z fun d => exo_frz.symm
    tbls := fun b ps z => ⟨#[], by rw [stays z fun d => exo_tbl.symm]; simp⟩ }
  refine back dx _ free ne (I.un (t' := tk1) un fun b o z => ?_)
  by_cases c : b = a
  · subst c
    rw [upd_same] at z
    cases z
    exact exo_ok hx
  rw [upd_ne c] at z
  by_cases c2 : b = dx
  · subst c2
    rw [upd_same] at z
    cases z
    exact exd_ok hn (relO_put (fs := []) ry fun _ => True.intro)
  rw [upd_ne c2] at z
  refine (I.hok b o z).stay (fun b2 v hc k => kept b2 v ?_ k) (fun b2 hc => stays hc fun d => exo_own.symm) (fun b2 xs hc => stays hc fun d => exo_tup.symm)
  rcases hc with rfl | hc
  · exact c
  · exact at_ne e hc exo_own
/-- B.__init__(self, ..) -/
theorem own_start {us : List Value} {Q : Value → Shared → Prop} (T : OvC X.K C B newId initId bm) (I : Inv X pins σ H s) (e : H a = some (exo a C none)) (few : us.length ≤ sizeLine) (back : ∀ s1, Inv X pins σ H s1 → Q .none s1) :
    wpAny (model X.prog X.w) A (call (.builtin initId) (.ref a :: us)) Q E s := by
  obtain ⟨nm, qn, N, bs, rest, sn, sub, ab, col, dd, a0, a1, a2, a3, a5, look, has, _⟩ := T.cls
  obtain ⟨tt, here⟩ := exo_at I.hok e
  cases s with
  | mk h0 g0 d0 t0 o0 =>
  refine wpAny_call (PySem.HandSPX.init_base T.facts has (I.kIn _ _ look) here few ?_)
  intro h1 t1 kept hx
  have J := I.write (t' := t0) (x := a) (e := a) (o := exo a C none) (by rw [e]; exact True.intro) (.inl rfl) kept ⟨_, hx⟩ (exo_ok hx)
  rw [upd_back e] at J
  exact back _ J
end
theorem ty_IndexError : typeOf (.type "IndexError") = pure (.type "type") := by kernel_rfl
theorem ty_RuntimeError : typeOf (.type "RuntimeError") = pure (.type "type") := by kernel_rfl
theorem ty_OverflowError : typeOf (.type "OverflowError") = pure (.type "type") := by kernel_rfl
theorem boot_RuntimeError : bootBuiltins "RuntimeError" = some (.type "RuntimeError") := by decide +kernel
/-- B.__init__(self, ..), B a class of Python's -/
def tBase (K : PySem.W.Frag) (B initId : String) (ta : TA) : TE := fun σ H Q => ta σ H fun vs H1 => ∃ (a C : Addr) (ws : List V), vs = .ref a :: ws ∧ ws.length ≤ 1000 ∧ (∃ newId bm, OvC K C B newId initId bm) ∧ H1 a = some (exo a C none) ∧ Q .non H1
/-- self.f = e, the first of an exception -/
def tPut (K : PySem.W.Frag) (f : Str) (to te : TE) : TS := fun D σ H => te σ H fun y H1 => to σ H1 fun x H2 => ∃ a C : Addr, x = .ref a ∧ (∃ B newId initId bm, OvC K C B newId initId bm) ∧ PySem.W.findIn K (.ref C) f = some none ∧
  H2 a = some (exo a C none) ∧ ∀ dx, H2 dx = none → dx ≠ a → D.nx σ (upd (upd H2 dx (exd dx [(f, y)])) a (exo a C (some dx)))
section
variable {X : Cx} {B newId initId : String} {bm : List Value} {e o : Expr} {es : List Expr} {ta : TA} {to te : TE} {f : Str} {p p' p1 p2 pos : Pos}
theorem pe_base {pl : Sem Bool} (ty : typeOf (.type B) = pure (.type "type")) (boot : bootBuiltins (Str.ofString B) = some (.type B)) (hg : Gl X (Str.ofString B)) (hm : X.mg (Str.ofString B) = none)
    (vI : PySem.W.findCls X.K (.type B) (.type "type") "__init__" = some (.val (.builtin initId))) (ha : PA X (e :: es) ta) (n1 : Str.ofString B ≠ "__name__") (n2 : (Str.ofString B == ("__debug__" : Str)) = false) (st : Manifest.isStub B = false) (hh : PySem.W.handedIn (.builtin initId) = true)
    (call : eval (.Call (.Attribute (.Name (Str.ofString B) p1) "__init__" p2) (e :: es) [] pos) X.env = (do
      let ov ← eval (.Name (Str.ofString B) p1) X.env
      standAt p2.atName
      let (f, first) ← holding [ov] (getMethod ov "__init__" pl)
      callWith pos f first (backTo pos (starEach (e :: es) X.env)) (backToKw pos (keywordEach [] X.env))) := by rfl)
    (each : starEach (e :: es) X.env = (false, eval e X.env) :: starEach es X.env := by rfl) (plain : (backTo pos (starEach es X.env)).any (·.1) = false := by rfl) :
    PE X (.Call (.Attribute (.Name (Str.ofString B) p1) "__init__" p2) (e :: es) [] pos) (tBase X.K B initId ta) := by
  constructor
  intro pins s σ H Q I h
  refine PySem.W.methodCall_KW (ld_blt I hg hm boot ?_ n1 n2) call
  obtain ⟨m, fr⟩ := I.fr
  refine PySem.W.method_type fr I.ok.mod.kin ty st vI hh ?_
  show wpAny _ _ (callWith pos (Value.builtin initId) [] (backTo pos (starEach (e :: es) X.env)) []) _ _ _
  refine PyProof.Rows.callWith_method1 (thn (ha.run pos pins _ σ H _ (I.tok _) h) ?_) each plain
  rintro us s1 ⟨vs, H1, I1, r1, a, C, ws, ev, few, ⟨newId, bm, T⟩, ea, q⟩
  subst ev
  cases r1 with
  | @cons _ u0 _ ur ra rr =>
    cases (show u0 = Value.ref a from ra)
    refine own_start T I1 ea ?_ fun s2 J => ⟨.non, H1, J, rfl, q⟩
    rw [← Paired.length rr]
    exact Nat.le_of_lt (small1000 few)
theorem ps_put (ho : PE X o to) (he : PE X e te) (hs : swapsWith e (some (.Attribute o f p')) pos.line X.env = pure false := by rfl) : PS X (.Assign [.Attribute o f p'] e pos) (tPut X.K f to te) := by
  constructor
  intro pins s σ H D I h
  refine plainObj_wpAny_Assign_Attribute (thn (he.run pins s σ H _ I h) ?_) hs
  rintro v s1 ⟨y, H1, I1, r1, q1⟩
  refine thn (ho.run pins s1 σ H1 _ I1 q1) ?_
  rintro u s2 ⟨x, H2, I2, r2, a, C, rfl, ⟨_, _, _, _, T⟩, no, ea, q⟩
  cases (show u = Value.ref a from r2)
  exact own_put T I2 ea no r1 fun dx s3 n ne J => ⟨σ, _, J, q dx n ne⟩
/-- C(e, ..) of such a class, for a raise -/
theorem pmk_own {CX : CXT} {x : Str} {C fI : Addr} {k : Nat} {fd : FuncData} {ps : List Str} {sp : Sp} {ds : List Value} {dvs : List V} (T : OvC X.K C B newId initId bm) (iC : PySem.W.findIn X.K (.ref C) "__init__" = some (some (.ref fI))) (tI : PySem.W.typeIn X.K (.ref fI) = some (.type "function"))
    (F1 : FnOk X.prog X.w X.K X.mg X.base CX k fI fd ps sp) (hr : Room (k + 1) X.A) (hb : Binds X.K fd ps ds) (hd : Vals dvs ds) (hx : Passes CX X (fun _ _ _ => False)) (hg : Gl X x) (hm : X.mg x = some (.ref C)) (ha : PA X (e :: es) ta)
    (ndb : (x == ("__debug__" : Str)) = false := by decide) (each : starEach (e :: es) X.env = (false, eval e X.env) :: starEach es X.env := by rfl) (plain : (backTo pos (starEach es X.env)).any (·.1) = false := by rfl) :
    PMk X (.Call (.Name x p) (e :: es) [] pos) (tMkO C sp dvs ta) := by
  intro pins s σ H Q I h
  obtain ⟨nm, qn, N, bs, rest, sn, sub, ab, col, dd, a0, a1, a2, a3, a5, look, has, _⟩ := T.cls
  refine wpAny_Call_Name_kw (ld_glob I hg hm ?_ ndb)
  refine PySem.W.callWith_K (h₀ := X.base) I.ok.mod.kin T.kC (thn (ha.run pos pins s σ H _ I h) ?_) each plain
  rintro us s1 ⟨vs, H1, I1, r1, few, q1⟩
  refine ⟨I1.kIn, ?_⟩
  show wpAny _ _ (call (.ref C) us) _ _ _
  cases s1 with
  | mk h1 g1 d1 t1 o1 =>
  have le1 : h1.objs.size ≤ h1.objs.size + 1 := Nat.le_add_right _ 1
  obtain ⟨a, ea⟩ : ∃ a, h1.objs.size + 1 = a := ⟨_, rfl⟩
  have na : H1 a = none := by rw [← ea]; exact I1.hok.fresh le1
  have spa := q1 a na
  obtain ⟨hN, eN⟩ : ∃ hN, (h1.push (PySem.W.kdv_tup us)).push (PySem.HandSPX.excO C h1.objs.size) = hN := ⟨_, rfl⟩
  have grow : ∀ b o, h1.get? b = some o → hN.get? b = some o := fun b o z => by
    rw [← eN]
    exact Heap.get?_push_of_some _ (Heap.get?_push_of_some _ z)
  have there : hN.get? a = some (PySem.HandSPX.excO C h1.objs.size) := by
    rw [← eN, ← ea]
    heap_get
  have I2 : Inv X pins σ (upd H1 a (exo a C none)) ⟨hN, g1, d1, t1, o1⟩ := I1.laid (t' := t1) (a := a) (o := exo a C none) (h' := hN) grow (by rw [← ea]; exact le1) (exo_ok there)
  have rel : Vals (V.ref a :: (vs ++ dvs)) (Value.ref a :: (us ++ ds)) := .cons rfl (r1.append hd)
  have len : (Value.ref a :: us ++ ds).length = ps.length := (rel.length.symm.trans (F1.len _ _ _ _ spa))
  have fewU : us.length ≤ sizeLine := by
    rw [← Paired.length r1]
    exact Nat.le_of_lt (small1000 few)
  refine wpAny_call (PySem.HandSPX.call_own T.facts has (I1.kIn _ _ look) (PySem.W.looks_findIn I1.kIn iC) (fun self => PySem.W.bind_fn I1.kIn self tI) fewU ?_)
  rw [ea, eN]
  refine codeAny_mono (F1.run _ X.stack _ _ ⟨Value.ref a :: us, []⟩ (Value.ref a :: (us ++ ds)) _ _ (fun _ _ _ => False) (hr.make C us []) (I2.env0.make C us []) (hb _ (Value.ref a :: us) I2.kIn len) rel spa) ?_
  intro r s2 back
  cases r with
  | error er => exact hx pins σ _ _ er s2 I2 back
  | ok fl =>
    cases fl with
    | ret u =>
      obtain ⟨v, H2, os2, bare2, un2, hok2, rv, ev, d, fs, e1, e2, e3, q2⟩ := back
      subst ev
      cases s2 with
      | mk h2 g2 d2 t2 o2 => exact ⟨rv, mk_end (raises_own T.exC T.tyC) I1 (by rw [← ea]; exact le1) grow un2 hok2 os2 bare2 e1 e2 e3 q2⟩
    | _ => exact False.elim back
end
/-- such an exception's own __init__, that keeps one thing -/
def spInitO (C : Addr) (f : Str) : Sp := spInitF C f
end Lh

namespace Lh
open PySem PySem.Spec PyProof.Rows L2
def topS (i : Nat) : Stmt := PySem.Challenge.pw_lesserhall_k49_held_and_tied.main.body.getD i (.Pass ⟨0, 0, 0, 0⟩)
abbrev s__wall : Stmt := topS 0
abbrev n__wall : List Str := ["k"]
abbrev p__wall : List Str := ["k"]
theorem sc__wall : FnScope n__wall p__wall (defScope s__wall) := ⟨rfl, rfl, rfl, by decide +kernel, rfl, by decide +kernel, by decide +kernel⟩
abbrev s_NoSum_init : Stmt := inClass (topS 4) 0
abbrev n_NoSum_init : List Str := ["self", "person"]
abbrev p_NoSum_init : List Str := ["self", "person"]
theorem sc_NoSum_init : FnScope n_NoSum_init p_NoSum_init (defScope s_NoSum_init) := ⟨rfl, rfl, rfl, by decide +kernel, rfl, by decide +kernel, by decide +kernel⟩
abbrev s_NoPerson_init : Stmt := inClass (topS 5) 0
abbrev n_NoPerson_init : List Str := ["self", "person"]
abbrev p_NoPerson_init : List Str := ["self", "person"]
theorem sc_NoPerson_init : FnScope n_NoPerson_init p_NoPerson_init (defScope s_NoPerson_init) := ⟨rfl, rfl, rfl, by decide +kernel, rfl, by decide +kernel, by decide +kernel⟩
abbrev s_is_number : Stmt := topS 7
abbrev n_is_number : List Str := ["thing"]
abbrev p_is_number : List Str := ["thing"]
theorem sc_is_number : FnScope n_is_number p_is_number (defScope s_is_number) := ⟨rfl, rfl, rfl, by decide +kernel, rfl, by decide +kernel, by decide +kernel⟩
abbrev s_is_person : Stmt := topS 8
abbrev n_is_person : List Str := ["many", "thing"]
abbrev p_is_person : List Str := ["many", "thing"]
theorem sc_is_person : FnScope n_is_person p_is_person (defScope s_is_person) := ⟨rfl, rfl, rfl, by decide +kernel, rfl, by decide +kernel, by decide +kernel⟩
abbrev s_are_persons : Stmt := topS 9
abbrev n_are_persons : List Str := ["many", "thing", "one"]
abbrev p_are_persons : List Str := ["many", "thing"]
theorem sc_are_persons : FnScope n_are_persons p_are_persons (defScope s_are_persons) := ⟨rfl, rfl, rfl, by decide +kernel, rfl, by decide +kernel, by decide +kernel⟩
abbrev s_rises : Stmt := topS 10
abbrev n_rises : List Str := ["things", "one", "other"]
abbrev p_rises : List Str := ["things"]
theorem sc_rises : FnScope n_rises p_rises (defScope s_rises) := ⟨rfl, rfl, rfl, by decide +kernel, rfl, by decide +kernel, by decide +kernel⟩
abbrev s_is_rule : Stmt := topS 13
abbrev n_is_rule : List Str := ["many", "thing", "parts", "part", "piece"]
abbrev p_is_rule : List Str := ["many", "thing"]
theorem sc_is_rule : FnScope n_is_rule p_is_rule (defScope s_is_rule) := ⟨rfl, rfl, rfl, by decide +kernel, rfl, by decide +kernel, by decide +kernel⟩
abbrev s_is_part : Stmt := topS 14
abbrev n_is_part : List Str := ["many", "part", "thing"]
abbrev p_is_part : List Str := ["many", "part", "thing"]
theorem sc_is_part : FnScope n_is_part p_is_part (defScope s_is_part) := ⟨rfl, rfl, rfl, by decide +kernel, rfl, by decide +kernel, by decide +kernel⟩
abbrev s_are_ties : Stmt := topS 15
abbrev n_are_ties : List Str := ["many", "thing", "one", "person", "weight"]
abbrev p_are_ties : List Str := ["many", "thing"]
theorem sc_are_ties : FnScope n_are_ties p_are_ties (defScope s_are_ties) := ⟨rfl, rfl, rfl, by decide +kernel, rfl, by decide +kernel, by decide +kernel⟩
abbrev s_is_tie : Stmt := topS 16
abbrev n_is_tie : List Str := ["many", "thing"]
abbrev p_is_tie : List Str := ["many", "thing"]
theorem sc_is_tie : FnScope n_is_tie p_is_tie (defScope s_is_tie) := ⟨rfl, rfl, rfl, by decide +kernel, rfl, by decide +kernel, by decide +kernel⟩
abbrev s_seen_by : Stmt := topS 17
abbrev n_seen_by : List Str := ["rule", "word", "person", "weight"]
abbrev p_seen_by : List Str := ["rule"]
theorem sc_seen_by : FnScope n_seen_by p_seen_by (defScope s_seen_by) := ⟨rfl, rfl, rfl, by decide +kernel, rfl, by decide +kernel, by decide +kernel⟩
abbrev s_ties_of : Stmt := topS 18
abbrev n_ties_of : List Str := ["rule", "person"]
abbrev p_ties_of : List Str := ["rule"]
theorem sc_ties_of : FnScope n_ties_of p_ties_of (defScope s_ties_of) := ⟨rfl, rfl, rfl, by decide +kernel, rfl, by decide +kernel, by decide +kernel⟩
abbrev s_tied_so : Stmt := topS 19
abbrev n_tied_so : List Str := ["rule", "ties", "word", "person", "weight"]
abbrev p_tied_so : List Str := ["rule", "ties"]
theorem sc_tied_so : FnScope n_tied_so p_tied_so (defScope s_tied_so) := ⟨rfl, rfl, rfl, by decide +kernel, rfl, by decide +kernel, by decide +kernel⟩
abbrev s_told_of : Stmt := topS 20
abbrev n_told_of : List Str := ["rule", "lot", "word", "numbers", "person", "number"]
abbrev p_told_of : List Str := ["rule", "lot"]
theorem sc_told_of : FnScope n_told_of p_told_of (defScope s_told_of) := ⟨rfl, rfl, rfl, by decide +kernel, rfl, by decide +kernel, by decide +kernel⟩
abbrev s_weighed : Stmt := topS 21
abbrev n_weighed : List Str := ["rule", "lot", "weights", "person", "number"]
abbrev p_weighed : List Str := ["rule", "lot"]
theorem sc_weighed : FnScope n_weighed p_weighed (defScope s_weighed) := ⟨rfl, rfl, rfl, by decide +kernel, rfl, by decide +kernel, by decide +kernel⟩
abbrev s_least_free : Stmt := topS 22
abbrev n_least_free : List Str := ["numbers", "least"]
abbrev p_least_free : List Str := ["numbers"]
theorem sc_least_free : FnScope n_least_free p_least_free (defScope s_least_free) := ⟨rfl, rfl, rfl, by decide +kernel, rfl, by decide +kernel, by decide +kernel⟩
abbrev s_Hall_init : Stmt := inClass (topS 24) 0
abbrev n_Hall_init : List Str := ["self", "rules", "person", "rule"]
abbrev p_Hall_init : List Str := ["self", "rules"]
theorem sc_Hall_init : FnScope n_Hall_init p_Hall_init (defScope s_Hall_init) := ⟨rfl, rfl, rfl, by decide +kernel, rfl, by decide +kernel, by decide +kernel⟩
abbrev s_Hall_must_have : Stmt := inClass (topS 24) 1
abbrev n_Hall_must_have : List Str := ["self", "person"]
abbrev p_Hall_must_have : List Str := ["self", "person"]
theorem sc_Hall_must_have : FnScope n_Hall_must_have p_Hall_must_have (defScope s_Hall_must_have) := ⟨rfl, rfl, rfl, by decide +kernel, rfl, by decide +kernel, by decide +kernel⟩
abbrev s_Hall_rules : Stmt := inClass (topS 24) 2
abbrev n_Hall_rules : List Str := ["self"]
abbrev p_Hall_rules : List Str := ["self"]
theorem sc_Hall_rules : FnScope n_Hall_rules p_Hall_rules (defScope s_Hall_rules) := ⟨rfl, rfl, rfl, by decide +kernel, rfl, by decide +kernel, by decide +kernel⟩
abbrev s_Hall_rule : Stmt := inClass (topS 24) 3
abbrev n_Hall_rule : List Str := ["self", "person"]
abbrev p_Hall_rule : List Str := ["self", "person"]
theorem sc_Hall_rule : FnScope n_Hall_rule p_Hall_rule (defScope s_Hall_rule) := ⟨rfl, rfl, rfl, by decide +kernel, rfl, by decide +kernel, by decide +kernel⟩
abbrev s_Hall_sees : Stmt := inClass (topS 24) 4
abbrev n_Hall_sees : List Str := ["self", "person"]
abbrev p_Hall_sees : List Str := ["self", "person"]
theorem sc_Hall_sees : FnScope n_Hall_sees p_Hall_sees (defScope s_Hall_sees) := ⟨rfl, rfl, rfl, by decide +kernel, rfl, by decide +kernel, by decide +kernel⟩
abbrev s_Hall_seers : Stmt := inClass (topS 24) 5
abbrev n_Hall_seers : List Str := ["self", "person"]
abbrev p_Hall_seers : List Str := ["self", "person"]
theorem sc_Hall_seers : FnScope n_Hall_seers p_Hall_seers (defScope s_Hall_seers) := ⟨rfl, rfl, rfl, by decide +kernel, rfl, by decide +kernel, by decide +kernel⟩
abbrev s_Hall_eq : Stmt := inClass (topS 24) 6
abbrev n_Hall_eq : List Str := ["self", "other"]
abbrev p_Hall_eq : List Str := ["self", "other"]
theorem sc_Hall_eq : FnScope n_Hall_eq p_Hall_eq (defScope s_Hall_eq) := ⟨rfl, rfl, rfl, by decide +kernel, rfl, by decide +kernel, by decide +kernel⟩
abbrev s_Hall_len : Stmt := inClass (topS 24) 7
abbrev n_Hall_len : List Str := ["self"]
abbrev p_Hall_len : List Str := ["self"]
theorem sc_Hall_len : FnScope n_Hall_len p_Hall_len (defScope s_Hall_len) := ⟨rfl, rfl, rfl, by decide +kernel, rfl, by decide +kernel, by decide +kernel⟩
abbrev s_Hall_repr : Stmt := inClass (topS 24) 8
abbrev n_Hall_repr : List Str := ["self"]
abbrev p_Hall_repr : List Str := ["self"]
theorem sc_Hall_repr : FnScope n_Hall_repr p_Hall_repr (defScope s_Hall_repr) := ⟨rfl, rfl, rfl, by decide +kernel, rfl, by decide +kernel, by decide +kernel⟩
abbrev s_with_rule : Stmt := topS 26
abbrev n_with_rule : List Str := ["hall", "person", "rule", "rules"]
abbrev p_with_rule : List Str := ["hall", "person", "rule"]
theorem sc_with_rule : FnScope n_with_rule p_with_rule (defScope s_with_rule) := ⟨rfl, rfl, rfl, by decide +kernel, rfl, by decide +kernel, by decide +kernel⟩
abbrev s_held_at : Stmt := topS 27
abbrev n_held_at : List Str := ["hall", "person", "number"]
abbrev p_held_at : List Str := ["hall", "person", "number"]
theorem sc_held_at : FnScope n_held_at p_held_at (defScope s_held_at) := ⟨rfl, rfl, rfl, by decide +kernel, rfl, by decide +kernel, by decide +kernel⟩
abbrev s_tied : Stmt := topS 28
abbrev n_tied : List Str := ["hall", "person", "other", "weight", "rule", "ties", "tie"]
abbrev p_tied : List Str := ["hall", "person", "other", "weight"]
theorem sc_tied : FnScope n_tied p_tied (defScope s_tied) := ⟨rfl, rfl, rfl, by decide +kernel, rfl, by decide +kernel, by decide +kernel⟩
abbrev s_lot_below : Stmt := topS 30
abbrev n_lot_below : List Str := ["hall", "standing", "person", "bound", "other"]
abbrev p_lot_below : List Str := ["hall", "standing", "person", "bound"]
theorem sc_lot_below : FnScope n_lot_below p_lot_below (defScope s_lot_below) := ⟨rfl, rfl, rfl, by decide +kernel, rfl, by decide +kernel, by decide +kernel⟩
abbrev s_told_below : Stmt := topS 31
abbrev n_told_below : List Str := ["hall", "standing", "person", "bound"]
abbrev p_told_below : List Str := ["hall", "standing", "person", "bound"]
theorem sc_told_below : FnScope n_told_below p_told_below (defScope s_told_below) := ⟨rfl, rfl, rfl, by decide +kernel, rfl, by decide +kernel, by decide +kernel⟩
abbrev s_told_at : Stmt := topS 32
abbrev n_told_at : List Str := ["hall", "standing", "person"]
abbrev p_told_at : List Str := ["hall", "standing", "person"]
theorem sc_told_at : FnScope n_told_at p_told_at (defScope s_told_at) := ⟨rfl, rfl, rfl, by decide +kernel, rfl, by decide +kernel, by decide +kernel⟩
abbrev s_turned : Stmt := topS 33
abbrev n_turned : List Str := ["hall", "standing", "persons", "shown", "person"]
abbrev p_turned : List Str := ["hall", "standing", "persons"]
theorem sc_turned : FnScope n_turned p_turned (defScope s_turned) := ⟨rfl, rfl, rfl, by decide +kernel, rfl, by decide +kernel, by decide +kernel⟩
abbrev s_beaten : Stmt := topS 35
abbrev n_beaten : List Str := ["hall", "standing"]
abbrev p_beaten : List Str := ["hall", "standing"]
theorem sc_beaten : FnScope n_beaten p_beaten (defScope s_beaten) := ⟨rfl, rfl, rfl, by decide +kernel, rfl, by decide +kernel, by decide +kernel⟩
abbrev s_history : Stmt := topS 36
abbrev n_history : List Str := ["hall", "standing", "many", "standings"]
abbrev p_history : List Str := ["hall", "standing", "many"]
theorem sc_history : FnScope n_history p_history (defScope s_history) := ⟨rfl, rfl, rfl, by decide +kernel, rfl, by decide +kernel, by decide +kernel⟩
abbrev s_dip : Stmt := topS 38
abbrev n_dip : List Str := ["_law_script", "_law_k", "_law_cell"]
abbrev p_dip : List Str := ["_law_script", "_law_k"]
theorem sc_dip : FnScope n_dip p_dip (defScope s_dip) := ⟨rfl, rfl, rfl, by decide +kernel, rfl, by decide +kernel, by decide +kernel⟩
abbrev s_take : Stmt := topS 39
abbrev n_take : List Str := ["_law_box", "_law_many", "_law_found", "_law_once", "_law_pair"]
abbrev p_take : List Str := ["_law_box", "_law_many"]
theorem sc_take : FnScope n_take p_take (defScope s_take) := ⟨rfl, rfl, rfl, by decide +kernel, rfl, by decide +kernel, by decide +kernel⟩
abbrev s_folded : Stmt := topS 40
abbrev n_folded : List Str := ["_law_script", "_law_many", "_law_cells", "_law_k", "_law_cell"]
abbrev p_folded : List Str := ["_law_script", "_law_many"]
theorem sc_folded : FnScope n_folded p_folded (defScope s_folded) := ⟨rfl, rfl, rfl, by decide +kernel, rfl, by decide +kernel, by decide +kernel⟩
abbrev s_strewn : Stmt := topS 41
abbrev n_strewn : List Str := ["_law_box", "_law_pool", "_law_found", "_law_one"]
abbrev p_strewn : List Str := ["_law_box", "_law_pool"]
theorem sc_strewn : FnScope n_strewn p_strewn (defScope s_strewn) := ⟨rfl, rfl, rfl, by decide +kernel, rfl, by decide +kernel, by decide +kernel⟩
abbrev s_same : Stmt := topS 42
abbrev n_same : List Str := ["_law_found", "_law_due_here", "_law_one", "_law_two"]
abbrev p_same : List Str := ["_law_found", "_law_due_here"]
theorem sc_same : FnScope n_same p_same (defScope s_same) := ⟨rfl, rfl, rfl, by decide +kernel, rfl, by decide +kernel, by decide +kernel⟩
abbrev s_some : Stmt := topS 43
abbrev n_some : List Str := ["_law_box", "_law_pool", "_law_odds", "_law_one"]
abbrev p_some : List Str := ["_law_box", "_law_pool", "_law_odds"]
theorem sc_some : FnScope n_some p_some (defScope s_some) := ⟨rfl, rfl, rfl, by decide +kernel, rfl, by decide +kernel, by decide +kernel⟩
abbrev s_sum_rule : Stmt := topS 44
abbrev n_sum_rule : List Str := ["_law_box", "_law_seen_here", "_law_far", "_law_own", "_law_ties", "_law_one"]
abbrev p_sum_rule : List Str := ["_law_box", "_law_seen_here", "_law_far"]
theorem sc_sum_rule : FnScope n_sum_rule p_sum_rule (defScope s_sum_rule) := ⟨rfl, rfl, rfl, by decide +kernel, rfl, by decide +kernel, by decide +kernel⟩
abbrev s_rule : Stmt := topS 45
abbrev n_rule : List Str := ["_law_box", "_law_many", "_law_pool", "_law_far", "_law_seen_here", "_law_way"]
abbrev p_rule : List Str := ["_law_box", "_law_many", "_law_pool", "_law_far"]
theorem sc_rule : FnScope n_rule p_rule (defScope s_rule) := ⟨rfl, rfl, rfl, by decide +kernel, rfl, by decide +kernel, by decide +kernel⟩
abbrev s_hall : Stmt := topS 46
abbrev n_hall : List Str := ["_law_box", "_law_many", "_law_rules", "_law_one", "_law_seen_here", "_law_other"]
abbrev p_hall : List Str := ["_law_box"]
theorem sc_hall : FnScope n_hall p_hall (defScope s_hall) := ⟨rfl, rfl, rfl, by decide +kernel, rfl, by decide +kernel, by decide +kernel⟩
abbrev s_flat : Stmt := topS 47
abbrev n_flat : List Str := ["_law_box", "_law_most", "_law_many", "_law_order", "_law_rules", "_law_k", "_law_one"]
abbrev p_flat : List Str := ["_law_box", "_law_most"]
theorem sc_flat : FnScope n_flat p_flat (defScope s_flat) := ⟨rfl, rfl, rfl, by decide +kernel, rfl, by decide +kernel, by decide +kernel⟩
abbrev s_shown : Stmt := topS 48
abbrev n_shown : List Str := ["_law_box", "_law_rules", "_law_way", "_law_found", "_law_rule_here"]
abbrev p_shown : List Str := ["_law_box", "_law_rules"]
theorem sc_shown : FnScope n_shown p_shown (defScope s_shown) := ⟨rfl, rfl, rfl, by decide +kernel, rfl, by decide +kernel, by decide +kernel⟩
abbrev s_seen : Stmt := topS 49
abbrev n_seen : List Str := ["_law_rule_here", "_law_one"]
abbrev p_seen : List Str := ["_law_rule_here"]
theorem sc_seen : FnScope n_seen p_seen (defScope s_seen) := ⟨rfl, rfl, rfl, by decide +kernel, rfl, by decide +kernel, by decide +kernel⟩
abbrev s_lot : Stmt := topS 50
abbrev n_lot : List Str := ["_law_rules", "_law_shown_here", "_law_one", "_law_other", "_law_weight"]
abbrev p_lot : List Str := ["_law_rules", "_law_shown_here", "_law_one"]
theorem sc_lot : FnScope n_lot p_lot (defScope s_lot) := ⟨rfl, rfl, rfl, by decide +kernel, rfl, by decide +kernel, by decide +kernel⟩
abbrev s_tells : Stmt := topS 51
abbrev n_tells : List Str := ["_law_rule_here", "_law_lot_here", "_law_word", "_law_numbers", "_law_other", "_law_number", "_law_k", "_law_weights", "_law_there", "_law_total"]
abbrev p_tells : List Str := ["_law_rule_here", "_law_lot_here"]
theorem sc_tells : FnScope n_tells p_tells (defScope s_tells) := ⟨rfl, rfl, rfl, by decide +kernel, rfl, by decide +kernel, by decide +kernel⟩
abbrev s_law_turned : Stmt := topS 52
abbrev n_law_turned : List Str := ["_law_rules", "_law_shown_here", "_law_persons", "_law_told_here", "_law_one", "_law_number"]
abbrev p_law_turned : List Str := ["_law_rules", "_law_shown_here", "_law_persons"]
theorem sc_law_turned : FnScope n_law_turned p_law_turned (defScope s_law_turned) := ⟨rfl, rfl, rfl, by decide +kernel, rfl, by decide +kernel, by decide +kernel⟩
abbrev s_law_beaten : Stmt := topS 53
abbrev n_law_beaten : List Str := ["_law_rules", "_law_shown_here"]
abbrev p_law_beaten : List Str := ["_law_rules", "_law_shown_here"]
theorem sc_law_beaten : FnScope n_law_beaten p_law_beaten (defScope s_law_beaten) := ⟨rfl, rfl, rfl, by decide +kernel, rfl, by decide +kernel, by decide +kernel⟩
abbrev s_tied_rule : Stmt := topS 54
abbrev n_tied_rule : List Str := ["_law_rule_here", "_law_to", "_law_weight", "_law_ties", "_law_made", "_law_one"]
abbrev p_tied_rule : List Str := ["_law_rule_here", "_law_to", "_law_weight"]
theorem sc_tied_rule : FnScope n_tied_rule p_tied_rule (defScope s_tied_rule) := ⟨rfl, rfl, rfl, by decide +kernel, rfl, by decide +kernel, by decide +kernel⟩
abbrev s_told : Stmt := topS 55
abbrev n_told : List Str := ["_law_site", "_law_one", "_law_to", "_law_weight", "_law_caught", "_law_found", "error", "_law_kinds", "_law_bases"]
abbrev p_told : List Str := ["_law_site", "_law_one", "_law_to", "_law_weight"]
theorem sc_told : FnScope n_told p_told (defScope s_told) := ⟨rfl, rfl, rfl, by decide +kernel, rfl, by decide +kernel, by decide +kernel⟩
abbrev s_due : Stmt := topS 56
abbrev n_due : List Str := ["_law_rules", "_law_one", "_law_to", "_law_weight", "_law_who", "_law_made"]
abbrev p_due : List Str := ["_law_rules", "_law_one", "_law_to", "_law_weight"]
theorem sc_due : FnScope n_due p_due (defScope s_due) := ⟨rfl, rfl, rfl, by decide +kernel, rfl, by decide +kernel, by decide +kernel⟩
abbrev s_right : Stmt := topS 57
abbrev n_right : List Str := ["_law_box", "_law_rules", "_law_site", "_law_many", "_law_turn", "_law_ends", "_law_spot", "_law_far", "_law_one", "_law_to", "_law_weight", "_law_rule_here", "_law_old", "_law_its", "_law_made", "_law_shown_here", "_law_rows"]
abbrev p_right : List Str := ["_law_box"]
theorem sc_right : FnScope n_right p_right (defScope s_right) := ⟨rfl, rfl, rfl, by decide +kernel, rfl, by decide +kernel, by decide +kernel⟩
abbrev s_law : Stmt := topS 58
abbrev n_law : List Str := ["_law_script", "_law_cells", "_law_k"]
abbrev p_law : List Str := ["_law_script"]
theorem sc_law : FnScope n_law p_law (defScope s_law) := ⟨rfl, rfl, rfl, by decide +kernel, rfl, by decide +kernel, by decide +kernel⟩
structure FnT (K : PySem.W.Frag) (nm qual : Str) (st : Stmt) (ps : List Str) where
  f : Addr
  fd : FuncData
  F : Fun K nm qual st f fd
  b : Binds K fd ps []
structure Txt (K : PySem.W.Frag) (mg : Str → Option Value) (w : World) where
  t__wall : FnT K "_wall" "_wall" s__wall p__wall
  g__wall : mg "_wall" = some (.ref t__wall.f)
  t_NoSum_init : FnT K "__init__" "NoSum.__init__" s_NoSum_init p_NoSum_init
  t_NoPerson_init : FnT K "__init__" "NoPerson.__init__" s_NoPerson_init p_NoPerson_init
  t_is_number : FnT K "is_number" "is_number" s_is_number p_is_number
  g_is_number : mg "is_number" = some (.ref t_is_number.f)
  t_is_person : FnT K "is_person" "is_person" s_is_person p_is_person
  g_is_person : mg "is_person" = some (.ref t_is_person.f)
  t_are_persons : FnT K "are_persons" "are_persons" s_are_persons p_are_persons
  g_are_persons : mg "are_persons" = some (.ref t_are_persons.f)
  t_rises : FnT K "rises" "rises" s_rises p_rises
  g_rises : mg "rises" = some (.ref t_rises.f)
  t_is_rule : FnT K "is_rule" "is_rule" s_is_rule p_is_rule
  g_is_rule : mg "is_rule" = some (.ref t_is_rule.f)
  t_is_part : FnT K "is_part" "is_part" s_is_part p_is_part
  g_is_part : mg "is_part" = some (.ref t_is_part.f)
  t_are_ties : FnT K "are_ties" "are_ties" s_are_ties p_are_ties
  g_are_ties : mg "are_ties" = some (.ref t_are_ties.f)
  t_is_tie : FnT K "is_tie" "is_tie" s_is_tie p_is_tie
  g_is_tie : mg "is_tie" = some (.ref t_is_tie.f)
  t_seen_by : FnT K "seen_by" "seen_by" s_seen_by p_seen_by
  g_seen_by : mg "seen_by" = some (.ref t_seen_by.f)
  t_ties_of : FnT K "ties_of" "ties_of" s_ties_of p_ties_of
  g_ties_of : mg "ties_of" = some (.ref t_ties_of.f)
  t_tied_so : FnT K "tied_so" "tied_so" s_tied_so p_tied_so
  g_tied_so : mg "tied_so" = some (.ref t_tied_so.f)
  t_told_of : FnT K "told_of" "told_of" s_told_of p_told_of
  g_told_of : mg "told_of" = some (.ref t_told_of.f)
  t_weighed : FnT K "weighed" "weighed" s_weighed p_weighed
  g_weighed : mg "weighed" = some (.ref t_weighed.f)
  t_least_free : FnT K "least_free" "least_free" s_least_free p_least_free
  g_least_free : mg "least_free" = some (.ref t_least_free.f)
  t_Hall_init : FnT K "__init__" "Hall.__init__" s_Hall_init p_Hall_init
  t_Hall_must_have : FnT K "must_have" "Hall.must_have" s_Hall_must_have p_Hall_must_have
  t_Hall_rules : FnT K "rules" "Hall.rules" s_Hall_rules p_Hall_rules
  t_Hall_rule : FnT K "rule" "Hall.rule" s_Hall_rule p_Hall_rule
  t_Hall_sees : FnT K "sees" "Hall.sees" s_Hall_sees p_Hall_sees
  t_Hall_seers : FnT K "seers" "Hall.seers" s_Hall_seers p_Hall_seers
  t_Hall_eq : FnT K "__eq__" "Hall.__eq__" s_Hall_eq p_Hall_eq
  t_Hall_len : FnT K "__len__" "Hall.__len__" s_Hall_len p_Hall_len
  t_Hall_repr : FnT K "__repr__" "Hall.__repr__" s_Hall_repr p_Hall_repr
  t_with_rule : FnT K "with_rule" "with_rule" s_with_rule p_with_rule
  g_with_rule : mg "with_rule" = some (.ref t_with_rule.f)
  t_held_at : FnT K "held_at" "held_at" s_held_at p_held_at
  g_held_at : mg "held_at" = some (.ref t_held_at.f)
  t_tied : FnT K "tied" "tied" s_tied p_tied
  g_tied : mg "tied" = some (.ref t_tied.f)
  t_lot_below : FnT K "lot_below" "lot_below" s_lot_below p_lot_below
  g_lot_below : mg "lot_below" = some (.ref t_lot_below.f)
  t_told_below : FnT K "told_below" "told_below" s_told_below p_told_below
  g_told_below : mg "told_below" = some (.ref t_told_below.f)
  t_told_at : FnT K "told_at" "told_at" s_told_at p_told_at
  g_told_at : mg "told_at" = some (.ref t_told_at.f)
  t_turned : FnT K "turned" "turned" s_turned p_turned
  g_turned : mg "turned" = some (.ref t_turned.f)
  t_beaten : FnT K "beaten" "beaten" s_beaten p_beaten
  g_beaten : mg "beaten" = some (.ref t_beaten.f)
  t_history : FnT K "history" "history" s_history p_history
  g_history : mg "history" = some (.ref t_history.f)
  t_dip : FnT K "_law_dip" "_law_dip" s_dip p_dip
  g_dip : mg "_law_dip" = some (.ref t_dip.f)
  t_take : FnT K "_law_take" "_law_take" s_take p_take
  g_take : mg "_law_take" = some (.ref t_take.f)
  t_folded : FnT K "_law_folded" "_law_folded" s_folded p_folded
  g_folded : mg "_law_folded" = some (.ref t_folded.f)
  t_strewn : FnT K "_law_strewn" "_law_strewn" s_strewn p_strewn
  g_strewn : mg "_law_strewn" = some (.ref t_strewn.f)
  t_same : FnT K "_law_same" "_law_same" s_same p_same
  g_same : mg "_law_same" = some (.ref t_same.f)
  t_some : FnT K "_law_some" "_law_some" s_some p_some
  g_some : mg "_law_some" = some (.ref t_some.f)
  t_sum_rule : FnT K "_law_sum_rule" "_law_sum_rule" s_sum_rule p_sum_rule
  g_sum_rule : mg "_law_sum_rule" = some (.ref t_sum_rule.f)
  t_rule : FnT K "_law_rule" "_law_rule" s_rule p_rule
  g_rule : mg "_law_rule" = some (.ref t_rule.f)
  t_hall : FnT K "_law_hall" "_law_hall" s_hall p_hall
  g_hall : mg "_law_hall" = some (.ref t_hall.f)
  t_flat : FnT K "_law_flat" "_law_flat" s_flat p_flat
  g_flat : mg "_law_flat" = some (.ref t_flat.f)
  t_shown : FnT K "_law_shown" "_law_shown" s_shown p_shown
  g_shown : mg "_law_shown" = some (.ref t_shown.f)
  t_seen : FnT K "_law_seen" "_law_seen" s_seen p_seen
  g_seen : mg "_law_seen" = some (.ref t_seen.f)
  t_lot : FnT K "_law_lot" "_law_lot" s_lot p_lot
  g_lot : mg "_law_lot" = some (.ref t_lot.f)
  t_tells : FnT K "_law_tells" "_law_tells" s_tells p_tells
  g_tells : mg "_law_tells" = some (.ref t_tells.f)
  t_law_turned : FnT K "_law_turned" "_law_turned" s_law_turned p_law_turned
  g_law_turned : mg "_law_turned" = some (.ref t_law_turned.f)
  t_law_beaten : FnT K "_law_beaten" "_law_beaten" s_law_beaten p_law_beaten
  g_law_beaten : mg "_law_beaten" = some (.ref t_law_beaten.f)
  t_tied_rule : FnT K "_law_tied_rule" "_law_tied_rule" s_tied_rule p_tied_rule
  g_tied_rule : mg "_law_tied_rule" = some (.ref t_tied_rule.f)
  t_told : FnT K "_law_told" "_law_told" s_told p_told
  g_told : mg "_law_told" = some (.ref t_told.f)
  t_due : FnT K "_law_due" "_law_due" s_due p_due
  g_due : mg "_law_due" = some (.ref t_due.f)
  t_right : FnT K "_law_right" "_law_right" s_right p_right
  g_right : mg "_law_right" = some (.ref t_right.f)
  t_law : FnT K "law" "law" s_law p_law
  g_law : mg "law" = some (.ref t_law.f)
  C_Hall : Addr
  g_Hall : mg "Hall" = some (.ref C_Hall)
  cl_Hall : Cls K C_Hall
  mk_Hall : Mk K C_Hall t_Hall_init.f
  me_Hall_init : Meth K C_Hall "__init__" t_Hall_init.f
  me_Hall_must_have : Meth K C_Hall "must_have" t_Hall_must_have.f
  me_Hall_rules : Meth K C_Hall "rules" t_Hall_rules.f
  me_Hall_rule : Meth K C_Hall "rule" t_Hall_rule.f
  me_Hall_sees : Meth K C_Hall "sees" t_Hall_sees.f
  me_Hall_seers : Meth K C_Hall "seers" t_Hall_seers.f
  me_Hall_eq : Meth K C_Hall "__eq__" t_Hall_eq.f
  me_Hall_len : Meth K C_Hall "__len__" t_Hall_len.f
  me_Hall_repr : Meth K C_Hall "__repr__" t_Hall_repr.f
  na_Hall_kept : NoAttr K C_Hall "kept"
  ne_Hall : PySem.W.findIn K (.ref C_Hall) "__ne__" = some (some (.builtin "object.__ne__"))
  is_Hall : C8.InsC K C_Hall
  C_BadHall : Addr
  g_BadHall : mg "BadHall" = some (.ref C_BadHall)
  C_NotSums : Addr
  g_NotSums : mg "NotSums" = some (.ref C_NotSums)
  C_NoSum : Addr
  g_NoSum : mg "NoSum" = some (.ref C_NoSum)
  C_NoPerson : Addr
  g_NoPerson : mg "NoPerson" = some (.ref C_NoPerson)
  ox_NoSum : OexC K C_NoSum
  me_NoSum_init : Meth K C_NoSum "__init__" t_NoSum_init.f
  ti_NoSum : PySem.W.typeIn K (.ref t_NoSum_init.f) = some (.type "function")
  na_NoSum_person : PySem.W.findIn K (.ref C_NoSum) "person" = some none
  xf_NoSum : XfC K C_NoSum
  xc_NoSum : ExcC K C_NoSum
  em_NoSum_NoPerson : PySem.W.exmOne K (.ref C_NoSum) (.ref C_NoPerson) = some false
  em_NoSum_NoSum : PySem.W.exmOne K (.ref C_NoSum) (.ref C_NoSum) = some true
  em_NoSum_NotSums : PySem.W.exmOne K (.ref C_NoSum) (.ref C_NotSums) = some false
  ki_NoSum_NoPerson : PySem.W.kitOne K (.ref C_NoSum) (.ref C_NoPerson) = some false
  ki_NoSum_NoSum : PySem.W.kitOne K (.ref C_NoSum) (.ref C_NoSum) = some true
  ki_NoSum_NotSums : PySem.W.kitOne K (.ref C_NoSum) (.ref C_NotSums) = some false
  ki_NoSum_IndexError : PySem.W.kitOne K (.ref C_NoSum) (.type "IndexError") = some false
  ki_NoSum_ValueError : PySem.W.kitOne K (.ref C_NoSum) (.type "ValueError") = some true
  ox_NoPerson : OvC K C_NoPerson "IndexError" "IndexError.__new__" "IndexError.__init__" [.type "IndexError", .type "LookupError", .type "Exception", .type "BaseException", .type "object"]
  me_NoPerson_init : Meth K C_NoPerson "__init__" t_NoPerson_init.f
  ti_NoPerson : PySem.W.typeIn K (.ref t_NoPerson_init.f) = some (.type "function")
  na_NoPerson_person : PySem.W.findIn K (.ref C_NoPerson) "person" = some none
  xf_NoPerson : XfC K C_NoPerson
  xc_NoPerson : ExcC K C_NoPerson
  em_NoPerson_NoPerson : PySem.W.exmOne K (.ref C_NoPerson) (.ref C_NoPerson) = some true
  em_NoPerson_NoSum : PySem.W.exmOne K (.ref C_NoPerson) (.ref C_NoSum) = some false
  em_NoPerson_NotSums : PySem.W.exmOne K (.ref C_NoPerson) (.ref C_NotSums) = some false
  ki_NoPerson_NoPerson : PySem.W.kitOne K (.ref C_NoPerson) (.ref C_NoPerson) = some true
  ki_NoPerson_NoSum : PySem.W.kitOne K (.ref C_NoPerson) (.ref C_NoSum) = some false
  ki_NoPerson_NotSums : PySem.W.kitOne K (.ref C_NoPerson) (.ref C_NotSums) = some false
  ki_NoPerson_IndexError : PySem.W.kitOne K (.ref C_NoPerson) (.type "IndexError") = some true
  ki_NoPerson_ValueError : PySem.W.kitOne K (.ref C_NoPerson) (.type "ValueError") = some false
  vi_IndexError : PySem.W.findCls K (.type "IndexError") (.type "type") "__init__" = some (.val (.builtin "IndexError.__init__"))
  vi_ValueError : PySem.W.findCls K (.type "ValueError") (.type "type") "__init__" = some (.val (.builtin "ValueError.__init__"))
  D_PARTS : Addr
  g_PARTS : mg "PARTS" = some (.ref D_PARTS)
  es_PARTS : Array DictEntry
  en_PARTS : Nat
  kd_PARTS : KDict K w D_PARTS es_PARTS en_PARTS
  t_PARTS_held : Addr
  dk_PARTS_held : PySem.W.nsIn K D_PARTS "held" = some (some (.ref t_PARTS_held))
  sq_PARTS_held : ∀ H, SqT K H t_PARTS_held [.str "number"]
  t_PARTS_sum : Addr
  dk_PARTS_sum : PySem.W.nsIn K D_PARTS "sum" = some (some (.ref t_PARTS_sum))
  sq_PARTS_sum : ∀ H, SqT K H t_PARTS_sum [.str "number", .str "ties"]
  t_PARTS_cap : Addr
  dk_PARTS_cap : PySem.W.nsIn K D_PARTS "cap" = some (some (.ref t_PARTS_cap))
  sq_PARTS_cap : ∀ H, SqT K H t_PARTS_cap [.str "number", .str "ties", .str "number"]
  t_PARTS_kinds : Addr
  dk_PARTS_kinds : PySem.W.nsIn K D_PARTS "kinds" = some (some (.ref t_PARTS_kinds))
  sq_PARTS_kinds : ∀ H, SqT K H t_PARTS_kinds [.str "number", .str "seen"]
  t_PARTS_next : Addr
  dk_PARTS_next : PySem.W.nsIn K D_PARTS "next" = some (some (.ref t_PARTS_next))
  sq_PARTS_next : ∀ H, SqT K H t_PARTS_next [.str "seen"]
  t_PARTS_free : Addr
  dk_PARTS_free : PySem.W.nsIn K D_PARTS "free" = some (some (.ref t_PARTS_free))
  sq_PARTS_free : ∀ H, SqT K H t_PARTS_free [.str "seen"]
  m_IndexError : mg "IndexError" = none
  m_ValueError : mg "ValueError" = none
  m_abs : mg "abs" = none
  m_all : mg "all" = none
  m_bool : mg "bool" = none
  m_dict : mg "dict" = none
  m_enumerate : mg "enumerate" = none
  m_int : mg "int" = none
  m_isinstance : mg "isinstance" = none
  m_len : mg "len" = none
  m_list : mg "list" = none
  m_max : mg "max" = none
  m_min : mg "min" = none
  m_range : mg "range" = none
  m_set : mg "set" = none
  m_sorted : mg "sorted" = none
  m_str : mg "str" = none
  m_sum : mg "sum" = none
  m_tuple : mg "tuple" = none
  m_zip : mg "zip" = none
abbrev Txt.f__wall {K : PySem.W.Frag} {mg : Str → Option Value} {w : World} (T : Txt K mg w) : Addr := T.t__wall.f
abbrev Txt.fd__wall {K : PySem.W.Frag} {mg : Str → Option Value} {w : World} (T : Txt K mg w) : FuncData := T.t__wall.fd
theorem Txt.F__wall {K : PySem.W.Frag} {mg : Str → Option Value} {w : World} (T : Txt K mg w) : Fun K "_wall" "_wall" s__wall T.f__wall T.fd__wall := T.t__wall.F
theorem Txt.b__wall {K : PySem.W.Frag} {mg : Str → Option Value} {w : World} (T : Txt K mg w) : Binds K T.fd__wall p__wall [] := T.t__wall.b
abbrev Txt.f_NoSum_init {K : PySem.W.Frag} {mg : Str → Option Value} {w : World} (T : Txt K mg w) : Addr := T.t_NoSum_init.f
abbrev Txt.fd_NoSum_init {K : PySem.W.Frag} {mg : Str → Option Value} {w : World} (T : Txt K mg w) : FuncData := T.t_NoSum_init.fd
theorem Txt.F_NoSum_init {K : PySem.W.Frag} {mg : Str → Option Value} {w : World} (T : Txt K mg w) : Fun K "__init__" "NoSum.__init__" s_NoSum_init T.f_NoSum_init T.fd_NoSum_init := T.t_NoSum_init.F
theorem Txt.b_NoSum_init {K : PySem.W.Frag} {mg : Str → Option Value} {w : World} (T : Txt K mg w) : Binds K T.fd_NoSum_init p_NoSum_init [] := T.t_NoSum_init.b
abbrev Txt.f_NoPerson_init {K : PySem.W.Frag} {mg : Str → Option Value} {w : World} (T : Txt K mg w) : Addr := T.t_NoPerson_init.f
abbrev Txt.fd_NoPerson_init {K : PySem.W.Frag} {mg : Str → Option Value} {w : World} (T : Txt K mg w) : FuncData := T.t_NoPerson_init.fd
theorem Txt.F_NoPerson_init {K : PySem.W.Frag} {mg : Str → Option Value} {w : World} (T : Txt K mg w) : Fun K "__init__" "NoPerson.__init__" s_NoPerson_init T.f_NoPerson_init T.fd_NoPerson_init := T.t_NoPerson_init.F
theorem Txt.b_NoPerson_init {K : PySem.W.Frag} {mg : Str → Option Value} {w : World} (T : Txt K mg w) : Binds K T.fd_NoPerson_init p_NoPerson_init [] := T.t_NoPerson_init.b
abbrev Txt.f_is_number {K : PySem.W.Frag} {mg : Str → Option Value} {w : World} (T : Txt K mg w) : Addr := T.t_is_number.f
abbrev Txt.fd_is_number {K : PySem.W.Frag} {mg : Str → Option Value} {w : World} (T : Txt K mg w) : FuncData := T.t_is_number.fd
theorem Txt.F_is_number {K : PySem.W.Frag} {mg : Str → Option Value} {w : World} (T : Txt K mg w) : Fun K "is_number" "is_number" s_is_number T.f_is_number T.fd_is_number := T.t_is_number.F
theorem Txt.b_is_number {K : PySem.W.Frag} {mg : Str → Option Value} {w : World} (T : Txt K mg w) : Binds K T.fd_is_number p_is_number [] := T.t_is_number.b
abbrev Txt.f_is_person {K : PySem.W.Frag} {mg : Str → Option Value} {w : World} (T : Txt K mg w) : Addr := T.t_is_person.f
abbrev Txt.fd_is_person {K : PySem.W.Frag} {mg : Str → Option Value} {w : World} (T : Txt K mg w) : FuncData := T.t_is_person.fd
theorem Txt.F_is_person {K : PySem.W.Frag} {mg : Str → Option Value} {w : World} (T : Txt K mg w) : Fun K "is_person" "is_person" s_is_person T.f_is_person T.fd_is_person := T.t_is_person.F
theorem Txt.b_is_person {K : PySem.W.Frag} {mg : Str → Option Value} {w : World} (T : Txt K mg w) : Binds K T.fd_is_person p_is_person [] := T.t_is_person.b
abbrev Txt.f_are_persons {K : PySem.W.Frag} {mg : Str → Option Value} {w : World} (T : Txt K mg w) : Addr := T.t_are_persons.f
abbrev Txt.fd_are_persons {K : PySem.W.Frag} {mg : Str → Option Value} {w : World} (T : Txt K mg w) : FuncData := T.t_are_persons.fd
theorem Txt.F_are_persons {K : PySem.W.Frag} {mg : Str → Option Value} {w : World} (T : Txt K mg w) : Fun K "are_persons" "are_persons" s_are_persons T.f_are_persons T.fd_are_persons := T.t_are_persons.F
theorem Txt.b_are_persons {K : PySem.W.Frag} {mg : Str → Option Value} {w : World} (T : Txt K mg w) : Binds K T.fd_are_persons p_are_persons [] := T.t_are_persons.b
abbrev Txt.f_rises {K : PySem.W.Frag} {mg : Str → Option Value} {w : World} (T : Txt K mg w) : Addr := T.t_rises.f
abbrev Txt.fd_rises {K : PySem.W.Frag} {mg : Str → Option Value} {w : World} (T : Txt K mg w) : FuncData := T.t_rises.fd
theorem Txt.F_rises {K : PySem.W.Frag} {mg : Str → Option Value} {w : World} (T : Txt K mg w) : Fun K "rises" "rises" s_rises T.f_rises T.fd_rises := T.t_rises.F
theorem Txt.b_rises {K : PySem.W.Frag} {mg : Str → Option Value} {w : World} (T : Txt K mg w) : Binds K T.fd_rises p_rises [] := T.t_rises.b
abbrev Txt.f_is_rule {K : PySem.W.Frag} {mg : Str → Option Value} {w : World} (T : Txt K mg w) : Addr := T.t_is_rule.f
abbrev Txt.fd_is_rule {K : PySem.W.Frag} {mg : Str → Option Value} {w : World} (T : Txt K mg w) : FuncData := T.t_is_rule.fd
theorem Txt.F_is_rule {K : PySem.W.Frag} {mg : Str → Option Value} {w : World} (T : Txt K mg w) : Fun K "is_rule" "is_rule" s_is_rule T.f_is_rule T.fd_is_rule := T.t_is_rule.F
theorem Txt.b_is_rule {K : PySem.W.Frag} {mg : Str → Option Value} {w : World} (T : Txt K mg w) : Binds K T.fd_is_rule p_is_rule [] := T.t_is_rule.b
abbrev Txt.f_is_part {K : PySem.W.Frag} {mg : Str → Option Value} {w : World} (T : Txt K mg w) : Addr := T.t_is_part.f
abbrev Txt.fd_is_part {K : PySem.W.Frag} {mg : Str → Option Value} {w : World} (T : Txt K mg w) : FuncData := T.t_is_part.fd
theorem Txt.F_is_part {K : PySem.W.Frag} {mg : Str → Option Value} {w : World} (T : Txt K mg w) : Fun K "is_part" "is_part" s_is_part T.f_is_part T.fd_is_part := T.t_is_part.F
theorem Txt.b_is_part {K : PySem.W.Frag} {mg : Str → Option Value} {w : World} (T : Txt K mg w) : Binds K T.fd_is_part p_is_part [] := T.t_is_part.b
abbrev Txt.f_are_ties {K : PySem.W.Frag} {mg : Str → Option Value} {w : World} (T : Txt K mg w) : Addr := T.t_are_ties.f
abbrev Txt.fd_are_ties {K : PySem.W.Frag} {mg : Str → Option Value} {w : World} (T : Txt K mg w) : FuncData := T.t_are_ties.fd
theorem Txt.F_are_ties {K : PySem.W.Frag} {mg : Str → Option Value} {w : World} (T : Txt K mg w) : Fun K "are_ties" "are_ties" s_are_ties T.f_are_ties T.fd_are_ties := T.t_are_ties.F
theorem Txt.b_are_ties {K : PySem.W.Frag} {mg : Str → Option Value} {w : World} (T : Txt K mg w) : Binds K T.fd_are_ties p_are_ties [] := T.t_are_ties.b
abbrev Txt.f_is_tie {K : PySem.W.Frag} {mg : Str → Option Value} {w : World} (T : Txt K mg w) : Addr := T.t_is_tie.f
abbrev Txt.fd_is_tie {K : PySem.W.Frag} {mg : Str → Option Value} {w : World} (T : Txt K mg w) : FuncData := T.t_is_tie.fd
theorem Txt.F_is_tie {K : PySem.W.Frag} {mg : Str → Option Value} {w : World} (T : Txt K mg w) : Fun K "is_tie" "is_tie" s_is_tie T.f_is_tie T.fd_is_tie := T.t_is_tie.F
theorem Txt.b_is_tie {K : PySem.W.Frag} {mg : Str → Option Value} {w : World} (T : Txt K mg w) : Binds K T.fd_is_tie p_is_tie [] := T.t_is_tie.b
abbrev Txt.f_seen_by {K : PySem.W.Frag} {mg : Str → Option Value} {w : World} (T : Txt K mg w) : Addr := T.t_seen_by.f
abbrev Txt.fd_seen_by {K : PySem.W.Frag} {mg : Str → Option Value} {w : World} (T : Txt K mg w) : FuncData := T.t_seen_by.fd
theorem Txt.F_seen_by {K : PySem.W.Frag} {mg : Str → Option Value} {w : World} (T : Txt K mg w) : Fun K "seen_by" "seen_by" s_seen_by T.f_seen_by T.fd_seen_by := T.t_seen_by.F
theorem Txt.b_seen_by {K : PySem.W.Frag} {mg : Str → Option Value} {w : World} (T : Txt K mg w) : Binds K T.fd_seen_by p_seen_by [] := T.t_seen_by.b
abbrev Txt.f_ties_of {K : PySem.W.Frag} {mg : Str → Option Value} {w : World} (T : Txt K mg w) : Addr := T.t_ties_of.f
abbrev Txt.fd_ties_of {K : PySem.W.Frag} {mg : Str → Option Value} {w : World} (T : Txt K mg w) : FuncData := T.t_ties_of.fd
theorem Txt.F_ties_of {K : PySem.W.Frag} {mg : Str → Option Value} {w : World} (T : Txt K mg w) : Fun K "ties_of" "ties_of" s_ties_of T.f_ties_of T.fd_ties_of := T.t_ties_of.F
theorem Txt.b_ties_of {K : PySem.W.Frag} {mg : Str → Option Value} {w : World} (T : Txt K mg w) : Binds K T.fd_ties_of p_ties_of [] := T.t_ties_of.b
abbrev Txt.f_tied_so {K : PySem.W.Frag} {mg : Str → Option Value} {w : World} (T : Txt K mg w) : Addr := T.t_tied_so.f
abbrev Txt.fd_tied_so {K : PySem.W.Frag} {mg : Str → Option Value} {w : World} (T : Txt K mg w) : FuncData := T.t_tied_so.fd
theorem Txt.F_tied_so {K : PySem.W.Frag} {mg : Str → Option Value} {w : World} (T : Txt K mg w) : Fun K "tied_so" "tied_so" s_tied_so T.f_tied_so T.fd_tied_so := T.t_tied_so.F
theorem Txt.b_tied_so {K : PySem.W.Frag} {mg : Str → Option Value} {w : World} (T : Txt K mg w) : Binds K T.fd_tied_so p_tied_so [] := T.t_tied_so.b
abbrev Txt.f_told_of {K : PySem.W.Frag} {mg : Str → Option Value} {w : World} (T : Txt K mg w) : Addr := T.t_told_of.f
abbrev Txt.fd_told_of {K : PySem.W.Frag} {mg : Str → Option Value} {w : World} (T : Txt K mg w) : FuncData := T.t_told_of.fd
theorem Txt.F_told_of {K : PySem.W.Frag} {mg : Str → Option Value} {w : World} (T : Txt K mg w) : Fun K "told_of" "told_of" s_told_of T.f_told_of T.fd_told_of := T.t_told_of.F
theorem Txt.b_told_of {K : PySem.W.Frag} {mg : Str → Option Value} {w : World} (T : Txt K mg w) : Binds K T.fd_told_of p_told_of [] := T.t_told_of.b
abbrev Txt.f_weighed {K : PySem.W.Frag} {mg : Str → Option Value} {w : World} (T : Txt K mg w) : Addr := T.t_weighed.f
abbrev Txt.fd_weighed {K : PySem.W.Frag} {mg : Str → Option Value} {w : World} (T : Txt K mg w) : FuncData := T.t_weighed.fd
theorem Txt.F_weighed {K : PySem.W.Frag} {mg : Str → Option Value} {w : World} (T : Txt K mg w) : Fun K "weighed" "weighed" s_weighed T.f_weighed T.fd_weighed := T.t_weighed.F
theorem Txt.b_weighed {K : PySem.W.Frag} {mg : Str → Option Value} {w : World} (T : Txt K mg w) : Binds K T.fd_weighed p_weighed [] := T.t_weighed.b
abbrev Txt.f_least_free {K : PySem.W.Frag} {mg : Str → Option Value} {w : World} (T : Txt K mg w) : Addr := T.t_least_free.f
abbrev Txt.fd_least_free {K : PySem.W.Frag} {mg : Str → Option Value} {w : World} (T : Txt K mg w) : FuncData := T.t_least_free.fd
theorem Txt.F_least_free {K : PySem.W.Frag} {mg : Str → Option Value} {w : World} (T : Txt K mg w) : Fun K "least_free" "least_free" s_least_free T.f_least_free T.fd_least_free := T.t_least_free.F
theorem Txt.b_least_free {K : PySem.W.Frag} {mg : Str → Option Value} {w : World} (T : Txt K mg w) : Binds K T.fd_least_free p_least_free [] := T.t_least_free.b
abbrev Txt.f_Hall_init {K : PySem.W.Frag} {mg : Str → Option Value} {w : World} (T : Txt K mg w) : Addr := T.t_Hall_init.f
abbrev Txt.fd_Hall_init {K : PySem.W.Frag} {mg : Str → Option Value} {w : World} (T : Txt K mg w) : FuncData := T.t_Hall_init.fd
theorem Txt.F_Hall_init {K : PySem.W.Frag} {mg : Str → Option Value} {w : World} (T : Txt K mg w) : Fun K "__init__" "Hall.__init__" s_Hall_init T.f_Hall_init T.fd_Hall_init := T.t_Hall_init.F
theorem Txt.b_Hall_init {K : PySem.W.Frag} {mg : Str → Option Value} {w : World} (T : Txt K mg w) : Binds K T.fd_Hall_init p_Hall_init [] := T.t_Hall_init.b
abbrev Txt.f_Hall_must_have {K : PySem.W.Frag} {mg : Str → Option Value} {w : World} (T : Txt K mg w) : Addr := T.t_Hall_must_have.f
abbrev Txt.fd_Hall_must_have {K : PySem.W.Frag} {mg : Str → Option Value} {w : World} (T : Txt K mg w) : FuncData := T.t_Hall_must_have.fd
theorem Txt.F_Hall_must_have {K : PySem.W.Frag} {mg : Str → Option Value} {w : World} (T : Txt K mg w) : Fun K "must_have" "Hall.must_have" s_Hall_must_have T.f_Hall_must_have T.fd_Hall_must_have := T.t_Hall_must_have.F
theorem Txt.b_Hall_must_have {K : PySem.W.Frag} {mg : Str → Option Value} {w : World} (T : Txt K mg w) : Binds K T.fd_Hall_must_have p_Hall_must_have [] := T.t_Hall_must_have.b
abbrev Txt.f_Hall_rules {K : PySem.W.Frag} {mg : Str → Option Value} {w : World} (T : Txt K mg w) : Addr := T.t_Hall_rules.f
abbrev Txt.fd_Hall_rules {K : PySem.W.Frag} {mg : Str → Option Value} {w : World} (T : Txt K mg w) : FuncData := T.t_Hall_rules.fd
theorem Txt.F_Hall_rules {K : PySem.W.Frag} {mg : Str → Option Value} {w : World} (T : Txt K mg w) : Fun K "rules" "Hall.rules" s_Hall_rules T.f_Hall_rules T.fd_Hall_rules := T.t_Hall_rules.F
theorem Txt.b_Hall_rules {K : PySem.W.Frag} {mg : Str → Option Value} {w : World} (T : Txt K mg w) : Binds K T.fd_Hall_rules p_Hall_rules [] := T.t_Hall_rules.b
abbrev Txt.f_Hall_rule {K : PySem.W.Frag} {mg : Str → Option Value} {w : World} (T : Txt K mg w) : Addr := T.t_Hall_rule.f
abbrev Txt.fd_Hall_rule {K : PySem.W.Frag} {mg : Str → Option Value} {w : World} (T : Txt K mg w) : FuncData := T.t_Hall_rule.fd
theorem Txt.F_Hall_rule {K : PySem.W.Frag} {mg : Str → Option Value} {w : World} (T : Txt K mg w) : Fun K "rule" "Hall.rule" s_Hall_rule T.f_Hall_rule T.fd_Hall_rule := T.t_Hall_rule.F
theorem Txt.b_Hall_rule {K : PySem.W.Frag} {mg : Str → Option Value} {w : World} (T : Txt K mg w) : Binds K T.fd_Hall_rule p_Hall_rule [] := T.t_Hall_rule.b
abbrev Txt.f_Hall_sees {K : PySem.W.Frag} {mg : Str → Option Value} {w : World} (T : Txt K mg w) : Addr := T.t_Hall_sees.f
abbrev Txt.fd_Hall_sees {K : PySem.W.Frag} {mg : Str → Option Value} {w : World} (T : Txt K mg w) : FuncData := T.t_Hall_sees.fd
theorem Txt.F_Hall_sees {K : PySem.W.Frag} {mg : Str → Option Value} {w : World} (T : Txt K mg w) : Fun K "sees" "Hall.sees" s_Hall_sees T.f_Hall_sees T.fd_Hall_sees := T.t_Hall_sees.F
theorem Txt.b_Hall_sees {K : PySem.W.Frag} {mg : Str → Option Value} {w : World} (T : Txt K mg w) : Binds K T.fd_Hall_sees p_Hall_sees [] := T.t_Hall_sees.b
abbrev Txt.f_Hall_seers {K : PySem.W.Frag} {mg : Str → Option Value} {w : World} (T : Txt K mg w) : Addr := T.t_Hall_seers.f
abbrev Txt.fd_Hall_seers {K : PySem.W.Frag} {mg : Str → Option Value} {w : World} (T : Txt K mg w) : FuncData := T.t_Hall_seers.fd
theorem Txt.F_Hall_seers {K : PySem.W.Frag} {mg : Str → Option Value} {w : World} (T : Txt K mg w) : Fun K "seers" "Hall.seers" s_Hall_seers T.f_Hall_seers T.fd_Hall_seers := T.t_Hall_seers.F
theorem Txt.b_Hall_seers {K : PySem.W.Frag} {mg : Str → Option Value} {w : World} (T : Txt K mg w) : Binds K T.fd_Hall_seers p_Hall_seers [] := T.t_Hall_seers.b
abbrev Txt.f_Hall_eq {K : PySem.W.Frag} {mg : Str → Option Value} {w : World} (T : Txt K mg w) : Addr := T.t_Hall_eq.f
abbrev Txt.fd_Hall_eq {K : PySem.W.Frag} {mg : Str → Option Value} {w : World} (T : Txt K mg w) : FuncData := T.t_Hall_eq.fd
theorem Txt.F_Hall_eq {K : PySem.W.Frag} {mg : Str → Option Value} {w : World} (T : Txt K mg w) : Fun K "__eq__" "Hall.__eq__" s_Hall_eq T.f_Hall_eq T.fd_Hall_eq := T.t_Hall_eq.F
theorem Txt.b_Hall_eq {K : PySem.W.Frag} {mg : Str → Option Value} {w : World} (T : Txt K mg w) : Binds K T.fd_Hall_eq p_Hall_eq [] := T.t_Hall_eq.b
abbrev Txt.f_Hall_len {K : PySem.W.Frag} {mg : Str → Option Value} {w : World} (T : Txt K mg w) : Addr := T.t_Hall_len.f
abbrev Txt.fd_Hall_len {K : PySem.W.Frag} {mg : Str → Option Value} {w : World} (T : Txt K mg w) : FuncData := T.t_Hall_len.fd
theorem Txt.F_Hall_len {K : PySem.W.Frag} {mg : Str → Option Value} {w : World} (T : Txt K mg w) : Fun K "__len__" "Hall.__len__" s_Hall_len T.f_Hall_len T.fd_Hall_len := T.t_Hall_len.F
theorem Txt.b_Hall_len {K : PySem.W.Frag} {mg : Str → Option Value} {w : World} (T : Txt K mg w) : Binds K T.fd_Hall_len p_Hall_len [] := T.t_Hall_len.b
abbrev Txt.f_Hall_repr {K : PySem.W.Frag} {mg : Str → Option Value} {w : World} (T : Txt K mg w) : Addr := T.t_Hall_repr.f
abbrev Txt.fd_Hall_repr {K : PySem.W.Frag} {mg : Str → Option Value} {w : World} (T : Txt K mg w) : FuncData := T.t_Hall_repr.fd
theorem Txt.F_Hall_repr {K : PySem.W.Frag} {mg : Str → Option Value} {w : World} (T : Txt K mg w) : Fun K "__repr__" "Hall.__repr__" s_Hall_repr T.f_Hall_repr T.fd_Hall_repr := T.t_Hall_repr.F
theorem Txt.b_Hall_repr {K : PySem.W.Frag} {mg : Str → Option Value} {w : World} (T : Txt K mg w) : Binds K T.fd_Hall_repr p_Hall_repr [] := T.t_Hall_repr.b
abbrev Txt.f_with_rule {K : PySem.W.Frag} {mg : Str → Option Value} {w : World} (T : Txt K mg w) : Addr := T.t_with_rule.f
abbrev Txt.fd_with_rule {K : PySem.W.Frag} {mg : Str → Option Value} {w : World} (T : Txt K mg w) : FuncData := T.t_with_rule.fd
theorem Txt.F_with_rule {K : PySem.W.Frag} {mg : Str → Option Value} {w : World} (T : Txt K mg w) : Fun K "with_rule" "with_rule" s_with_rule T.f_with_rule T.fd_with_rule := T.t_with_rule.F
theorem Txt.b_with_rule {K : PySem.W.Frag} {mg : Str → Option Value} {w : World} (T : Txt K mg w) : Binds K T.fd_with_rule p_with_rule [] := T.t_with_rule.b
abbrev Txt.f_held_at {K : PySem.W.Frag} {mg : Str → Option Value} {w : World} (T : Txt K mg w) : Addr := T.t_held_at.f
abbrev Txt.fd_held_at {K : PySem.W.Frag} {mg : Str → Option Value} {w : World} (T : Txt K mg w) : FuncData := T.t_held_at.fd
theorem Txt.F_held_at {K : PySem.W.Frag} {mg : Str → Option Value} {w : World} (T : Txt K mg w) : Fun K "held_at" "held_at" s_held_at T.f_held_at T.fd_held_at := T.t_held_at.F
theorem Txt.b_held_at {K : PySem.W.Frag} {mg : Str → Option Value} {w : World} (T : Txt K mg w) : Binds K T.fd_held_at p_held_at [] := T.t_held_at.b
abbrev Txt.f_tied {K : PySem.W.Frag} {mg : Str → Option Value} {w : World} (T : Txt K mg w) : Addr := T.t_tied.f
abbrev Txt.fd_tied {K : PySem.W.Frag} {mg : Str → Option Value} {w : World} (T : Txt K mg w) : FuncData := T.t_tied.fd
theorem Txt.F_tied {K : PySem.W.Frag} {mg : Str → Option Value} {w : World} (T : Txt K mg w) : Fun K "tied" "tied" s_tied T.f_tied T.fd_tied := T.t_tied.F
theorem Txt.b_tied {K : PySem.W.Frag} {mg : Str → Option Value} {w : World} (T : Txt K mg w) : Binds K T.fd_tied p_tied [] := T.t_tied.b
abbrev Txt.f_lot_below {K : PySem.W.Frag} {mg : Str → Option Value} {w : World} (T : Txt K mg w) : Addr := T.t_lot_below.f
abbrev Txt.fd_lot_below {K : PySem.W.Frag} {mg : Str → Option Value} {w : World} (T : Txt K mg w) : FuncData := T.t_lot_below.fd
theorem Txt.F_lot_below {K : PySem.W.Frag} {mg : Str → Option Value} {w : World} (T : Txt K mg w) : Fun K "lot_below" "lot_below" s_lot_below T.f_lot_below T.fd_lot_below := T.t_lot_below.F
theorem Txt.b_lot_below {K : PySem.W.Frag} {mg : Str → Option Value} {w : World} (T : Txt K mg w) : Binds K T.fd_lot_below p_lot_below [] := T.t_lot_below.b
abbrev Txt.f_told_below {K : PySem.W.Frag} {mg : Str → Option Value} {w : World} (T : Txt K mg w) : Addr := T.t_told_below.f
abbrev Txt.fd_told_below {K : PySem.W.Frag} {mg : Str → Option Value} {w : World} (T : Txt K mg w) : FuncData := T.t_told_below.fd
theorem Txt.F_told_below {K : PySem.W.Frag} {mg : Str → Option Value} {w : World} (T : Txt K mg w) : Fun K "told_below" "told_below" s_told_below T.f_told_below T.fd_told_below := T.t_told_below.F
theorem Txt.b_told_below {K : PySem.W.Frag} {mg : Str → Option Value} {w : World} (T : Txt K mg w) : Binds K T.fd_told_below p_told_below [] := T.t_told_below.b
abbrev Txt.f_told_at {K : PySem.W.Frag} {mg : Str → Option Value} {w : World} (T : Txt K mg w) : Addr := T.t_told_at.f
abbrev Txt.fd_told_at {K : PySem.W.Frag} {mg : Str → Option Value} {w : World} (T : Txt K mg w) : FuncData := T.t_told_at.fd
theorem Txt.F_told_at {K : PySem.W.Frag} {mg : Str → Option Value} {w : World} (T : Txt K mg w) : Fun K "told_at" "told_at" s_told_at T.f_told_at T.fd_told_at := T.t_told_at.F
theorem Txt.b_told_at {K : PySem.W.Frag} {mg : Str → Option Value} {w : World} (T : Txt K mg w) : Binds K T.fd_told_at p_told_at [] := T.t_told_at.b
abbrev Txt.f_turned {K : PySem.W.Frag} {mg : Str → Option Value} {w : World} (T : Txt K mg w) : Addr := T.t_turned.f
abbrev Txt.fd_turned {K : PySem.W.Frag} {mg : Str → Option Value} {w : World} (T : Txt K mg w) : FuncData := T.t_turned.fd
theorem Txt.F_turned {K : PySem.W.Frag} {mg : Str → Option Value} {w : World} (T : Txt K mg w) : Fun K "turned" "turned" s_turned T.f_turned T.fd_turned := T.t_turned.F
theorem Txt.b_turned {K : PySem.W.Frag} {mg : Str → Option Value} {w : World} (T : Txt K mg w) : Binds K T.fd_turned p_turned [] := T.t_turned.b
abbrev Txt.f_beaten {K : PySem.W.Frag} {mg : Str → Option Value} {w : World} (T : Txt K mg w) : Addr := T.t_beaten.f
abbrev Txt.fd_beaten {K : PySem.W.Frag} {mg : Str → Option Value} {w : World} (T : Txt K mg w) : FuncData := T.t_beaten.fd
theorem Txt.F_beaten {K : PySem.W.Frag} {mg : Str → Option Value} {w : World} (T : Txt K mg w) : Fun K "beaten" "beaten" s_beaten T.f_beaten T.fd_beaten := T.t_beaten.F
theorem Txt.b_beaten {K : PySem.W.Frag} {mg : Str → Option Value} {w : World} (T : Txt K mg w) : Binds K T.fd_beaten p_beaten [] := T.t_beaten.b
abbrev Txt.f_history {K : PySem.W.Frag} {mg : Str → Option Value} {w : World} (T : Txt K mg w) : Addr := T.t_history.f
abbrev Txt.fd_history {K : PySem.W.Frag} {mg : Str → Option Value} {w : World} (T : Txt K mg w) : FuncData := T.t_history.fd
theorem Txt.F_history {K : PySem.W.Frag} {mg : Str → Option Value} {w : World} (T : Txt K mg w) : Fun K "history" "history" s_history T.f_history T.fd_history := T.t_history.F
theorem Txt.b_history {K : PySem.W.Frag} {mg : Str → Option Value} {w : World} (T : Txt K mg w) : Binds K T.fd_history p_history [] := T.t_history.b
abbrev Txt.f_dip {K : PySem.W.Frag} {mg : Str → Option Value} {w : World} (T : Txt K mg w) : Addr := T.t_dip.f
abbrev Txt.fd_dip {K : PySem.W.Frag} {mg : Str → Option Value} {w : World} (T : Txt K mg w) : FuncData := T.t_dip.fd
theorem Txt.F_dip {K : PySem.W.Frag} {mg : Str → Option Value} {w : World} (T : Txt K mg w) : Fun K "_law_dip" "_law_dip" s_dip T.f_dip T.fd_dip := T.t_dip.F
theorem Txt.b_dip {K : PySem.W.Frag} {mg : Str → Option Value} {w : World} (T : Txt K mg w) : Binds K T.fd_dip p_dip [] := T.t_dip.b
abbrev Txt.f_take {K : PySem.W.Frag} {mg : Str → Option Value} {w : World} (T : Txt K mg w) : Addr := T.t_take.f
abbrev Txt.fd_take {K : PySem.W.Frag} {mg : Str → Option Value} {w : World} (T : Txt K mg w) : FuncData := T.t_take.fd
theorem Txt.F_take {K : PySem.W.Frag} {mg : Str → Option Value} {w : World} (T : Txt K mg w) : Fun K "_law_take" "_law_take" s_take T.f_take T.fd_take := T.t_take.F
theorem Txt.b_take {K : PySem.W.Frag} {mg : Str → Option Value} {w : World} (T : Txt K mg w) : Binds K T.fd_take p_take [] := T.t_take.b
abbrev Txt.f_folded {K : PySem.W.Frag} {mg : Str → Option Value} {w : World} (T : Txt K mg w) : Addr := T.t_folded.f
abbrev Txt.fd_folded {K : PySem.W.Frag} {mg : Str → Option Value} {w : World} (T : Txt K mg w) : FuncData := T.t_folded.fd
theorem Txt.F_folded {K : PySem.W.Frag} {mg : Str → Option Value} {w : World} (T : Txt K mg w) : Fun K "_law_folded" "_law_folded" s_folded T.f_folded T.fd_folded := T.t_folded.F
theorem Txt.b_folded {K : PySem.W.Frag} {mg : Str → Option Value} {w : World} (T : Txt K mg w) : Binds K T.fd_folded p_folded [] := T.t_folded.b
abbrev Txt.f_strewn {K : PySem.W.Frag} {mg : Str → Option Value} {w : World} (T : Txt K mg w) : Addr := T.t_strewn.f
abbrev Txt.fd_strewn {K : PySem.W.Frag} {mg : Str → Option Value} {w : World} (T : Txt K mg w) : FuncData := T.t_strewn.fd
theorem Txt.F_strewn {K : PySem.W.Frag} {mg : Str → Option Value} {w : World} (T : Txt K mg w) : Fun K "_law_strewn" "_law_strewn" s_strewn T.f_strewn T.fd_strewn := T.t_strewn.F
theorem Txt.b_strewn {K : PySem.W.Frag} {mg : Str → Option Value} {w : World} (T : Txt K mg w) : Binds K T.fd_strewn p_strewn [] := T.t_strewn.b
abbrev Txt.f_same {K : PySem.W.Frag} {mg : Str → Option Value} {w : World} (T : Txt K mg w) : Addr := T.t_same.f
abbrev Txt.fd_same {K : PySem.W.Frag} {mg : Str → Option Value} {w : World} (T : Txt K mg w) : FuncData := T.t_same.fd
theorem Txt.F_same {K : PySem.W.Frag} {mg : Str → Option Value} {w : World} (T : Txt K mg w) : Fun K "_law_same" "_law_same" s_same T.f_same T.fd_same := T.t_same.F
theorem Txt.b_same {K : PySem.W.Frag} {mg : Str → Option Value} {w : World} (T : Txt K mg w) : Binds K T.fd_same p_same [] := T.t_same.b
abbrev Txt.f_some {K : PySem.W.Frag} {mg : Str → Option Value} {w : World} (T : Txt K mg w) : Addr := T.t_some.f
abbrev Txt.fd_some {K : PySem.W.Frag} {mg : Str → Option Value} {w : World} (T : Txt K mg w) : FuncData := T.t_some.fd
theorem Txt.F_some {K : PySem.W.Frag} {mg : Str → Option Value} {w : World} (T : Txt K mg w) : Fun K "_law_some" "_law_some" s_some T.f_some T.fd_some := T.t_some.F
theorem Txt.b_some {K : PySem.W.Frag} {mg : Str → Option Value} {w : World} (T : Txt K mg w) : Binds K T.fd_some p_some [] := T.t_some.b
abbrev Txt.f_sum_rule {K : PySem.W.Frag} {mg : Str → Option Value} {w : World} (T : Txt K mg w) : Addr := T.t_sum_rule.f
abbrev Txt.fd_sum_rule {K : PySem.W.Frag} {mg : Str → Option Value} {w : World} (T : Txt K mg w) : FuncData := T.t_sum_rule.fd
theorem Txt.F_sum_rule {K : PySem.W.Frag} {mg : Str → Option Value} {w : World} (T : Txt K mg w) : Fun K "_law_sum_rule" "_law_sum_rule" s_sum_rule T.f_sum_rule T.fd_sum_rule := T.t_sum_rule.F
theorem Txt.b_sum_rule {K : PySem.W.Frag} {mg : Str → Option Value} {w : World} (T : Txt K mg w) : Binds K T.fd_sum_rule p_sum_rule [] := T.t_sum_rule.b
abbrev Txt.f_rule {K : PySem.W.Frag} {mg : Str → Option Value} {w : World} (T : Txt K mg w) : Addr := T.t_rule.f
abbrev Txt.fd_rule {K : PySem.W.Frag} {mg : Str → Option Value} {w : World} (T : Txt K mg w) : FuncData := T.t_rule.fd
theorem Txt.F_rule {K : PySem.W.Frag} {mg : Str → Option Value} {w : World} (T : Txt K mg w) : Fun K "_law_rule" "_law_rule" s_rule T.f_rule T.fd_rule := T.t_rule.F
theorem Txt.b_rule {K : PySem.W.Frag} {mg : Str → Option Value} {w : World} (T : Txt K mg w) : Binds K T.fd_rule p_rule [] := T.t_rule.b
abbrev Txt.f_hall {K : PySem.W.Frag} {mg : Str → Option Value} {w : World} (T : Txt K mg w) : Addr := T.t_hall.f
abbrev Txt.fd_hall {K : PySem.W.Frag} {mg : Str → Option Value} {w : World} (T : Txt K mg w) : FuncData := T.t_hall.fd
theorem Txt.F_hall {K : PySem.W.Frag} {mg : Str → Option Value} {w : World} (T : Txt K mg w) : Fun K "_law_hall" "_law_hall" s_hall T.f_hall T.fd_hall := T.t_hall.F
theorem Txt.b_hall {K : PySem.W.Frag} {mg : Str → Option Value} {w : World} (T : Txt K mg w) : Binds K T.fd_hall p_hall [] := T.t_hall.b
abbrev Txt.f_flat {K : PySem.W.Frag} {mg : Str → Option Value} {w : World} (T : Txt K mg w) : Addr := T.t_flat.f
abbrev Txt.fd_flat {K : PySem.W.Frag} {mg : Str → Option Value} {w : World} (T : Txt K mg w) : FuncData := T.t_flat.fd
theorem Txt.F_flat {K : PySem.W.Frag} {mg : Str → Option Value} {w : World} (T : Txt K mg w) : Fun K "_law_flat" "_law_flat" s_flat T.f_flat T.fd_flat := T.t_flat.F
theorem Txt.b_flat {K : PySem.W.Frag} {mg : Str → Option Value} {w : World} (T : Txt K mg w) : Binds K T.fd_flat p_flat [] := T.t_flat.b
abbrev Txt.f_shown {K : PySem.W.Frag} {mg : Str → Option Value} {w : World} (T : Txt K mg w) : Addr := T.t_shown.f
abbrev Txt.fd_shown {K : PySem.W.Frag} {mg : Str → Option Value} {w : World} (T : Txt K mg w) : FuncData := T.t_shown.fd
theorem Txt.F_shown {K : PySem.W.Frag} {mg : Str → Option Value} {w : World} (T : Txt K mg w) : Fun K "_law_shown" "_law_shown" s_shown T.f_shown T.fd_shown := T.t_shown.F
theorem Txt.b_shown {K : PySem.W.Frag} {mg : Str → Option Value} {w : World} (T : Txt K mg w) : Binds K T.fd_shown p_shown [] := T.t_shown.b
abbrev Txt.f_seen {K : PySem.W.Frag} {mg : Str → Option Value} {w : World} (T : Txt K mg w) : Addr := T.t_seen.f
abbrev Txt.fd_seen {K : PySem.W.Frag} {mg : Str → Option Value} {w : World} (T : Txt K mg w) : FuncData := T.t_seen.fd
theorem Txt.F_seen {K : PySem.W.Frag} {mg : Str → Option Value} {w : World} (T : Txt K mg w) : Fun K "_law_seen" "_law_seen" s_seen T.f_seen T.fd_seen := T.t_seen.F
theorem Txt.b_seen {K : PySem.W.Frag} {mg : Str → Option Value} {w : World} (T : Txt K mg w) : Binds K T.fd_seen p_seen [] := T.t_seen.b
abbrev Txt.f_lot {K : PySem.W.Frag} {mg : Str → Option Value} {w : World} (T : Txt K mg w) : Addr := T.t_lot.f
abbrev Txt.fd_lot {K : PySem.W.Frag} {mg : Str → Option Value} {w : World} (T : Txt K mg w) : FuncData := T.t_lot.fd
theorem Txt.F_lot {K : PySem.W.Frag} {mg : Str → Option Value} {w : World} (T : Txt K mg w) : Fun K "_law_lot" "_law_lot" s_lot T.f_lot T.fd_lot := T.t_lot.F
theorem Txt.b_lot {K : PySem.W.Frag} {mg : Str → Option Value} {w : World} (T : Txt K mg w) : Binds K T.fd_lot p_lot [] := T.t_lot.b
abbrev Txt.f_tells {K : PySem.W.Frag} {mg : Str → Option Value} {w : World} (T : Txt K mg w) : Addr := T.t_tells.f
abbrev Txt.fd_tells {K : PySem.W.Frag} {mg : Str → Option Value} {w : World} (T : Txt K mg w) : FuncData := T.t_tells.fd
theorem Txt.F_tells {K : PySem.W.Frag} {mg : Str → Option Value} {w : World} (T : Txt K mg w) : Fun K "_law_tells" "_law_tells" s_tells T.f_tells T.fd_tells := T.t_tells.F
theorem Txt.b_tells {K : PySem.W.Frag} {mg : Str → Option Value} {w : World} (T : Txt K mg w) : Binds K T.fd_tells p_tells [] := T.t_tells.b
abbrev Txt.f_law_turned {K : PySem.W.Frag} {mg : Str → Option Value} {w : World} (T : Txt K mg w) : Addr := T.t_law_turned.f
abbrev Txt.fd_law_turned {K : PySem.W.Frag} {mg : Str → Option Value} {w : World} (T : Txt K mg w) : FuncData := T.t_law_turned.fd
theorem Txt.F_law_turned {K : PySem.W.Frag} {mg : Str → Option Value} {w : World} (T : Txt K mg w) : Fun K "_law_turned" "_law_turned" s_law_turned T.f_law_turned T.fd_law_turned := T.t_law_turned.F
theorem Txt.b_law_turned {K : PySem.W.Frag} {mg : Str → Option Value} {w : World} (T : Txt K mg w) : Binds K T.fd_law_turned p_law_turned [] := T.t_law_turned.b
abbrev Txt.f_law_beaten {K : PySem.W.Frag} {mg : Str → Option Value} {w : World} (T : Txt K mg w) : Addr := T.t_law_beaten.f
abbrev Txt.fd_law_beaten {K : PySem.W.Frag} {mg : Str → Option Value} {w : World} (T : Txt K mg w) : FuncData := T.t_law_beaten.fd
theorem Txt.F_law_beaten {K : PySem.W.Frag} {mg : Str → Option Value} {w : World} (T : Txt K mg w) : Fun K "_law_beaten" "_law_beaten" s_law_beaten T.f_law_beaten T.fd_law_beaten := T.t_law_beaten.F
theorem Txt.b_law_beaten {K : PySem.W.Frag} {mg : Str → Option Value} {w : World} (T : Txt K mg w) : Binds K T.fd_law_beaten p_law_beaten [] := T.t_law_beaten.b
abbrev Txt.f_tied_rule {K : PySem.W.Frag} {mg : Str → Option Value} {w : World} (T : Txt K mg w) : Addr := T.t_tied_rule.f
abbrev Txt.fd_tied_rule {K : PySem.W.Frag} {mg : Str → Option Value} {w : World} (T : Txt K mg w) : FuncData := T.t_tied_rule.fd
theorem Txt.F_tied_rule {K : PySem.W.Frag} {mg : Str → Option Value} {w : World} (T : Txt K mg w) : Fun K "_law_tied_rule" "_law_tied_rule" s_tied_rule T.f_tied_rule T.fd_tied_rule := T.t_tied_rule.F
theorem Txt.b_tied_rule {K : PySem.W.Frag} {mg : Str → Option Value} {w : World} (T : Txt K mg w) : Binds K T.fd_tied_rule p_tied_rule [] := T.t_tied_rule.b
abbrev Txt.f_told {K : PySem.W.Frag} {mg : Str → Option Value} {w : World} (T : Txt K mg w) : Addr := T.t_told.f
abbrev Txt.fd_told {K : PySem.W.Frag} {mg : Str → Option Value} {w : World} (T : Txt K mg w) : FuncData := T.t_told.fd
theorem Txt.F_told {K : PySem.W.Frag} {mg : Str → Option Value} {w : World} (T : Txt K mg w) : Fun K "_law_told" "_law_told" s_told T.f_told T.fd_told := T.t_told.F
theorem Txt.b_told {K : PySem.W.Frag} {mg : Str → Option Value} {w : World} (T : Txt K mg w) : Binds K T.fd_told p_told [] := T.t_told.b
abbrev Txt.f_due {K : PySem.W.Frag} {mg : Str → Option Value} {w : World} (T : Txt K mg w) : Addr := T.t_due.f
abbrev Txt.fd_due {K : PySem.W.Frag} {mg : Str → Option Value} {w : World} (T : Txt K mg w) : FuncData := T.t_due.fd
theorem Txt.F_due {K : PySem.W.Frag} {mg : Str → Option Value} {w : World} (T : Txt K mg w) : Fun K "_law_due" "_law_due" s_due T.f_due T.fd_due := T.t_due.F
theorem Txt.b_due {K : PySem.W.Frag} {mg : Str → Option Value} {w : World} (T : Txt K mg w) : Binds K T.fd_due p_due [] := T.t_due.b
abbrev Txt.f_right {K : PySem.W.Frag} {mg : Str → Option Value} {w : World} (T : Txt K mg w) : Addr := T.t_right.f
abbrev Txt.fd_right {K : PySem.W.Frag} {mg : Str → Option Value} {w : World} (T : Txt K mg w) : FuncData := T.t_right.fd
theorem Txt.F_right {K : PySem.W.Frag} {mg : Str → Option Value} {w : World} (T : Txt K mg w) : Fun K "_law_right" "_law_right" s_right T.f_right T.fd_right := T.t_right.F
theorem Txt.b_right {K : PySem.W.Frag} {mg : Str → Option Value} {w : World} (T : Txt K mg w) : Binds K T.fd_right p_right [] := T.t_right.b
abbrev Txt.f_law {K : PySem.W.Frag} {mg : Str → Option Value} {w : World} (T : Txt K mg w) : Addr := T.t_law.f
abbrev Txt.fd_law {K : PySem.W.Frag} {mg : Str → Option Value} {w : World} (T : Txt K mg w) : FuncData := T.t_law.fd
theorem Txt.F_law {K : PySem.W.Frag} {mg : Str → Option Value} {w : World} (T : Txt K mg w) : Fun K "law" "law" s_law T.f_law T.fd_law := T.t_law.F
theorem Txt.b_law {K : PySem.W.Frag} {mg : Str → Option Value} {w : World} (T : Txt K mg w) : Binds K T.fd_law p_law [] := T.t_law.b
end Lh

namespace Lh
open PySem PySem.Spec PyProof.Rows L2
section
variable {P : Program} {w : World} {K : PySem.W.Frag} {mg : Str → Option Value} {base : Heap}
theorem ok_NoPerson_init (T : Txt K mg w) : FnOk P w K mg base CX0 1 T.f_NoPerson_init T.fd_NoPerson_init p_NoPerson_init (spInitF T.C_NoPerson "person") := by
  refine T.F_NoPerson_init.ok sc_NoPerson_init (fun vs H Q E h => ?_) (fun cdv A outer s H vs Q E hr h => ?_)
  · obtain ⟨a, v, rfl, _⟩ := h
    rfl
  · obtain ⟨a, v, rfl, ha, q⟩ := h
    refine ⟨_, (pss_cons (ps_expr (pe_base (B := "IndexError") ty_IndexError boot_IndexError (by rfl) T.m_IndexError T.vi_IndexError (pa_cons (pv 0) (pa_cons pe_str pa_nil)) (by decide) (by decide) (by decide +kernel) (by decide +kernel)))
      (pss_one (ps_put (pv 0) (pv 1)))), ?_⟩
    refine ⟨.ref a, rfl, a, T.C_NoPerson, _, rfl, by show 1 ≤ 1000; decide, ⟨_, _, T.ox_NoPerson⟩, ha, ?_⟩
    exact ⟨v, rfl, .ref a, rfl, a, T.C_NoPerson, rfl, ⟨_, _, _, _, T.ox_NoPerson⟩, T.na_NoPerson_person, ha, q⟩
end
end Lh

namespace Lh
open PySem PySem.Spec PyProof.Rows L2
section
variable {P : Program} {w : World} {K : PySem.W.Frag} {mg : Str → Option Value} {base : Heap}
/-- what an expression comes to, then what follows -/
theorem use {te : TE} {σ : L2.St} {H : Hp} {Q : VK} (R : V → Hp → Prop) (h : ∀ Q' : VK, (∀ v H', R v H' → Q' v H') → te σ H Q') (hq : ∀ v H', R v H' → Q v H') : te σ H Q := h Q hq
/-! ### the draws -/
def spTake : Sp := fun vs H Q _ => ∃ (bx : Addr) (c m : Int), vs = [.ref bx, .int m] ∧ 0 < m ∧ m ≤ 1000000 ∧ c ≤ 1000000000 ∧ Box bx c H ∧
  ∀ (r : Int) (H' : Hp), 0 ≤ r → r < m → Ext bx H H' → Box bx (c + 1) H' → Q (.int r) H'
theorem ok_take (T : Txt K mg w) : FnOk P w K mg base CX0 1 T.f_take T.fd_take p_take spTake := by
  refine T.F_take.ok sc_take (fun vs H Q E h => ?_) (fun cdv A outer s H vs Q E hr h => ?_)
  · obtain ⟨bx, c, m, rfl, _⟩ := h
    rfl
  · obtain ⟨bx, c, m, rfl, m0, m1, c1, ⟨a, b, n, hb, a0, b0, b1, n0, n1⟩, q⟩ := h
    refine ⟨_, (pss_cons (ps_if (pt_cmpR op_gt (pe_ix ix_list (pv 0) pe_int (fun _ _ => rfl)) pe_int (nomark _))
        (pss_cons (ps_set (i := 2) sc_take.nd rfl (.inl rfl) (pe_op op_mod (pe_ix ix_list (pv 0) pe_int (fun _ _ => rfl)) (pv 1)))
        (pss_cons (ps_asg (pe_op op_fdiv (pe_ix ix_list (pv 0) pe_int (fun _ _ => rfl)) (pv 1)) (pg_sub (pv 0) pe_int set_list))
        (pss_one (ps_ret (pv 2)))))
        pss_nil)
      (pss_cons (ps_asg (pe_op op_add (pe_ix ix_list (pv 0) pe_int (fun _ _ => rfl)) pe_int) (pg_sub (pv 0) pe_int set_list))
      (pss_cons (ps_set (i := 3) sc_take.nd rfl (.inl rfl) (pe_op op_mod (pe_op op_pow (pe_op op_add (pe_ix ix_list (pv 0) pe_int (fun _ _ => rfl)) (pe_op op_mul pe_int (pe_ix ix_list (pv 0) pe_int (fun _ _ => rfl)))) pe_int) pe_int))
      (pss_cons (ps_set (i := 4) sc_take.nd rfl (.inl rfl) (pe_op op_mod (pe_op op_mul (pe_op op_add (pe_op op_add (pv 3) (pe_ix ix_list (pv 0) pe_int (fun _ _ => rfl))) (pe_op op_fdiv (pe_ix ix_list (pv 0) pe_int (fun _ _ => rfl)) pe_int)) (pe_op op_add (pe_op op_add (pe_op op_mod (pv 3) pe_int) pe_int) (pe_ix ix_list (pv 0) pe_int (fun _ _ => rfl)))) pe_int))
      (pss_one (ps_ret (pe_op op_mod (pe_op op_fdiv (pe_op op_mod (pe_op op_add (pe_op op_mul (pv 4) pe_int) (pv 3)) pe_int) pe_int) (pv 1)))))))), ?_⟩
    have i0 : ∀ x y z : V, atI [x, y, z] 0 = some x := fun _ _ _ => rfl
    have i1 : ∀ x y z : V, atI [x, y, z] 1 = some y := fun _ _ _ => rfl
    have i2 : ∀ x y z : V, atI [x, y, z] 2 = some z := fun _ _ _ => rfl
    have hS : SqL K H bx [.int a, .int b, .int n] := .inl (.inl hb)
    refine ⟨.ref bx, rfl, bx, _, 0, _, rfl, rfl, hS, i0 _ _ _, a, 0, rfl, rfl, _, rfl, ite2 (fun e => ?_) (fun e => ?_)⟩
    · refine ⟨.ref bx, rfl, bx, _, 0, _, rfl, rfl, hS, i0 _ _ _, .int m, rfl, a, m, rfl, rfl, m0, ?_⟩
      refine ⟨.ref bx, rfl, bx, _, 0, _, rfl, rfl, hS, i0 _ _ _, .int m, rfl, a, m, rfl, rfl, ⟨m0, by omega⟩, ?_⟩
      refine ⟨.ref bx, rfl, bx, _, 0, 0, rfl, rfl, hb, rfl, ?_⟩
      refine ⟨.int (a % m), rfl, q _ _ (Int.emod_nonneg _ (by omega)) (Int.emod_lt_of_pos _ m0) (Ext.refl _).box ⟨a / m, b, n, upd_same, Int.ediv_nonneg a0 (by omega), b0, b1, n0, by omega⟩⟩
    · have n2 : n + 1 ≤ 1000000001 := by omega
      refine ⟨.ref bx, rfl, bx, _, 2, _, rfl, rfl, hS, i2 _ _ _, n, 1, rfl, rfl, .ref bx, rfl, bx, _, 2, 2, rfl, rfl, hb, rfl, ?_⟩
      generalize hH1 : upd H bx (.lst (List.set [V.int a, .int b, .int n] 2 (.int (n + 1)))) = H1
      have hb1 : H1 bx = some (.lst [.int a, .int b, .int (n + 1)]) := by rw [← hH1]; exact upd_same
      have hS1 : SqL K H1 bx [.int a, .int b, .int (n + 1)] := .inl (.inl hb1)
      have bB : Box bx (c + 1) H1 := ⟨a, b, n + 1, hb1, a0, b0, b1, by omega, by omega⟩
      have eE : Ext bx H H1 := by rw [← hH1]; exact (Ext.refl _).box
      refine ⟨.ref bx, rfl, bx, _, 1, _, rfl, rfl, hS1, i1 _ _ _, .ref bx, rfl, bx, _, 2, _, rfl, rfl, hS1, i2 _ _ _, 39373, n + 1, rfl, rfl, .inl ⟨by decide, by decide⟩, b, _, rfl, rfl, _, 5, rfl, rfl, ⟨by decide, by decide, ?_⟩, _, 2147483647, rfl, rfl, by show (0 : Int) < 2147483647; decide, ?_⟩
      · omega
      dsimp only
      generalize hx : (b + 39373 * (n + 1)) ^ (5 : Int).toNat % 2147483647 = x
      have x0 : 0 ≤ x := by rw [← hx]; exact Int.emod_nonneg _ (by decide)
      have x1 : x < 2147483647 := by rw [← hx]; exact Int.emod_lt_of_pos _ (by decide)
      have d0 : 0 ≤ b / 1000003 := Int.ediv_nonneg b0 (by decide)
      have d1 : b / 1000003 ≤ b := Int.ediv_le_self _ b0
      have e0 : 0 ≤ x % 40009 := Int.emod_nonneg _ (by decide)
      have e1 : x % 40009 < 40009 := Int.emod_lt_of_pos _ (by decide)
      refine ⟨.int x, rfl, .ref bx, rfl, bx, _, 2, _, rfl, rfl, hS1, i2 _ _ _, x, n + 1, rfl, rfl, .ref bx, rfl, bx, _, 1, _, rfl, rfl, hS1, i1 _ _ _, b, 1000003, rfl, rfl, ⟨by decide, by decide⟩, _, _, rfl, rfl,
        .int x, rfl, x, 40009, rfl, rfl, by show (0 : Int) < 40009; decide, _, 7, rfl, rfl, .ref bx, rfl, bx, _, 2, _, rfl, rfl, hS1, i2 _ _ _, _, n + 1, rfl, rfl, _, _, rfl, rfl, .inr ⟨?_, ?_⟩, _, 2147483629, rfl, rfl, by show (0 : Int) < 2147483629; decide, ?_⟩
      · omega
      · omega
      dsimp only
      generalize hy : (x + (n + 1) + b / 1000003) * (x % 40009 + 7 + (n + 1)) % 2147483629 = y
      have y0 : 0 ≤ y := by rw [← hy]; exact Int.emod_nonneg _ (by decide)
      have y1 : y < 2147483629 := by rw [← hy]; exact Int.emod_lt_of_pos _ (by decide)
      refine ⟨.int y, rfl, y, 48271, rfl, rfl, .inr ⟨by decide, by decide⟩, .int x, rfl, _, x, rfl, rfl, _, 2147483587, rfl, rfl, by show (0 : Int) < 2147483587; decide, _, 64, rfl, rfl, ⟨by decide, by decide⟩, .int m, rfl, _, m, rfl, rfl, m0, ?_⟩
      exact q _ _ (Int.emod_nonneg _ (by omega)) (Int.emod_lt_of_pos _ m0) eE bB
def spDip (K : PySem.W.Frag) : Sp := fun vs H Q _ => ∃ (a : Addr) (ns : List Int) (k : Nat), vs = [.ref a, .int k] ∧ SqL K H a (ns.map V.int) ∧ k ≤ 1000 ∧
  ∀ (bx : Addr) (H' : Hp), Same H H' → H bx = none → Box bx 0 H' → Q (.ref bx) H'
theorem ok_dip (T : Txt K mg w) : FnOk P w K mg base CX0 1 T.f_dip T.fd_dip p_dip (spDip K) := by
  refine T.F_dip.ok sc_dip (fun vs H Q E h => ?_) (fun cdv A outer s H vs Q E hr h => ?_)
  · obtain ⟨a, ns, k, rfl, _⟩ := h
    rfl
  · obtain ⟨a, ns, k, rfl, hS, hk, q⟩ := h
    refine ⟨_, (pss_cons (ps_set (i := 2) sc_dip.nd rfl (.inl rfl) (pe_ifExp (pt_cmpR op_lt (pv 1) (pe_callB call_len_seq (by rfl) T.m_len (by decide +kernel) (pa_cons (pv 0) pa_nil)) (nomark _)) (pe_ix ix_list (pv 0) (pv 1) (fun _ _ => rfl)) pe_int))
      (pss_one (ps_ret (pe_lst (pa_cons (pe_op op_mul (pe_callB call_abs (by rfl) T.m_abs (by decide +kernel) (pa_cons (pv 2) pa_nil)) (pe_callTy call_int1 (by rfl) T.m_int (by decide +kernel) (pa_cons (pe_cmpR op_ge (pe_callB call_abs (by rfl) T.m_abs (by decide +kernel) (pa_cons (pv 2) pa_nil)) (pe_op op_pow pe_int pe_int) (nomark _)) pa_nil))) (pa_cons (pe_op op_add (pe_op op_add (pe_op op_mod (pv 2) pe_int) (pe_op op_mul pe_int (pv 1))) pe_int) (pa_cons pe_int pa_nil))))))), ?_⟩
    show tIf _ _ _ _ _ _
    refine use (fun v H' => ∃ x : Int, v = .int x ∧ H' = H) (fun Q' hQ => ?_) ?_
    · refine ⟨.int k, rfl, .ref a, rfl, a, _, rfl, .inl hS, k, _, rfl, rfl, _, rfl, ite2 (fun e => ?_) (fun e => ?_)⟩
      · have hk2 : k < ns.length := by
          have := of_decide_eq_true e
          rw [List.length_map] at this
          omega
        exact ⟨.ref a, rfl, .int k, rfl, a, _, k, .int ns[k], rfl, rfl, hS, atI_nat (by rw [List.getElem?_map, List.getElem?_eq_getElem hk2]; rfl), hQ _ _ ⟨_, rfl, rfl⟩⟩
      · exact hQ _ _ ⟨0, rfl, rfl⟩
    · rintro v H' ⟨x, rfl, rfl⟩
      have m0 : 0 ≤ x % 2305843009213693951 := Int.emod_nonneg _ (by decide)
      have m1 : x % 2305843009213693951 < 2305843009213693951 := Int.emod_lt_of_pos _ (by decide)
      refine ⟨.int x, rfl, x, rfl, .int x, rfl, x, rfl, 10, 18, rfl, rfl, ⟨by decide, by decide, by decide⟩, _, _, rfl, rfl, .inr ⟨_, rfl, ?_⟩⟩
      have bnd : ∀ b : Bool, (0 : Int) ≤ (if b then 1 else 0) ∧ (if b then (1 : Int) else 0) ≤ 1 := fun b => by cases b <;> decide
      refine ⟨_, _, rfl, rfl, .inr ⟨Int.lt_of_lt_of_le (by decide) (bnd _).1, Int.lt_of_le_of_lt (bnd _).2 (by decide)⟩, .int x, rfl, x, 2305843009213693951, rfl, rfl, by show (0 : Int) < 2305843009213693951; decide, .int k, rfl, 39373, k, rfl, rfl, .inl ⟨by decide, by decide⟩, _, _, rfl, rfl, _, 17, rfl, rfl, by show 3 ≤ sizeLine; decide, fun p hp => ?_⟩
      refine q p _ (same_upd hp) hp ⟨_, _, 0, upd_same, ?_, ?_, ?_, by decide, by decide⟩
      · refine Int.mul_nonneg ?_ (bnd _).1
        split <;> omega
      · show 0 ≤ x % 2305843009213693951 + 39373 * (k : Int) + 17
        omega
      · show x % 2305843009213693951 + 39373 * (k : Int) + 17 < 2 ^ 62
        omega
end
end Lh

namespace Lh
open PySem PySem.Spec PyProof.Rows L2
def cutI {α : Type} (xs : List α) (lo hi : Option Int) : List α := (xs.drop (HT.sIx xs.length 0 lo)).take (HT.sIx xs.length xs.length hi - HT.sIx xs.length 0 lo)
theorem cut_map {α : Type} (f : α → V) (xs : List α) (lo hi : Option Int) : cutV (xs.map f) lo hi = (cutI xs lo hi).map f := by
  unfold cutV cutI
  rw [List.length_map, List.map_take, List.map_drop]
theorem cutI_head {α : Type} (xs : List α) : (cutI xs none (some 3)).length = min 3 xs.length := by
  unfold cutI
  rw [HT.sIx_none, show HT.sIx xs.length xs.length (some 3) = min 3 xs.length from HT.sIx_nat xs.length _ 3, List.length_take, List.length_drop]
  omega
theorem cutI_tail {α : Type} (xs : List α) (h : xs.length ≤ 3) : (cutI xs (some 3) (some 63)).length = 0 := by
  unfold cutI
  rw [show HT.sIx xs.length 0 (some 3) = min 3 xs.length from HT.sIx_nat xs.length _ 3, List.length_take, List.length_drop]
  omega
section
variable {P : Program} {w : World} {K : PySem.W.Frag} {mg : Str → Option Value} {base : Heap}
def spFolded (K : PySem.W.Frag) : Sp := fun vs H Q _ => ∃ (a : Addr) (ns : List Int), vs = [.ref a, .int 3] ∧ SqL K H a (ns.map V.int) ∧ ns.length ≤ 63 ∧
  ∀ (p : Addr) (ms : List Int) (H' : Hp), Same H H' → H p = none → H' p = some (.lst (ms.map V.int)) → ms.length ≤ 3 → Q (.ref p) H'
theorem ok_folded (T : Txt K mg w) : FnOk P w K mg base CX0 1 T.f_folded T.fd_folded p_folded (spFolded K) := by
  refine T.F_folded.ok sc_folded (fun vs H Q E h => ?_) (fun cdv A outer s H vs Q E hr h => ?_)
  · obtain ⟨a, ns, rfl, _⟩ := h
    rfl
  · obtain ⟨a, ns, rfl, hS, hl, q⟩ := h
    refine ⟨_, (pss_cons (ps_set (i := 2) sc_folded.nd rfl (.inl rfl) (pe_callTy call_list_of (by rfl) T.m_list (by decide +kernel) (pa_cons (pe_slice sl_list (pv 0) po_none (po_some (pv 1))) pa_nil)))
      (pss_cons (ps_for PassesOwn.never rfl (pi_enum (by rfl) T.m_enumerate (pa_cons (pe_slice sl_list (pv 0) (po_some (pv 1)) (po_some pe_int)) pa_nil)) (pg_tup rfl (pgs_cons (pg_name (i := 3) sc_folded.nd rfl (.inl rfl)) (pgs_cons (pg_name (i := 4) sc_folded.nd rfl (.inl rfl)) pgs_nil)))
        (pss_one (ps_asg (pe_op op_add (pe_ix ix_list (pv 2) (pe_op op_mod (pv 3) (pv 1)) (fun _ _ => rfl)) (pe_op op_mul (pv 4) (pe_op op_add (pv 3) pe_int))) (pg_sub (pv 2) (pe_op op_mod (pv 3) (pv 1)) set_list))))
      (pss_one (ps_ret (pv 2))))), ?_⟩
    -- the cells
    refine ⟨.ref a, rfl, .int 3, rfl, 3, rfl, a, _, rfl, hS, fun c nc => ?_⟩
    have s1 := same_upd (o := .lst (cutV (ns.map V.int) none (some 3))) nc
    refine ⟨c, _, rfl, .inl (.inl (.inl upd_same)), fun l nl => ?_⟩
    have s2 := s1.trans (same_upd (o := .lst (cutV (ns.map V.int) none (some 3))) nl)
    have nlH : H l = none := s1.free nl
    -- the rest of the script
    refine ⟨.ref a, rfl, .int 3, rfl, 3, rfl, 63, rfl, a, _, rfl, s2.seq hS, fun d nd => ?_⟩
    have s3 := s2.trans (same_upd (o := .lst (cutV (ns.map V.int) (some 3) (some 63))) nd)
    have nld : l ≠ d := ne_of_none upd_same nd
    refine ⟨d, _, rfl, .inl (.inl upd_same), ?_⟩
    rw [cut_map V.int, cut_map V.int] at *
    refine for_it (walk_enum (xs := (cutI ns (some 3) (some 63)).map V.int)) (fun i σ H3 => ∃ (y3 y4 : Option V) (ms : List Int), σ = [some (.ref a), some (.int 3), some (.ref l), y3, y4] ∧ Same H H3 ∧ H3 d = some (.lst ((cutI ns (some 3) (some 63)).map V.int)) ∧ H3 l = some (.lst (ms.map V.int)) ∧ ms.length = min 3 ns.length) ?_ ?_ ?_ ?_
    · refine ⟨none, none, cutI ns none (some 3), rfl, s3, upd_same, ?_, cutI_head ns⟩
      rw [upd_ne nld, upd_same]
    · rintro i σ H3 _ ⟨y3, y4, ms, rfl, _, hd, _⟩
      exact .inl (.inl hd)
    · rintro i x σ H3 H4 hi ⟨y3, y4, ms, rfl, sm, hd, hl3, hm⟩ ⟨t, x1, x2, rfl, nt, rfl, e1, e2⟩
      rw [List.length_map] at hi
      have e1' : V.int (i : Nat) = x1 := Option.some.inj e1
      subst e1'
      have e2' : x2 = .int (cutI ns (some 3) (some 63))[i] := by
        have : ((cutI ns (some 3) (some 63)).map V.int)[i]? = some x2 := e2
        rw [List.getElem?_map, List.getElem?_eq_getElem hi] at this
        exact (Option.some.inj this).symm
      subst e2'
      have h3 : ms.length = 3 := by
        by_cases hc : ns.length ≤ 3
        · rw [cutI_tail ns hc] at hi; omega
        · omega
      have nlt : l ≠ t := ne_of_none hl3 nt
      have hl4 : (upd H3 t (.tup [.int (i : Nat), .int (cutI ns (some 3) (some 63))[i]])) l = some (.lst (ms.map V.int)) := by rw [upd_ne nlt]; exact hl3
      have hlt : ((i : Int) % 3).toNat < ms.length := by omega
      refine ⟨t, _, rfl, .inl (.inl upd_same), rfl, _, _, rfl, _, _, rfl, rfl, ?_⟩
      refine ⟨.ref l, rfl, .int i, rfl, .int 3, rfl, i, 3, rfl, rfl, by show (0 : Int) < 3; decide, l, _, _, .int ms[((i : Int) % 3).toNat], rfl, rfl, .inl (.inl hl4), ?_, ?_⟩
      · refine at_of (j := ((i : Int) % 3).toNat) (by omega) ?_
        rw [List.getElem?_map, List.getElem?_eq_getElem hlt]; rfl
      refine ⟨_, rfl, .int i, rfl, i, 2, rfl, rfl, _, _, rfl, rfl, .inr ⟨by omega, ?_⟩, _, _, rfl, rfl, .ref l, rfl, .int i, rfl, .int 3, rfl, i, 3, rfl, rfl, by show (0 : Int) < 3; decide, l, _, _, ((i : Int) % 3).toNat, rfl, rfl, hl4, ?_, ?_⟩
      · have : (cutI ns (some 3) (some 63)).length ≤ ns.length := by
          unfold cutI; rw [List.length_take, List.length_drop]; omega
        omega
      · show ixN (ms.map V.int).length ((i : Int) % 3) = some _
        unfold ixN
        rw [List.length_map, if_pos (by omega), if_pos (by omega)]
      · refine ⟨_, _, ms.set ((i : Int) % 3).toNat (ms[((i : Int) % 3).toNat] + (cutI ns (some 3) (some 63))[i] * ((i : Int) + 2)), rfl, ?_, ?_, ?_, ?_⟩
        · exact fun b o e => by
            rw [upd_ne (ne_of_none e nlH), upd_ne (ne_of_none (sm b o e) nt)]
            exact sm b o e
        · rw [upd_ne nld.symm, upd_ne (ne_of_none hd nt)]
          exact hd
        · rw [upd_same, List.map_set]
        · rw [List.length_set]; exact hm
    · rintro σ H3 ⟨y3, y4, ms, rfl, sm, hd, hl3, hm⟩
      exact ⟨.ref l, rfl, q l ms H3 sm nlH hl3 (by omega)⟩
end
end Lh

namespace Lh
open PySem PySem.Spec PyProof.Rows L2
/-- data of at most n levels, no level longer than 1000 -/
def okD : Nat → PyData → Prop
  | _, .none => True
  | _, .bool _ => True
  | _, .int _ => True
  | _, .str _ => True
  | n + 1, .list ds => ds.length ≤ 8388608 ∧ ∀ d ∈ ds, okD n d
  | n + 1, .tuple ds => ds.length ≤ 8388608 ∧ ∀ d ∈ ds, okD n d
  | _, _ => False
def tyD : PyData → String
  | .none => "NoneType"
  | .bool _ => "bool"
  | .int _ => "int"
  | .str _ => "str"
  | .list _ => "list"
  | .tuple _ => "tuple"
  | .dict _ => "dict"
theorem Rp.ty {bx : Addr} {K : PySem.W.Frag} {H : Hp} {v : V} {d : PyData} (h : Rp bx H v d) : TyX K H v (.type (tyD d)) := by
  cases h with
  | non => exact .base .non
  | bl b => exact .base (.bl b)
  | int i => exact .base (.int i)
  | str x => exact .base (.str x)
  | lst h _ _ => exact .base (.lst h)
  | tup h _ _ => exact h.ty
theorem iteP {A B : Prop} {c : Bool} (h : c = true) (a : A) : if c = true then A else B := by rw [if_pos h]; exact a
theorem iteN {A B : Prop} {c : Bool} (h : c = false) (b : B) : if c = true then A else B := by rw [h, if_neg Bool.false_ne_true]; exact b
theorem yes {σ : L2.St} {H : Hp} {Q : Bool → Hp → Prop} (h : Q true H) : tYes σ H Q := h
theorem blC {Q : VK} {c d : Bool} {H : Hp} (h : c = d) (q : Q (.bl d) H) : Q (.bl c) H := by rw [h]; exact q
theorem blT {Q : VK} {c : Bool} {H : Hp} (h : c = true) (q : Q (.bl true) H) : Q (.bl c) H := by rw [h]; exact q
/-- isinstance(name, T) -/
theorem rd_isi {K : PySem.W.Frag} {σ : L2.St} {H : Hp} {Q : VK} {i : Nat} {x : V} {T c : String} {b : Bool} (hs : σ[i]? = some (some x)) (ty : TyX K H x (.type T)) (h : kitB T c = some b) (q : Q (.bl b) H) :
    tCB (rIsi K) (tCons (tVar i) (tCons (tC (.ty c)) tNil)) σ H Q := ⟨x, hs, x, .ty c, .type T, .type c, b, rfl, .ty c, ty, kit_ty h, q⟩
/-- isinstance(name, (T, U)) -/
theorem rd_isi2 {K : PySem.W.Frag} {σ : L2.St} {H : Hp} {Q : VK} {i : Nat} {x : V} {T c e : String} {b b2 : Bool} (hs : σ[i]? = some (some x)) (ty : TyX K H x (.type T)) (h : kitB T c = some b) (h2 : kitB T e = some b2)
    (q : ∀ p, H p = none → Q (.bl (b || b2)) (upd H p (.tup [.ty c, .ty e]))) (ty2 : ∀ p, H p = none → TyX K (upd H p (.tup [.ty c, .ty e])) x (.type T)) :
    tCB (rIsiT K) (tCons (tVar i) (tCons (tTup (tCons (tC (.ty c)) (tCons (tC (.ty e)) tNil))) tNil)) σ H Q :=
  ⟨x, hs, by show 2 ≤ sizeLine; decide, fun p hp => ⟨x, p, _, .type T, [.type c, .type e], b || b2, rfl, upd_same, .cons (.ty c) (.cons (.ty e) .nil), ty2 p hp, kitAny_cons (kit_ty h) (fun z => kitAny_cons (kit_ty h2) (fun z2 => by rw [z, z2]; rfl) (fun z2 => by rw [z2, Bool.or_true])) (fun z => by rw [z, Bool.true_or]), q p hp⟩⟩
theorem walk_zipT {K : PySem.W.Frag} {a b : Addr} {xs ys : List V} {n : Nat} (h1 : xs.length = n) (h2 : ys.length = n) : Walk (RZ.ItzT K a b) n (fun H => SqT K H a xs ∧ SqT K H b ys) (YPair (fun i => xs[i]?) (fun i => ys[i]?)) := by
  refine ⟨fun i _ hi q => ⟨xs, ys, xs[i], ys[i], q.1, q.2, by simp [h1, hi], by simp [h2, hi]⟩, fun _ q => ⟨xs, ys, q.1, q.2, .inl (by omega)⟩, ?_⟩
  rintro i H v H' _ q ⟨T, x, z, h1, h2, h3, h4, h5⟩
  exact ⟨T, x, z, h1, h2, h3, h4 xs q.1, h5 ys q.2⟩
def lcSc : Expr → Scope
  | .ListComp _ _ sc _ => sc
  | _ => { kind := .function, names := [], isGenerator := false, isCoroutine := false }
def retE : List Stmt → Expr
  | [.Return (some e) _] => e
  | _ => .Constant .none 0 ⟨0, 0, 0, 0⟩
def argE : Expr → Expr
  | .Call _ (e :: _) _ _ => e
  | e => e
def isCell (osc : Scope) (k : NameKind) (n : Str) : Bool := k == .free && osc.kind == .function && osc.names.lookup n == some .cell
/-- the names of an inner scope, as the outer one has them -/
def relS (sc osc : Scope) : Scope := { sc with names := sc.names.map fun z => if isCell osc z.2 z.1 = true then (z.1, .cell) else (z.1, z.2) }
def rTupN (K : PySem.W.Frag) : List V → Hp → VK → Prop := fun xs H Q => ∃ p ys, xs = [.ref p] ∧ SqL K H p ys ∧ ∀ l (o : Obj), H l = none → o.dict = none → Q (.ref l) (upd H l (.frz o (.tup ys)))
theorem blkOk_sc {N : List Str} {sc sc2 scope : Scope} {own : List (Str × Nat)} (e : sc = sc2) (h : blkC N sc2 scope own = true) : BlkOk N sc scope own := by
  subst e
  exact blkOk_by h
def asgE : Stmt → Expr
  | .Assign _ e _ => e
  | _ => .Constant .none 0 ⟨0, 0, 0, 0⟩
def forB : Stmt → List Stmt
  | .For _ _ b _ _ => b
  | _ => []
def noS : Stmt := .Pass ⟨0, 0, 0, 0⟩
def rLenQ (K : PySem.W.Frag) : List V → Hp → VK → Prop := fun xs H Q => ∃ p ys, xs = [.ref p] ∧ (SqL K H p ys ∨ SqT K H p ys) ∧ Q (.int ys.length) H
section
variable {P : Program} {w : World} {K : PySem.W.Frag} {mg : Str → Option Value} {base : Heap}
end
end Lh

namespace Lh
open PySem PySem.Spec PyProof.Rows L2
/-! ### rules -/
inductive Rule where
  | held (n : Int)
  | sum (own : Int) (ties : List (Int × Int))
  | cap (own : Int) (ties : List (Int × Int)) (most : Int)
  | kinds (own : Int) (seen : List Int)
  | next (seen : List Int)
  | free (seen : List Int)
/-- tuples stay -/
structure Keep (H H' : Hp) : Prop where
  tup : ∀ a xs, H a = some (.tup xs) → H' a = some (.tup xs)
  frz : ∀ a o u, H a = some (.frz o u) → H' a = some (.frz o u)
theorem Keep.refl (H : Hp) : Keep H H := ⟨fun _ _ h => h, fun _ _ _ h => h⟩
theorem Keep.trans {H H1 H2 : Hp} (a : Keep H H1) (b : Keep H1 H2) : Keep H H2 := ⟨fun x y h => b.tup x y (a.tup x y h), fun x y z h => b.frz x y z (a.frz x y z h)⟩
theorem Keep.same {H H' : Hp} (e : Same H H') : Keep H H' := ⟨fun a xs h => e a _ h, fun a o u h => e a _ h⟩
theorem Keep.ext {bx : Addr} {c : Int} {H H' : Hp} (e : Ext bx H H') (b : Box bx c H) : Keep H H' := by
  obtain ⟨x, y, z, hb, _⟩ := b
  exact ⟨fun a xs h => e a _ (ne_of h hb (by intro z; cases z)) h, fun a o u h => e a _ (ne_of h hb (by intro z; cases z)) h⟩
theorem TupAt.keep {H H' : Hp} {a : Addr} {xs : List V} (k : Keep H H') (h : TupAt H a xs) : TupAt H' a xs := by
  rcases h with h | ⟨o, d, h⟩
  · exact .inl (k.tup _ _ h)
  · exact .inr ⟨o, d, k.frz _ _ _ h⟩
def PairAtH (H : Hp) (p : Addr) (q : Int × Int) : Prop := H p = some (.tup [.int q.1, .int q.2])
def TiesAt (H : Hp) (t : Addr) (ties : List (Int × Int)) : Prop := ∃ (o : Obj) (ps : List Addr), o.dict = none ∧ H t = some (.frz o (.tup (ps.map V.ref))) ∧ Paired (PairAtH H) ps ties
def SeenAt (H : Hp) (t : Addr) (seen : List Int) : Prop := TupAt H t (seen.map V.int)
def RuleAt (H : Hp) (v : V) : Rule → Prop
  | .held n => ∃ a, v = .ref a ∧ H a = some (.tup [.str "held", .int n])
  | .sum own ties => ∃ a t, v = .ref a ∧ H a = some (.tup [.str "sum", .int own, .ref t]) ∧ TiesAt H t ties
  | .cap own ties most => ∃ a t, v = .ref a ∧ H a = some (.tup [.str "cap", .int own, .ref t, .int most]) ∧ TiesAt H t ties
  | .kinds own seen => ∃ a t, v = .ref a ∧ H a = some (.tup [.str "kinds", .int own, .ref t]) ∧ SeenAt H t seen
  | .next seen => ∃ a t, v = .ref a ∧ H a = some (.tup [.str "next", .ref t]) ∧ SeenAt H t seen
  | .free seen => ∃ a t, v = .ref a ∧ H a = some (.tup [.str "free", .ref t]) ∧ SeenAt H t seen
theorem pairs_keep {H H' : Hp} (k : Keep H H') : ∀ {ps : List Addr} {ties : List (Int × Int)}, Paired (PairAtH H) ps ties → Paired (PairAtH H') ps ties
  | _, _, .nil => .nil
  | _, _, .cons h r => .cons (k.tup _ _ h) (pairs_keep k r)
theorem TiesAt.keep {H H' : Hp} {t : Addr} {ties : List (Int × Int)} (k : Keep H H') (h : TiesAt H t ties) : TiesAt H' t ties := by
  obtain ⟨o, ps, h1, h2, h3⟩ := h
  exact ⟨o, ps, h1, k.frz _ _ _ h2, pairs_keep k h3⟩
theorem SeenAt.keep {H H' : Hp} {t : Addr} {seen : List Int} (k : Keep H H') (h : SeenAt H t seen) : SeenAt H' t seen := TupAt.keep k h
theorem RuleAt.keep {H H' : Hp} {v : V} (k : Keep H H') : ∀ {r : Rule}, RuleAt H v r → RuleAt H' v r
  | .held n, ⟨a, e, h⟩ => ⟨a, e, k.tup _ _ h⟩
  | .sum _ _, ⟨a, t, e, h, q⟩ => ⟨a, t, e, k.tup _ _ h, q.keep k⟩
  | .cap _ _ _, ⟨a, t, e, h, q⟩ => ⟨a, t, e, k.tup _ _ h, q.keep k⟩
  | .kinds _ _, ⟨a, t, e, h, q⟩ => ⟨a, t, e, k.tup _ _ h, q.keep k⟩
  | .next _, ⟨a, t, e, h, q⟩ => ⟨a, t, e, k.tup _ _ h, q.keep k⟩
  | .free _, ⟨a, t, e, h, q⟩ => ⟨a, t, e, k.tup _ _ h, q.keep k⟩
def smallI (i : Int) : Prop := 0 ≤ i ∧ i ≤ 1000
/-- rising persons below many -/
def Rising (many : Int) (ns : List Int) : Prop := ns.Pairwise (· < ·) ∧ ∀ n ∈ ns, 0 ≤ n ∧ n < many
def Rule.Wf (many : Int) : Rule → Prop
  | .held n => smallI n
  | .sum own ties => smallI own ∧ Rising many (ties.map (·.1)) ∧ ∀ q ∈ ties, 1 ≤ q.2 ∧ q.2 ≤ 1000
  | .cap own ties most => smallI own ∧ Rising many (ties.map (·.1)) ∧ (∀ q ∈ ties, 1 ≤ q.2 ∧ q.2 ≤ 1000) ∧ smallI most
  | .kinds own seen => smallI own ∧ Rising many seen
  | .next seen => Rising many seen
  | .free seen => Rising many seen
def Rule.persons : Rule → List Int
  | .held _ => []
  | .sum _ ties => ties.map (·.1)
  | .cap _ ties _ => ties.map (·.1)
  | .kinds _ seen => seen
  | .next seen => seen
  | .free seen => seen
theorem Rising.sub {many : Int} {ns ms : List Int} (s : ms.Sublist ns) (h : Rising many ns) : Rising many ms := ⟨h.1.sublist s, fun n hn => h.2 n (s.subset hn)⟩
/-- an item of a written list -/
theorem pick {xs : List V} {i : Int} (h0 : 0 ≤ i) (h1 : i < xs.length) : ∃ v, v ∈ xs ∧ atI xs i = some v := by
  have hj : i.toNat < xs.length := by omega
  exact ⟨xs[i.toNat], List.getElem_mem hj, at_of (by omega) (List.getElem?_eq_getElem hj)⟩
section
variable {P : Program} {w : World} {K : PySem.W.Frag} {mg : Str → Option Value} {base : Heap}
def spSome : Sp := fun vs H Q _ => ∃ (bx p : Addr) (c m : Int) (ns : List Int), vs = [.ref bx, .ref p, .int m] ∧ 0 < m ∧ m ≤ 1000000 ∧ c + ns.length ≤ 1000000000 ∧ ns.length ≤ 1000 ∧ Box bx c H ∧ H p = some (.lst (ns.map V.int)) ∧ p ≠ bx ∧
  ∀ (q : Addr) (ms : List Int) (H' : Hp), Ext bx H H' → Box bx (c + ns.length) H' → H q = none → H' q = some (.lst (ms.map V.int)) → ms.Sublist ns → Q (.ref q) H'
theorem ok_some (T : Txt K mg w) : FnOk P w K mg base CX0 2 T.f_some T.fd_some p_some spSome := by
  have G_take := ok_take (P := P) (w := w) (base := base) T
  refine T.F_some.ok sc_some (fun vs H Q E h => ?_) (fun cdv A outer s H vs Q E hr h => ?_)
  · obtain ⟨bx, p, c, m, ns, rfl, _⟩ := h
    rfl
  · obtain ⟨bx, p, c, m, ns, rfl, m0, m1, c1, hl, hB, hp, np, q⟩ := h
    refine ⟨_, (pss_one (ps_ret (pe_lc (own := [("_law_one", 3)]) (g := gName 3) (by rfl) sc_some.nd (pi_list (pv 1)) (blkOk_by (own := [("_law_one", 3)]) (N := n_some) (sc := defScope s_some) (by decide +kernel)) (fun _ _ _ _ _ => (pg_name (i := 3) sc_some.nd rfl (.inl rfl) (.inr rfl))) (fun _ _ _ _ _ => (pts_one (pt_cmpR op_eq (pe_call G_take (hr.mono (by decide)) (by rfl) T.g_take T.F_take.kp T.b_take .nil pass0 (pa_cons (pv 0) (pa_cons (pv 2) pa_nil))) pe_int (nomark _)))) (fun _ _ _ _ _ => (pv 3))))), ?_⟩
    refine ⟨.ref p, rfl, p, rfl, ⟨_, .inl (.inl hp)⟩, fun D hD => ?_⟩
    have nD : D ≠ bx := hB.ne hD
    refine lc_it (walk_list (xs := ns.map V.int)) (fun i H3 => ∃ ms : List Int, Ext bx H H3 ∧ Box bx (c + i) H3 ∧ H3 D = some (.lst (ms.map V.int)) ∧ ms.Sublist (ns.take i)) ⟨[], (Ext.refl _).new hD, by simpa using hB.new hD, upd_same, List.nil_sublist _⟩ ?_ ?_ ?_
    · rintro i H3 _ ⟨ms, e, _⟩
      exact .inl (.inl (e _ _ np hp))
    · rintro i x H3 H4 hi ⟨ms, e, hb, hD3, sub⟩ ⟨rfl, hx⟩
      rw [List.length_map] at hi
      rw [List.getElem?_map, List.getElem?_eq_getElem hi] at hx
      have ex : x = .int ns[i] := (Option.some.inj hx).symm
      subst ex
      have tk : ns.take (i + 1) = ns.take i ++ [ns[i]] := by rw [List.take_add_one, List.getElem?_eq_getElem hi]; rfl
      have ml : ms.length ≤ i := Nat.le_trans sub.length_le (by rw [List.length_take]; omega)
      refine ⟨rfl, ?_⟩
      refine ⟨.ref bx, rfl, .int m, rfl, bx, c + i, m, rfl, m0, m1, by omega, hb, fun r H5 r0 r1 e5 b5 => ?_⟩
      have hD5 := e5 _ _ nD hD3
      have b6 : Box bx (c + (i + 1 : Nat)) H5 := b5.mono (by omega)
      refine ⟨rfl, _, rfl, ite2 (fun z => ?_) (fun z => ?_)⟩
      · refine ⟨.int ns[i], rfl, _, hD5, by rw [List.length_map]; exact small1000 (by omega), ms ++ [ns[i]], (e.trans e5).new hD, b6.at nD, ?_, ?_⟩
        · rw [upd_same, List.map_append]; rfl
        · rw [tk]; exact sub.append (List.Sublist.refl _)
      · refine ⟨ms, e.trans e5, b6, hD5, ?_⟩
        rw [tk]; exact sub.trans (List.sublist_append_left _ _)
    · rintro H3 ⟨ms, e, hb, hD3, sub⟩
      rw [List.length_map] at hb sub
      rw [List.take_length] at sub
      exact q D ms H3 e hb hD hD3 sub
end
end Lh

namespace Lh
open PySem PySem.Spec PyProof.Rows L2
section
variable {P : Program} {w : World} {K : PySem.W.Frag} {mg : Str → Option Value} {base : Heap}
theorem Paired.snoc {α β : Type} {R : α → β → Prop} {x : α} {y : β} (r : R x y) : ∀ {xs : List α} {ys : List β}, Paired R xs ys → Paired R (xs ++ [x]) (ys ++ [y])
  | _, _, .nil => .cons r .nil
  | _, _, .cons h t => .cons h (Paired.snoc r t)
def spSumRule : Sp := fun vs H Q _ => ∃ (bx p : Addr) (c far many : Int) (ns : List Int), vs = [.ref bx, .ref p, .int far] ∧ 0 < far ∧ far ≤ 999 ∧ c + 2 * ns.length + 4 ≤ 1000000000 ∧ ns.length ≤ 1000 ∧ Box bx c H ∧ H p = some (.lst (ns.map V.int)) ∧ p ≠ bx ∧ Rising many ns ∧
  ∀ (v : V) (r : Rule) (H' : Hp), Ext bx H H' → Box bx (c + 2 * ns.length + 4) H' → RuleAt H' v r → r.Wf many → r.persons = ns → Q v H'
theorem ok_sum_rule (T : Txt K mg w) : FnOk P w K mg base CX0 2 T.f_sum_rule T.fd_sum_rule p_sum_rule spSumRule := by
  have G_take := ok_take (P := P) (w := w) (base := base) T
  refine T.F_sum_rule.ok sc_sum_rule (fun vs H Q E h => ?_) (fun cdv A outer s H vs Q E hr h => ?_)
  · obtain ⟨bx, p, c, far, many, ns, rfl, _⟩ := h
    rfl
  · obtain ⟨bx, p, c, far, many, ns, rfl, f0, f1, c1, hl, hB, hp, np, rs, q⟩ := h
    refine ⟨_, (pss_cons (ps_set (i := 3) sc_sum_rule.nd rfl (.inl rfl) (pe_ix ix_list (pe_lst (pa_cons pe_int (pa_cons pe_int (pa_cons pe_int (pa_cons (pe_call G_take (hr.mono (by decide)) (by rfl) T.g_take T.F_take.kp T.b_take .nil pass0 (pa_cons (pv 0) (pa_cons pe_int pa_nil))) pa_nil))))) (pe_call G_take (hr.mono (by decide)) (by rfl) T.g_take T.F_take.kp T.b_take .nil pass0 (pa_cons (pv 0) (pa_cons pe_int pa_nil))) (fun _ _ => rfl)))
      (pss_cons (ps_set (i := 4) sc_sum_rule.nd rfl (.inl rfl) (pe_callTy call_tupleF (by rfl) T.m_tuple (by decide +kernel) (pa_cons (pe_lc (own := [("_law_one", 5)]) (g := gName 5) (by rfl) sc_sum_rule.nd (pi_list (pv 1)) (blkOk_by (own := [("_law_one", 5)]) (N := n_sum_rule) (sc := defScope s_sum_rule) (by decide +kernel)) (fun _ _ _ _ _ => (pg_name (i := 5) sc_sum_rule.nd rfl (.inl rfl) (.inr rfl))) (fun _ _ _ _ _ => pts_nil) (fun _ _ _ _ _ => (pe_tup (pa_cons (pv 5) (pa_cons (pe_ix (r := rIxL K) ix_list (pe_lst (pa_cons pe_int (pa_cons pe_int (pa_cons pe_int (pa_cons (pe_op op_add pe_int (pe_call G_take (hr.mono (by decide)) (by rfl) T.g_take T.F_take.kp T.b_take .nil pass0 (pa_cons (pv 0) (pa_cons (pv 2) pa_nil)))) pa_nil))))) (pe_call G_take (hr.mono (by decide)) (by rfl) T.g_take T.F_take.kp T.b_take .nil pass0 (pa_cons (pv 0) (pa_cons pe_int pa_nil))) (fun _ _ => rfl)) pa_nil))))) pa_nil)))
      (pss_one (ps_ret (pe_ifExp (pt_cmpR op_gt (pe_call G_take (hr.mono (by decide)) (by rfl) T.g_take T.F_take.kp T.b_take .nil pass0 (pa_cons (pv 0) (pa_cons pe_int pa_nil))) pe_int (nomark _)) (pe_tup (pa_cons pe_str (pa_cons (pv 3) (pa_cons (pv 4) pa_nil)))) (pe_tup (pa_cons pe_str (pa_cons (pv 3) (pa_cons (pv 4) (pa_cons (pe_call G_take (hr.mono (by decide)) (by rfl) T.g_take T.F_take.kp T.b_take .nil pass0 (pa_cons (pv 0) (pa_cons pe_int pa_nil))) pa_nil)))))))))), ?_⟩
    -- the own number
    refine ⟨.ref bx, rfl, bx, c, 4, rfl, by decide, by decide, by omega, hB, fun r1 H1 r10 r11 e1 b1 => ⟨by show 4 ≤ sizeLine; decide, fun l hl1 => ?_⟩⟩
    have nl : l ≠ bx := b1.ne hl1
    refine ⟨.ref bx, rfl, bx, c + 1, 4, rfl, by decide, by decide, by omega, b1.new hl1, fun r2 H2 r20 r21 e2 b2 => ?_⟩
    obtain ⟨v0, m0, a0⟩ := pick (xs := [V.int 0, .int 0, .int 1, .int r1]) r20 (by simpa using r21)
    have hl2 : H2 l = some (.lst [V.int 0, .int 0, .int 1, .int r1]) := e2 _ _ nl upd_same
    refine ⟨l, _, r2, v0, rfl, rfl, .inl (.inl hl2), a0, ?_⟩
    obtain ⟨own, rfl, o1⟩ : ∃ own : Int, v0 = .int own ∧ smallI own := by
      simp only [List.mem_cons, List.not_mem_nil, or_false] at m0
      rcases m0 with rfl | rfl | rfl | rfl
      · exact ⟨0, rfl, by decide, by decide⟩
      · exact ⟨0, rfl, by decide, by decide⟩
      · exact ⟨1, rfl, by decide, by decide⟩
      · exact ⟨r1, rfl, r10, by omega⟩
    have eX : Ext bx H H2 := (e1.trans ((Ext.refl _).new hl1)).trans e2
    have hp2 := eX _ _ np hp
    -- the ties
    refine ⟨.ref p, rfl, p, rfl, ⟨_, .inl (.inl hp2)⟩, fun D hD => ?_⟩
    have nD : D ≠ bx := b2.ne hD
    refine lc_it (walk_list (xs := ns.map V.int)) (fun i H3 => ∃ (ps : List Addr) (ties : List (Int × Int)), Ext bx H2 H3 ∧ Box bx (c + 2 + 2 * i) H3 ∧ H3 D = some (.lst (ps.map V.ref)) ∧ Paired (PairAtH H3) ps ties ∧ ties.map (·.1) = ns.take i ∧ ∀ q ∈ ties, 1 ≤ q.2 ∧ q.2 ≤ 1000)
      ⟨[], [], (Ext.refl _).new hD, (b2.new hD).mono (by omega), upd_same, .nil, rfl, fun q h => absurd h (by simp)⟩ ?_ ?_ ?_
    · rintro i H3 _ ⟨ps, ties, e, _⟩
      exact .inl (.inl (e _ _ np hp2))
    · rintro i x H3 H4 hi ⟨ps, ties, e, hb, hD3, pr, tf, tw⟩ ⟨rfl, hx⟩
      rw [List.length_map] at hi
      rw [List.getElem?_map, List.getElem?_eq_getElem hi] at hx
      have ex : x = .int ns[i] := (Option.some.inj hx).symm
      subst ex
      have tk : ns.take (i + 1) = ns.take i ++ [ns[i]] := by rw [List.take_add_one, List.getElem?_eq_getElem hi]; rfl
      have pl : ps.length = i := by
        have h1 : ps.length = ties.length := pr.length
        have h2 := congrArg List.length tf
        rw [List.length_map, List.length_take] at h2
        omega
      refine ⟨rfl, yes (iteT ?_)⟩
      refine ⟨.int ns[i], rfl, .ref bx, rfl, .int far, rfl, bx, c + 2 + 2 * i, far, rfl, f0, by omega, by omega, hb, fun r5 H5 r50 r51 e5 b5 => ⟨1, r5, rfl, rfl, by show 4 ≤ sizeLine; decide, fun l5 hl5 => ?_⟩⟩
      have nl5 : l5 ≠ bx := b5.ne hl5
      refine ⟨.ref bx, rfl, bx, c + 2 + 2 * i + 1, 4, rfl, by decide, by decide, by omega, b5.new hl5, fun r6 H6 r60 r61 e6 b6 => ?_⟩
      obtain ⟨v6, m6, a6⟩ := pick (xs := [V.int 1, .int 1, .int 2, .int (1 + r5)]) r60 (by simpa using r61)
      have hl6 : H6 l5 = some (.lst [V.int 1, .int 1, .int 2, .int (1 + r5)]) := e6 _ _ nl5 upd_same
      obtain ⟨wt, rfl, w1⟩ : ∃ wt : Int, v6 = .int wt ∧ 1 ≤ wt ∧ wt ≤ 1000 := by
        simp only [List.mem_cons, List.not_mem_nil, or_false] at m6
        rcases m6 with rfl | rfl | rfl | rfl
        · exact ⟨1, rfl, by decide, by decide⟩
        · exact ⟨1, rfl, by decide, by decide⟩
        · exact ⟨2, rfl, by decide, by decide⟩
        · exact ⟨1 + r5, rfl, by omega, by omega⟩
      refine ⟨l5, _, r6, _, rfl, rfl, .inl (.inl hl6), a6, by show 2 ≤ sizeLine; decide, fun t ht => ?_⟩
      have k36 : Keep H4 H6 := (Keep.ext e5 hb).trans ((Keep.same (same_upd hl5)).trans (Keep.ext e6 (b5.new hl5)))
      have e36 : Ext bx H4 H6 := (e5.trans ((Ext.refl _).new hl5)).trans e6
      have hD6 := e36 _ _ nD hD3
      refine ⟨_, by rw [upd_ne (ne_of_none hD6 ht)]; exact hD6, by rw [List.length_map]; exact small1000 (by omega), ps ++ [t], ties ++ [(ns[i], wt)], ?_, ?_, ?_, ?_, ?_, ?_⟩
      · exact ((e.trans e36).trans ((Ext.refl _).new ht)).new hD
      · exact ((b6.new ht).at nD).mono (by omega)
      · rw [upd_same, List.map_append]; rfl
      · have ntD : t ≠ D := (ne_of_none hD6 ht).symm
        have kT : Keep H6 (upd (upd H6 t (.tup [.int ns[i], .int wt])) D (.lst (ps.map V.ref ++ [.ref t]))) := by
          refine ⟨fun a xs h => ?_, fun a o u h => ?_⟩
          · rw [upd_ne (ne_of h hD6 (by intro z; cases z)), upd_ne (ne_of_none h ht)]; exact h
          · rw [upd_ne (ne_of h hD6 (by intro z; cases z)), upd_ne (ne_of_none h ht)]; exact h
        refine Paired.snoc ?_ (pairs_keep (k36.trans kT) pr)
        show upd (upd H6 t _) D _ t = _
        rw [upd_ne ntD, upd_same]
      · rw [List.map_append, tf, tk]; rfl
      · intro q hq
        rcases List.mem_append.mp hq with hq | hq
        · exact tw q hq
        · rw [List.mem_singleton.mp hq]; exact w1
    · rintro H3 ⟨ps, ties, e, hb, hD3, pr, tf, tw⟩
      rw [List.length_map] at hb tf
      rw [List.take_length] at tf
      refine ⟨D, _, rfl, .inl (.inl hD3), fun t o nt od => ?_⟩
      have nt2 : t ≠ bx := hb.ne nt
      have b4 := hb.new (o := .frz o (.tup (ps.map V.ref))) nt
      -- sum or cap
      refine ⟨.ref bx, rfl, bx, _, 4, rfl, by decide, by decide, ?_, b4, fun r5 H5 r50 r51 e5 b5 => ?_⟩
      · omega
      have k5 := Keep.ext e5 b4
      have tA : TiesAt H5 t ties := ⟨o, ps, od, k5.frz _ _ _ upd_same, pairs_keep ((Keep.same (same_upd nt)).trans k5) pr⟩
      have eA : Ext bx H H5 := ((eX.trans e).trans ((Ext.refl _).new nt)).trans e5
      refine ⟨_, 0, rfl, rfl, _, rfl, ite2 (fun z => ?_) (fun z => ?_)⟩
      · refine ⟨.int own, rfl, .ref t, rfl, by show 3 ≤ sizeLine; decide, fun a ha => ?_⟩
        refine q (.ref a) (.sum own ties) _ (eA.trans ((Ext.refl _).new ha)) ((b5.new ha).mono (by omega)) ⟨a, t, rfl, upd_same, tA.keep (Keep.same (same_upd ha))⟩ ⟨o1, by rw [tf]; exact rs, tw⟩ tf
      · refine ⟨.int own, rfl, .ref t, rfl, .ref bx, rfl, bx, _, 6, rfl, by decide, by decide, ?_, b5, fun r6 H6 r60 r61 e6 b6 => ⟨by show 4 ≤ sizeLine; decide, fun a ha => ?_⟩⟩
        · omega
        refine q (.ref a) (.cap own ties r6) _ ((eA.trans e6).trans ((Ext.refl _).new ha)) ((b6.new ha).mono (by omega)) ⟨a, t, rfl, upd_same, (tA.keep (Keep.ext e6 b5)).keep (Keep.same (same_upd ha))⟩ ⟨o1, by rw [tf]; exact rs, tw, r60, by omega⟩ tf
end
end Lh

namespace Lh
open PySem PySem.Spec PyProof.Rows L2
section
variable {P : Program} {w : World} {K : PySem.W.Frag} {mg : Str → Option Value} {base : Heap}
def spRule : Sp := fun vs H Q _ => ∃ (bx p : Addr) (c far many : Int) (m : V) (ns : List Int), vs = [.ref bx, m, .ref p, .int far] ∧ 0 < far ∧ far ≤ 999 ∧ c + 3 * ns.length + 6 ≤ 1000000000 ∧ ns.length ≤ 1000 ∧ Box bx c H ∧ H p = some (.lst (ns.map V.int)) ∧ p ≠ bx ∧ Rising many ns ∧
  ∀ (v : V) (r : Rule) (H' : Hp), Ext bx H H' → Box bx (c + 3 * ns.length + 6) H' → RuleAt H' v r → r.Wf many → r.persons.Sublist ns → Q v H'
theorem ok_rule (T : Txt K mg w) : FnOk P w K mg base CX0 3 T.f_rule T.fd_rule p_rule spRule := by
  have G_take := ok_take (P := P) (w := w) (base := base) T
  have G_some := ok_some (P := P) (w := w) (base := base) T
  have G_sum_rule := ok_sum_rule (P := P) (w := w) (base := base) T
  refine T.F_rule.ok sc_rule (fun vs H Q E h => ?_) (fun cdv A outer s H vs Q E hr h => ?_)
  · obtain ⟨bx, p, c, far, many, m, ns, rfl, _⟩ := h
    rfl
  · obtain ⟨bx, p, c, far, many, m, ns, rfl, f0, f1, c1, hl, hB, hp, np, rs, q⟩ := h
    refine ⟨_, (pss_cons (ps_par (i := 4) (j := 5) (by rfl) sc_rule.nd rfl rfl (by decide) rfl rfl (pa_cons (pe_call G_some (hr.mono (by decide)) (by rfl) T.g_some T.F_some.kp T.b_some .nil pass0 (pa_cons (pv 0) (pa_cons (pv 2) (pa_cons pe_int pa_nil)))) (pa_cons (pe_call G_take (hr.mono (by decide)) (by rfl) T.g_take T.F_take.kp T.b_take .nil pass0 (pa_cons (pv 0) (pa_cons pe_int pa_nil))) pa_nil)) (by rfl))
      (pss_cons (ps_if (pt_cmpR op_eq (pv 5) pe_int (nomark _))
        (pss_one (ps_ret (pe_tup (pa_cons pe_str (pa_cons (pe_call G_take (hr.mono (by decide)) (by rfl) T.g_take T.F_take.kp T.b_take .nil pass0 (pa_cons (pv 0) (pa_cons pe_int pa_nil))) pa_nil)))))
        pss_nil)
      (pss_cons (ps_if (pt_cmpR op_eq (pv 5) pe_int (nomark _))
        (pss_one (ps_ret (pe_tup (pa_cons pe_str (pa_cons (pe_call G_take (hr.mono (by decide)) (by rfl) T.g_take T.F_take.kp T.b_take .nil pass0 (pa_cons (pv 0) (pa_cons pe_int pa_nil))) (pa_cons (pe_callTy call_tupleF (by rfl) T.m_tuple (by decide +kernel) (pa_cons (pv 4) pa_nil)) pa_nil))))))
        pss_nil)
      (pss_cons (ps_if (pt_cmpR op_eq (pv 5) pe_int (nomark _))
        (pss_one (ps_ret (pe_tup (pa_cons pe_str (pa_cons (pe_callTy call_tupleF (by rfl) T.m_tuple (by decide +kernel) (pa_cons (pv 4) pa_nil)) pa_nil)))))
        pss_nil)
      (pss_one (ps_ret (pe_ifExp (pt_cmpR op_eq (pv 5) pe_int (nomark _)) (pe_tup (pa_cons pe_str (pa_cons (pe_callTy call_tupleF (by rfl) T.m_tuple (by decide +kernel) (pa_cons (pv 4) pa_nil)) pa_nil))) (pe_call G_sum_rule (hr.mono (by decide)) (by rfl) T.g_sum_rule T.F_sum_rule.kp T.b_sum_rule .nil pass0 (pa_cons (pv 0) (pa_cons (pv 4) (pa_cons (pv 3) pa_nil))))))))))), ?_⟩
    refine ⟨.ref bx, rfl, .ref p, rfl, bx, p, c, 2, ns, rfl, by decide, by decide, by omega, hl, hB, hp, np, fun z ms H1 e1 b1 nz hz sub => ?_⟩
    have nz2 : z ≠ bx := hB.ne nz
    have ml := sub.length_le
    refine ⟨.ref bx, rfl, bx, _, 10, rfl, by decide, by decide, by omega, b1, fun r2 H2 r20 r21 e2 b2 => ⟨_, _, rfl, ?_⟩⟩
    have hz2 := e2 _ _ nz2 hz
    have eX := e1.trans e2
    refine ⟨.int r2, rfl, rfl, _, rfl, ite2 (fun w0 => ?_) (fun w0 => ?_)⟩
    · refine ⟨.ref bx, rfl, bx, _, 7, rfl, by decide, by decide, by omega, b2, fun r3 H3 r30 r31 e3 b3 => ⟨by show 2 ≤ sizeLine; decide, fun a ha => ?_⟩⟩
      exact q (.ref a) (.held r3) _ ((eX.trans e3).trans ((Ext.refl _).new ha)) ((b3.new ha).mono (by omega)) ⟨a, rfl, upd_same⟩ ⟨r30, by omega⟩ (List.nil_sublist _)
    refine ⟨.int r2, rfl, rfl, _, rfl, ite2 (fun w1 => ?_) (fun w1 => ?_)⟩
    · refine ⟨.ref bx, rfl, bx, _, 3, rfl, by decide, by decide, by omega, b2, fun r3 H3 r30 r31 e3 b3 => ?_⟩
      refine ⟨.ref z, rfl, z, _, rfl, .inl (.inl (e3 _ _ nz2 hz2)), fun t o nt od => ⟨by show 3 ≤ sizeLine; decide, fun a ha => ?_⟩⟩
      exact q (.ref a) (.kinds r3 ms) _ (((eX.trans e3).trans ((Ext.refl _).new nt)).trans ((Ext.refl _).new ha)) (((b3.new nt).new ha).mono (by omega)) ⟨a, t, rfl, upd_same, .inr ⟨o, od, by rw [upd_ne (ne_of_none upd_same ha)]; exact upd_same⟩⟩ ⟨⟨r30, by omega⟩, rs.sub sub⟩ sub
    refine ⟨.int r2, rfl, rfl, _, rfl, ite2 (fun w2 => ?_) (fun w2 => ?_)⟩
    · refine ⟨.ref z, rfl, z, _, rfl, .inl (.inl hz2), fun t o nt od => ⟨by show 2 ≤ sizeLine; decide, fun a ha => ?_⟩⟩
      exact q (.ref a) (.next ms) _ ((eX.trans ((Ext.refl _).new nt)).trans ((Ext.refl _).new ha)) (((b2.new nt).new ha).mono (by omega)) ⟨a, t, rfl, upd_same, .inr ⟨o, od, by rw [upd_ne (ne_of_none upd_same ha)]; exact upd_same⟩⟩ (rs.sub sub) sub
    refine ⟨.int r2, rfl, rfl, _, rfl, ite2 (fun w3 => ?_) (fun w3 => ?_)⟩
    · refine ⟨.ref z, rfl, z, _, rfl, .inl (.inl hz2), fun t o nt od => ⟨by show 2 ≤ sizeLine; decide, fun a ha => ?_⟩⟩
      exact q (.ref a) (.free ms) _ ((eX.trans ((Ext.refl _).new nt)).trans ((Ext.refl _).new ha)) (((b2.new nt).new ha).mono (by omega)) ⟨a, t, rfl, upd_same, .inr ⟨o, od, by rw [upd_ne (ne_of_none upd_same ha)]; exact upd_same⟩⟩ (rs.sub sub) sub
    · refine ⟨.ref bx, rfl, .ref z, rfl, .int far, rfl, bx, z, _, far, many, ms, rfl, f0, f1, ?_, by omega, b2, hz2, nz2, rs.sub sub, fun v r H3 e3 b3 ra wf pe => ?_⟩
      · omega
      · exact q v r H3 (eX.trans e3) (b3.mono (by omega)) ra wf (by rw [pe]; exact sub)
end
end Lh

namespace Lh
open PySem PySem.Spec PyProof.Rows L2
/-! ### what a rule tells -/
theorem nodup_len {α : Type} [DecidableEq α] : ∀ (xs ys : List α), xs.Nodup → (∀ x ∈ xs, x ∈ ys) → xs.length ≤ ys.length
  | [], _, _, _ => Nat.zero_le _
  | x :: t, ys, nd, h => by
    have hx : x ∈ ys := h x List.mem_cons_self
    have nt := List.nodup_cons.mp nd
    have h2 := nodup_len t (ys.erase x) nt.2 (fun y hy => by
      have ne : y ≠ x := fun e => nt.1 (by rw [← e]; exact hy)
      exact (List.mem_erase_of_ne ne).mpr (h y (List.mem_cons_of_mem _ hy)))
    rw [List.length_erase_of_mem hx] at h2
    have : 0 < ys.length := List.length_pos_of_mem hx
    rw [List.length_cons]
    omega
def wgt (ties : List (Int × Int)) (p : Int) : Int := ((ties.find? fun q => decide (q.1 = p)).map (·.2)).getD 0
def IsMex (ns : List Int) (x : Int) : Prop := x ∉ ns ∧ 0 ≤ x ∧ ∀ j, 0 ≤ j → j < x → j ∈ ns
def Tell : Rule → List (Int × Int) → Int → Prop
  | .held n, _, x => x = n
  | .sum own ties, lot, x => x = own + (lot.map fun q => wgt ties q.1).sum
  | .cap own ties most, lot, x => x = min (own + (lot.map fun q => wgt ties q.1).sum) most
  | .kinds own _, lot, x => ∃ ks : List Int, ks.Nodup ∧ (∀ k, k ∈ ks ↔ k ∈ lot.map (·.2)) ∧ x = own + ks.length
  | .next _, lot, x => (lot = [] ∧ x = 0) ∨ (x - 1 ∈ lot.map (·.2) ∧ ∀ y ∈ lot.map (·.2), y ≤ x - 1)
  | .free _, lot, x => IsMex (lot.map (·.2)) x
theorem Tell.unique : ∀ {r : Rule} {lot : List (Int × Int)} {x y : Int}, Tell r lot x → Tell r lot y → x = y
  | .held _, _, _, _, h, k => h.trans k.symm
  | .sum _ _, _, _, _, h, k => h.trans k.symm
  | .cap _ _ _, _, _, _, h, k => h.trans k.symm
  | .kinds _ _, lot, x, y, ⟨a, na, ma, ha⟩, ⟨b, nb, mb, hb⟩ => by
    have h1 := nodup_len a b na (fun z hz => (mb z).mpr ((ma z).mp hz))
    have h2 := nodup_len b a nb (fun z hz => (ma z).mpr ((mb z).mp hz))
    omega
  | .next _, lot, x, y, h, k => by
    rcases h with ⟨h1, h2⟩ | ⟨h1, h2⟩
    · rcases k with ⟨k1, k2⟩ | ⟨k1, k2⟩
      · omega
      · rw [h1] at k1; exact absurd k1 (by simp)
    · rcases k with ⟨k1, k2⟩ | ⟨k1, k2⟩
      · rw [k1] at h1; exact absurd h1 (by simp)
      · have := h2 _ k1; have := k2 _ h1; omega
  | .free _, lot, x, y, ⟨h1, h2, h3⟩, ⟨k1, k2, k3⟩ => by
    rcases Int.lt_trichotomy x y with h | h | h
    · exact absurd (k3 x h2 h) h1
    · exact h
    · exact absurd (h3 y k2 h) k1
/-! ### dicts of ties -/
def kvOf (ties : List (Int × Int)) : List (Key × V) := ties.map fun q => (Sum.inl q.1, V.int q.2)
theorem merge_new : ∀ (more acc : List (Key × V)), ((acc ++ more).map (·.1)).Nodup → mergeK acc more = acc ++ more
  | [], acc, _ => by rw [List.append_nil]; rfl
  | q :: t, acc, nd => by
    have hq : (acc.any fun kv => decide (kv.1 = q.1)) = false := by
      rw [List.any_eq_false]
      intro kv hkv e
      have e' : kv.1 = q.1 := of_decide_eq_true e
      rw [List.map_append, List.nodup_append] at nd
      exact nd.2.2 _ (List.mem_map_of_mem hkv) q.1 (by simp) e'
    have e1 : mergeK acc (q :: t) = mergeK (putK acc q.1 q.2) t := rfl
    have e2 : putK acc q.1 q.2 = acc ++ [q] := by
      unfold putK
      rw [hq, if_neg Bool.false_ne_true]
    rw [e1, e2, merge_new t (acc ++ [q]) (by rw [List.append_assoc]; exact nd), List.append_assoc]
    rfl
theorem kv_nodup {ties : List (Int × Int)} (h : (ties.map (·.1)).Nodup) : ((kvOf ties).map (·.1)).Nodup := by
  unfold kvOf
  rw [List.map_map]
  have e : ((fun q : Key × V => q.1) ∘ fun q : Int × Int => ((Sum.inl q.1 : Key), V.int q.2)) = (fun n : Int => (Sum.inl n : Key)) ∘ (fun q : Int × Int => q.1) := rfl
  rw [e, ← List.map_map, List.nodup_iff_pairwise_ne]
  rw [List.nodup_iff_pairwise_ne] at h
  exact List.Pairwise.map _ (fun a b z q => z (Sum.inl.inj q)) h
theorem kv_get : ∀ {ties : List (Int × Int)} {p : Int}, p ∈ ties.map (·.1) → valV (kvOf ties) (Sum.inl p) = some (.int (wgt ties p))
  | [], p, h => absurd h (by simp)
  | q :: t, p, h => by
    by_cases e : q.1 = p
    · have e1 : valV (kvOf (q :: t)) (Sum.inl p) = some (V.int q.2) := valV_pos (p := ((Sum.inl q.1 : Key), V.int q.2)) (by rw [e])
      rw [e1]
      unfold wgt
      rw [List.find?_cons, decide_eq_true e]
      rfl
    · have e1 : valV (kvOf (q :: t)) (Sum.inl p) = valV (kvOf t) (Sum.inl p) := valV_neg (p := ((Sum.inl q.1 : Key), V.int q.2)) (fun z => e (Sum.inl.inj z))
      have h' : p ∈ t.map (·.1) := by
        rw [List.map_cons, List.mem_cons] at h
        rcases h with h | h
        · exact absurd h.symm e
        · exact h
      rw [e1, kv_get h']
      unfold wgt
      rw [List.find?_cons, decide_eq_false e]
theorem Rising.nodup {many : Int} {ns : List Int} (h : Rising many ns) : ns.Nodup := by
  rw [List.nodup_iff_pairwise_ne]
  exact h.1.imp fun z => by omega
/-! ### a walk over pairs -/
theorem walk_tupR {K : PySem.W.Frag} {t : Addr} (ps : List Addr) : Walk (Itt K t) ps.length (fun H => SqT K H t (ps.map V.ref)) (YAt (ps.map V.ref)) := by
  have h := walk_tup (K := K) (a := t) (xs := ps.map V.ref)
  rw [List.length_map] at h
  exact h
theorem walk_listR {K : PySem.W.Frag} {t : Addr} (ps : List Addr) : Walk (Itl K t) ps.length (fun H => SqL K H t (ps.map V.ref)) (YAt (ps.map V.ref)) := by
  have h := walk_list (K := K) (a := t) (xs := ps.map V.ref)
  rw [List.length_map] at h
  exact h
theorem lc_pairs {K : PySem.W.Frag} {J : It} {G : Hp → Prop} {ps : List Addr} {lot : List (Int × Int)} {H1 : Hp} {D : Addr} {σ : L2.St} {vs : List Nat} {te : TE} {Qd : Hp → Prop} {i j : Nat} (f : Int × Int → Int)
    (wk : Walk J ps.length G (YAt (ps.map V.ref))) (hp : Paired (PairAtH H1) ps lot) (hD : H1 D = none) (hl : ps.length ≤ 1000) (hG : ∀ H3, Same H1 H3 → G H3)
    (hw : ∀ a b, wipe (((wipe σ vs).set i a).set j b) vs = wipe σ vs)
    (he : ∀ q ∈ lot, ∀ H3, Same H1 H3 → ∀ Q : VK, Q (.int (f q)) H3 → te (((wipe σ vs).set i (some (.int q.1))).set j (some (.int q.2))) H3 Q)
    (hq : ∀ H', Same H1 H' → H' D = some (.lst ((lot.map f).map V.int)) → Qd H') :
    ∃ W : Nat → Nat → Hp → Prop, (∃ m, W 0 m (upd H1 D (.lst []))) ∧ ∀ i1 m H, W i1 m H →
      (J.stop i1 H ∧ Qd H) ∨ (J.go i1 H ∧ ∃ Nx : Hp → Prop, (∀ H', Nx H' → ∃ m', m' < m ∧ W (i1 + 1) m' H') ∧ ∀ x H', J.yld i1 H x H' → gTup K 2 (gCons (gName i) (gCons (gName j) gNil)) x (wipe σ vs) H' fun σ2 H2 => wipe σ2 vs = wipe σ vs ∧ tYes σ2 H2 fun b H3 =>
        if b = true then te σ2 H3 fun y H4 => ∃ acc, H4 D = some (.lst acc) ∧ acc.length < sizeLine ∧ Nx (upd H4 D (.lst (acc ++ [y]))) else Nx H3) := by
  have ll : ps.length = lot.length := hp.length
  refine lc_it wk (fun n H3 => Same H1 H3 ∧ H3 D = some (.lst (((lot.take n).map f).map V.int))) ⟨same_upd hD, upd_same⟩ (fun n H3 _ h => hG H3 h.1) ?_ ?_
  · rintro n x H3 H4 hn ⟨sm, h3⟩ ⟨rfl, hx⟩
    rw [List.getElem?_map, List.getElem?_eq_getElem hn] at hx
    have ex : x = .ref ps[n] := (Option.some.inj hx).symm
    subst ex
    have hn2 : n < lot.length := by omega
    have pa : PairAtH H1 ps[n] lot[n] := by
      have : ∀ {ps : List Addr} {lot : List (Int × Int)}, Paired (PairAtH H1) ps lot → ∀ (n : Nat) (h1 : n < ps.length) (h2 : n < lot.length), PairAtH H1 ps[n] lot[n] := by
        intro ps lot hp
        induction hp with
        | nil => intro n h1; exact absurd h1 (by simp)
        | cons r t ih =>
          intro n h1 h2
          cases n with
          | zero => exact r
          | succ n => exact ih n (by simpa using h1) (by simpa using h2)
      exact this hp n hn hn2
    refine ⟨ps[n], _, rfl, .inl (.inl (sm _ _ pa)), rfl, _, _, rfl, _, _, rfl, rfl, hw _ _, yes (iteT ?_)⟩
    refine he lot[n] (List.getElem_mem hn2) _ sm _ ⟨_, h3, ?_, same_mut sm hD, ?_⟩
    · rw [List.length_map, List.length_map, List.length_take]; exact small1000 (by omega)
    · rw [upd_same, List.take_add_one, List.getElem?_eq_getElem hn2, List.map_append, List.map_append]; rfl
  · rintro H3 ⟨sm, h3⟩
    rw [ll, List.take_length] at h3
    exact hq H3 sm h3
end Lh

namespace Lh
open PySem PySem.Spec PyProof.Rows L2
section
variable {P : Program} {w : World} {K : PySem.W.Frag} {mg : Str → Option Value} {base : Heap}
def spSeenBy : Sp := fun vs H Q _ => ∃ (v : V) (r : Rule), vs = [v] ∧ RuleAt H v r ∧ r.persons.length ≤ 1000 ∧ ∀ (p : Addr) (H' : Hp), Same H H' → H p = none → H' p = some (.lst (r.persons.map V.int)) → Q (.ref p) H'
theorem ok_seen_by (T : Txt K mg w) : FnOk P w K mg base CX0 1 T.f_seen_by T.fd_seen_by p_seen_by spSeenBy := by
  refine T.F_seen_by.ok sc_seen_by (fun vs H Q E h => ?_) (fun cdv A outer s H vs Q E hr h => ?_)
  · obtain ⟨v, r, rfl, _⟩ := h
    rfl
  · obtain ⟨v, r, rfl, hv, hl, q⟩ := h
    refine ⟨_, (pss_cons (ps_set (i := 1) sc_seen_by.nd rfl (.inl rfl) (pe_ix ix_tup (pv 0) pe_int (fun _ _ => rfl)))
      (pss_cons (ps_if (pt_cmpR op_eq (pv 1) pe_str (nomark _))
        (pss_one (ps_ret (pe_lst pa_nil)))
        pss_nil)
      (pss_cons (ps_if (pt_cmpR op_in_seq (pv 1) (pe_tup (pa_cons pe_str (pa_cons pe_str pa_nil))) (by rfl))
        (pss_one (ps_ret (pe_lc (own := [("person", 2), ("weight", 3)]) (g := gTup K 2 (gCons (gName 2) (gCons (gName 3) gNil))) (by rfl) sc_seen_by.nd (pi_tup (pe_ix ix_tup (pv 0) pe_int (fun _ _ => rfl))) (blkOk_by (own := [("person", 2), ("weight", 3)]) (N := n_seen_by) (sc := defScope s_seen_by) (by decide +kernel)) (fun _ _ _ _ _ => (pg_tup rfl (pgs_cons (pg_name (i := 2) sc_seen_by.nd rfl (.inl rfl) (.inr rfl)) (pgs_cons (pg_name (i := 3) sc_seen_by.nd rfl (.inl rfl) (.inr rfl)) pgs_nil)))) (fun _ _ _ _ _ => pts_nil) (fun _ _ _ _ _ => (pv 2)))))
        pss_nil)
      (pss_cons (ps_if (pt_cmpR op_eq (pv 1) pe_str (nomark _))
        (pss_one (ps_ret (pe_callTy call_list_of (by rfl) T.m_list (by decide +kernel) (pa_cons (pe_ix ix_tup (pv 0) pe_int (fun _ _ => rfl)) pa_nil))))
        pss_nil)
      (pss_one (ps_ret (pe_callTy call_list_of (by rfl) T.m_list (by decide +kernel) (pa_cons (pe_ix ix_tup (pv 0) pe_int (fun _ _ => rfl)) pa_nil)))))))), ?_⟩
    cases r with
    | held n =>
      obtain ⟨a, rfl, ha⟩ := hv
      refine ⟨.ref a, rfl, a, _, 0, _, rfl, rfl, .inl (.inl ha), rfl, ?_⟩
      refine ⟨_, rfl, rfl, _, rfl, iteP (by decide +kernel) ?_⟩
      exact ⟨Nat.zero_le _, fun p np => q p _ (same_upd np) np upd_same⟩
    | sum own ties =>
      obtain ⟨a, t, rfl, ha, o, ps, od, ht, pr⟩ := hv
      have el : ps.length = ties.length := pr.length
      have hl2 : ps.length ≤ 1000 := by rw [el]; simpa [Rule.persons] using hl
      refine ⟨.ref a, rfl, a, _, 0, _, rfl, rfl, .inl (.inl ha), rfl, ?_⟩
      refine ⟨_, rfl, rfl, _, rfl, iteN (by decide +kernel) ?_⟩
      refine ⟨_, rfl, by show 2 ≤ sizeLine; decide, fun u hu => ⟨u, _, rfl, .inr (.inl (.inl upd_same)), rfl, rfl, _, rfl, iteP (by decide +kernel) ?_⟩⟩
      have s1 := same_upd (o := .tup [.str "sum", .str "cap"]) hu
      refine ⟨.ref a, rfl, a, _, 2, _, rfl, rfl, .inl (.inl (s1 _ _ ha)), rfl, t, rfl, ⟨_, .inl (.inr ⟨o, s1 _ _ ht⟩)⟩, fun D hD => ?_⟩
      refine lc_pairs (·.1) (walk_tupR ps) (pairs_keep (Keep.same s1) pr) hD hl2 (fun H3 s3 => .inl (.inr ⟨o, s3 _ _ (s1 _ _ ht)⟩)) (fun _ _ => rfl) (fun q _ H3 _ Q h => ⟨_, rfl, h⟩) (fun H3 s3 h3 => ?_)
      exact q D H3 (s1.trans s3) (s1.free hD) h3
    | cap own ties most =>
      obtain ⟨a, t, rfl, ha, o, ps, od, ht, pr⟩ := hv
      have el : ps.length = ties.length := pr.length
      have hl2 : ps.length ≤ 1000 := by rw [el]; simpa [Rule.persons] using hl
      refine ⟨.ref a, rfl, a, _, 0, _, rfl, rfl, .inl (.inl ha), rfl, ?_⟩
      refine ⟨_, rfl, rfl, _, rfl, iteN (by decide +kernel) ?_⟩
      refine ⟨_, rfl, by show 2 ≤ sizeLine; decide, fun u hu => ⟨u, _, rfl, .inr (.inl (.inl upd_same)), rfl, rfl, _, rfl, iteP (by decide +kernel) ?_⟩⟩
      have s1 := same_upd (o := .tup [.str "sum", .str "cap"]) hu
      refine ⟨.ref a, rfl, a, _, 2, _, rfl, rfl, .inl (.inl (s1 _ _ ha)), rfl, t, rfl, ⟨_, .inl (.inr ⟨o, s1 _ _ ht⟩)⟩, fun D hD => ?_⟩
      refine lc_pairs (·.1) (walk_tupR ps) (pairs_keep (Keep.same s1) pr) hD hl2 (fun H3 s3 => .inl (.inr ⟨o, s3 _ _ (s1 _ _ ht)⟩)) (fun _ _ => rfl) (fun q _ H3 _ Q h => ⟨_, rfl, h⟩) (fun H3 s3 h3 => ?_)
      exact q D H3 (s1.trans s3) (s1.free hD) h3
    | kinds own seen =>
      obtain ⟨a, t, rfl, ha, ht⟩ := hv
      refine ⟨.ref a, rfl, a, _, 0, _, rfl, rfl, .inl (.inl ha), rfl, ?_⟩
      refine ⟨_, rfl, rfl, _, rfl, iteN (by decide +kernel) ?_⟩
      refine ⟨_, rfl, by show 2 ≤ sizeLine; decide, fun u hu => ⟨u, _, rfl, .inr (.inl (.inl upd_same)), rfl, rfl, _, rfl, iteN (by decide +kernel) ?_⟩⟩
      have s1 := same_upd (o := .tup [.str "sum", .str "cap"]) hu
      refine ⟨_, rfl, rfl, _, rfl, iteP (by decide +kernel) ?_⟩
      refine ⟨.ref a, rfl, a, _, 2, _, rfl, rfl, .inl (.inl (s1 _ _ ha)), rfl, t, _, rfl, .inr (TupAt.keep (Keep.same s1) ht).sq, fun p np => ?_⟩
      exact q p _ (s1.trans (same_upd np)) (s1.free np) upd_same
    | next seen =>
      obtain ⟨a, t, rfl, ha, ht⟩ := hv
      refine ⟨.ref a, rfl, a, _, 0, _, rfl, rfl, .inl (.inl ha), rfl, ?_⟩
      refine ⟨_, rfl, rfl, _, rfl, iteN (by decide +kernel) ?_⟩
      refine ⟨_, rfl, by show 2 ≤ sizeLine; decide, fun u hu => ⟨u, _, rfl, .inr (.inl (.inl upd_same)), rfl, rfl, _, rfl, iteN (by decide +kernel) ?_⟩⟩
      have s1 := same_upd (o := .tup [.str "sum", .str "cap"]) hu
      refine ⟨_, rfl, rfl, _, rfl, iteN (by decide +kernel) ?_⟩
      refine ⟨.ref a, rfl, a, _, 1, _, rfl, rfl, .inl (.inl (s1 _ _ ha)), rfl, t, _, rfl, .inr (TupAt.keep (Keep.same s1) ht).sq, fun p np => ?_⟩
      exact q p _ (s1.trans (same_upd np)) (s1.free np) upd_same
    | free seen =>
      obtain ⟨a, t, rfl, ha, ht⟩ := hv
      refine ⟨.ref a, rfl, a, _, 0, _, rfl, rfl, .inl (.inl ha), rfl, ?_⟩
      refine ⟨_, rfl, rfl, _, rfl, iteN (by decide +kernel) ?_⟩
      refine ⟨_, rfl, by show 2 ≤ sizeLine; decide, fun u hu => ⟨u, _, rfl, .inr (.inl (.inl upd_same)), rfl, rfl, _, rfl, iteN (by decide +kernel) ?_⟩⟩
      have s1 := same_upd (o := .tup [.str "sum", .str "cap"]) hu
      refine ⟨_, rfl, rfl, _, rfl, iteN (by decide +kernel) ?_⟩
      refine ⟨.ref a, rfl, a, _, 1, _, rfl, rfl, .inl (.inl (s1 _ _ ha)), rfl, t, _, rfl, .inr (TupAt.keep (Keep.same s1) ht).sq, fun p np => ?_⟩
      exact q p _ (s1.trans (same_upd np)) (s1.free np) upd_same
end
end Lh

namespace Lh
open PySem PySem.Spec PyProof.Rows L2
/-- a lot in the heap, a list of pairs or a tuple of them -/
def LotAt (H : Hp) (v : V) (lot : List (Int × Int)) : Prop := ∃ (a : Addr) (ps : List Addr), v = .ref a ∧ (H a = some (.lst (ps.map V.ref)) ∨ TupAt H a (ps.map V.ref)) ∧ Paired (PairAtH H) ps lot ∧ ps.length ≤ 1000
theorem LotAt.same {H H' : Hp} {v : V} {lot : List (Int × Int)} (s : Same H H') (h : LotAt H v lot) : LotAt H' v lot := by
  obtain ⟨a, ps, e, h1, h2, h3⟩ := h
  refine ⟨a, ps, e, ?_, pairs_keep (Keep.same s) h2, h3⟩
  rcases h1 with h1 | h1
  · exact .inl (s _ _ h1)
  · exact .inr (h1.keep (Keep.same s))
theorem pairs_sq {K : PySem.W.Frag} {H : Hp} : ∀ {ps : List Addr} {ties : List (Int × Int)}, Paired (PairAtH H) ps ties → Paired (fun p kv => SqT K H p [kV kv.1, kv.2]) ps (kvOf ties)
  | _, _, .nil => .nil
  | _, _, .cons h r => .cons (.inl (.inl h)) (pairs_sq r)
theorem merge_kv {ties : List (Int × Int)} (h : (ties.map (·.1)).Nodup) : mergeK [] (kvOf ties) = kvOf ties := by
  rw [merge_new (kvOf ties) [] (by rw [List.nil_append]; exact kv_nodup h), List.nil_append]
section
variable {P : Program} {w : World} {K : PySem.W.Frag} {mg : Str → Option Value} {base : Heap}
theorem in_ints (x : Int) (ns : List Int) : inV (.int x) (ns.map V.int) = decide (x ∈ ns) := by
  unfold inV
  rw [List.any_map]
  rw [Bool.eq_iff_iff, List.any_eq_true, decide_eq_true_iff]
  constructor
  · rintro ⟨y, hy, e⟩
    have e' : (y == x) = true := e
    rw [← eq_of_beq e']; exact hy
  · intro h
    exact ⟨x, h, (beq_self_eq_true x : (x == x) = true)⟩
theorem flat_ints (ns : List Int) : (ns.map V.int).all flatV = true := by
  rw [List.all_map, List.all_eq_true]
  intro _ _; rfl
end
end Lh

namespace Lh
open PySem PySem.Spec PyProof.Rows L2
def seenPairs : Rule → List (Int × Int)
  | .held _ => []
  | .sum _ ties => ties
  | .cap _ ties _ => ties
  | .kinds _ seen => seen.map fun n => (n, 1)
  | .next seen => seen.map fun n => (n, 1)
  | .free seen => seen.map fun n => (n, 1)
theorem seen_persons : ∀ r : Rule, (seenPairs r).map (·.1) = r.persons
  | .held _ => rfl
  | .sum _ _ => rfl
  | .cap _ _ _ => rfl
  | .kinds _ s => by show (s.map fun n => (n, (1 : Int))).map (·.1) = s; rw [List.map_map]; exact List.map_id s
  | .next s => by show (s.map fun n => (n, (1 : Int))).map (·.1) = s; rw [List.map_map]; exact List.map_id s
  | .free s => by show (s.map fun n => (n, (1 : Int))).map (·.1) = s; rw [List.map_map]; exact List.map_id s
section
variable {P : Program} {w : World} {K : PySem.W.Frag} {mg : Str → Option Value} {base : Heap}
/-- [(one, 1) for one in seen] -/
theorem lc_ones {K : PySem.W.Frag} {t : Addr} {seen : List Int} {H1 : Hp} {D : Addr} {σ : L2.St} {vs : List Nat} {Qd : Hp → Prop} {i : Nat} (ht : SeenAt H1 t seen) (hD : H1 D = none) (hl : seen.length ≤ 1000)
    (hw : ∀ a, wipe ((wipe σ vs).set i a) vs = wipe σ vs) (hi : ∀ a : V, ((wipe σ vs).set i (some a))[i]? = some (some a))
    (hq : ∀ H' ps, Same H1 H' → H' D = some (.lst (ps.map V.ref)) → Paired (PairAtH H') ps (seen.map fun n => (n, 1)) → Qd H') :
    ∃ W : Nat → Nat → Hp → Prop, (∃ m, W 0 m (upd H1 D (.lst []))) ∧ ∀ i1 m H, W i1 m H →
      ((Itt K t).stop i1 H ∧ Qd H) ∨ ((Itt K t).go i1 H ∧ ∃ Nx : Hp → Prop, (∀ H', Nx H' → ∃ m', m' < m ∧ W (i1 + 1) m' H') ∧ ∀ x H', (Itt K t).yld i1 H x H' → gName i x (wipe σ vs) H' fun σ2 H2 => wipe σ2 vs = wipe σ vs ∧ tYes σ2 H2 fun b H3 =>
        if b = true then tTup (tCons (tVar i) (tCons (tC (.int 1)) tNil)) σ2 H3 fun y H4 => ∃ acc, H4 D = some (.lst acc) ∧ acc.length < sizeLine ∧ Nx (upd H4 D (.lst (acc ++ [y]))) else Nx H3) := by
  refine lc_it (walk_tup (xs := seen.map V.int)) (fun n H3 => ∃ ps : List Addr, Same H1 H3 ∧ H3 D = some (.lst (ps.map V.ref)) ∧ Paired (PairAtH H3) ps ((seen.take n).map fun n => (n, 1))) ⟨[], same_upd hD, upd_same, .nil⟩ ?_ ?_ ?_
  · rintro n H3 _ ⟨ps, sm, _⟩
    exact (TupAt.keep (Keep.same sm) ht).sq
  · rintro n x H3 H4 hn ⟨ps, sm, h3, pr⟩ ⟨rfl, hx⟩
    rw [List.length_map] at hn
    rw [List.getElem?_map, List.getElem?_eq_getElem hn] at hx
    have ex : x = .int seen[n] := (Option.some.inj hx).symm
    subst ex
    have pl : ps.length = n := by rw [pr.length, List.length_map, List.length_take]; omega
    refine ⟨hw _, yes (iteT ⟨.int seen[n], hi _, by show 2 ≤ sizeLine; decide, fun p np => ?_⟩)⟩
    have nDp : D ≠ p := ne_of_none h3 np
    refine ⟨_, by rw [upd_ne nDp]; exact h3, by rw [List.length_map]; exact small1000 (by omega), ps ++ [p], ?_, ?_, ?_⟩
    · exact same_mut (sm.trans (same_upd np)) hD
    · rw [upd_same, List.map_append]; rfl
    · rw [List.take_add_one, List.getElem?_eq_getElem hn, List.map_append]
      have kT : Keep H4 (upd (upd H4 p (.tup [.int seen[n], .int 1])) D (.lst (ps.map V.ref ++ [.ref p]))) := by
        refine ⟨fun a xs h => ?_, fun a o u h => ?_⟩
        · rw [upd_ne (ne_of h h3 (by intro z; cases z)), upd_ne (ne_of_none h np)]; exact h
        · rw [upd_ne (ne_of h h3 (by intro z; cases z)), upd_ne (ne_of_none h np)]; exact h
      refine Paired.snoc ?_ (pairs_keep kT pr)
      show upd (upd H4 p _) D _ p = _
      rw [upd_ne nDp.symm, upd_same]
  · rintro H3 ⟨ps, sm, h3, pr⟩
    rw [List.length_map, List.take_length] at pr
    exact hq H3 ps sm h3 pr
def wordOf : Rule → Str
  | .held _ => "held"
  | .sum _ _ => "sum"
  | .cap _ _ _ => "cap"
  | .kinds _ _ => "kinds"
  | .next _ => "next"
  | .free _ => "free"
theorem RuleAt.word {H : Hp} {v : V} : ∀ {r : Rule}, RuleAt H v r → ∃ a xs, v = .ref a ∧ H a = some (.tup (.str (wordOf r) :: xs))
  | .held _, ⟨a, e, h⟩ => ⟨a, _, e, h⟩
  | .sum _ _, ⟨a, t, e, h, _⟩ => ⟨a, _, e, h⟩
  | .cap _ _ _, ⟨a, t, e, h, _⟩ => ⟨a, _, e, h⟩
  | .kinds _ _, ⟨a, t, e, h, _⟩ => ⟨a, _, e, h⟩
  | .next _, ⟨a, t, e, h, _⟩ => ⟨a, _, e, h⟩
  | .free _, ⟨a, t, e, h, _⟩ => ⟨a, _, e, h⟩
theorem last_max : ∀ (ms : List Int) (h : ms ≠ []), ms.Pairwise (· < ·) → ∀ y ∈ ms, y ≤ ms.getLast h
  | [], h, _, _, _ => absurd rfl h
  | [m], _, _, y, hy => by rw [List.mem_singleton.mp hy]; exact Int.le_refl _
  | m :: n :: r, _, pw, y, hy => by
    rw [List.getLast_cons (List.cons_ne_nil n r)]
    have p2 := List.pairwise_cons.mp pw
    rcases List.mem_cons.mp hy with e | e
    · have h1 := p2.1 _ (List.getLast_mem (List.cons_ne_nil n r))
      rw [e]; omega
    · exact last_max (n :: r) (List.cons_ne_nil n r) p2.2 y e
theorem canLay_ints : ∀ ns : List Int, PyData.canLayAll0 (ns.map PyData.int) = true
  | [] => rfl
  | n :: r => by rw [List.map_cons]; show (PyData.canLay0 (.int n) && PyData.canLayAll0 (r.map PyData.int)) = true; rw [canLay_ints r]; rfl
theorem depth_ints : ∀ ns : List Int, PyData.depthAll (ns.map PyData.int) = 0
  | [] => rfl
  | n :: r => by rw [List.map_cons]; show max 0 (PyData.depthAll (r.map PyData.int)) = 0; rw [depth_ints r]; rfl
theorem shaped_ints (ns : List Int) : SeqAt.shaped (.list (ns.map PyData.int)) = true := by
  show (PyData.canLayAll0 (ns.map PyData.int) && decide (PyData.depthAll (ns.map PyData.int) + 1 ≤ 64)) = true
  rw [canLay_ints, depth_ints]
  rfl
/-- [e for n in numbers] -/
theorem lc_ints {K : PySem.W.Frag} {t : Addr} {ns : List Int} {H1 : Hp} {D : Addr} {σ : L2.St} {vs : List Nat} {te : TE} {Qd : Hp → Prop} {i : Nat} (f : Int → Int) (ht : H1 t = some (.lst (ns.map V.int))) (hD : H1 D = none) (hl : ns.length ≤ 1000)
    (hw : ∀ a, wipe ((wipe σ vs).set i a) vs = wipe σ vs)
    (he : ∀ n ∈ ns, ∀ H3, Same H1 H3 → ∀ Q : VK, Q (.int (f n)) H3 → te ((wipe σ vs).set i (some (.int n))) H3 Q)
    (hq : ∀ H', Same H1 H' → H' D = some (.lst ((ns.map f).map V.int)) → Qd H') :
    ∃ W : Nat → Nat → Hp → Prop, (∃ m, W 0 m (upd H1 D (.lst []))) ∧ ∀ i1 m H, W i1 m H →
      ((Itl K t).stop i1 H ∧ Qd H) ∨ ((Itl K t).go i1 H ∧ ∃ Nx : Hp → Prop, (∀ H', Nx H' → ∃ m', m' < m ∧ W (i1 + 1) m' H') ∧ ∀ x H', (Itl K t).yld i1 H x H' → gName i x (wipe σ vs) H' fun σ2 H2 => wipe σ2 vs = wipe σ vs ∧ tYes σ2 H2 fun b H3 =>
        if b = true then te σ2 H3 fun y H4 => ∃ acc, H4 D = some (.lst acc) ∧ acc.length < sizeLine ∧ Nx (upd H4 D (.lst (acc ++ [y]))) else Nx H3) := by
  refine lc_it (walk_list (xs := ns.map V.int)) (fun n H3 => Same H1 H3 ∧ H3 D = some (.lst (((ns.take n).map f).map V.int))) ⟨same_upd hD, upd_same⟩ ?_ ?_ ?_
  · rintro n H3 _ ⟨sm, _⟩
    exact .inl (.inl (sm _ _ ht))
  · rintro n x H3 H4 hn ⟨sm, h3⟩ ⟨rfl, hx⟩
    rw [List.length_map] at hn
    rw [List.getElem?_map, List.getElem?_eq_getElem hn] at hx
    have ex : x = .int ns[n] := (Option.some.inj hx).symm
    subst ex
    refine ⟨hw _, yes (iteT (he ns[n] (List.getElem_mem hn) _ sm _ ⟨_, h3, ?_, same_mut sm hD, ?_⟩))⟩
    · rw [List.length_map, List.length_map, List.length_take]; exact small1000 (by omega)
    · rw [upd_same, List.take_add_one, List.getElem?_eq_getElem hn, List.map_append, List.map_append]; rfl
  · rintro H3 ⟨sm, h3⟩
    rw [List.length_map, List.take_length] at h3
    exact hq H3 sm h3
end
end Lh

namespace Lh
open PySem PySem.Spec PyProof.Rows L2
theorem walk_zipM {K : PySem.W.Frag} {a b : Addr} {xs ys : List V} {n : Nat} (hn : n = min xs.length ys.length) : Walk (RZ.ItzT K a b) n (fun H => SqT K H a xs ∧ SqT K H b ys) (YPair (fun i => xs[i]?) (fun i => ys[i]?)) := by
  refine ⟨fun i _ hi q => ⟨xs, ys, xs[i]'(by omega), ys[i]'(by omega), q.1, q.2, List.getElem?_eq_getElem (by omega), List.getElem?_eq_getElem (by omega)⟩, fun _ q => ⟨xs, ys, q.1, q.2, by omega⟩, ?_⟩
  rintro i H v H' _ q ⟨T, x, z, h1, h2, h3, h4, h5⟩
  exact ⟨T, x, z, h1, h2, h3, h4 xs q.1, h5 ys q.2⟩
/-- a comprehension whose items are all True -/
theorem lc_true {J : It} {n : Nat} {G : Hp → Prop} {Y : Nat → Hp → V → Hp → Prop} (wk : Walk J n G Y) {g : TG} {te : TE} {vs : List Nat} {σ : L2.St} {H1 : Hp} {D : Addr} {Qd : Hp → Prop} (hD : H1 D = none) (hn : n ≤ 1000) (hG : ∀ H3, Same H1 H3 → G H3)
    (hs : ∀ i x H3 H4, i < n → Same H1 H3 → Y i H3 x H4 → ∀ (Q : VK) (Z : Hp → Prop), (∀ H5, Same H3 H5 → Q (.bl true) H5) → g x (wipe σ vs) H4 fun σ2 H2 => wipe σ2 vs = wipe σ vs ∧ tYes σ2 H2 fun b H3 => if b = true then te σ2 H3 Q else Z H3)
    (hq : ∀ H', Same H1 H' → H' D = some (.lst ((List.replicate n true).map V.bl)) → Qd H') :
    ∃ W : Nat → Nat → Hp → Prop, (∃ m, W 0 m (upd H1 D (.lst []))) ∧ ∀ i m H, W i m H →
      (J.stop i H ∧ Qd H) ∨ (J.go i H ∧ ∃ Nx : Hp → Prop, (∀ H', Nx H' → ∃ m', m' < m ∧ W (i + 1) m' H') ∧ ∀ x H', J.yld i H x H' → g x (wipe σ vs) H' fun σ2 H2 => wipe σ2 vs = wipe σ vs ∧ tYes σ2 H2 fun b H3 =>
        if b = true then te σ2 H3 fun y H4 => ∃ acc, H4 D = some (.lst acc) ∧ acc.length < sizeLine ∧ Nx (upd H4 D (.lst (acc ++ [y]))) else Nx H3) := by
  refine lc_it wk (fun i H3 => Same H1 H3 ∧ H3 D = some (.lst ((List.replicate i true).map V.bl))) ⟨same_upd hD, upd_same⟩ (fun i H3 _ h => hG H3 h.1) ?_ (fun H3 h => hq H3 h.1 h.2)
  rintro i x H3 H4 hi ⟨sm, h3⟩ hy
  refine hs i x H3 H4 hi sm hy _ _ (fun H5 s5 => ⟨_, s5 _ _ h3, ?_, same_mut (sm.trans s5) hD, ?_⟩)
  · rw [List.length_map, List.length_replicate]; exact small1000 (by omega)
  · rw [upd_same, List.replicate_succ', List.map_append]; rfl
theorem rep_all (n : Nat) : ((List.replicate n true).all id) = true := by
  rw [List.all_eq_true]
  intro z hz
  rw [List.eq_of_mem_replicate hz]
  rfl
theorem all_true {K : PySem.W.Frag} {D : Addr} {n : Nat} {H : Hp} {Q : VK} (h : H D = some (.lst ((List.replicate n true).map V.bl))) (q : Q (.bl true) H) : rAll K [.ref D] H Q := by
  refine ⟨D, _, rfl, .inl (.inl h), blT ?_ q⟩
  rw [List.all_eq_true]
  intro z hz
  rw [List.eq_of_mem_replicate hz]
  rfl
theorem cut1 {α : Type} (xs : List α) : cutI xs (some 1) none = xs.drop 1 := by
  unfold cutI
  rw [show HT.sIx xs.length 0 (some 1) = min 1 xs.length from HT.sIx_nat xs.length 0 1, HT.sIx_none]
  cases xs with
  | nil => rfl
  | cons x r =>
    rw [show min 1 (x :: r).length = 1 by rw [List.length_cons]; omega]
    show List.take ((x :: r).length - 1) r = r
    rw [List.length_cons, Nat.add_sub_cancel, List.take_length]
section
variable {P : Program} {w : World} {K : PySem.W.Frag} {mg : Str → Option Value} {base : Heap}
def spIsNumber : Sp := fun vs H Q _ => ∃ i : Int, vs = [.int i] ∧ 0 ≤ i ∧ Q (.bl true) H
theorem ok_is_number (T : Txt K mg w) : FnOk P w K mg base CX0 1 T.f_is_number T.fd_is_number p_is_number spIsNumber := by
  refine T.F_is_number.ok sc_is_number (fun vs H Q E h => ?_) (fun cdv A outer s H vs Q E hr h => ?_)
  · obtain ⟨i, rfl, _⟩ := h
    rfl
  · obtain ⟨i, rfl, i0, q⟩ := h
    refine ⟨_, (pss_one (ps_ret (pe_and (pe_callB call_isi (by rfl) T.m_isinstance (by decide +kernel) (pa_cons (pv 0) (pa_cons (pe_bltn (v := .ty "int") (by rfl) T.m_int (by decide +kernel) rfl) pa_nil))) (pe_and (pe_not (pe_callB call_isi (by rfl) T.m_isinstance (by decide +kernel) (pa_cons (pv 0) (pa_cons (pe_bltn (v := .ty "bool") (by rfl) T.m_bool (by decide +kernel) rfl) pa_nil)))) (pe_one (pe_cmpR op_ge (pv 0) pe_int (nomark _))))))), ?_⟩
    refine rd_isi (x := .int i) (T := "int") rfl (.base (.int i)) (by decide +kernel : kitB "int" "int" = some true) ⟨_, rfl, iteP rfl ?_⟩
    refine rd_isi (x := .int i) (T := "int") rfl (.base (.int i)) (by decide +kernel : kitB "int" "bool" = some false) ⟨_, rfl, _, rfl, iteP rfl ?_⟩
    exact ⟨.int i, rfl, i, 0, rfl, rfl, blT (decide_eq_true i0) q⟩
def spIsPerson : Sp := fun vs H Q _ => ∃ m i : Int, vs = [.int m, .int i] ∧ 0 ≤ i ∧ i < m ∧ Q (.bl true) H
theorem ok_is_person (T : Txt K mg w) : FnOk P w K mg base CX0 2 T.f_is_person T.fd_is_person p_is_person spIsPerson := by
  have G_is_number := ok_is_number (P := P) (w := w) (base := base) T
  refine T.F_is_person.ok sc_is_person (fun vs H Q E h => ?_) (fun cdv A outer s H vs Q E hr h => ?_)
  · obtain ⟨m, i, rfl, _⟩ := h
    rfl
  · obtain ⟨m, i, rfl, i0, i1, q⟩ := h
    refine ⟨_, (pss_one (ps_ret (pe_and (pe_call G_is_number (hr.mono (by decide)) (by rfl) T.g_is_number T.F_is_number.kp T.b_is_number .nil pass0 (pa_cons (pv 1) pa_nil)) (pe_one (pe_cmpR op_lt (pv 1) (pv 0) (nomark _)))))), ?_⟩
    exact ⟨.int i, rfl, i, rfl, i0, _, rfl, iteP rfl ⟨.int i, rfl, .int m, rfl, i, m, rfl, rfl, blT (decide_eq_true i1) q⟩⟩
theorem rise_at {ns : List Int} (pw : ns.Pairwise (· < ·)) {i : Nat} {x y : Int} (hx : ns[i]? = some x) (hy : (ns.drop 1)[i]? = some y) : x < y := by
  rw [List.getElem?_drop] at hy
  obtain ⟨h1, e1⟩ := List.getElem?_eq_some_iff.mp hx
  obtain ⟨h2, e2⟩ := List.getElem?_eq_some_iff.mp hy
  rw [← e1, ← e2]
  exact List.pairwise_iff_getElem.mp pw i (1 + i) h1 h2 (by omega)
def spRises (K : PySem.W.Frag) : Sp := fun vs H Q _ => ∃ (a : Addr) (ns : List Int), vs = [.ref a] ∧ (SqL K H a (ns.map V.int) ∨ TupAt H a (ns.map V.int)) ∧ ns.Pairwise (· < ·) ∧ ns.length ≤ 1000 ∧ ∀ H', Same H H' → Q (.bl true) H'
theorem ok_rises (T : Txt K mg w) : FnOk P w K mg base CX0 1 T.f_rises T.fd_rises p_rises (spRises K) := by
  refine T.F_rises.ok sc_rises (fun vs H Q E h => ?_) (fun cdv A outer s H vs Q E hr h => ?_)
  · obtain ⟨a, ns, rfl, _⟩ := h
    rfl
  · obtain ⟨a, ns, rfl, hS, pw, hl, q⟩ := h
    have turn : ∀ (i : Nat) (x1 x2 : V), (ns.map V.int)[i]? = some x1 → ((ns.drop 1).map V.int)[i]? = some x2 → ∃ x y : Int, x1 = .int x ∧ x2 = .int y ∧ x < y := fun i x1 x2 e1 e2 => by
      rw [List.getElem?_map] at e1 e2
      cases h1 : ns[i]? with
      | none => rw [h1] at e1; cases e1
      | some x =>
        cases h2 : (ns.drop 1)[i]? with
        | none => rw [h2] at e2; cases e2
        | some y =>
          rw [h1] at e1
          rw [h2] at e2
          exact ⟨x, y, (Option.some.inj e1).symm, (Option.some.inj e2).symm, rise_at pw h1 h2⟩
    rcases hS with hS | hS
    · refine ⟨_, (pss_one (ps_ret (pe_callB (cr_all rfl) (by rfl) T.m_all (by decide +kernel) (pa_cons (pe_lc (own := [("one", 1), ("other", 2)]) (g := gTup K 2 (gCons (gName 1) (gCons (gName 2) gNil))) (by rfl) sc_rises.nd (RZ.pi_zipA (by rfl) T.m_zip (pa_cons (pv 0) (pa_cons (pe_slice sl_list (pv 0) (po_some pe_int) po_none) pa_nil))) (blkOk_by (own := [("one", 1), ("other", 2)]) (N := n_rises) (sc := defScope s_rises) (by decide +kernel)) (fun _ _ _ _ _ => (pg_tup rfl (pgs_cons (pg_name (i := 1) sc_rises.nd rfl (.inl rfl) (.inr rfl)) (pgs_cons (pg_name (i := 2) sc_rises.nd rfl (.inl rfl) (.inr rfl)) pgs_nil)))) (fun _ _ _ _ _ => pts_nil) (fun _ _ _ _ _ => (pe_cmpR op_lt (pv 1) (pv 2) (nomark _)))) pa_nil)))), ?_⟩
      refine ⟨.ref a, rfl, .ref a, rfl, 1, rfl, a, _, rfl, hS, fun c nc => ?_⟩
      have s1 := same_upd (o := .lst (cutV (ns.map V.int) (some 1) none)) nc
      refine ⟨a, c, _, _, rfl, .inl ⟨s1.seq hS, .inl (.inl upd_same), fun D hD => ?_⟩⟩
      rw [cut_map V.int, cut1] at s1 hD ⊢
      refine lc_true (walk_zip (xs := ns.map V.int) (ys := (ns.drop 1).map V.int) (n := ns.length - 1) (by rw [List.length_map, List.length_map, List.length_drop]; omega)) hD (by omega) (fun H3 s3 => ⟨s3.seq (s1.seq hS), .inl (.inl (s3 _ _ upd_same))⟩) ?_ (fun H3 s3 h3 => all_true h3 (q _ (s1.trans s3)))
      rintro i x H3 H4 hi s3 ⟨t, x1, x2, rfl, nt, rfl, e1, e2⟩ Q' Z hQ
      obtain ⟨x, y, rfl, rfl, lt⟩ := turn i x1 x2 e1 e2
      exact ⟨t, _, rfl, .inl (.inl upd_same), rfl, _, _, rfl, _, _, rfl, rfl, rfl, yes (iteT ⟨.int x, rfl, .int y, rfl, x, y, rfl, rfl, blT (decide_eq_true lt) (hQ _ (same_upd nt))⟩)⟩
    · refine ⟨_, (pss_one (ps_ret (pe_callB (cr_all rfl) (by rfl) T.m_all (by decide +kernel) (pa_cons (pe_lc (own := [("one", 1), ("other", 2)]) (g := gTup K 2 (gCons (gName 1) (gCons (gName 2) gNil))) (by rfl) sc_rises.nd (RZ.pi_zipA (by rfl) T.m_zip (pa_cons (pv 0) (pa_cons (pe_slice sl_tupA (pv 0) (po_some pe_int) po_none) pa_nil))) (blkOk_by (own := [("one", 1), ("other", 2)]) (N := n_rises) (sc := defScope s_rises) (by decide +kernel)) (fun _ _ _ _ _ => (pg_tup rfl (pgs_cons (pg_name (i := 1) sc_rises.nd rfl (.inl rfl) (.inr rfl)) (pgs_cons (pg_name (i := 2) sc_rises.nd rfl (.inl rfl) (.inr rfl)) pgs_nil)))) (fun _ _ _ _ _ => pts_nil) (fun _ _ _ _ _ => (pe_cmpR op_lt (pv 1) (pv 2) (nomark _)))) pa_nil)))), ?_⟩
      refine ⟨.ref a, rfl, .ref a, rfl, 1, rfl, a, _, rfl, hS.sq, fun wh => ?_, fun _ c nc => ?_⟩
      · have hn : ns = [] := by
          cases ns with
          | nil => rfl
          | cons x r =>
            have := wh.1
            rw [show HT.sIx ((x :: r).map V.int).length 0 (some 1) = min 1 ((x :: r).map V.int).length from HT.sIx_nat _ 0 1, List.length_map, List.length_cons] at this
            omega
        subst hn
        refine ⟨a, a, [], [], rfl, .inr ⟨hS.sq, hS.sq, fun D hD => ?_⟩⟩
        refine lc_true (walk_zipT (xs := []) (ys := []) (n := 0) rfl rfl) hD (by omega) (fun H3 s3 => ⟨(hS.keep (Keep.same s3)).sq, (hS.keep (Keep.same s3)).sq⟩) ?_ (fun H3 s3 h3 => all_true h3 (q _ s3))
        intro i x H3 H4 hi
        omega
      · have s1 := same_upd (o := .tup (cutV (ns.map V.int) (some 1) none)) nc
        have hA := hS.keep (Keep.same s1)
        refine ⟨a, c, _, _, rfl, .inr ⟨hA.sq, .inl (.inl upd_same), fun D hD => ?_⟩⟩
        rw [cut_map V.int, cut1] at s1 hD hA ⊢
        refine lc_true (walk_zipM (K := K) (a := a) (b := c) (xs := ns.map V.int) (ys := (ns.drop 1).map V.int) (n := ns.length - 1) (by rw [List.length_map, List.length_map, List.length_drop]; omega)) hD (by omega) (fun H3 s3 => ⟨(hA.keep (Keep.same s3)).sq, .inl (.inl (s3 _ _ upd_same))⟩) ?_ (fun H3 s3 h3 => all_true h3 (q _ (s1.trans s3)))
        rintro i x H3 H4 hi s3 ⟨t, x1, x2, rfl, nt, rfl, e1, e2⟩ Q' Z hQ
        obtain ⟨x, y, rfl, rfl, lt⟩ := turn i x1 x2 e1 e2
        exact ⟨t, _, rfl, .inl (.inl upd_same), rfl, _, _, rfl, _, _, rfl, rfl, rfl, yes (iteT ⟨.int x, rfl, .int y, rfl, x, y, rfl, rfl, blT (decide_eq_true lt) (hQ _ (same_upd nt))⟩)⟩
def spIsTie : Sp := fun vs H Q _ => ∃ (m : Int) (a : Addr) (q : Int × Int), vs = [.int m, .ref a] ∧ PairAtH H a q ∧ 0 ≤ q.1 ∧ q.1 < m ∧ 1 ≤ q.2 ∧ Q (.bl true) H
theorem ok_is_tie (T : Txt K mg w) : FnOk P w K mg base CX0 3 T.f_is_tie T.fd_is_tie p_is_tie spIsTie := by
  have G_is_number := ok_is_number (P := P) (w := w) (base := base) T
  have G_is_person := ok_is_person (P := P) (w := w) (base := base) T
  refine T.F_is_tie.ok sc_is_tie (fun vs H Q E h => ?_) (fun cdv A outer s H vs Q E hr h => ?_)
  · obtain ⟨m, a, q, rfl, _⟩ := h
    rfl
  · obtain ⟨m, a, ⟨p, wt⟩, rfl, ha, p0, p1, w1, q⟩ := h
    have ha' : H a = some (.tup [.int p, .int wt]) := ha
    refine ⟨_, (pss_cons (ps_if (PW.pt (pw_or (pt_not (pt_val (pe_callB call_isi (by rfl) T.m_isinstance (by decide +kernel) (pa_cons (pv 1) (pa_cons (pe_bltn (v := .ty "tuple") (by rfl) T.m_tuple (by decide +kernel) rfl) pa_nil))))) (pw_or1 (pt_cmpR op_ne (pe_callB call_len_seq (by rfl) T.m_len (by decide +kernel) (pa_cons (pv 1) pa_nil)) pe_int (nomark _)))))
        (pss_one (ps_ret pe_bl))
        pss_nil)
      (pss_one (ps_ret (pe_and (pe_call G_is_person (hr.mono (by decide)) (by rfl) T.g_is_person T.F_is_person.kp T.b_is_person .nil pass0 (pa_cons (pv 0) (pa_cons (pe_ix ix_tup (pv 1) pe_int (fun _ _ => rfl)) pa_nil))) (pe_and (pe_call G_is_number (hr.mono (by decide)) (by rfl) T.g_is_number T.F_is_number.kp T.b_is_number .nil pass0 (pa_cons (pe_ix ix_tup (pv 1) pe_int (fun _ _ => rfl)) pa_nil)) (pe_one (pe_cmpR op_ge (pe_ix ix_tup (pv 1) pe_int (fun _ _ => rfl)) pe_int (nomark _)))))))), ?_⟩
    refine rd_isi (x := .ref a) (T := "tuple") rfl (.base (.tup ha')) (by decide +kernel : kitB "tuple" "tuple" = some true) ⟨_, rfl, iteN rfl ?_⟩
    refine ⟨.ref a, rfl, a, _, rfl, .inr (.inl (.inl ha')), rfl, _, rfl, iteN (by show (!decide (V.int 2 = V.int 2)) = false; decide) ?_⟩
    refine ⟨.int m, rfl, .ref a, rfl, a, _, 0, _, rfl, rfl, .inl (.inl ha'), rfl, m, p, rfl, p0, p1, _, rfl, iteP rfl ?_⟩
    refine ⟨.ref a, rfl, a, _, 1, _, rfl, rfl, .inl (.inl ha'), rfl, wt, rfl, by have w1' : 1 ≤ wt := w1; omega, _, rfl, iteP rfl ?_⟩
    exact ⟨.ref a, rfl, a, _, 1, _, rfl, rfl, .inl (.inl ha'), rfl, wt, 1, rfl, rfl, blT (decide_eq_true w1) q⟩
def spAreTies : Sp := fun vs H Q _ => ∃ (m : Int) (t : Addr) (ties : List (Int × Int)), vs = [.int m, .ref t] ∧ TiesAt H t ties ∧ Rising m (ties.map (·.1)) ∧ (∀ q ∈ ties, 1 ≤ q.2) ∧ ties.length ≤ 1000 ∧ ∀ H', Same H H' → Q (.bl true) H'
theorem pair_get {H : Hp} : ∀ {ps : List Addr} {lot : List (Int × Int)}, Paired (PairAtH H) ps lot → ∀ (n : Nat) (p : Addr), ps[n]? = some p → ∃ q, q ∈ lot ∧ PairAtH H p q
  | _, _, .nil, n, p, e => by simp at e
  | _, _, .cons r t, 0, p, e => ⟨_, List.mem_cons_self, by cases e; exact r⟩
  | _, _, .cons r t, n + 1, p, e => by
    obtain ⟨q, h1, h2⟩ := pair_get t n p (by simpa using e)
    exact ⟨q, List.mem_cons_of_mem _ h1, h2⟩
theorem ok_are_ties (T : Txt K mg w) : FnOk P w K mg base CX0 4 T.f_are_ties T.fd_are_ties p_are_ties spAreTies := by
  have G_is_tie := ok_is_tie (P := P) (w := w) (base := base) T
  have G_rises := ok_rises (P := P) (w := w) (base := base) T
  refine T.F_are_ties.ok sc_are_ties (fun vs H Q E h => ?_) (fun cdv A outer s H vs Q E hr h => ?_)
  · obtain ⟨m, t, ties, rfl, _⟩ := h
    rfl
  · obtain ⟨m, t, ties, rfl, ⟨o, ps, od, ht, pr⟩, rs, w1, hl, q⟩ := h
    have el : ps.length = ties.length := pr.length
    have hT : TupAt H t (ps.map V.ref) := .inr ⟨o, od, ht⟩
    refine ⟨_, (pss_cons (ps_if (PW.pt (pw_or (pt_not (pt_val (pe_callB call_isi (by rfl) T.m_isinstance (by decide +kernel) (pa_cons (pv 1) (pa_cons (pe_bltn (v := .ty "tuple") (by rfl) T.m_tuple (by decide +kernel) rfl) pa_nil))))) (pw_or1 (pt_not (pt_val (pe_callB (cr_all rfl) (by rfl) T.m_all (by decide +kernel) (pa_cons (pe_lc (own := [("one", 2)]) (g := gName 2) (by rfl) sc_are_ties.nd (pi_tup (pv 1)) (blkOk_by (own := [("one", 2)]) (N := n_are_ties) (sc := defScope s_are_ties) (by decide +kernel)) (fun _ _ _ _ _ => (pg_name (i := 2) sc_are_ties.nd rfl (.inl rfl) (.inr rfl))) (fun _ _ _ _ _ => pts_nil) (fun _ _ _ _ _ => (pe_call G_is_tie (hr.mono (by decide)) (by rfl) T.g_is_tie T.F_is_tie.kp T.b_is_tie .nil pass0 (pa_cons (pv 0) (pa_cons (pv 2) pa_nil))))) pa_nil)))))))
        (pss_one (ps_ret pe_bl))
        pss_nil)
      (pss_one (ps_ret (pe_call G_rises (hr.mono (by decide)) (by rfl) T.g_rises T.F_rises.kp T.b_rises .nil pass0 (pa_cons (pe_lc (own := [("person", 3), ("weight", 4)]) (g := gTup K 2 (gCons (gName 3) (gCons (gName 4) gNil))) (by rfl) sc_are_ties.nd (pi_tup (pv 1)) (blkOk_by (own := [("person", 3), ("weight", 4)]) (N := n_are_ties) (sc := defScope s_are_ties) (by decide +kernel)) (fun _ _ _ _ _ => (pg_tup rfl (pgs_cons (pg_name (i := 3) sc_are_ties.nd rfl (.inl rfl) (.inr rfl)) (pgs_cons (pg_name (i := 4) sc_are_ties.nd rfl (.inl rfl) (.inr rfl)) pgs_nil)))) (fun _ _ _ _ _ => pts_nil) (fun _ _ _ _ _ => (pv 3))) pa_nil))))), ?_⟩
    refine rd_isi (x := .ref t) (T := "tuple") rfl hT.ty (by decide +kernel : kitB "tuple" "tuple" = some true) ⟨_, rfl, iteN rfl ?_⟩
    refine ⟨.ref t, rfl, t, rfl, ⟨_, hT.sq⟩, fun D hD => ?_⟩
    refine lc_true (walk_tupR ps) hD (by omega) (fun H3 s3 => (hT.keep (Keep.same s3)).sq) ?_ (fun H3 s3 h3 => ⟨D, _, rfl, .inl (.inl h3), _, rfl, iteN (by rw [rep_all]; rfl) ?_⟩)
    · rintro i x H3 H4 hi s3 ⟨rfl, hx⟩ Q' Z hQ
      rw [List.getElem?_map] at hx
      cases hp : ps[i]? with
      | none => rw [hp] at hx; cases hx
      | some p =>
        rw [hp] at hx
        cases hx
        obtain ⟨q0, hq0, ha⟩ := pair_get pr i p hp
        have r0 := rs.2 _ (List.mem_map_of_mem (f := (·.1)) hq0)
        exact ⟨rfl, yes (iteT ⟨.int m, rfl, .ref p, rfl, m, p, q0, rfl, s3 _ _ ha, r0.1, r0.2, w1 q0 hq0, hQ _ (Same.refl _)⟩)⟩
    have hT3 := hT.keep (Keep.same s3)
    refine ⟨.ref t, rfl, t, rfl, ⟨_, hT3.sq⟩, fun D2 hD2 => ?_⟩
    refine lc_pairs (·.1) (walk_tupR ps) (pairs_keep (Keep.same s3) pr) hD2 (by omega) (fun H4 s4 => (hT3.keep (Keep.same s4)).sq) (fun _ _ => rfl) (fun q _ H4 _ Q h => ⟨_, rfl, h⟩) (fun H4 s4 h4 => ?_)
    exact ⟨D2, _, rfl, .inl (.inl (.inl h4)), rs.1, by rw [List.length_map]; exact hl, fun H5 s5 => q _ (s3.trans (s4.trans s5))⟩
def spAreSeen : Sp := fun vs H Q _ => ∃ (m : Int) (t : Addr) (seen : List Int), vs = [.int m, .ref t] ∧ SeenAt H t seen ∧ Rising m seen ∧ seen.length ≤ 1000 ∧ ∀ H', Same H H' → Q (.bl true) H'
theorem ok_are_persons (T : Txt K mg w) : FnOk P w K mg base CX0 3 T.f_are_persons T.fd_are_persons p_are_persons spAreSeen := by
  have G_is_person := ok_is_person (P := P) (w := w) (base := base) T
  have G_rises := ok_rises (P := P) (w := w) (base := base) T
  refine T.F_are_persons.ok sc_are_persons (fun vs H Q E h => ?_) (fun cdv A outer s H vs Q E hr h => ?_)
  · obtain ⟨m, t, seen, rfl, _⟩ := h
    rfl
  · obtain ⟨m, t, seen, rfl, hT, rs, hl, q⟩ := h
    refine ⟨_, (pss_one (ps_ret (pe_and (pe_callB call_isi (by rfl) T.m_isinstance (by decide +kernel) (pa_cons (pv 1) (pa_cons (pe_bltn (v := .ty "tuple") (by rfl) T.m_tuple (by decide +kernel) rfl) pa_nil))) (pe_and (pe_callB (cr_all rfl) (by rfl) T.m_all (by decide +kernel) (pa_cons (pe_lc (own := [("one", 2)]) (g := gName 2) (by rfl) sc_are_persons.nd (pi_tup (pv 1)) (blkOk_by (own := [("one", 2)]) (N := n_are_persons) (sc := defScope s_are_persons) (by decide +kernel)) (fun _ _ _ _ _ => (pg_name (i := 2) sc_are_persons.nd rfl (.inl rfl) (.inr rfl))) (fun _ _ _ _ _ => pts_nil) (fun _ _ _ _ _ => (pe_call G_is_person (hr.mono (by decide)) (by rfl) T.g_is_person T.F_is_person.kp T.b_is_person .nil pass0 (pa_cons (pv 0) (pa_cons (pv 2) pa_nil))))) pa_nil)) (pe_one (pe_call G_rises (hr.mono (by decide)) (by rfl) T.g_rises T.F_rises.kp T.b_rises .nil pass0 (pa_cons (pv 1) pa_nil))))))), ?_⟩
    refine rd_isi (x := .ref t) (T := "tuple") rfl hT.ty (by decide +kernel : kitB "tuple" "tuple" = some true) ⟨_, rfl, iteP rfl ?_⟩
    refine ⟨.ref t, rfl, t, rfl, ⟨_, hT.sq⟩, fun D hD => ?_⟩
    refine lc_true (walk_tup (xs := seen.map V.int)) hD (by rw [List.length_map]; exact hl) (fun H3 s3 => (hT.keep (Keep.same s3)).sq) ?_ (fun H3 s3 h3 => ⟨D, _, rfl, .inl (.inl h3), _, rfl, iteP (rep_all _) ?_⟩)
    · rintro i x H3 H4 hi s3 ⟨rfl, hx⟩ Q' Z hQ
      rw [List.length_map] at hi
      rw [List.getElem?_map, List.getElem?_eq_getElem hi] at hx
      cases hx
      have r0 := rs.2 _ (List.getElem_mem hi)
      exact ⟨rfl, yes (iteT ⟨.int m, rfl, .int seen[i], rfl, m, seen[i], rfl, r0.1, r0.2, hQ _ (Same.refl _)⟩)⟩
    exact ⟨.ref t, rfl, t, seen, rfl, .inr (hT.keep (Keep.same s3)), rs.1, hl, fun H5 s5 => q _ (s3.trans s5)⟩
/-- what may stand as a part of a rule -/
def PartAt (H : Hp) (m : Int) (part : Str) (v : V) : Prop :=
  (part = "number" ∧ ∃ i : Int, v = .int i ∧ 0 ≤ i) ∨ (part = "ties" ∧ ∃ t ties, v = .ref t ∧ TiesAt H t ties ∧ Rising m (ties.map (·.1)) ∧ (∀ q ∈ ties, 1 ≤ q.2) ∧ ties.length ≤ 1000) ∨
  (part = "seen" ∧ ∃ t seen, v = .ref t ∧ SeenAt H t seen ∧ Rising m seen ∧ seen.length ≤ 1000)
theorem PartAt.same {H H' : Hp} {m : Int} {part : Str} {v : V} (s : Same H H') (h : PartAt H m part v) : PartAt H' m part v := by
  rcases h with h | ⟨e, t, ties, h1, h2, h3⟩ | ⟨e, t, seen, h1, h2, h3⟩
  · exact .inl h
  · exact .inr (.inl ⟨e, t, ties, h1, h2.keep (Keep.same s), h3⟩)
  · exact .inr (.inr ⟨e, t, seen, h1, h2.keep (Keep.same s), h3⟩)
def spIsPart : Sp := fun vs H Q _ => ∃ (m : Int) (part : Str) (v : V), vs = [.int m, .str part, v] ∧ PartAt H m part v ∧ ∀ H', Same H H' → Q (.bl true) H'
theorem ok_is_part (T : Txt K mg w) : FnOk P w K mg base CX0 5 T.f_is_part T.fd_is_part p_is_part spIsPart := by
  have G_is_number := ok_is_number (P := P) (w := w) (base := base) T
  have G_are_ties := ok_are_ties (P := P) (w := w) (base := base) T
  have G_are_persons := ok_are_persons (P := P) (w := w) (base := base) T
  refine T.F_is_part.ok sc_is_part (fun vs H Q E h => ?_) (fun cdv A outer s H vs Q E hr h => ?_)
  · obtain ⟨m, part, v, rfl, _⟩ := h
    rfl
  · obtain ⟨m, part, v, rfl, hp, q⟩ := h
    refine ⟨_, (pss_cons (ps_if (pt_cmpR op_eq (pv 1) pe_str (nomark _))
        (pss_one (ps_ret (pe_call G_is_number (hr.mono (by decide)) (by rfl) T.g_is_number T.F_is_number.kp T.b_is_number .nil pass0 (pa_cons (pv 2) pa_nil))))
        pss_nil)
      (pss_cons (ps_if (pt_cmpR op_eq (pv 1) pe_str (nomark _))
        (pss_one (ps_ret (pe_call G_are_ties (hr.mono (by decide)) (by rfl) T.g_are_ties T.F_are_ties.kp T.b_are_ties .nil pass0 (pa_cons (pv 0) (pa_cons (pv 2) pa_nil)))))
        pss_nil)
      (pss_one (ps_ret (pe_call G_are_persons (hr.mono (by decide)) (by rfl) T.g_are_persons T.F_are_persons.kp T.b_are_persons .nil pass0 (pa_cons (pv 0) (pa_cons (pv 2) pa_nil))))))), ?_⟩
    rcases hp with ⟨rfl, i, rfl, i0⟩ | ⟨rfl, t, ties, rfl, h1, h2, h3, h4⟩ | ⟨rfl, t, seen, rfl, h1, h2, h3⟩
    · refine ⟨_, rfl, rfl, _, rfl, iteP (by decide +kernel) ?_⟩
      exact ⟨.int i, rfl, i, rfl, i0, q H (Same.refl H)⟩
    · refine ⟨_, rfl, rfl, _, rfl, iteN (by decide +kernel) ?_⟩
      refine ⟨_, rfl, rfl, _, rfl, iteP (by decide +kernel) ?_⟩
      exact ⟨.int m, rfl, .ref t, rfl, m, t, ties, rfl, h1, h2, h3, h4, q⟩
    · refine ⟨_, rfl, rfl, _, rfl, iteN (by decide +kernel) ?_⟩
      refine ⟨_, rfl, rfl, _, rfl, iteN (by decide +kernel) ?_⟩
      exact ⟨.int m, rfl, .ref t, rfl, m, t, seen, rfl, h1, h2, h3, q⟩
end
end Lh

namespace Lh
open PySem PySem.Spec PyProof.Rows L2
def partsOf : Rule → List Str
  | .held _ => ["number"]
  | .sum _ _ => ["number", "ties"]
  | .cap _ _ _ => ["number", "ties", "number"]
  | .kinds _ _ => ["number", "seen"]
  | .next _ => ["seen"]
  | .free _ => ["seen"]
section
variable {P : Program} {w : World} {K : PySem.W.Frag} {mg : Str → Option Value} {base : Heap}
theorem parts_at (T : Txt K mg w) : ∀ r : Rule, ∃ t, PySem.W.nsIn K T.D_PARTS (wordOf r) = some (some (.ref t)) ∧ ∀ H, SqT K H t ((partsOf r).map V.str)
  | .held _ => ⟨_, T.dk_PARTS_held, T.sq_PARTS_held⟩
  | .sum _ _ => ⟨_, T.dk_PARTS_sum, T.sq_PARTS_sum⟩
  | .cap _ _ _ => ⟨_, T.dk_PARTS_cap, T.sq_PARTS_cap⟩
  | .kinds _ _ => ⟨_, T.dk_PARTS_kinds, T.sq_PARTS_kinds⟩
  | .next _ => ⟨_, T.dk_PARTS_next, T.sq_PARTS_next⟩
  | .free _ => ⟨_, T.dk_PARTS_free, T.sq_PARTS_free⟩
theorem pieces {H : Hp} {v : V} {m : Int} : ∀ {r : Rule}, RuleAt H v r → r.Wf m → r.persons.length ≤ 1000 → ∃ a xs, v = .ref a ∧ H a = some (.tup (.str (wordOf r) :: xs)) ∧ xs.length = (partsOf r).length ∧ ∀ (i : Nat) (s : Str) (x : V), (partsOf r)[i]? = some s → xs[i]? = some x → PartAt H m s x
  | .held n, ⟨a, e, h⟩, wf, _ => ⟨a, _, e, h, rfl, fun i s x h1 h2 => by
    match i with
    | 0 => cases h1; cases h2; exact .inl ⟨rfl, n, rfl, wf.1⟩
    | i + 1 => cases h1⟩
  | .sum own ties, ⟨a, t, e, h, q⟩, wf, hl => ⟨a, _, e, h, rfl, fun i s x h1 h2 => by
    have hl' : ties.length ≤ 1000 := by simpa [Rule.persons] using hl
    match i with
    | 0 => cases h1; cases h2; exact .inl ⟨rfl, own, rfl, wf.1.1⟩
    | 1 => cases h1; cases h2; exact .inr (.inl ⟨rfl, t, ties, rfl, q, wf.2.1, fun q hq => (wf.2.2 q hq).1, hl'⟩)
    | i + 2 => cases h1⟩
  | .cap own ties most, ⟨a, t, e, h, q⟩, wf, hl => ⟨a, _, e, h, rfl, fun i s x h1 h2 => by
    have hl' : ties.length ≤ 1000 := by simpa [Rule.persons] using hl
    match i with
    | 0 => cases h1; cases h2; exact .inl ⟨rfl, own, rfl, wf.1.1⟩
    | 1 => cases h1; cases h2; exact .inr (.inl ⟨rfl, t, ties, rfl, q, wf.2.1, fun q hq => (wf.2.2.1 q hq).1, hl'⟩)
    | 2 => cases h1; cases h2; exact .inl ⟨rfl, most, rfl, wf.2.2.2.1⟩
    | i + 3 => cases h1⟩
  | .kinds own seen, ⟨a, t, e, h, q⟩, wf, hl => ⟨a, _, e, h, rfl, fun i s x h1 h2 => by
    match i with
    | 0 => cases h1; cases h2; exact .inl ⟨rfl, own, rfl, wf.1.1⟩
    | 1 => cases h1; cases h2; exact .inr (.inr ⟨rfl, t, seen, rfl, q, wf.2, hl⟩)
    | i + 2 => cases h1⟩
  | .next seen, ⟨a, t, e, h, q⟩, wf, hl => ⟨a, _, e, h, rfl, fun i s x h1 h2 => by
    match i with
    | 0 => cases h1; cases h2; exact .inr (.inr ⟨rfl, t, seen, rfl, q, wf, hl⟩)
    | i + 1 => cases h1⟩
  | .free seen, ⟨a, t, e, h, q⟩, wf, hl => ⟨a, _, e, h, rfl, fun i s x h1 h2 => by
    match i with
    | 0 => cases h1; cases h2; exact .inr (.inr ⟨rfl, t, seen, rfl, q, wf, hl⟩)
    | i + 1 => cases h1⟩
theorem parts_len : ∀ r : Rule, (partsOf r).length ≤ 1000
  | .held _ => by show 1 ≤ 1000; decide
  | .sum _ _ => by show 2 ≤ 1000; decide
  | .cap _ _ _ => by show 3 ≤ 1000; decide
  | .kinds _ _ => by show 2 ≤ 1000; decide
  | .next _ => by show 1 ≤ 1000; decide
  | .free _ => by show 1 ≤ 1000; decide
theorem cutV1 (xs : List V) : cutV xs (some 1) none = xs.drop 1 := by
  have h := cut_map id xs (some 1) none
  rw [List.map_id, List.map_id, cut1] at h
  exact h
def spIsRule : Sp := fun vs H Q _ => ∃ (m : Int) (v : V) (r : Rule), vs = [.int m, v] ∧ RuleAt H v r ∧ r.Wf m ∧ r.persons.length ≤ 1000 ∧ ∀ H', Same H H' → Q (.bl true) H'
set_option maxHeartbeats 2000000 in
theorem ok_is_rule (T : Txt K mg w) : FnOk P w K mg base CX0 6 T.f_is_rule T.fd_is_rule p_is_rule spIsRule := by
  have G_is_part := ok_is_part (P := P) (w := w) (base := base) T
  refine T.F_is_rule.ok sc_is_rule (fun vs H Q E h => ?_) (fun cdv A outer s H vs Q E hr h => ?_)
  · obtain ⟨m, v, r, rfl, _⟩ := h
    rfl
  · obtain ⟨m, v, r, rfl, hv, wf, hl, q⟩ := h
    obtain ⟨a, xs, rfl, ha, xl, px⟩ := pieces hv wf hl
    obtain ⟨t, dk, sq⟩ := parts_at T r
    refine ⟨_, (pss_cons (ps_if (PW.pt (pw_or (pt_not (pt_val (pe_callB call_isi (by rfl) T.m_isinstance (by decide +kernel) (pa_cons (pv 1) (pa_cons (pe_bltn (v := .ty "tuple") (by rfl) T.m_tuple (by decide +kernel) rfl) pa_nil))))) (pw_or1 (pt_not (pt_truth (pv 1) (by intro _; rfl))))))
        (pss_one (ps_ret pe_bl))
        pss_nil)
      (pss_cons (ps_if (PW.pt (pw_or (pt_not (pt_val (pe_callB call_isi (by rfl) T.m_isinstance (by decide +kernel) (pa_cons (pe_ix ix_tup (pv 1) pe_int (fun _ _ => rfl)) (pa_cons (pe_bltn (v := .ty "str") (by rfl) T.m_str (by decide +kernel) rfl) pa_nil))))) (pw_or1 (pt_cmpR (op_notIn_kd T.kd_PARTS) (pe_ix ix_tup (pv 1) pe_int (fun _ _ => rfl)) (pe_glob (v := .ref T.D_PARTS) (by rfl) T.g_PARTS rfl) (by rfl)))))
        (pss_one (ps_ret pe_bl))
        pss_nil)
      (pss_cons (ps_set (i := 2) sc_is_rule.nd rfl (.inl rfl) (pe_ix ix_kdict (pe_glob (v := .ref T.D_PARTS) (by rfl) T.g_PARTS rfl) (pe_ix ix_tup (pv 1) pe_int (fun _ _ => rfl)) (fun _ _ => rfl)))
      (pss_cons (ps_if (pt_cmpR op_ne (pe_callB call_len_seq (by rfl) T.m_len (by decide +kernel) (pa_cons (pv 1) pa_nil)) (pe_op op_add (pe_callB call_len_seq (by rfl) T.m_len (by decide +kernel) (pa_cons (pv 2) pa_nil)) pe_int) (nomark _))
        (pss_one (ps_ret pe_bl))
        pss_nil)
      (pss_one (ps_ret (pe_callB (cr_all rfl) (by rfl) T.m_all (by decide +kernel) (pa_cons (pe_lc (own := [("part", 3), ("piece", 4)]) (g := gTup K 2 (gCons (gName 3) (gCons (gName 4) gNil))) (by rfl) sc_is_rule.nd (RZ.pi_zipA (by rfl) T.m_zip (pa_cons (pv 2) (pa_cons (pe_slice sl_tupA (pv 1) (po_some pe_int) po_none) pa_nil))) (blkOk_by (own := [("part", 3), ("piece", 4)]) (N := n_is_rule) (sc := defScope s_is_rule) (by decide +kernel)) (fun _ _ _ _ _ => (pg_tup rfl (pgs_cons (pg_name (i := 3) sc_is_rule.nd rfl (.inl rfl) (.inr rfl)) (pgs_cons (pg_name (i := 4) sc_is_rule.nd rfl (.inl rfl) (.inr rfl)) pgs_nil)))) (fun _ _ _ _ _ => pts_nil) (fun _ _ _ _ _ => (pe_call G_is_part (hr.mono (by decide)) (by rfl) T.g_is_part T.F_is_part.kp T.b_is_part .nil pass0 (pa_cons (pv 0) (pa_cons (pv 3) (pa_cons (pv 4) pa_nil)))))) pa_nil)))))))), ?_⟩
    have i0 : atI (V.str (wordOf r) :: xs) 0 = some (.str (wordOf r)) := atI_nat (j := 0) rfl
    refine rd_isi (x := .ref a) (T := "tuple") rfl (.base (.tup ha)) (by decide +kernel : kitB "tuple" "tuple" = some true) ⟨_, rfl, iteN rfl ?_⟩
    refine ⟨.ref a, rfl, true, .inr (.inl ⟨_, .inl (.inl ha), rfl⟩), iteN rfl ?_⟩
    refine ⟨.ref a, rfl, a, _, 0, _, rfl, rfl, .inl (.inl ha), i0, _, _, .type "str", .type "str", true, rfl, .ty "str", .base (.str _), kit_ty (by decide +kernel), _, rfl, iteN rfl ?_⟩
    refine ⟨.ref a, rfl, a, _, 0, _, rfl, rfl, .inl (.inl ha), i0, _, _, rfl, rfl, dk, _, rfl, iteN rfl ?_⟩
    refine ⟨.ref a, rfl, a, _, 0, _, rfl, rfl, .inl (.inl ha), i0, T.D_PARTS, _, .ref t, rfl, rfl, ⟨T.es_PARTS, T.en_PARTS, _, T.kd_PARTS.at_, T.kd_PARTS.lit, dk, rfl⟩, ?_⟩
    refine ⟨.ref a, rfl, a, _, rfl, .inr (.inl (.inl ha)), .ref t, rfl, t, _, rfl, .inr (sq H), _, 1, rfl, rfl, rfl, _, rfl, iteN ?_ ?_⟩
    · rw [List.length_cons, List.length_map, xl]
      rw [decide_eq_true (by rfl)]
      rfl
    refine ⟨.ref t, rfl, .ref a, rfl, 1, rfl, a, _, rfl, .inl (.inl ha), fun wh => ?_, fun _ c nc => ?_⟩
    · exfalso
      have := wh.1
      rw [show HT.sIx (V.str (wordOf r) :: xs).length 0 (some 1) = min 1 (V.str (wordOf r) :: xs).length from HT.sIx_nat _ 0 1, List.length_cons] at this
      omega
    rw [cutV1]
    have s1 := same_upd (o := .tup ((V.str (wordOf r) :: xs).drop 1)) nc
    refine ⟨t, c, _, _, rfl, .inr ⟨sq _, .inl (.inl upd_same), fun D hD => ?_⟩⟩
    refine lc_true (walk_zipM (K := K) (a := t) (b := c) (xs := (partsOf r).map V.str) (ys := (V.str (wordOf r) :: xs).drop 1) (n := (partsOf r).length) (by rw [List.length_map, List.length_drop, List.length_cons, xl]; omega)) hD (parts_len r) (fun H3 s3 => ⟨sq _, .inl (.inl (s3 _ _ upd_same))⟩) ?_ (fun H3 s3 h3 => all_true h3 (q _ (s1.trans s3)))
    rintro i x H3 H4 hi s3 ⟨u, x1, x2, rfl, nu, rfl, e1, e2⟩ Q' Z hQ
    have e1' : ((partsOf r).map V.str)[i]? = some x1 := e1
    have e2' : xs[i]? = some x2 := e2
    rw [List.getElem?_map, List.getElem?_eq_getElem hi] at e1'
    cases e1'
    have sT := same_upd (o := .tup [V.str (partsOf r)[i], x2]) nu
    refine ⟨u, _, rfl, .inl (.inl upd_same), rfl, _, _, rfl, _, _, rfl, rfl, rfl, yes (iteT ⟨.int m, rfl, .str (partsOf r)[i], rfl, x2, rfl, m, _, x2, rfl, (px i _ x2 (List.getElem?_eq_getElem hi) e2').same (s1.trans (s3.trans sT)), fun H5 s5 => hQ _ (sT.trans s5)⟩)⟩
/-! ### halls -/
theorem run_len {X : Cx} {k : Nat} {f C : Addr} {fd : FuncData} {ps : List Str} {sp : Sp} (me : Meth X.K C "__len__" f) (F : FnOk X.prog X.w X.K X.mg X.base CX0 k f fd ps sp) (hb : Binds X.K fd ps []) (hr : Room (k + 1) X.A) :
    CallR X (.builtin "len") (fun xs H Q => ∃ (x dx : Addr) (fs : List (Str × V)), xs = [.ref x] ∧ H x = some (.ins C dx fs) ∧ sp [.ref x] H (fun v H' => ∃ n : Int, v = .int n ∧ 0 ≤ n ∧ n < 2 ^ 63 ∧ Q (.int n) H') E0) := by
  intro pins s σ H xs us Q I r h
  obtain ⟨x, dx, fs, rfl, hx, h⟩ := h
  rw [Vals.ref1 r]
  obtain ⟨m, fr⟩ := I.fr
  obtain ⟨mA, O, _⟩ := ins_get I.hok hx
  obtain ⟨od, J, _⟩ := O.look
  refine PySem.W.len_K fr I.mod.kin J me.at_ me.fn ?_
  have e0 := I.env0
  have e1 : Env0 X.prog X.w X.K X.mg X.base X.A.in1 X.stack s H := ⟨e0.frames, e0.mod, e0.bs, e0.bsz, e0.funs, e0.frf, e0.hok, e0.bare⟩
  have hl : ([Value.ref x] ++ []).length = ps.length := by rw [← F.len _ _ _ _ h]; rfl
  have bb := hb s [.ref x] I.kIn hl
  rw [List.append_nil] at bb
  have vv : Vals [V.ref x] [Value.ref x] := .cons rfl .nil
  have run := F.run X.A.in1 X.stack s H ⟨[.ref x], []⟩ [.ref x] [.ref x] _ E0 hr.in1 e1 bb vv h
  refine wpAny_call (codeAny_mono run ?_)
  rintro (e | fl) t ht
  · exact False.elim ht
  cases fl with
  | next => exact False.elim ht
  | brk => exact False.elim ht
  | cont => exact False.elim ht
  | ret u =>
    obtain ⟨v, H', J2, rv, n, rfl, n0, n1, q⟩ := I.after ht
    obtain ⟨tk, rfl⟩ := rv
    exact ⟨⟨n0, n1⟩, .int n, H', J2.tok _, ⟨_, rfl⟩, q⟩
def RulesAt (H : Hp) : List V → List Rule → Prop := Paired (RuleAt H)
theorem RulesAt.keep {H H' : Hp} (k : Keep H H') : ∀ {vs : List V} {rs : List Rule}, RulesAt H vs rs → RulesAt H' vs rs
  | _, _, .nil => .nil
  | _, _, .cons h r => .cons (h.keep k) (RulesAt.keep k r)
theorem RulesAt.get {H : Hp} : ∀ {vs : List V} {rs : List Rule}, RulesAt H vs rs → ∀ (i : Nat) (h : i < rs.length), ∃ v, vs[i]? = some v ∧ RuleAt H v rs[i]
  | _, _, .nil, i, h => absurd h (by simp)
  | _, _, .cons r t, 0, h => ⟨_, rfl, r⟩
  | _, _, .cons r t, i + 1, h => by
    obtain ⟨v, h1, h2⟩ := RulesAt.get t i (by simpa using h)
    exact ⟨v, by simpa using h1, by simpa using h2⟩
def Halls (rs : List Rule) : Prop := 1 ≤ rs.length ∧ rs.length ≤ 12 ∧ ∀ r ∈ rs, r.Wf rs.length
theorem wf_len {m : Int} {r : Rule} (h : r.Wf m) (hm : m ≤ 1000) (m0 : 0 ≤ m) : r.persons.length ≤ 1000 ∧ (r.persons.length : Int) ≤ m := by
  have key : ∀ ns : List Int, Rising m ns → (ns.length : Int) ≤ m := fun ns rs => by
    have h1 := nodup_len ns ((List.range m.toNat).map fun k : Nat => (k : Int)) rs.nodup (fun x hx => by
      have := rs.2 x hx
      rw [List.mem_map]
      exact ⟨x.toNat, List.mem_range.mpr (by omega), by omega⟩)
    rw [List.length_map, List.length_range] at h1
    omega
  have : (r.persons.length : Int) ≤ m := by
    cases r with
    | held n => show ((0 : Nat) : Int) ≤ m; omega
    | sum own ties => exact key _ h.2.1
    | cap own ties most => exact key _ h.2.1
    | kinds own seen => exact key _ h.2
    | next seen => exact key _ h
    | free seen => exact key _ h
  exact ⟨by omega, this⟩
/-- the hall at x, of these rules -/
def HallAt (C : Addr) (H : Hp) (x : Addr) (rs : List Rule) : Prop := ∃ (dx t : Addr) (vs : List V), H x = some (.ins C dx [("kept", .ref t)]) ∧ TupAt H t vs ∧ RulesAt H vs rs
def spInit (C : Addr) : Sp := fun vs H Q _ => ∃ (x dx l : Addr) (us : List V) (rs : List Rule), vs = [.ref x, .ref l] ∧ H x = some (.ins C dx []) ∧ H l = some (.lst us) ∧ RulesAt H us rs ∧ Halls rs ∧
  ∀ H', (∀ b o, b ≠ x → H b = some o → H' b = some o) → HallAt C H' x rs → Q .non H'
set_option maxHeartbeats 2000000 in
theorem ok_Hall_init (T : Txt K mg w) : FnOk P w K mg base CX0 7 T.f_Hall_init T.fd_Hall_init p_Hall_init (spInit T.C_Hall) := by
  have G_is_rule := ok_is_rule (P := P) (w := w) (base := base) T
  refine T.F_Hall_init.ok sc_Hall_init (fun vs H Q E h => ?_) (fun cdv A outer s H vs Q E hr h => ?_)
  · obtain ⟨x, dx, l, us, rs, rfl, _⟩ := h
    rfl
  · obtain ⟨x, dx, l, us, rs, rfl, hx, hl, ra, ⟨r0, r1, wf⟩, q⟩ := h
    have lu : us.length = rs.length := ra.length
    refine ⟨_, (pss_cons (ps_for PassesOwn.never rfl (pi_enum (by rfl) T.m_enumerate (pa_cons (pv 1) pa_nil)) (pg_tup rfl (pgs_cons (pg_name (i := 2) sc_Hall_init.nd rfl (.inl rfl)) (pgs_cons (pg_name (i := 3) sc_Hall_init.nd rfl (.inl rfl)) pgs_nil)))
        (pss_one (ps_if (pt_not (pt_val (pe_call G_is_rule (hr.mono (by decide)) (by rfl) T.g_is_rule T.F_is_rule.kp T.b_is_rule .nil pass0 (pa_cons (pe_callB call_len_seq (by rfl) T.m_len (by decide +kernel) (pa_cons (pv 1) pa_nil)) (pa_cons (pv 3) pa_nil)))))
          (pss_one ps_never)
          pss_nil)))
      (pss_one (ps_fld (pv 0) (pe_callTy call_tupleF (by rfl) T.m_tuple (by decide +kernel) (pa_cons (pv 1) pa_nil)) rfl))), ?_⟩
    refine ⟨.ref l, rfl, l, _, rfl, .inl (.inl hl), ?_⟩
    refine for_it (walk_enum (xs := us)) (fun i σ H3 => ∃ y2 y3 : Option V, σ = [some (.ref x), some (.ref l), y2, y3] ∧ Same H H3) ⟨none, none, rfl, Same.refl H⟩ ?_ ?_ ?_
    · rintro i σ H3 _ ⟨y2, y3, rfl, s3⟩
      exact .inl (.inl (s3 _ _ hl))
    · rintro i y σ H3 H4 hi ⟨y2, y3, rfl, s3⟩ ⟨t, x1, x2, rfl, nt, rfl, e1, e2⟩
      obtain ⟨v, hv, rv⟩ := ra.get i (by omega)
      have ex : x2 = v := Option.some.inj (e2.symm.trans hv)
      subst ex
      have sT := s3.trans (same_upd (o := .tup [x1, x2]) nt)
      have wfi := wf _ (List.getElem_mem (by omega : i < rs.length))
      refine ⟨t, _, rfl, .inl (.inl upd_same), rfl, _, _, rfl, _, _, rfl, rfl, ?_⟩
      refine ⟨.ref l, rfl, l, _, rfl, .inl (.inl (.inl (sT _ _ hl))), x2, rfl, (us.length : Int), x2, rs[i], rfl, rv.keep (Keep.same sT), by rw [lu]; exact wfi, (wf_len wfi (by omega) (by omega)).1, fun H5 s5 => ⟨_, rfl, iteN rfl ?_⟩⟩
      exact ⟨_, _, rfl, sT.trans s5⟩
    · rintro σ H3 ⟨y2, y3, rfl, s3⟩
      refine ⟨.ref l, rfl, l, _, rfl, .inl (.inl (s3 _ _ hl)), fun t o nt od => ?_⟩
      have s4 := s3.trans (same_upd (o := .frz o (.tup us)) nt)
      have nxt : x ≠ t := ne_of_none (s3 _ _ hx) nt
      refine ⟨.ref x, rfl, x, T.C_Hall, dx, [], rfl, s4 _ _ hx, T.cl_Hall, T.na_Hall_kept, by show 0 < 1000; decide, ?_⟩
      have kT : Keep (upd H3 t (.frz o (.tup us))) (upd (upd H3 t (.frz o (.tup us))) x (.ins T.C_Hall dx (putF "kept" (.ref t) []))) := by
        refine ⟨fun a xs h => ?_, fun a o u h => ?_⟩
        · rw [upd_ne (ne_of h (s4 _ _ hx) (by intro z; cases z))]; exact h
        · rw [upd_ne (ne_of h (s4 _ _ hx) (by intro z; cases z))]; exact h
      refine q _ (fun b ob nb hb => ?_) ⟨dx, t, us, upd_same, .inr ⟨o, od, kT.frz _ _ _ upd_same⟩, (ra.keep (Keep.same s4)).keep kT⟩
      rw [upd_ne nb]
      exact s4 _ _ hb
end
end Lh

namespace Lh
open PySem PySem.Spec PyProof.Rows L2
theorem kept_yes (v : V) : ([("kept", v)] : List (Str × V)).lookup ("kept" : Str) = some v := by
  rw [List.lookup_cons, show (("kept" : Str) == "kept") = true from beq_self_eq_true _]
theorem kept_no (v : V) {m : Str} (h : ¬ m = "kept") : ([("kept", v)] : List (Str × V)).lookup (m : Str) = none := by
  rw [List.lookup_cons, show (m == ("kept" : Str)) = false from beq_eq_false_iff_ne.mpr h]
  rfl
theorem HallAt.keep {C : Addr} {H H' : Hp} {x : Addr} {rs : List Rule} (s : Same H H') (h : HallAt C H x rs) : HallAt C H' x rs := by
  obtain ⟨dx, t, vs, h1, h2, h3⟩ := h
  exact ⟨dx, t, vs, s _ _ h1, h2.keep (Keep.same s), h3.keep (Keep.same s)⟩
theorem HallAt.ext {C bx : Addr} {c : Int} {H H' : Hp} {x : Addr} {rs : List Rule} (e : Ext bx H H') (b : Box bx c H) (h : HallAt C H x rs) : HallAt C H' x rs := by
  obtain ⟨dx, t, vs, h1, h2, h3⟩ := h
  have nb : x ≠ bx := by
    obtain ⟨_, _, _, hb, _⟩ := b
    exact ne_of h1 hb (by intro z; cases z)
  exact ⟨dx, t, vs, e _ _ nb h1, h2.keep (Keep.ext e b), h3.keep (Keep.ext e b)⟩
/-! ### standings -/
def nth (ns : List Int) (p : Int) : Int := ns.getD p.toNat 0
theorem nth_get {ns : List Int} {p : Int} (h0 : 0 ≤ p) (h1 : p < ns.length) : (ns.map V.int)[p.toNat]? = some (.int (nth ns p)) := by
  have hp : p.toNat < ns.length := by omega
  rw [List.getElem?_map, List.getElem?_eq_getElem hp]
  unfold nth
  rw [List.getD_eq_getElem?_getD, List.getElem?_eq_getElem hp]
  rfl
theorem nth_at {ns : List Int} {p : Int} (h0 : 0 ≤ p) (h1 : p < ns.length) : atI (ns.map V.int) p = some (.int (nth ns p)) := at_of (by omega) (nth_get h0 h1)
/-- the lot of those a rule sees who show less -/
def lotI (r : Rule) (ns : List Int) (p : Int) : List (Int × Int) := (r.persons.filter fun o => decide (nth ns o < nth ns p)).map fun o => (o, nth ns o)
def lotH (r : Rule) (ns : List Int) (h : Int) : List (Int × Int) := (r.persons.filter fun o => decide (nth ns o < h)).map fun o => (o, nth ns o)
theorem lotH_in {r : Rule} {ns : List Int} {h : Int} : ∀ q ∈ lotH r ns h, q.1 ∈ r.persons := fun q hq => by
  obtain ⟨o, ho, rfl⟩ := List.mem_map.mp hq
  exact (List.mem_filter.mp ho).1
theorem lotI_in {r : Rule} {ns : List Int} {p : Int} : ∀ q ∈ lotI r ns p, q.1 ∈ r.persons := fun q hq => by
  obtain ⟨o, ho, rfl⟩ := List.mem_map.mp hq
  exact (List.mem_filter.mp ho).1
/-- the turns of some, had at once -/
def Turned (rs : List Rule) (ns : List Int) (some_ : Int → Prop) (ms : List Int) : Prop := ms.length = ns.length ∧ ∀ (i : Nat) (h : i < rs.length), (some_ i → Tell rs[i] (lotI rs[i] ns i) (nth ms i)) ∧ (¬ some_ i → nth ms i = nth ns i)
theorem nth_ext {ns ms : List Int} (hl : ns.length = ms.length) (h : ∀ i : Nat, i < ns.length → nth ns i = nth ms i) : ns = ms := by
  apply List.ext_getElem hl
  intro i h1 h2
  have := h i h1
  unfold nth at this
  rw [List.getD_eq_getElem?_getD, List.getD_eq_getElem?_getD, Int.toNat_natCast, List.getElem?_eq_getElem h1, List.getElem?_eq_getElem h2] at this
  exact this
theorem Turned.unique {rs : List Rule} {ns ms ks : List Int} {p q : Int → Prop} (hn : ns.length = rs.length) (pq : ∀ i : Nat, i < rs.length → (p i ↔ q i)) (a : Turned rs ns p ms) (b : Turned rs ns q ks) : ms = ks := by
  refine nth_ext (a.1.trans b.1.symm) fun i hi => ?_
  have h : i < rs.length := by rw [← hn, ← a.1]; exact hi
  have ha := a.2 i h
  have hb := b.2 i h
  by_cases c : p i
  · exact (ha.1 c).unique (hb.1 ((pq i h).mp c))
  · rw [ha.2 c, hb.2 fun z => c ((pq i h).mpr z)]
abbrev Beat (rs : List Rule) (ns ms : List Int) : Prop := Turned rs ns (fun _ => True) ms
section
variable {P : Program} {w : World} {K : PySem.W.Frag} {mg : Str → Option Value} {base : Heap}
def spMust (C : Addr) : Sp := fun vs H Q _ => ∃ (x : Addr) (p : Int) (rs : List Rule), vs = [.ref x, .int p] ∧ HallAt C H x rs ∧ 0 ≤ p ∧ p < rs.length ∧ Q .non H
theorem ok_Hall_must_have (T : Txt K mg w) : FnOk P w K mg base CX0 1 T.f_Hall_must_have T.fd_Hall_must_have p_Hall_must_have (spMust T.C_Hall) := by
  refine T.F_Hall_must_have.ok sc_Hall_must_have (fun vs H Q E h => ?_) (fun cdv A outer s H vs Q E hr h => ?_)
  · obtain ⟨x, p, rs, rfl, _⟩ := h
    rfl
  · obtain ⟨x, p, rs, rfl, ⟨dx, t, vs, hx, ht, hv⟩, p0, p1, q⟩ := h
    have lv : vs.length = rs.length := hv.length
    refine ⟨_, (pss_one (ps_if (pt_not (pt_chain op_le op_lt pe_int (pv 1) (pe_callB call_len_seq (by rfl) T.m_len (by decide +kernel) (pa_cons (pe_fld (pv 0) rfl) pa_nil))))
        (pss_one ps_never)
        pss_nil)), ?_⟩
    exact ⟨.int p, rfl, 0, p, rfl, rfl, _, rfl, iteP (decide_eq_true p0) ⟨.ref x, rfl, x, T.C_Hall, dx, _, _, rfl, hx, T.cl_Hall, T.na_Hall_kept, kept_yes _, t, _, rfl, .inr ht.sq, p, _, rfl, rfl, _, rfl, iteN (by rw [decide_eq_true (by rw [lv]; exact p1)]; rfl) q⟩⟩
def spRuleM (C : Addr) : Sp := fun vs H Q _ => ∃ (x : Addr) (p : Nat) (rs : List Rule) (h : p < rs.length), vs = [.ref x, .int p] ∧ HallAt C H x rs ∧ ∀ v, RuleAt H v rs[p] → Q v H
theorem ok_Hall_rule (T : Txt K mg w) : FnOk P w K mg base CX0 2 T.f_Hall_rule T.fd_Hall_rule p_Hall_rule (spRuleM T.C_Hall) := by
  have G_Hall_must_have := ok_Hall_must_have (P := P) (w := w) (base := base) T
  refine T.F_Hall_rule.ok sc_Hall_rule (fun vs H Q E h => ?_) (fun cdv A outer s H vs Q E hr h => ?_)
  · obtain ⟨x, p, rs, hp, rfl, _⟩ := h
    rfl
  · obtain ⟨x, p, rs, hp, rfl, hA, q⟩ := h
    obtain ⟨dx, t, vs, hx, ht, hv⟩ := id hA
    refine ⟨_, (pss_cons (ps_expr (pe_meth (pv 0) T.cl_Hall T.me_Hall_must_have G_Hall_must_have (hr.mono (by decide)) T.b_Hall_must_have .nil pass0 (pa_cons (pv 1) pa_nil)))
      (pss_one (ps_ret (pe_ix ix_tup (pe_fld (pv 0) rfl) (pv 1) (fun _ _ => rfl))))), ?_⟩
    refine ⟨.ref x, rfl, x, dx, _, rfl, hx, kept_no _ (by decide +kernel), .int p, rfl, x, p, rs, rfl, hA, by omega, by omega, ?_⟩
    obtain ⟨v, hv1, hv2⟩ := hv.get p hp
    exact ⟨.ref x, rfl, x, T.C_Hall, dx, _, _, rfl, hx, T.cl_Hall, T.na_Hall_kept, kept_yes _, .int p, rfl, t, _, _, v, rfl, rfl, ht.sq, atI_nat hv1, q v hv2⟩
def spSees (C : Addr) : Sp := fun vs H Q _ => ∃ (x : Addr) (p : Nat) (rs : List Rule) (h : p < rs.length), vs = [.ref x, .int p] ∧ HallAt C H x rs ∧ Halls rs ∧ ∀ (l : Addr) (H' : Hp), Same H H' → H l = none → H' l = some (.lst (rs[p].persons.map V.int)) → Q (.ref l) H'
theorem Halls.few {rs : List Rule} (h : Halls rs) {p : Nat} (hp : p < rs.length) : rs[p].persons.length ≤ 12 := by
  have h1 := h.2.1
  have := (wf_len (h.2.2 _ (List.getElem_mem hp)) (by omega) (by omega)).2
  omega
theorem ok_Hall_sees (T : Txt K mg w) : FnOk P w K mg base CX0 3 T.f_Hall_sees T.fd_Hall_sees p_Hall_sees (spSees T.C_Hall) := by
  have G_Hall_rule := ok_Hall_rule (P := P) (w := w) (base := base) T
  have G_seen_by := ok_seen_by (P := P) (w := w) (base := base) T
  refine T.F_Hall_sees.ok sc_Hall_sees (fun vs H Q E h => ?_) (fun cdv A outer s H vs Q E hr h => ?_)
  · obtain ⟨x, p, rs, hp, rfl, _⟩ := h
    rfl
  · obtain ⟨x, p, rs, hp, rfl, hA, hh, q⟩ := h
    obtain ⟨dx, t, vs, hx, ht, hv⟩ := id hA
    have few := hh.few hp
    refine ⟨_, (pss_one (ps_ret (pe_call G_seen_by (hr.mono (by decide)) (by rfl) T.g_seen_by T.F_seen_by.kp T.b_seen_by .nil pass0 (pa_cons (pe_meth (pv 0) T.cl_Hall T.me_Hall_rule G_Hall_rule (hr.mono (by decide)) T.b_Hall_rule .nil pass0 (pa_cons (pv 1) pa_nil)) pa_nil)))), ?_⟩
    refine ⟨.ref x, rfl, x, dx, _, rfl, hx, kept_no _ (by decide +kernel), .int p, rfl, x, p, rs, hp, rfl, hA, fun v rv => ?_⟩
    exact ⟨v, rs[p], rfl, rv, by omega, fun l H' s' nl hl => q l H' s' nl hl⟩
def spLen (C : Addr) : Sp := fun vs H Q _ => ∃ (x : Addr) (rs : List Rule), vs = [.ref x] ∧ HallAt C H x rs ∧ Q (.int rs.length) H
theorem ok_Hall_len (T : Txt K mg w) : FnOk P w K mg base CX0 1 T.f_Hall_len T.fd_Hall_len p_Hall_len (spLen T.C_Hall) := by
  refine T.F_Hall_len.ok sc_Hall_len (fun vs H Q E h => ?_) (fun cdv A outer s H vs Q E hr h => ?_)
  · obtain ⟨x, rs, rfl, _⟩ := h
    rfl
  · obtain ⟨x, rs, rfl, ⟨dx, t, vs, hx, ht, hv⟩, q⟩ := h
    refine ⟨_, (pss_one (ps_ret (pe_callB call_len_seq (by rfl) T.m_len (by decide +kernel) (pa_cons (pe_fld (pv 0) rfl) pa_nil)))), ?_⟩
    refine ⟨.ref x, rfl, x, T.C_Hall, dx, _, _, rfl, hx, T.cl_Hall, T.na_Hall_kept, kept_yes _, t, _, rfl, .inr ht.sq, ?_⟩
    rw [hv.length]
    exact q
theorem per_in {rs : List Rule} (hh : Halls rs) {p : Nat} (hp : p < rs.length) : ∀ o ∈ rs[p].persons, 0 ≤ o ∧ o < rs.length := by
  intro o ho
  have wf := hh.2.2 _ (List.getElem_mem hp)
  generalize rs[p] = r at ho wf
  cases r with
  | held n => exact absurd ho (by simp [Rule.persons])
  | sum own ties => exact wf.2.1.2 o ho
  | cap own ties most => exact wf.2.1.2 o ho
  | kinds own seen => exact wf.2.2 o ho
  | next seen => exact wf.2 o ho
  | free seen => exact wf.2 o ho
end
end Lh

namespace Lh
open PySem PySem.Spec PyProof.Rows L2
section
variable {P : Program} {w : World} {K : PySem.W.Frag} {mg : Str → Option Value} {base : Heap}
/-- NoPerson(p) -/
def NoP (X : Addr) (E : XK) (H : Hp) (p : Int) : Prop := ∀ (d : Addr) (H' : Hp), Same H H' → H d = none → H' d = some (.xd [("person", .int p)]) → E (.ref X) (some d) H'
def spMustX (C X : Addr) : Sp := fun vs H Q E => ∃ (x : Addr) (p : Int) (rs : List Rule), vs = [.ref x, .int p] ∧ HallAt C H x rs ∧ (0 ≤ p ∧ p < rs.length → Q .non H) ∧ (¬ (0 ≤ p ∧ p < rs.length) → NoP X E H p)
theorem ok_must_haveX (T : Txt K mg w) : FnOk P w K mg base (L2.CX P w) 3 T.f_Hall_must_have T.fd_Hall_must_have p_Hall_must_have (spMustX T.C_Hall T.C_NoPerson) := by
  have G_NoPerson_init := ok_NoPerson_init (P := P) (w := w) (base := base) T
  refine T.F_Hall_must_have.okX sc_Hall_must_have (fun vs H Q E h => ?_) (fun cdv A outer s H vs Q E hr h => ?_)
  · obtain ⟨x, p, rs, rfl, _⟩ := h
    rfl
  · obtain ⟨x, p, rs, rfl, ⟨dx, t, vs, hx, ht, hv⟩, qQ, qE⟩ := h
    have lv : vs.length = rs.length := hv.length
    refine ⟨_, (pss_one (ps_if (pt_not (pt_chain op_le op_lt pe_int (pv 1) (pe_callB call_len_seq (by rfl) T.m_len (by decide +kernel) (pa_cons (pe_fld (pv 0) rfl) pa_nil))))
        (pss_one (ps_raise rfl (takes_of rfl rfl rfl rfl) (pmk_own T.ox_NoPerson T.me_NoPerson_init.1 T.ti_NoPerson G_NoPerson_init (hr.mono (by decide)) T.b_NoPerson_init .nil pass0 (by rfl) T.g_NoPerson (pa_cons (pv 1) pa_nil))))
        pss_nil)), ?_⟩
    have raise : ¬ (0 ≤ p ∧ p < rs.length) → tMkO T.C_NoPerson (spInitF T.C_NoPerson "person") [] (tCons (tVar 1) tNil) (L2.start n_Hall_must_have [V.ref x, V.int p]) H fun a b c => E a b c := fun c => by
      refine ⟨.int p, rfl, by show 1 ≤ 1000; decide, fun e ne => ?_⟩
      refine ⟨e, .int p, rfl, upd_same, fun d nd nde => ⟨rfl, d, [("person", .int p)], upd_same, ?_, ?_, ?_⟩⟩
      · rw [upd_ne nde, upd_same]
      · rw [upd_ne nde] at nd; exact nd
      · rw [upd_ne nde] at nd
        refine qE c d _ (fun b o hbo => ?_) nd upd_same
        have n1 : b ≠ e := ne_of_none hbo ne
        have n2 : b ≠ d := ne_of_none hbo nd
        rw [upd_ne n2, L2.del_ne n1, upd_ne n1, upd_ne n2, upd_ne n1]
        exact hbo
    refine ⟨.int p, rfl, 0, p, rfl, rfl, _, rfl, ite2 (fun c0 => ?_) (fun c0 => ?_)⟩
    · have p0 : 0 ≤ p := of_decide_eq_true c0
      refine ⟨.ref x, rfl, x, T.C_Hall, dx, _, _, rfl, hx, T.cl_Hall, T.na_Hall_kept, kept_yes _, t, _, rfl, .inr ht.sq, p, _, rfl, rfl, _, rfl, ?_⟩
      by_cases c1 : p < rs.length
      · exact iteN (by rw [decide_eq_true (by rw [lv]; exact c1)]; rfl) (qQ ⟨p0, c1⟩)
      · refine iteP (by rw [decide_eq_false (by rw [lv]; exact c1)]; rfl) ?_
        exact raise fun z => c1 z.2
    · exact ⟨_, rfl, iteP rfl (raise fun z => c0 (decide_eq_true z.1))⟩
def spRuleX (C X : Addr) : Sp := fun vs H Q E => ∃ (x : Addr) (p : Int) (rs : List Rule), vs = [.ref x, .int p] ∧ HallAt C H x rs ∧ (∀ (k : Nat) (hk : k < rs.length), p = (k : Int) → ∀ v, RuleAt H v rs[k] → Q v H) ∧ (¬ (0 ≤ p ∧ p < rs.length) → NoP X E H p)
theorem ok_ruleX (T : Txt K mg w) : FnOk P w K mg base (L2.CX P w) 4 T.f_Hall_rule T.fd_Hall_rule p_Hall_rule (spRuleX T.C_Hall T.C_NoPerson) := by
  have G_Hall_must_have := ok_must_haveX (P := P) (w := w) (base := base) T
  refine T.F_Hall_rule.okX sc_Hall_rule (fun vs H Q E h => ?_) (fun cdv A outer s H vs Q E hr h => ?_)
  · obtain ⟨x, p, rs, rfl, _⟩ := h
    rfl
  · obtain ⟨x, p, rs, rfl, hA, qQ, qE⟩ := h
    obtain ⟨dx, t, vs, hx, ht, hv⟩ := id hA
    refine ⟨_, (pss_cons (ps_expr (pe_meth (pv 0) T.cl_Hall T.me_Hall_must_have G_Hall_must_have (hr.mono (by decide)) T.b_Hall_must_have .nil (passes_call (takes_of rfl rfl rfl rfl) (fun _ _ _ _ h => h)) (pa_cons (pv 1) pa_nil)))
      (pss_one (ps_ret (pe_ix ix_tup (pe_fld (pv 0) rfl) (pv 1) (fun _ _ => rfl))))), ?_⟩
    refine ⟨.ref x, rfl, x, dx, _, rfl, hx, kept_no _ (by decide +kernel), .int p, rfl, x, p, rs, rfl, hA, fun c => ?_, qE⟩
    obtain ⟨k, rfl⟩ : ∃ k : Nat, p = (k : Int) := ⟨p.toNat, by omega⟩
    have hk : k < rs.length := by omega
    obtain ⟨v, hv1, hv2⟩ := hv.get k hk
    exact ⟨.ref x, rfl, x, T.C_Hall, dx, _, _, rfl, hx, T.cl_Hall, T.na_Hall_kept, kept_yes _, .int k, rfl, t, _, _, v, rfl, rfl, ht.sq, atI_nat hv1, qQ k hk rfl v hv2⟩
end
end Lh

namespace Lh
open PySem PySem.Spec PyProof.Rows L2
section
variable {P : Program} {w : World} {K : PySem.W.Frag} {mg : Str → Option Value} {base : Heap}
def spWeighed : Sp := fun vs H Q _ => ∃ (a t : Addr) (l x0 : V) (own : Int) (more : List V) (ties lot : List (Int × Int)), vs = [.ref a, l] ∧ H a = some (.tup (x0 :: .int own :: .ref t :: more)) ∧ TiesAt H t ties ∧ (ties.map (·.1)).Nodup ∧ LotAt H l lot ∧ (∀ q ∈ lot, q.1 ∈ ties.map (·.1)) ∧
  ∀ H', Same H H' → Q (.int (own + (lot.map fun q => wgt ties q.1).sum)) H'
theorem ok_weighed (T : Txt K mg w) : FnOk P w K mg base CX0 1 T.f_weighed T.fd_weighed p_weighed spWeighed := by
  refine T.F_weighed.ok sc_weighed (fun vs H Q E h => ?_) (fun cdv A outer s H vs Q E hr h => ?_)
  · obtain ⟨a, t, l, x0, own, more, ties, lot, rfl, _⟩ := h
    rfl
  · obtain ⟨a, t, l, x0, own, more, ties, lot, rfl, ha, ⟨o, ps, od, ht, pr⟩, nd, ⟨b, qs, rfl, hb, pq, lq⟩, sub, q⟩ := h
    have i1 : atI (x0 :: V.int own :: .ref t :: more) 1 = some (.int own) := atI_nat (j := 1) rfl
    have i2 : atI (x0 :: V.int own :: .ref t :: more) 2 = some (.ref t) := atI_nat (j := 2) rfl
    rcases hb with hb | hb
    · refine ⟨_, (pss_cons (ps_set (i := 2) sc_weighed.nd rfl (.inr rfl) (pe_callTy (call_dictT rfl) (by rfl) T.m_dict (by decide +kernel) (pa_cons (pe_ix ix_tup (pv 0) pe_int (fun _ _ => rfl)) pa_nil)))
      (pss_one (ps_ret (pe_op op_add (pe_ix ix_tup (pv 0) pe_int (fun _ _ => rfl)) (pe_callB (cr_sum rfl) (by rfl) T.m_sum (by decide +kernel) (pa_cons (pe_lc (own := [("person", 3), ("number", 4)]) (g := gTup K 2 (gCons (gName 3) (gCons (gName 4) gNil))) (by rfl) sc_weighed.nd (pi_list (pv 1)) (blkOk_by (own := [("person", 3), ("number", 4)]) (N := n_weighed) (sc := defScope s_weighed) (by decide +kernel)) (fun _ _ _ _ _ => (pg_tup rfl (pgs_cons (pg_name (i := 3) sc_weighed.nd rfl (.inl rfl) (.inr rfl)) (pgs_cons (pg_name (i := 4) sc_weighed.nd rfl (.inl rfl) (.inr rfl)) pgs_nil)))) (fun _ _ _ _ _ => pts_nil) (fun _ _ _ _ _ => (pe_dget (hu_of hr) (pv 2) (pv 3) (fun _ _ => rfl)))) pa_nil)))))), ?_⟩
      refine ⟨.ref a, rfl, a, _, 2, _, rfl, rfl, .inl (.inl ha), i2, t, o, ps, kvOf ties, rfl, od, ht, pairs_sq pr, fun d hd => ?_⟩
      rw [merge_kv nd]
      have s1 := same_upd (o := .dK (kvOf ties)) hd
      refine ⟨.ref a, rfl, a, _, 1, _, rfl, rfl, .inl (.inl (s1 _ _ ha)), i1, ?_⟩
      refine ⟨.ref b, rfl, b, rfl, ⟨_, .inl (.inl (s1 _ _ hb))⟩, fun D hD => ?_⟩
      refine lc_pairs (fun q => wgt ties q.1) (walk_listR qs) (pairs_keep (Keep.same s1) pq) hD lq (fun H3 s3 => .inl (.inl (s3 _ _ (s1 _ _ hb)))) (fun _ _ => rfl) (fun q hq H3 s3 Q h => ?_) (fun H3 s3 h3 => ?_)
      · refine ⟨.ref d, rfl, .int q.1, rfl, d, _, rfl, ?_, h⟩
        rw [← kv_get (sub q hq)]
        exact DGet.k (k := Sum.inl q.1) (s3 _ _ upd_same)
      · exact ⟨D, _, rfl, .inl (.inl h3), _, _, rfl, rfl, q _ (s1.trans s3)⟩
    · refine ⟨_, (pss_cons (ps_set (i := 2) sc_weighed.nd rfl (.inr rfl) (pe_callTy (call_dictT rfl) (by rfl) T.m_dict (by decide +kernel) (pa_cons (pe_ix ix_tup (pv 0) pe_int (fun _ _ => rfl)) pa_nil)))
      (pss_one (ps_ret (pe_op op_add (pe_ix ix_tup (pv 0) pe_int (fun _ _ => rfl)) (pe_callB (cr_sum rfl) (by rfl) T.m_sum (by decide +kernel) (pa_cons (pe_lc (own := [("person", 3), ("number", 4)]) (g := gTup K 2 (gCons (gName 3) (gCons (gName 4) gNil))) (by rfl) sc_weighed.nd (pi_tup (pv 1)) (blkOk_by (own := [("person", 3), ("number", 4)]) (N := n_weighed) (sc := defScope s_weighed) (by decide +kernel)) (fun _ _ _ _ _ => (pg_tup rfl (pgs_cons (pg_name (i := 3) sc_weighed.nd rfl (.inl rfl) (.inr rfl)) (pgs_cons (pg_name (i := 4) sc_weighed.nd rfl (.inl rfl) (.inr rfl)) pgs_nil)))) (fun _ _ _ _ _ => pts_nil) (fun _ _ _ _ _ => (pe_dget (hu_of hr) (pv 2) (pv 3) (fun _ _ => rfl)))) pa_nil)))))), ?_⟩
      refine ⟨.ref a, rfl, a, _, 2, _, rfl, rfl, .inl (.inl ha), i2, t, o, ps, kvOf ties, rfl, od, ht, pairs_sq pr, fun d hd => ?_⟩
      rw [merge_kv nd]
      have s1 := same_upd (o := .dK (kvOf ties)) hd
      refine ⟨.ref a, rfl, a, _, 1, _, rfl, rfl, .inl (.inl (s1 _ _ ha)), i1, ?_⟩
      refine ⟨.ref b, rfl, b, rfl, ⟨_, (hb.keep (Keep.same s1)).sq⟩, fun D hD => ?_⟩
      refine lc_pairs (fun q => wgt ties q.1) (walk_tupR qs) (pairs_keep (Keep.same s1) pq) hD lq (fun H3 s3 => ((hb.keep (Keep.same s1)).keep (Keep.same s3)).sq) (fun _ _ => rfl) (fun q hq H3 s3 Q h => ?_) (fun H3 s3 h3 => ?_)
      · refine ⟨.ref d, rfl, .int q.1, rfl, d, _, rfl, ?_, h⟩
        rw [← kv_get (sub q hq)]
        exact DGet.k (k := Sum.inl q.1) (s3 _ _ upd_same)
      · exact ⟨D, _, rfl, .inl (.inl h3), _, _, rfl, rfl, q _ (s1.trans s3)⟩
def spLeast (K : PySem.W.Frag) : Sp := fun vs H Q _ => ∃ (a : Addr) (ns : List Int), vs = [.ref a] ∧ SqL K H a (ns.map V.int) ∧ ∀ x, IsMex ns x → Q (.int x) H
theorem ok_least_free (T : Txt K mg w) : FnOk P w K mg base CX0 1 T.f_least_free T.fd_least_free p_least_free (spLeast K) := by
  refine T.F_least_free.ok sc_least_free (fun vs H Q E h => ?_) (fun cdv A outer s H vs Q E hr h => ?_)
  · obtain ⟨a, ns, rfl, _⟩ := h
    rfl
  · obtain ⟨a, ns, rfl, hS, q⟩ := h
    refine ⟨_, (pss_cons (ps_set (i := 1) sc_least_free.nd rfl (.inl rfl) pe_int)
      (pss_cons (ps_while PassesOwn.never (pt_cmpR op_in_seq (pv 1) (pv 0) (by rfl))
        (pss_one (ps_aug (i := 1) sc_least_free.nd rfl (.inl rfl) pe_int ip_add)))
      (pss_one (ps_ret (pv 1))))), ?_⟩
    refine while_by (fun σ H' => ∃ k : Nat, σ = [some (.ref a), some (.int k)] ∧ H' = H ∧ ∀ j : Int, 0 ≤ j → j < k → j ∈ ns) (fun σ _ => match σ with | [_, some (.int k)] => ns.length + 1 - k.toNat | _ => 0) ⟨0, rfl, rfl, fun j h1 h2 => by omega⟩ ?_ ?_
    · rintro σ H' ⟨k, rfl, rfl, hk⟩
      refine ⟨.int k, rfl, .ref a, rfl, a, _, rfl, .inl hS, rfl, flat_ints ns, _, rfl, ?_⟩
      rw [if_neg Bool.false_ne_true, in_ints]
      refine ite2 (fun e => ?_) (fun e => ?_)
      · have e' : (k : Int) ∈ ns := of_decide_eq_true e
        have hk2 : ∀ j : Int, 0 ≤ j → j < (k + 1 : Nat) → j ∈ ns := fun j h1 h2 => by
          by_cases z : j = k
          · rw [z]; exact e'
          · exact hk j h1 (by omega)
        have hle : k + 1 ≤ ns.length := by
          have h := nodup_len ((List.range (k + 1)).map fun n : Nat => (n : Int)) ns (by
            rw [List.nodup_iff_pairwise_ne]
            exact List.Pairwise.map _ (fun a b z q => z (by omega)) (List.nodup_iff_pairwise_ne.mp List.nodup_range)) (fun x hx => by
              obtain ⟨n, hn, rfl⟩ := List.mem_map.mp hx
              exact hk2 n (by omega) (by have := List.mem_range.mp hn; omega))
          rw [List.length_map, List.length_range] at h
          exact h
        refine ⟨.int k, rfl, k, 1, rfl, rfl, ⟨k + 1, rfl, rfl, hk2⟩, ?_⟩
        show ns.length + 1 - ((k : Int) + 1).toNat < ns.length + 1 - (k : Int).toNat
        omega
      · refine ⟨.int k, rfl, q k ⟨?_, by omega, hk⟩⟩
        exact fun z => e (decide_eq_true z)
    · rintro σ H' Q Q' hQ ⟨v, h1, u, h2, p, xs, h3, h4, h5, h6, k, h7, h8⟩
      exact ⟨v, h1, u, h2, p, xs, h3, h4, h5, h6, k, h7, hQ _ _ h8⟩
end
end Lh

namespace Lh
open PySem PySem.Spec PyProof.Rows L2
section
variable {P : Program} {w : World} {K : PySem.W.Frag} {mg : Str → Option Value} {base : Heap}
def spToldOf : Sp := fun vs H Q _ => ∃ (v l : V) (r : Rule) (many : Int) (lot : List (Int × Int)), vs = [v, l] ∧ RuleAt H v r ∧ r.Wf many ∧ LotAt H l lot ∧ (∀ q ∈ lot, q.1 ∈ r.persons) ∧ ∀ (x : Int) (H' : Hp), Same H H' → Tell r lot x → Q (.int x) H'
theorem ok_told_of (T : Txt K mg w) : FnOk P w K mg base CX0 2 T.f_told_of T.fd_told_of p_told_of spToldOf := by
  have G_weighed := ok_weighed (P := P) (w := w) (base := base) T
  have G_least_free := ok_least_free (P := P) (w := w) (base := base) T
  refine T.F_told_of.ok sc_told_of (fun vs H Q E h => ?_) (fun cdv A outer s H vs Q E hr h => ?_)
  · obtain ⟨v, l, r, many, lot, rfl, _⟩ := h
    rfl
  · obtain ⟨v, l, r, many, lot, rfl, hv, wf, ⟨b, qs, rfl, hb, pq, lq⟩, sub, q⟩ := h
    rcases hb with hb | hb
    · refine ⟨_, (pss_cons (ps_set (i := 2) sc_told_of.nd rfl (.inl rfl) (pe_ix ix_tup (pv 0) pe_int (fun _ _ => rfl)))
      (pss_cons (ps_if (pt_cmpR op_eq (pv 2) pe_str (nomark _))
        (pss_one (ps_ret (pe_ix ix_tup (pv 0) pe_int (fun _ _ => rfl))))
        pss_nil)
      (pss_cons (ps_if (pt_cmpR op_eq (pv 2) pe_str (nomark _))
        (pss_one (ps_ret (pe_call G_weighed (hr.mono (by decide)) (by rfl) T.g_weighed T.F_weighed.kp T.b_weighed .nil pass0 (pa_cons (pv 0) (pa_cons (pv 1) pa_nil)))))
        pss_nil)
      (pss_cons (ps_if (pt_cmpR op_eq (pv 2) pe_str (nomark _))
        (pss_one (ps_ret (pe_callB (call_min2 rfl) (by rfl) T.m_min (by decide +kernel) (pa_cons (pe_call G_weighed (hr.mono (by decide)) (by rfl) T.g_weighed T.F_weighed.kp T.b_weighed .nil pass0 (pa_cons (pv 0) (pa_cons (pv 1) pa_nil))) (pa_cons (pe_ix ix_tup (pv 0) pe_int (fun _ _ => rfl)) pa_nil)))))
        pss_nil)
      (pss_cons (ps_setLc (i := 3) (own := [("person", 4), ("number", 5)]) (g := gTup K 2 (gCons (gName 4) (gCons (gName 5) gNil))) (by rfl) sc_told_of.nd rfl rfl (sw_true rfl rfl rfl (by decide +kernel)) (pi_list (pv 1)) (blkOk_by (own := [("person", 4), ("number", 5)]) (N := n_told_of) (sc := defScope s_told_of) (by decide +kernel)) (fun _ _ _ _ _ => (pg_tup rfl (pgs_cons (pg_name (i := 4) sc_told_of.nd rfl (.inl rfl) (.inr rfl)) (pgs_cons (pg_name (i := 5) sc_told_of.nd rfl (.inl rfl) (.inr rfl)) pgs_nil)))) (fun _ _ _ _ _ => pts_nil) (fun _ _ _ _ _ => (pv 5)))
      (pss_cons (ps_if (pt_cmpR op_eq (pv 2) pe_str (nomark _))
        (pss_one (ps_ret (pe_op op_add (pe_ix ix_tup (pv 0) pe_int (fun _ _ => rfl)) (pe_callB cr_lenSet (by rfl) T.m_len (by decide +kernel) (pa_cons (pe_callTy (cr_setL rfl) (by rfl) T.m_set (by decide +kernel) (pa_cons (pv 3) pa_nil)) pa_nil)))))
        pss_nil)
      (pss_cons (ps_if (pt_cmpR op_eq (pv 2) pe_str (nomark _))
        (pss_one (ps_ret (pe_op op_add (pe_callBK (cr_maxD rfl hr.units) (by rfl) T.m_max (by decide +kernel) (pa_cons (pv 3) pa_nil) (pk_cons (pe_un un_neg pe_int) pk_nil)) pe_int)))
        pss_nil)
      (pss_one (ps_ret (pe_call G_least_free (hr.mono (by decide)) (by rfl) T.g_least_free T.F_least_free.kp T.b_least_free .nil pass0 (pa_cons (pv 3) pa_nil))))))))))), ?_⟩
      cases r with
      | held n =>
        obtain ⟨a, rfl, ha⟩ := hv
        refine ⟨.ref a, rfl, a, _, 0, _, rfl, rfl, .inl (.inl ha), rfl, ?_⟩
        refine ⟨_, rfl, rfl, _, rfl, iteP (by decide +kernel) ?_⟩
        exact ⟨.ref a, rfl, a, _, 1, _, rfl, rfl, .inl (.inl ha), rfl, q n H (Same.refl H) rfl⟩
      | sum own ties =>
        obtain ⟨a, t, rfl, ha, hT⟩ := hv
        obtain ⟨_, rs, _⟩ := wf
        refine ⟨.ref a, rfl, a, _, 0, _, rfl, rfl, .inl (.inl ha), rfl, ?_⟩
        refine ⟨_, rfl, rfl, _, rfl, iteN (by decide +kernel) ?_⟩
        refine ⟨_, rfl, rfl, _, rfl, iteP (by decide +kernel) ?_⟩
        refine ⟨.ref a, rfl, .ref b, rfl, a, t, .ref b, _, own, [], ties, lot, rfl, ha, hT, rs.nodup, ⟨b, qs, rfl, .inl hb, pq, lq⟩, sub, fun H3 s3 => ?_⟩
        exact q _ H3 s3 rfl
      | cap own ties most =>
        obtain ⟨a, t, rfl, ha, hT⟩ := hv
        obtain ⟨_, rs, _⟩ := wf
        refine ⟨.ref a, rfl, a, _, 0, _, rfl, rfl, .inl (.inl ha), rfl, ?_⟩
        refine ⟨_, rfl, rfl, _, rfl, iteN (by decide +kernel) ?_⟩
        refine ⟨_, rfl, rfl, _, rfl, iteN (by decide +kernel) ?_⟩
        refine ⟨_, rfl, rfl, _, rfl, iteP (by decide +kernel) ?_⟩
        refine ⟨.ref a, rfl, .ref b, rfl, a, t, .ref b, _, own, [.int most], ties, lot, rfl, ha, hT, rs.nodup, ⟨b, qs, rfl, .inl hb, pq, lq⟩, sub, fun H3 s3 => ?_⟩
        refine ⟨.ref a, rfl, a, _, 3, _, rfl, rfl, .inl (.inl (s3 _ _ ha)), rfl, _, _, rfl, q _ H3 s3 ?_⟩
        show (if most < own + (lot.map fun q => wgt ties q.1).sum then most else own + (lot.map fun q => wgt ties q.1).sum) = min (own + (lot.map fun q => wgt ties q.1).sum) most
        split <;> omega
      | kinds own seen =>
        obtain ⟨a, t, rfl, ha, hT⟩ := hv
        refine ⟨.ref a, rfl, a, _, 0, _, rfl, rfl, .inl (.inl ha), rfl, ?_⟩
        refine ⟨_, rfl, rfl, _, rfl, iteN (by decide +kernel) ?_⟩
        refine ⟨_, rfl, rfl, _, rfl, iteN (by decide +kernel) ?_⟩
        refine ⟨_, rfl, rfl, _, rfl, iteN (by decide +kernel) ?_⟩
        refine ⟨.ref b, rfl, b, rfl, ⟨_, .inl (.inl hb)⟩, fun D hD => ?_⟩
        refine lc_pairs (·.2) (walk_listR qs) pq hD lq (fun H3 s3 => .inl (.inl (s3 _ _ hb))) (fun _ _ => rfl) (fun q _ H3 _ Q h => ⟨_, rfl, h⟩) (fun H3 s3 h3 => ?_)
        have hl3 : (lot.map (·.2)).length ≤ 1000 := by rw [List.length_map, ← pq.length]; exact lq
        refine ⟨_, rfl, rfl, _, rfl, iteP (by decide +kernel) ?_⟩
        refine ⟨.ref a, rfl, a, _, 1, _, rfl, rfl, .inl (.inl (s3 _ _ ha)), rfl, ?_⟩
        refine ⟨.ref D, rfl, D, _, rfl, .inl (.inl h3), hl3, fun p c ks np nd kl cl mem => ⟨p, _, c, rfl, upd_same, by omega, own, c, rfl, rfl, ?_⟩⟩
        exact q _ _ (s3.trans (same_upd np)) ⟨ks, nd, mem, by rw [kl]⟩
      | next seen =>
        obtain ⟨a, t, rfl, ha, hT⟩ := hv
        refine ⟨.ref a, rfl, a, _, 0, _, rfl, rfl, .inl (.inl ha), rfl, ?_⟩
        refine ⟨_, rfl, rfl, _, rfl, iteN (by decide +kernel) ?_⟩
        refine ⟨_, rfl, rfl, _, rfl, iteN (by decide +kernel) ?_⟩
        refine ⟨_, rfl, rfl, _, rfl, iteN (by decide +kernel) ?_⟩
        refine ⟨.ref b, rfl, b, rfl, ⟨_, .inl (.inl hb)⟩, fun D hD => ?_⟩
        refine lc_pairs (·.2) (walk_listR qs) pq hD lq (fun H3 s3 => .inl (.inl (s3 _ _ hb))) (fun _ _ => rfl) (fun q _ H3 _ Q h => ⟨_, rfl, h⟩) (fun H3 s3 h3 => ?_)
        have hl3 : (lot.map (·.2)).length ≤ 1000 := by rw [List.length_map, ← pq.length]; exact lq
        refine ⟨_, rfl, rfl, _, rfl, iteN (by decide +kernel) ?_⟩
        refine ⟨_, rfl, rfl, _, rfl, iteP (by decide +kernel) ?_⟩
        refine ⟨.ref D, rfl, 1, rfl, D, _, -1, rfl, rfl, .inl (.inl h3), fun m h0 h1 => ⟨m, 1, rfl, rfl, q _ _ s3 ?_⟩⟩
        by_cases e : lot.map (·.2) = []
        · exact .inl ⟨List.map_eq_nil_iff.mp e, by rw [h0 e]; rfl⟩
        · obtain ⟨h2, h4⟩ := h1 e
          refine .inr ⟨?_, fun y hy => ?_⟩
          · rw [show m + 1 - 1 = m by omega]; exact h2
          · have := h4 y hy; omega
      | free seen =>
        obtain ⟨a, t, rfl, ha, hT⟩ := hv
        refine ⟨.ref a, rfl, a, _, 0, _, rfl, rfl, .inl (.inl ha), rfl, ?_⟩
        refine ⟨_, rfl, rfl, _, rfl, iteN (by decide +kernel) ?_⟩
        refine ⟨_, rfl, rfl, _, rfl, iteN (by decide +kernel) ?_⟩
        refine ⟨_, rfl, rfl, _, rfl, iteN (by decide +kernel) ?_⟩
        refine ⟨.ref b, rfl, b, rfl, ⟨_, .inl (.inl hb)⟩, fun D hD => ?_⟩
        refine lc_pairs (·.2) (walk_listR qs) pq hD lq (fun H3 s3 => .inl (.inl (s3 _ _ hb))) (fun _ _ => rfl) (fun q _ H3 _ Q h => ⟨_, rfl, h⟩) (fun H3 s3 h3 => ?_)
        have hl3 : (lot.map (·.2)).length ≤ 1000 := by rw [List.length_map, ← pq.length]; exact lq
        refine ⟨_, rfl, rfl, _, rfl, iteN (by decide +kernel) ?_⟩
        refine ⟨_, rfl, rfl, _, rfl, iteN (by decide +kernel) ?_⟩
        exact ⟨.ref D, rfl, D, _, rfl, .inl (.inl h3), fun x hx => q x _ s3 hx⟩
    · refine ⟨_, (pss_cons (ps_set (i := 2) sc_told_of.nd rfl (.inl rfl) (pe_ix ix_tup (pv 0) pe_int (fun _ _ => rfl)))
      (pss_cons (ps_if (pt_cmpR op_eq (pv 2) pe_str (nomark _))
        (pss_one (ps_ret (pe_ix ix_tup (pv 0) pe_int (fun _ _ => rfl))))
        pss_nil)
      (pss_cons (ps_if (pt_cmpR op_eq (pv 2) pe_str (nomark _))
        (pss_one (ps_ret (pe_call G_weighed (hr.mono (by decide)) (by rfl) T.g_weighed T.F_weighed.kp T.b_weighed .nil pass0 (pa_cons (pv 0) (pa_cons (pv 1) pa_nil)))))
        pss_nil)
      (pss_cons (ps_if (pt_cmpR op_eq (pv 2) pe_str (nomark _))
        (pss_one (ps_ret (pe_callB (call_min2 rfl) (by rfl) T.m_min (by decide +kernel) (pa_cons (pe_call G_weighed (hr.mono (by decide)) (by rfl) T.g_weighed T.F_weighed.kp T.b_weighed .nil pass0 (pa_cons (pv 0) (pa_cons (pv 1) pa_nil))) (pa_cons (pe_ix ix_tup (pv 0) pe_int (fun _ _ => rfl)) pa_nil)))))
        pss_nil)
      (pss_cons (ps_setLc (i := 3) (own := [("person", 4), ("number", 5)]) (g := gTup K 2 (gCons (gName 4) (gCons (gName 5) gNil))) (by rfl) sc_told_of.nd rfl rfl (sw_true rfl rfl rfl (by decide +kernel)) (pi_tup (pv 1)) (blkOk_by (own := [("person", 4), ("number", 5)]) (N := n_told_of) (sc := defScope s_told_of) (by decide +kernel)) (fun _ _ _ _ _ => (pg_tup rfl (pgs_cons (pg_name (i := 4) sc_told_of.nd rfl (.inl rfl) (.inr rfl)) (pgs_cons (pg_name (i := 5) sc_told_of.nd rfl (.inl rfl) (.inr rfl)) pgs_nil)))) (fun _ _ _ _ _ => pts_nil) (fun _ _ _ _ _ => (pv 5)))
      (pss_cons (ps_if (pt_cmpR op_eq (pv 2) pe_str (nomark _))
        (pss_one (ps_ret (pe_op op_add (pe_ix ix_tup (pv 0) pe_int (fun _ _ => rfl)) (pe_callB cr_lenSet (by rfl) T.m_len (by decide +kernel) (pa_cons (pe_callTy (cr_setL rfl) (by rfl) T.m_set (by decide +kernel) (pa_cons (pv 3) pa_nil)) pa_nil)))))
        pss_nil)
      (pss_cons (ps_if (pt_cmpR op_eq (pv 2) pe_str (nomark _))
        (pss_one (ps_ret (pe_op op_add (pe_callBK (cr_maxD rfl hr.units) (by rfl) T.m_max (by decide +kernel) (pa_cons (pv 3) pa_nil) (pk_cons (pe_un un_neg pe_int) pk_nil)) pe_int)))
        pss_nil)
      (pss_one (ps_ret (pe_call G_least_free (hr.mono (by decide)) (by rfl) T.g_least_free T.F_least_free.kp T.b_least_free .nil pass0 (pa_cons (pv 3) pa_nil))))))))))), ?_⟩
      cases r with
      | held n =>
        obtain ⟨a, rfl, ha⟩ := hv
        refine ⟨.ref a, rfl, a, _, 0, _, rfl, rfl, .inl (.inl ha), rfl, ?_⟩
        refine ⟨_, rfl, rfl, _, rfl, iteP (by decide +kernel) ?_⟩
        exact ⟨.ref a, rfl, a, _, 1, _, rfl, rfl, .inl (.inl ha), rfl, q n H (Same.refl H) rfl⟩
      | sum own ties =>
        obtain ⟨a, t, rfl, ha, hT⟩ := hv
        obtain ⟨_, rs, _⟩ := wf
        refine ⟨.ref a, rfl, a, _, 0, _, rfl, rfl, .inl (.inl ha), rfl, ?_⟩
        refine ⟨_, rfl, rfl, _, rfl, iteN (by decide +kernel) ?_⟩
        refine ⟨_, rfl, rfl, _, rfl, iteP (by decide +kernel) ?_⟩
        refine ⟨.ref a, rfl, .ref b, rfl, a, t, .ref b, _, own, [], ties, lot, rfl, ha, hT, rs.nodup, ⟨b, qs, rfl, .inr hb, pq, lq⟩, sub, fun H3 s3 => ?_⟩
        exact q _ H3 s3 rfl
      | cap own ties most =>
        obtain ⟨a, t, rfl, ha, hT⟩ := hv
        obtain ⟨_, rs, _⟩ := wf
        refine ⟨.ref a, rfl, a, _, 0, _, rfl, rfl, .inl (.inl ha), rfl, ?_⟩
        refine ⟨_, rfl, rfl, _, rfl, iteN (by decide +kernel) ?_⟩
        refine ⟨_, rfl, rfl, _, rfl, iteN (by decide +kernel) ?_⟩
        refine ⟨_, rfl, rfl, _, rfl, iteP (by decide +kernel) ?_⟩
        refine ⟨.ref a, rfl, .ref b, rfl, a, t, .ref b, _, own, [.int most], ties, lot, rfl, ha, hT, rs.nodup, ⟨b, qs, rfl, .inr hb, pq, lq⟩, sub, fun H3 s3 => ?_⟩
        refine ⟨.ref a, rfl, a, _, 3, _, rfl, rfl, .inl (.inl (s3 _ _ ha)), rfl, _, _, rfl, q _ H3 s3 ?_⟩
        show (if most < own + (lot.map fun q => wgt ties q.1).sum then most else own + (lot.map fun q => wgt ties q.1).sum) = min (own + (lot.map fun q => wgt ties q.1).sum) most
        split <;> omega
      | kinds own seen =>
        obtain ⟨a, t, rfl, ha, hT⟩ := hv
        refine ⟨.ref a, rfl, a, _, 0, _, rfl, rfl, .inl (.inl ha), rfl, ?_⟩
        refine ⟨_, rfl, rfl, _, rfl, iteN (by decide +kernel) ?_⟩
        refine ⟨_, rfl, rfl, _, rfl, iteN (by decide +kernel) ?_⟩
        refine ⟨_, rfl, rfl, _, rfl, iteN (by decide +kernel) ?_⟩
        refine ⟨.ref b, rfl, b, rfl, ⟨_, hb.sq⟩, fun D hD => ?_⟩
        refine lc_pairs (·.2) (walk_tupR qs) pq hD lq (fun H3 s3 => (hb.keep (Keep.same s3)).sq) (fun _ _ => rfl) (fun q _ H3 _ Q h => ⟨_, rfl, h⟩) (fun H3 s3 h3 => ?_)
        have hl3 : (lot.map (·.2)).length ≤ 1000 := by rw [List.length_map, ← pq.length]; exact lq
        refine ⟨_, rfl, rfl, _, rfl, iteP (by decide +kernel) ?_⟩
        refine ⟨.ref a, rfl, a, _, 1, _, rfl, rfl, .inl (.inl (s3 _ _ ha)), rfl, ?_⟩
        refine ⟨.ref D, rfl, D, _, rfl, .inl (.inl h3), hl3, fun p c ks np nd kl cl mem => ⟨p, _, c, rfl, upd_same, by omega, own, c, rfl, rfl, ?_⟩⟩
        exact q _ _ (s3.trans (same_upd np)) ⟨ks, nd, mem, by rw [kl]⟩
      | next seen =>
        obtain ⟨a, t, rfl, ha, hT⟩ := hv
        refine ⟨.ref a, rfl, a, _, 0, _, rfl, rfl, .inl (.inl ha), rfl, ?_⟩
        refine ⟨_, rfl, rfl, _, rfl, iteN (by decide +kernel) ?_⟩
        refine ⟨_, rfl, rfl, _, rfl, iteN (by decide +kernel) ?_⟩
        refine ⟨_, rfl, rfl, _, rfl, iteN (by decide +kernel) ?_⟩
        refine ⟨.ref b, rfl, b, rfl, ⟨_, hb.sq⟩, fun D hD => ?_⟩
        refine lc_pairs (·.2) (walk_tupR qs) pq hD lq (fun H3 s3 => (hb.keep (Keep.same s3)).sq) (fun _ _ => rfl) (fun q _ H3 _ Q h => ⟨_, rfl, h⟩) (fun H3 s3 h3 => ?_)
        have hl3 : (lot.map (·.2)).length ≤ 1000 := by rw [List.length_map, ← pq.length]; exact lq
        refine ⟨_, rfl, rfl, _, rfl, iteN (by decide +kernel) ?_⟩
        refine ⟨_, rfl, rfl, _, rfl, iteP (by decide +kernel) ?_⟩
        refine ⟨.ref D, rfl, 1, rfl, D, _, -1, rfl, rfl, .inl (.inl h3), fun m h0 h1 => ⟨m, 1, rfl, rfl, q _ _ s3 ?_⟩⟩
        by_cases e : lot.map (·.2) = []
        · exact .inl ⟨List.map_eq_nil_iff.mp e, by rw [h0 e]; rfl⟩
        · obtain ⟨h2, h4⟩ := h1 e
          refine .inr ⟨?_, fun y hy => ?_⟩
          · rw [show m + 1 - 1 = m by omega]; exact h2
          · have := h4 y hy; omega
      | free seen =>
        obtain ⟨a, t, rfl, ha, hT⟩ := hv
        refine ⟨.ref a, rfl, a, _, 0, _, rfl, rfl, .inl (.inl ha), rfl, ?_⟩
        refine ⟨_, rfl, rfl, _, rfl, iteN (by decide +kernel) ?_⟩
        refine ⟨_, rfl, rfl, _, rfl, iteN (by decide +kernel) ?_⟩
        refine ⟨_, rfl, rfl, _, rfl, iteN (by decide +kernel) ?_⟩
        refine ⟨.ref b, rfl, b, rfl, ⟨_, hb.sq⟩, fun D hD => ?_⟩
        refine lc_pairs (·.2) (walk_tupR qs) pq hD lq (fun H3 s3 => (hb.keep (Keep.same s3)).sq) (fun _ _ => rfl) (fun q _ H3 _ Q h => ⟨_, rfl, h⟩) (fun H3 s3 h3 => ?_)
        have hl3 : (lot.map (·.2)).length ≤ 1000 := by rw [List.length_map, ← pq.length]; exact lq
        refine ⟨_, rfl, rfl, _, rfl, iteN (by decide +kernel) ?_⟩
        refine ⟨_, rfl, rfl, _, rfl, iteN (by decide +kernel) ?_⟩
        exact ⟨.ref D, rfl, D, _, rfl, .inl (.inl h3), fun x hx => q x _ s3 hx⟩
end
end Lh

namespace Lh
open PySem PySem.Spec PyProof.Rows L2
section
variable {P : Program} {w : World} {K : PySem.W.Frag} {mg : Str → Option Value} {base : Heap}
def spLotBelow (C : Addr) : Sp := fun vs H Q _ => ∃ (x st : Addr) (p : Nat) (h : Int) (rs : List Rule) (ns : List Int) (hp : p < rs.length), vs = [.ref x, .ref st, .int p, .int h] ∧ HallAt C H x rs ∧ Halls rs ∧ TupAt H st (ns.map V.int) ∧ ns.length = rs.length ∧
  ∀ (l : Addr) (ps : List Addr) (H' : Hp), Same H H' → H l = none → H' l = some (.lst (ps.map V.ref)) → Paired (PairAtH H') ps (lotH rs[p] ns h) → Q (.ref l) H'
set_option maxHeartbeats 1000000 in
theorem ok_lot_below (T : Txt K mg w) : FnOk P w K mg base CX0 4 T.f_lot_below T.fd_lot_below p_lot_below (spLotBelow T.C_Hall) := by
  have G_Hall_sees := ok_Hall_sees (P := P) (w := w) (base := base) T
  refine T.F_lot_below.ok sc_lot_below (fun vs H Q E h0 => ?_) (fun cdv A outer s H vs Q E hr h0 => ?_)
  · obtain ⟨x, st, p, h, rs, ns, hp, rfl, _⟩ := h0
    rfl
  · obtain ⟨x, st, p, h, rs, ns, hp, rfl, hA, hh, hS, hn, q⟩ := h0
    obtain ⟨dx, t, vs, hx, ht, hv⟩ := id hA
    have few := hh.few hp
    have inr := per_in hh hp
    refine ⟨_, (pss_one (ps_ret (pe_lc (own := [("other", 4)]) (g := gName 4) (by rfl) sc_lot_below.nd (pi_list (pe_meth (pv 0) T.cl_Hall T.me_Hall_sees G_Hall_sees (hr.mono (by decide)) T.b_Hall_sees .nil pass0 (pa_cons (pv 2) pa_nil))) (blkOk_by (own := [("other", 4)]) (N := n_lot_below) (sc := defScope s_lot_below) (by decide +kernel)) (fun _ _ _ _ _ => (pg_name (i := 4) sc_lot_below.nd rfl (.inl rfl) (.inr rfl))) (fun _ _ _ _ _ => (pts_one (pt_cmpR op_lt (pe_ix (r := rIxT K) ix_tup (pv 1) (pv 4) (fun _ _ => rfl)) (pv 3) (nomark _)))) (fun _ _ _ _ _ => (pe_tup (pa_cons (pv 4) (pa_cons (pe_ix (r := rIxT K) ix_tup (pv 1) (pv 4) (fun _ _ => rfl)) pa_nil))))))), ?_⟩
    refine ⟨.ref x, rfl, x, dx, _, rfl, hx, kept_no _ (by decide +kernel), .int p, rfl, x, p, rs, hp, rfl, hA, hh, fun l H1 s1 nl hl => ?_⟩
    have hS1 := hS.keep (Keep.same s1)
    refine ⟨l, rfl, ⟨_, .inl (.inl hl)⟩, fun D hD => ?_⟩
    refine lc_it (walk_list (xs := rs[p].persons.map V.int)) (fun n H3 => ∃ ps : List Addr, Same H1 H3 ∧ H3 D = some (.lst (ps.map V.ref)) ∧ Paired (PairAtH H3) ps (((rs[p].persons.take n).filter fun o => decide (nth ns o < h)).map fun o => (o, nth ns o))) ⟨[], same_upd hD, upd_same, .nil⟩ ?_ ?_ ?_
    · rintro n H3 _ ⟨ps, s3, _⟩
      exact .inl (.inl (s3 _ _ hl))
    · rintro n y H3 H4 hi ⟨ps, s3, h3, pr⟩ ⟨rfl, hy⟩
      rw [List.length_map] at hi
      rw [List.getElem?_map, List.getElem?_eq_getElem hi] at hy
      cases hy
      have io := inr _ (List.getElem_mem hi)
      have hS3 := hS1.keep (Keep.same s3)
      have tk : rs[p].persons.take (n + 1) = rs[p].persons.take n ++ [rs[p].persons[n]] := by rw [List.take_add_one, List.getElem?_eq_getElem hi]; rfl
      have pl : ps.length ≤ n := by
        rw [pr.length, List.length_map]
        refine Nat.le_trans (List.length_filter_le _ _) ?_
        rw [List.length_take]; omega
      refine ⟨rfl, ?_⟩
      refine ⟨.ref st, rfl, .int rs[p].persons[n], rfl, st, _, _, _, rfl, rfl, hS3.sq, nth_at io.1 (by omega), .int h, rfl, _, _, rfl, rfl, _, rfl, ite2 (fun z => ?_) (fun z => ?_)⟩
      · refine ⟨.int rs[p].persons[n], rfl, .ref st, rfl, .int rs[p].persons[n], rfl, st, _, _, _, rfl, rfl, hS3.sq, nth_at io.1 (by omega), by show 2 ≤ sizeLine; decide, fun u nu => ?_⟩
        have sU := same_upd (o := .tup [.int rs[p].persons[n], .int (nth ns rs[p].persons[n])]) nu
        have h5 := sU _ _ h3
        refine ⟨_, h5, by rw [List.length_map]; exact small1000 (by omega), ps ++ [u], same_mut (s3.trans sU) hD, ?_, ?_⟩
        · rw [upd_same, List.map_append]; rfl
        · rw [tk, List.filter_append, List.map_append, List.filter_cons, if_pos z]
          have kT : Keep (upd H4 u (.tup [.int rs[p].persons[n], .int (nth ns rs[p].persons[n])])) (upd (upd H4 u (.tup [.int rs[p].persons[n], .int (nth ns rs[p].persons[n])])) D (.lst (ps.map V.ref ++ [.ref u]))) := by
            refine ⟨fun a xs h => ?_, fun a o u h => ?_⟩
            · rw [upd_ne (ne_of h h5 (by intro z; cases z))]; exact h
            · rw [upd_ne (ne_of h h5 (by intro z; cases z))]; exact h
          exact Paired.snoc (R := PairAtH _) (show PairAtH _ _ _ from kT.tup _ _ upd_same) (pairs_keep ((Keep.same sU).trans kT) pr)
      · refine ⟨ps, s3, h3, ?_⟩
        rw [tk, List.filter_append, List.filter_cons, if_neg z, List.filter_nil, List.append_nil]
        exact pr
    · rintro H3 ⟨ps, s3, h3, pr⟩
      rw [List.length_map, List.take_length] at pr
      exact q D ps H3 (s1.trans s3) (s1.free hD) h3 pr
def spToldBelow (C : Addr) : Sp := fun vs H Q _ => ∃ (x st : Addr) (p : Nat) (h : Int) (rs : List Rule) (ns : List Int) (hp : p < rs.length), vs = [.ref x, .ref st, .int p, .int h] ∧ HallAt C H x rs ∧ Halls rs ∧ TupAt H st (ns.map V.int) ∧ ns.length = rs.length ∧
  ∀ (y : Int) (H' : Hp), Same H H' → Tell rs[p] (lotH rs[p] ns h) y → Q (.int y) H'
theorem ok_told_below (T : Txt K mg w) : FnOk P w K mg base CX0 5 T.f_told_below T.fd_told_below p_told_below (spToldBelow T.C_Hall) := by
  have G_Hall_rule := ok_Hall_rule (P := P) (w := w) (base := base) T
  have G_lot_below := ok_lot_below (P := P) (w := w) (base := base) T
  have G_told_of := ok_told_of (P := P) (w := w) (base := base) T
  refine T.F_told_below.ok sc_told_below (fun vs H Q E h0 => ?_) (fun cdv A outer s H vs Q E hr h0 => ?_)
  · obtain ⟨x, st, p, h, rs, ns, hp, rfl, _⟩ := h0
    rfl
  · obtain ⟨x, st, p, h, rs, ns, hp, rfl, hA, hh, hS, hn, q⟩ := h0
    obtain ⟨dx, t, vs, hx, ht, hv⟩ := id hA
    have few := hh.few hp
    refine ⟨_, (pss_one (ps_ret (pe_call G_told_of (hr.mono (by decide)) (by rfl) T.g_told_of T.F_told_of.kp T.b_told_of .nil pass0 (pa_cons (pe_meth (pv 0) T.cl_Hall T.me_Hall_rule G_Hall_rule (hr.mono (by decide)) T.b_Hall_rule .nil pass0 (pa_cons (pv 2) pa_nil)) (pa_cons (pe_call G_lot_below (hr.mono (by decide)) (by rfl) T.g_lot_below T.F_lot_below.kp T.b_lot_below .nil pass0 (pa_cons (pv 0) (pa_cons (pv 1) (pa_cons (pv 2) (pa_cons (pv 3) pa_nil))))) pa_nil))))), ?_⟩
    refine ⟨.ref x, rfl, x, dx, _, rfl, hx, kept_no _ (by decide +kernel), .int p, rfl, x, p, rs, hp, rfl, hA, fun v rv => ?_⟩
    refine ⟨.ref x, rfl, .ref st, rfl, .int p, rfl, .int h, rfl, x, st, p, h, rs, ns, hp, rfl, hA, hh, hS, hn, fun l ps H1 s1 nl hl pr => ?_⟩
    refine ⟨v, .ref l, rs[p], rs.length, _, rfl, rv.keep (Keep.same s1), hh.2.2 _ (List.getElem_mem hp), ⟨l, ps, rfl, .inl hl, pr, ?_⟩, lotH_in, fun y H2 s2 tl => q y H2 (s1.trans s2) tl⟩
    rw [pr.length]
    unfold lotH
    rw [List.length_map]
    exact Nat.le_trans (List.length_filter_le _ _) (by omega)
def spToldAt (C : Addr) : Sp := fun vs H Q _ => ∃ (x st : Addr) (p : Nat) (rs : List Rule) (ns : List Int) (h : p < rs.length), vs = [.ref x, .ref st, .int p] ∧ HallAt C H x rs ∧ Halls rs ∧ TupAt H st (ns.map V.int) ∧ ns.length = rs.length ∧
  ∀ (y : Int) (H' : Hp), Same H H' → Tell rs[p] (lotI rs[p] ns p) y → Q (.int y) H'
theorem ok_told_at (T : Txt K mg w) : FnOk P w K mg base CX0 6 T.f_told_at T.fd_told_at p_told_at (spToldAt T.C_Hall) := by
  have G_told_below := ok_told_below (P := P) (w := w) (base := base) T
  refine T.F_told_at.ok sc_told_at (fun vs H Q E h => ?_) (fun cdv A outer s H vs Q E hr h => ?_)
  · obtain ⟨x, st, p, rs, ns, hp, rfl, _⟩ := h
    rfl
  · obtain ⟨x, st, p, rs, ns, hp, rfl, hA, hh, hS, hn, q⟩ := h
    refine ⟨_, (pss_one (ps_ret (pe_call G_told_below (hr.mono (by decide)) (by rfl) T.g_told_below T.F_told_below.kp T.b_told_below .nil pass0 (pa_cons (pv 0) (pa_cons (pv 1) (pa_cons (pv 2) (pa_cons (pe_ix ix_tup (pv 1) (pv 2) (fun _ _ => rfl)) pa_nil))))))), ?_⟩
    exact ⟨.ref x, rfl, .ref st, rfl, .int p, rfl, .ref st, rfl, .int p, rfl, st, _, _, _, rfl, rfl, hS.sq, nth_at (by omega) (by omega), x, st, p, nth ns p, rs, ns, hp, rfl, hA, hh, hS, hn, fun y H1 s1 tl => q y H1 s1 tl⟩
end
end Lh

namespace Lh
open PySem PySem.Spec PyProof.Rows L2
theorem rg_ints (n : Int) : rgV 0 n = ((List.range n.toNat).map fun k : Nat => (k : Int)).map V.int := by
  unfold rgV
  rw [List.map_map, Int.sub_zero]
  exact List.map_congr_left fun k _ => by show V.int (0 + (k : Int)) = V.int k; rw [Int.zero_add]
theorem rg_rising (n : Int) (h : 0 ≤ n) : Rising n ((List.range n.toNat).map fun k : Nat => (k : Int)) := by
  refine ⟨List.Pairwise.map _ (fun a b z => by omega) List.pairwise_lt_range, fun x hx => ?_⟩
  obtain ⟨k, hk, rfl⟩ := List.mem_map.mp hx
  have := List.mem_range.mp hk
  omega
theorem at_end {us : List V} {t : V} (h : us[us.length - 1]? = some t) : atI us (-1) = some t := by
  rw [← List.getLast?_eq_getElem?] at h
  obtain ⟨ys, rfl⟩ := List.getLast?_eq_some_iff.mp h
  exact atI_last ys t
theorem ixN_at {n j : Nat} (h : j < n) : ixN n (j : Int) = some j := by
  unfold ixN
  rw [if_pos (by omega), if_pos (by omega), Int.toNat_natCast]
theorem nth_set {ms : List Int} {j : Nat} {y : Int} (hj : j < ms.length) (i : Nat) : nth (ms.set j y) i = if i = j then y else nth ms i := by
  unfold nth
  rw [Int.toNat_natCast, List.getD_eq_getElem?_getD, List.getD_eq_getElem?_getD, List.getElem?_set]
  by_cases c : j = i
  · subst c
    rw [if_pos rfl, if_pos rfl, if_pos hj]
    rfl
  · rw [if_neg c, if_neg fun z => c z.symm]
theorem Turned.step {rs : List Rule} {ns ms : List Int} {S S' : Int → Prop} {p : Nat} {y : Int} (hn : ns.length = rs.length) (hp : p < rs.length) (t : Turned rs ns S ms) (ty : Tell rs[p] (lotI rs[p] ns p) y) (hS : ∀ i : Nat, S' i ↔ S i ∨ i = p) : Turned rs ns S' (ms.set p y) := by
  refine ⟨by rw [List.length_set]; exact t.1, fun i hi => ?_⟩
  have hpm : p < ms.length := by rw [t.1]; omega
  rw [nth_set hpm]
  by_cases c : i = p
  · subst c
    rw [if_pos rfl]
    exact ⟨fun _ => ty, fun z => absurd ((hS i).mpr (.inr rfl)) z⟩
  · rw [if_neg c]
    refine ⟨fun z => (t.2 i hi).1 ?_, fun z => (t.2 i hi).2 fun z' => z ((hS i).mpr (.inl z'))⟩
    rcases (hS i).mp z with h | h
    · exact h
    · exact absurd h c
theorem Turned.none {rs : List Rule} {ns : List Int} {S : Int → Prop} (hS : ∀ i, ¬ S i) : Turned rs ns S ns := ⟨rfl, fun i _ => ⟨fun z => absurd z (hS _), fun _ => rfl⟩⟩
/-- the standings behind 0, 1, .. beats -/
def Way (rs : List Rule) (ns : List Int) (nss : List (List Int)) : Prop := nss[0]? = some ns ∧ (∀ ms ∈ nss, ms.length = rs.length) ∧ ∀ (i : Nat) (a b : List Int), nss[i]? = some a → nss[i + 1]? = some b → Beat rs a b
theorem Beat.unique {rs : List Rule} {ns ms ks : List Int} (hn : ns.length = rs.length) (a : Beat rs ns ms) (b : Beat rs ns ks) : ms = ks := Turned.unique hn (fun _ _ => Iff.rfl) a b
theorem Way.unique {rs : List Rule} {ns : List Int} {nss mss : List (List Int)} (a : Way rs ns nss) (b : Way rs ns mss) (hl : nss.length = mss.length) : nss = mss := by
  refine List.ext_getElem? fun i => ?_
  induction i with
  | zero => rw [a.1, b.1]
  | succ i ih =>
    by_cases c : i + 1 < nss.length
    · have c' : i + 1 < mss.length := by omega
      have h1 := List.getElem?_eq_getElem (l := nss) (show i < nss.length by omega)
      have h2 := List.getElem?_eq_getElem c
      have h4 := List.getElem?_eq_getElem c'
      rw [h2, h4]
      have h3 := ih.symm.trans h1
      have x := a.2.2 i _ _ h1 h2
      have y := b.2.2 i _ _ h3 h4
      rw [Beat.unique (a.2.1 _ (List.getElem_mem _)) x y]
    · rw [List.getElem?_eq_none (by omega), List.getElem?_eq_none (by omega)]
theorem Way.one {rs : List Rule} {ns : List Int} (h : ns.length = rs.length) : Way rs ns [ns] := by
  refine ⟨rfl, fun ms hm => ?_, fun i a b h1 h2 => ?_⟩
  · rw [List.mem_singleton.mp hm]; exact h
  · rw [List.getElem?_eq_none (by show 1 ≤ i + 1; omega)] at h2
    cases h2
theorem Way.snoc {rs : List Rule} {ns a b : List Int} {nss : List (List Int)} (h : Way rs ns nss) (ha : nss.getLast? = some a) (hb : Beat rs a b) : Way rs ns (nss ++ [b]) := by
  have hl : a ∈ nss := List.mem_of_getLast? ha
  have h0 : 0 < nss.length := List.length_pos_of_mem hl
  refine ⟨?_, fun ms hm => ?_, fun i x y h1 h2 => ?_⟩
  · rw [List.getElem?_append_left h0]; exact h.1
  · rcases List.mem_append.mp hm with z | z
    · exact h.2.1 _ z
    · rw [List.mem_singleton.mp z, hb.1]; exact h.2.1 _ hl
  · by_cases c : i + 1 < nss.length
    · rw [List.getElem?_append_left (by omega)] at h1
      rw [List.getElem?_append_left c] at h2
      exact h.2.2 i x y h1 h2
    · have c2 : i + 1 < (nss ++ [b]).length := by
        by_cases z : i + 1 < (nss ++ [b]).length
        · exact z
        · rw [List.getElem?_eq_none (by omega)] at h2; cases h2
      rw [List.length_append] at c2
      have c3 : i + 1 = nss.length := by have : i + 1 < nss.length + 1 := c2; omega
      rw [c3, List.getElem?_append_right (Nat.le_refl _), Nat.sub_self] at h2
      rw [List.getElem?_append_left (by omega)] at h1
      rw [List.getLast?_eq_getElem?, show nss.length - 1 = i by omega, h1] at ha
      cases ha; cases h2
      exact hb
theorem Way.drop {rs : List Rule} {ns a : List Int} {nss : List (List Int)} {k : Nat} (h : Way rs ns nss) (ha : nss[k]? = some a) : Way rs a (nss.drop k) := by
  refine ⟨by rw [List.getElem?_drop]; exact ha, fun ms hm => h.2.1 _ (List.mem_of_mem_drop hm), fun i x y h1 h2 => ?_⟩
  rw [List.getElem?_drop] at h1 h2
  exact h.2.2 (k + i) x y h1 h2
theorem Way.take {rs : List Rule} {ns : List Int} {nss : List (List Int)} {k : Nat} (h : Way rs ns nss) : Way rs ns (nss.take (k + 1)) := by
  refine ⟨by rw [List.getElem?_take_of_lt (by omega)]; exact h.1, fun ms hm => h.2.1 _ (List.mem_of_mem_take hm), fun i x y h1 h2 => ?_⟩
  by_cases c : i + 1 < k + 1
  · rw [List.getElem?_take_of_lt (by omega)] at h1
    rw [List.getElem?_take_of_lt c] at h2
    exact h.2.2 i x y h1 h2
  · rw [List.getElem?_eq_none (by rw [List.length_take]; omega)] at h2
    cases h2
/-- tuples of numbers, in a list -/
def StandAt (H : Hp) (v : V) (ms : List Int) : Prop := ∃ t, v = .ref t ∧ TupAt H t (ms.map V.int)
def StandsAt (H : Hp) : List V → List (List Int) → Prop := Paired (StandAt H)
theorem StandsAt.keep {H H' : Hp} (k : Keep H H') : ∀ {vs : List V} {nss : List (List Int)}, StandsAt H vs nss → StandsAt H' vs nss
  | _, _, .nil => .nil
  | _, _, .cons ⟨t, e, h⟩ r => .cons ⟨t, e, h.keep k⟩ (StandsAt.keep k r)
theorem StandsAt.get {H : Hp} : ∀ {vs : List V} {nss : List (List Int)}, StandsAt H vs nss → ∀ (i : Nat) (a : List Int), nss[i]? = some a → ∃ t, vs[i]? = some (.ref t) ∧ TupAt H t (a.map V.int)
  | _, _, .nil, i, a, h => by cases h
  | _, _, .cons ⟨t, e, h⟩ r, 0, a, z => by cases z; exact ⟨t, by rw [e]; rfl, h⟩
  | _, _, .cons _ r, i + 1, a, z => StandsAt.get r i a z
end Lh

namespace Lh
open PySem PySem.Spec PyProof.Rows L2
theorem lc_onesL {K : PySem.W.Frag} {t : Addr} {seen : List Int} {H1 : Hp} {D : Addr} {σ : L2.St} {vs : List Nat} {Qd : Hp → Prop} {i : Nat} (ht : H1 t = some (.lst (seen.map V.int))) (hD : H1 D = none) (hl : seen.length ≤ 1000)
    (hw : ∀ a, wipe ((wipe σ vs).set i a) vs = wipe σ vs) (hi : ∀ a : V, ((wipe σ vs).set i (some a))[i]? = some (some a))
    (hq : ∀ H' ps, Same H1 H' → H' D = some (.lst (ps.map V.ref)) → Paired (PairAtH H') ps (seen.map fun n => (n, 1)) → Qd H') :
    ∃ W : Nat → Nat → Hp → Prop, (∃ m, W 0 m (upd H1 D (.lst []))) ∧ ∀ i1 m H, W i1 m H →
      ((Itl K t).stop i1 H ∧ Qd H) ∨ ((Itl K t).go i1 H ∧ ∃ Nx : Hp → Prop, (∀ H', Nx H' → ∃ m', m' < m ∧ W (i1 + 1) m' H') ∧ ∀ x H', (Itl K t).yld i1 H x H' → gName i x (wipe σ vs) H' fun σ2 H2 => wipe σ2 vs = wipe σ vs ∧ tYes σ2 H2 fun b H3 =>
        if b = true then tTup (tCons (tVar i) (tCons (tC (.int 1)) tNil)) σ2 H3 fun y H4 => ∃ acc, H4 D = some (.lst acc) ∧ acc.length < sizeLine ∧ Nx (upd H4 D (.lst (acc ++ [y]))) else Nx H3) := by
  refine lc_it (walk_list (xs := seen.map V.int)) (fun n H3 => ∃ ps : List Addr, Same H1 H3 ∧ H3 D = some (.lst (ps.map V.ref)) ∧ Paired (PairAtH H3) ps ((seen.take n).map fun n => (n, 1))) ⟨[], same_upd hD, upd_same, .nil⟩ ?_ ?_ ?_
  · rintro n H3 _ ⟨ps, sm, _⟩
    exact .inl (.inl (sm _ _ ht))
  · rintro n x H3 H4 hn ⟨ps, sm, h3, pr⟩ ⟨rfl, hx⟩
    rw [List.length_map] at hn
    rw [List.getElem?_map, List.getElem?_eq_getElem hn] at hx
    have ex : x = .int seen[n] := (Option.some.inj hx).symm
    subst ex
    have pl : ps.length = n := by rw [pr.length, List.length_map, List.length_take]; omega
    refine ⟨hw _, yes (iteT ⟨.int seen[n], hi _, by show 2 ≤ sizeLine; decide, fun p np => ?_⟩)⟩
    have nDp : D ≠ p := ne_of_none h3 np
    refine ⟨_, by rw [upd_ne nDp]; exact h3, by rw [List.length_map]; exact small1000 (by omega), ps ++ [p], ?_, ?_, ?_⟩
    · exact same_mut (sm.trans (same_upd np)) hD
    · rw [upd_same, List.map_append]; rfl
    · rw [List.take_add_one, List.getElem?_eq_getElem hn, List.map_append]
      have kT : Keep H4 (upd (upd H4 p (.tup [.int seen[n], .int 1])) D (.lst (ps.map V.ref ++ [.ref p]))) := by
        refine ⟨fun a xs h => ?_, fun a o u h => ?_⟩
        · rw [upd_ne (ne_of h h3 (by intro z; cases z)), upd_ne (ne_of_none h np)]; exact h
        · rw [upd_ne (ne_of h h3 (by intro z; cases z)), upd_ne (ne_of_none h np)]; exact h
      exact Paired.snoc (R := PairAtH _) (show PairAtH _ _ _ by show _ = _; rw [upd_ne nDp.symm]; exact upd_same) (pairs_keep kT pr)
  · rintro H3 ⟨ps, sm, h3, pr⟩
    rw [List.length_map, List.take_length] at pr
    exact hq H3 ps sm h3 pr
/-- a list at D put by for another -/
theorem keep_lst {H : Hp} {D : Addr} {xs ys : List V} (h : H D = some (.lst xs)) : Keep H (upd H D (.lst ys)) := by
  refine ⟨fun a xs h' => ?_, fun a o u h' => ?_⟩
  · rw [upd_ne (ne_of h' h (by intro z; cases z))]; exact h'
  · rw [upd_ne (ne_of h' h (by intro z; cases z))]; exact h'
theorem rules_of {H : Hp} {m : Int} : ∀ us : List V, (∀ (i : Nat) (h : i < us.length), ∃ r, RuleAt H us[i] r ∧ r.Wf m) → ∃ rs, RulesAt H us rs ∧ ∀ r ∈ rs, r.Wf m
  | [], _ => ⟨[], .nil, fun r h => absurd h (by simp)⟩
  | u :: us, h => by
    obtain ⟨r, h1, h2⟩ := h 0 (by simp)
    obtain ⟨rs, h3, h4⟩ := rules_of us (fun i hi => h (i + 1) (by simpa using hi))
    refine ⟨r :: rs, .cons h1 h3, fun x hx => ?_⟩
    rcases List.mem_cons.mp hx with rfl | hx
    · exact h2
    · exact h4 x hx
section
variable {P : Program} {w : World} {K : PySem.W.Frag} {mg : Str → Option Value} {base : Heap}
def spStrewn : Sp := fun vs H Q _ => ∃ (bx p : Addr) (c : Int) (ns : List Int), vs = [.ref bx, .ref p] ∧ c + ns.length ≤ 1000000000 ∧ ns.length ≤ 900 ∧ Box bx c H ∧ H p = some (.lst (ns.map V.int)) ∧ p ≠ bx ∧
  ∀ (l : Addr) (ms : List Int) (H' : Hp), Ext bx H H' → Box bx (c + ns.length) H' → H l = none → H' l = some (.lst (ms.map V.int)) → ms.Perm ns → Q (.ref l) H'
set_option maxHeartbeats 1000000 in
theorem ok_strewn (T : Txt K mg w) : FnOk P w K mg base CX0 2 T.f_strewn T.fd_strewn p_strewn spStrewn := by
  have G_take := ok_take (P := P) (w := w) (base := base) T
  refine T.F_strewn.ok sc_strewn (fun vs H Q E h => ?_) (fun cdv A outer s H vs Q E hr h => ?_)
  · obtain ⟨bx, p, c, ns, rfl, _⟩ := h
    rfl
  · obtain ⟨bx, p, c, ns, rfl, c1, hl, hB, hp, np, q⟩ := h
    refine ⟨_, (pss_cons (ps_set (i := 2) sc_strewn.nd rfl (.inl rfl) (pe_lst pa_nil))
      (pss_cons (ps_for PassesOwn.never rfl (pi_list (pv 1)) (pg_name (i := 3) sc_strewn.nd rfl (.inl rfl))
        (pss_one (ps_expr (pe_bm PySem.F.plainAttrs_list PySem.F.slot_list_insert PySem.F.type_list_insert mt_insert (pv 2) (pa_cons (pe_call G_take (hr.mono (by decide)) (by rfl) T.g_take T.F_take.kp T.b_take .nil pass0 (pa_cons (pv 0) (pa_cons (pe_op op_add (pe_callB call_len_seq (by rfl) T.m_len (by decide +kernel) (pa_cons (pv 2) pa_nil)) pe_int) pa_nil))) (pa_cons (pv 3) pa_nil))))))
      (pss_one (ps_ret (pv 2))))), ?_⟩
    refine ⟨by show 0 ≤ sizeLine; decide, fun l nl => ?_⟩
    have nlb := hB.ne nl
    refine ⟨.ref p, rfl, p, rfl, ⟨_, .inl (.inl (same_upd nl _ _ hp))⟩, ?_⟩
    refine for_it (walk_list (xs := ns.map V.int)) (fun i σ H3 => ∃ (y : Option V) (ms : List Int), σ = [some (.ref bx), some (.ref p), some (.ref l), y] ∧ Ext bx H H3 ∧ Box bx (c + i) H3 ∧ H3 l = some (.lst (ms.map V.int)) ∧ ms.Perm (ns.take i)) ⟨none, [], rfl, (Ext.refl _).new nl, by simpa using hB.new nl, upd_same, List.Perm.refl _⟩ ?_ ?_ ?_
    · rintro i σ H3 _ ⟨y, ms, rfl, e3, _⟩
      exact .inl (.inl (e3 _ _ np hp))
    · rintro i v σ H3 H4 hi ⟨y, ms, rfl, e3, b3, h3, pm⟩ ⟨rfl, hv⟩
      rw [List.length_map] at hi
      rw [List.getElem?_map, List.getElem?_eq_getElem hi] at hv
      cases hv
      have pl : ms.length = i := by rw [pm.length_eq, List.length_take]; omega
      have ml : ((ms.map V.int).length : Int) = i := by rw [List.length_map, pl]
      refine ⟨.ref l, rfl, .inl ⟨rfl, _, .inl (.inl h3)⟩, .ref bx, rfl, .ref l, rfl, l, _, rfl, .inl (.inl (.inl h3)), _, _, rfl, rfl, bx, _, _, rfl, by omega, by omega, by omega, b3, fun r H5 r0 r1 e5 b5 => ?_⟩
      refine ⟨.int ns[i], rfl, l, ms.map V.int, r, .int ns[i], rfl, rfl, e5 _ _ nlb h3, by rw [List.length_map]; exact small1000 (by omega), r0, Int.lt_of_lt_of_le r1 (by omega), ?_⟩
      refine ⟨_, ms.take r.toNat ++ [ns[i]] ++ ms.drop r.toNat, rfl, (e3.trans e5).new nl, (b5.at nlb).mono (by omega), ?_, ?_⟩
      · rw [upd_same, List.map_append, List.map_append, List.map_take, List.map_drop]; rfl
      · rw [List.take_add_one, List.getElem?_eq_getElem hi, List.append_assoc]
        refine List.perm_middle.trans ?_
        show (ns[i] :: (ms.take r.toNat ++ ms.drop r.toNat)).Perm _
        rw [List.take_append_drop]
        exact (pm.cons _).trans (List.perm_append_singleton _ _).symm
    · rintro σ H3 ⟨y, ms, rfl, e3, b3, h3, pm⟩
      rw [List.length_map] at b3 pm
      rw [List.take_length] at pm
      exact ⟨.ref l, rfl, q l ms H3 e3 b3 nl h3 pm⟩
def spHall : Sp := fun vs H Q _ => ∃ (bx : Addr) (c : Int), vs = [.ref bx] ∧ c + 100 ≤ 1000000000 ∧ Box bx c H ∧
  ∀ (l : Addr) (us : List V) (rs : List Rule) (H' : Hp), Ext bx H H' → Box bx (c + 100) H' → H l = none → H' l = some (.lst us) → RulesAt H' us rs → Halls rs → Q (.ref l) H'
set_option maxHeartbeats 2000000 in
theorem ok_hall (T : Txt K mg w) : FnOk P w K mg base CX0 4 T.f_hall T.fd_hall p_hall spHall := by
  have G_take := ok_take (P := P) (w := w) (base := base) T
  have G_some := ok_some (P := P) (w := w) (base := base) T
  have G_rule := ok_rule (P := P) (w := w) (base := base) T
  refine T.F_hall.ok sc_hall (fun vs H Q E h => ?_) (fun cdv A outer s H vs Q E hr h => ?_)
  · obtain ⟨bx, c, rfl, _⟩ := h
    rfl
  · obtain ⟨bx, c, rfl, c1, hB, q⟩ := h
    refine ⟨_, (pss_cons (ps_set (i := 1) sc_hall.nd rfl (.inr rfl) (pe_op op_add pe_int (pe_call G_take (hr.mono (by decide)) (by rfl) T.g_take T.F_take.kp T.b_take .nil pass0 (pa_cons (pv 0) (pa_cons pe_int pa_nil)))))
      (pss_cons (ps_if (pt_cmpR op_eq (pv 1) pe_int (nomark _))
        (pss_cons (ps_set (i := 2) sc_hall.nd rfl (.inl rfl) (pe_lst pa_nil))
        (pss_cons (ps_for PassesOwn.never rfl (pi_range1 (by rfl) T.m_range (pa_cons pe_int pa_nil)) (pg_name (i := 3) sc_hall.nd rfl (.inl rfl))
          (pss_cons (ps_set (i := 4) sc_hall.nd rfl (.inl rfl) (pe_call G_some (hr.mono (by decide)) (by rfl) T.g_some T.F_some.kp T.b_some .nil pass0 (pa_cons (pv 0) (pa_cons (pe_listRg (by rfl) (by rfl) T.m_list (prg_1 (by rfl) T.m_range pe_int)) (pa_cons pe_int pa_nil)))))
          (pss_one (ps_expr (pe_bm PySem.F.plainAttrs_list PySem.F.slot_list_append PySem.F.type_list_append mt_append (pv 2) (pa_cons (pe_tup (pa_cons pe_str (pa_cons (pe_call G_take (hr.mono (by decide)) (by rfl) T.g_take T.F_take.kp T.b_take .nil pass0 (pa_cons (pv 0) (pa_cons pe_int pa_nil))) (pa_cons (pe_callTy call_tupleF (by rfl) T.m_tuple (by decide +kernel) (pa_cons (pe_lc (own := [("_law_other", 5)]) (g := gName 5) (by rfl) sc_hall.nd (pi_list (pv 4)) (blkOk_by (own := [("_law_other", 5)]) (N := n_hall) (sc := defScope s_hall) (by decide +kernel)) (fun _ _ _ _ _ => (pg_name (i := 5) sc_hall.nd rfl (.inl rfl) (.inr rfl))) (fun _ _ _ _ _ => pts_nil) (fun _ _ _ _ _ => (pe_tup (pa_cons (pv 5) (pa_cons pe_int pa_nil))))) pa_nil)) pa_nil)))) pa_nil))))))
        (pss_one (ps_ret (pv 2)))))
        pss_nil)
      (pss_one (ps_ret (pe_lc (own := [("_law_one", 3)]) (g := gName 3) (by rfl) sc_hall.nd (pi_range1 (by rfl) T.m_range (pa_cons (pv 1) pa_nil)) (blkOk_by (own := [("_law_one", 3)]) (N := n_hall) (sc := defScope s_hall) (by decide +kernel)) (fun _ _ _ _ _ => (pg_name (i := 3) sc_hall.nd rfl (.inl rfl) (.inr rfl))) (fun _ _ _ _ _ => pts_nil) (fun _ _ _ _ _ => (pe_call G_rule (hr.mono (by decide)) (by rfl) T.g_rule T.F_rule.kp T.b_rule .nil pass0 (pa_cons (pv 0) (pa_cons (pv 1) (pa_cons (pe_listRg (by rfl) (by rfl) T.m_list (prg_1 (by rfl) T.m_range (pv 1))) (pa_cons pe_int pa_nil))))))))))), ?_⟩
    refine ⟨.ref bx, rfl, bx, _, 5, rfl, by decide, by decide, by omega, hB, fun r1 H1 r10 r11 e1 b1 => ⟨1, r1, rfl, rfl, ?_⟩⟩
    refine ⟨.int (1 + r1), rfl, rfl, _, rfl, ite2 (fun w0 => ?_) (fun w0 => ?_)⟩
    · refine ⟨by show 0 ≤ sizeLine; decide, fun l nl => ?_⟩
      have nlb := b1.ne nl
      have nlH : H l = none := e1.free nlb nl
      refine ⟨5, rfl, by decide, by decide, ?_⟩
      refine for_it walk_range (fun i σ H3 => ∃ (y3 y4 y5 : Option V) (us : List V) (rs : List Rule), σ = [some (.ref bx), some (.int (1 + r1)), some (.ref l), y3, y4, y5] ∧ Ext bx H H3 ∧ Box bx (c + 1 + 6 * i) H3 ∧ H3 l = some (.lst us) ∧ RulesAt H3 us rs ∧ rs.length = i ∧ ∀ r ∈ rs, r.Wf 5) ⟨none, none, none, [], [], rfl, e1.trans ((Ext.refl _).new nl), by simpa using b1.new nl, upd_same, .nil, rfl, fun r h => absurd h (by simp)⟩ (fun _ _ _ _ _ => trivial) ?_ ?_
      · rintro i x σ H3 H3' hi ⟨y3, y4, y5, us, rs, rfl, e3, b3, h3, ra3, l3, wf3⟩ ⟨rfl, rfl⟩
        have hi' : i < 5 := hi
        have lu : us.length = rs.length := ra3.length
        refine ⟨.ref bx, rfl, 5, rfl, RgOk.of_le (by decide) (by decide) (by decide) (by decide), fun pl npl => ?_⟩
        have nb := b3.ne npl
        have b4 := b3.new (o := .lst (rgV 0 5)) npl
        have len : ((List.range (5 : Int).toNat).map fun k : Nat => (k : Int)).length = 5 := by decide
        refine ⟨bx, pl, _, 2, (List.range (5 : Int).toNat).map (fun k : Nat => (k : Int)), rfl, by decide, by decide, by omega, by omega, b4, by rw [upd_same, rg_ints], nb, fun z ms H5 e5 b5 nz hz sub => ?_⟩
        have nzb : z ≠ bx := b4.ne nz
        have ml : ms.length ≤ 5 := by rw [← len]; exact sub.length_le
        have k35 : Keep H3' H5 := (Keep.same (same_upd npl)).trans (Keep.ext e5 b4)
        have e35 : Ext bx H H5 := (e3.trans ((Ext.refl _).new npl)).trans e5
        have h5 : H5 l = some (.lst us) := e5 _ _ nlb (same_upd npl _ _ h3)
        refine ⟨.ref l, rfl, .inl ⟨rfl, _, .inl (.inl h5)⟩, .ref bx, rfl, bx, _, 2, rfl, by decide, by decide, by omega, b5, fun r6 H6 r60 r61 e6 b6 => ?_⟩
        have hz6 := e6 _ _ nzb hz
        have h6 := e6 _ _ nlb h5
        refine ⟨.ref z, rfl, z, rfl, ⟨_, .inl (.inl hz6)⟩, fun D hD => ?_⟩
        refine lc_onesL hz6 hD (by omega) (fun _ => rfl) (fun _ => rfl) (fun H7 ps s7 h7 pr7 => ?_)
        refine ⟨D, _, rfl, .inl (.inl h7), fun t o nt od => ⟨by show 3 ≤ sizeLine; decide, fun a ha => ?_⟩⟩
        have s8 : Same H6 (upd (upd H7 t (.frz o (.tup (ps.map V.ref)))) a (.tup [.str "sum", .int r6, .ref t])) := (s7.trans (same_upd nt)).trans (same_upd ha)
        have h8 := s8 _ _ h6
        refine ⟨l, us, .ref a, rfl, rfl, h8, small1000 (by omega), ?_⟩
        have kL := keep_lst (ys := us ++ [.ref a]) h8
        have k38 := ((k35.trans (Keep.ext e6 b5)).trans (Keep.same s8)).trans kL
        refine ⟨_, _, _, us ++ [V.ref a], rs ++ [.sum r6 (ms.map fun n => (n, 1))], rfl, ?_, ?_, upd_same, ?_, ?_, ?_⟩
        · exact ((e35.trans e6).trans (Ext.of s8)).new nlH
        · exact ((b6.same s8).at nlb).mono (by omega)
        · refine Paired.snoc (R := RuleAt _) ?_ (ra3.keep k38)
          refine ⟨a, t, rfl, kL.tup _ _ upd_same, o, ps, od, kL.frz _ _ _ (same_upd ha _ _ upd_same), ?_⟩
          exact pairs_keep (((Keep.same (same_upd nt)).trans (Keep.same (same_upd ha))).trans kL) pr7
        · rw [List.length_append, l3]; rfl
        · intro r hr'
          rcases List.mem_append.mp hr' with h | h
          · exact wf3 r h
          · rw [List.mem_singleton.mp h]
            have ris : Rising 5 ms := (rg_rising 5 (by decide)).sub sub
            refine ⟨⟨r60, by omega⟩, ?_, fun q hq => ?_⟩
            · rw [List.map_map]
              have : (ms.map ((fun q : Int × Int => q.1) ∘ fun n => (n, 1))) = ms := by
                rw [show ((fun q : Int × Int => q.1) ∘ fun n : Int => (n, (1 : Int))) = id from rfl, List.map_id]
              rw [this]
              exact ris
            · obtain ⟨n, _, rfl⟩ := List.mem_map.mp hq
              exact ⟨Int.le_refl _, by show (1 : Int) ≤ 1000; decide⟩
      · rintro σ H3 ⟨y3, y4, y5, us, rs, rfl, e3, b3, h3, ra3, l3, wf3⟩
        have l3' : rs.length = 5 := l3
        exact ⟨.ref l, rfl, q l us rs H3 e3 (b3.mono (by show c + 1 + 6 * ((5 : Nat) : Int) ≤ c + 100; omega)) nlH h3 ra3 ⟨by omega, by omega, by rw [l3']; exact wf3⟩⟩
    · have w1 : ¬ 1 + r1 = 5 := fun z => w0 (decide_eq_true (by rw [z]))
      refine ⟨.int (1 + r1), rfl, _, rfl, by omega, by omega, fun D hD => ?_⟩
      have nDb := b1.ne hD
      have nDH : H D = none := e1.free nDb hD
      refine lc_it walk_range (fun i H3 => ∃ (us : List V) (rs : List Rule), Ext bx H1 H3 ∧ Box bx (c + 1 + 18 * i) H3 ∧ H3 D = some (.lst us) ∧ RulesAt H3 us rs ∧ rs.length = i ∧ ∀ r ∈ rs, r.Wf (1 + r1)) ⟨[], [], (Ext.refl _).new hD, by simpa using b1.new hD, upd_same, .nil, rfl, fun r h => absurd h (by simp)⟩ (fun _ _ _ _ => trivial) ?_ ?_
      · rintro i x H3 H4 hi ⟨us, rs, e3, b3, h3, ra3, l3, wf3⟩ ⟨rfl, rfl⟩
        have hi' : i < 4 := by omega
        have lu : us.length = rs.length := ra3.length
        refine ⟨rfl, yes (iteT ?_)⟩
        refine ⟨.ref bx, rfl, .int (1 + r1), rfl, .int (1 + r1), rfl, _, rfl, RgOk.of_le (by omega) (by omega) (by omega) (by omega), fun pl npl => ?_⟩
        have nb := b3.ne npl
        have b4 := b3.new (o := .lst (rgV 0 (1 + r1))) npl
        have len : ((List.range (1 + r1).toNat).map fun k : Nat => (k : Int)).length ≤ 4 := by rw [List.length_map, List.length_range]; omega
        refine ⟨bx, pl, _, 3, 1 + r1, .int (1 + r1), (List.range (1 + r1).toNat).map (fun k : Nat => (k : Int)), rfl, by decide, by decide, by omega, by omega, b4, by rw [upd_same, rg_ints], nb, rg_rising _ (by omega), fun v r H5 e5 b5 ra5 wf sub5 => ?_⟩
        have e35 : Ext bx H4 H5 := ((Ext.refl _).new npl).trans e5
        have k35 : Keep H4 H5 := (Keep.same (same_upd npl)).trans (Keep.ext e5 b4)
        have h5 := e35 _ _ nDb h3
        have kL := keep_lst (ys := us ++ [v]) h5
        refine ⟨us, h5, small1000 (by omega), us ++ [v], rs ++ [r], (e3.trans e35).new hD, (b5.at nDb).mono (by omega), upd_same, Paired.snoc (R := RuleAt _) (ra5.keep kL) (ra3.keep (k35.trans kL)), by rw [List.length_append, l3]; rfl, ?_⟩
        intro r' hr'
        rcases List.mem_append.mp hr' with h | h
        · exact wf3 r' h
        · rw [List.mem_singleton.mp h]; exact wf
      · rintro H3 ⟨us, rs, e3, b3, h3, ra3, l3, wf3⟩
        have l4 : (rs.length : Int) = 1 + r1 := by rw [l3]; omega
        refine q D us rs H3 (e1.trans e3) (b3.mono (by omega)) nDH h3 ra3 ⟨by omega, by omega, by rw [l4]; exact wf3⟩
end
end Lh

namespace Lh
open PySem PySem.Spec PyProof.Rows L2
/-! ### enumerate of a tuple -/
set_option maxHeartbeats 1000000 in
theorem enum_new1 {v : Value} {o : Obj} {G : Heap → Prop} (B : Begins v o G) :
    Meets (Builtin.«enumerate.__new__» ⟨[.type "enumerate", v], []⟩) (fun _ R z => G z.heap ∧
      R (.ok (.ret (.ref (z.heap.push o).objs.size))) { z with heap := (z.heap.push o).push { cls := .type "enumerate", data := .fields #[.none, .bool false, .ref z.heap.objs.size, rawInt 0, .none, .none] } }) := by
  refine .of_wp fun pr wo ar R z hh => ?_
  obtain ⟨h0, g0, d0, t0, o0⟩ := z
  obtain ⟨hG, hR⟩ := hh
  have hsub := sub_enumerate
  have it1 : ∀ {ar' : Around} {Ex : Value → Shared → Prop} {Q : Value → Shared → Prop}, Q (.ref h0.objs.size) ⟨h0.push o, g0, d0, t0, o0⟩ → wpAny (model pr wo) ar' (pyIter v) Q Ex ⟨h0, g0, d0, t0, o0⟩ :=
    fun q => B.iter pr wo _ _ ⟨h0, g0, d0, t0, o0⟩ _ hG q
  wp_walk using it1
  refine wpAny_stack_any fun _ => wpAny_pure ?_
  split
  · rename_i cc _ _ _ _ _
    cases (cc == Value.type "enumerate")
    all_goals
      wp_walk using it1
      exact ⟨_, rfl, hR⟩
  · wp_walk using it1
    exact ⟨_, rfl, hR⟩
theorem enum_made {pr : Program} {wo : World} {ar : Around} {Ex : Value → Shared → Prop} {z : Shared} {v : Value} {o : Obj} {G : Heap → Prop} {Q : Value → Shared → Prop} (B : Begins v o G) (hG : G z.heap)
    (h : ∀ h', IsEnum h' (z.heap.objs.size + 1) z.heap.objs.size 0 .none → h'.get? z.heap.objs.size = some o → (∀ b ob, z.heap.get? b = some ob → h'.get? b = some ob) → Q (.ref (z.heap.objs.size + 1)) { z with heap := h' }) :
    wpAny (model pr wo) ar (call (.type "enumerate") [v]) Q Ex z := by
  refine callType_new F.called_enumerate (by decide) (F.typeCall_enumerate_1 _) (F.newCall_enumerate_1 _) (fun x => F.args_object_init_2 x _) F.entry_enumerate_new (enum_new1 B) ⟨hG, ?_⟩
  have sz : (z.heap.push o).objs.size = z.heap.objs.size + 1 := Heap.size_push ..
  show _ ∧ _
  rw [sz]
  have he : IsEnum ((z.heap.push o).push { cls := .type "enumerate", data := .fields #[.none, .bool false, .ref z.heap.objs.size, rawInt 0, .none, .none] }) (z.heap.objs.size + 1) z.heap.objs.size 0 .none := by
    rw [← sz]
    exact Heap.get?_push_size (z.heap.push o) rfl
  exact ⟨⟨_, he, rfl⟩, h _ he (Heap.get?_push_of_some _ (Heap.get?_push_size _ B.free)) fun b ob x => Heap.get?_push_of_some _ (Heap.get?_push_of_some _ x)⟩
def IteT (K : PySem.W.Frag) (a : Addr) : It :=
  ⟨fun n H => ∃ (xs : List V) (x : V), SqT K H a xs ∧ xs[n]? = some x,
    fun n H v H' => ∃ T x, v = .ref T ∧ H T = none ∧ H' = upd H T (.tup [.int (n : Nat), x]) ∧ ∀ xs, SqT K H a xs → xs[n]? = some x,
    fun n H => ∃ xs : List V, SqT K H a xs ∧ xs.length ≤ n⟩
theorem draws_end {pr : Program} {wo : World} {ar : Around} (hh : ar.handled = none) (it a : Addr) (items : Array Value) (n : Nat) (hx : items[n]? = none) :
    Draws pr wo ar it [it, a] n (fun _ _ => False) (fun j h => j = n ∧ h.IsTupleIter it a n ∧ h.IsTuple a items) where
  live := fun _ _ st => let ⟨ob, hb, _⟩ := st.2.1; ⟨ob, hb⟩
  frame := fun _ _ _ st hk => ⟨st.1, st.2.1.at fun ob e => hk it (by simp) ob e, st.2.2.at fun ob e => hk a (by simp) ob e⟩
  item := fun j _ _ _ hj st _ => absurd st.1 (by omega)
  done := fun _ _ _ st hE => wpAny_nextOf_tuple_end hh st.2.1 st.2.2 hx hE
theorem turn_enumT {P : Program} {w : World} {K : PySem.W.Frag} {elts : List Expr} {kk : Nat} {tpos : Pos} (a e it : Addr) :
    Turn P w K (.Tuple elts kk tpos) (IteT K a) [e, it] e (fun n h => (∃ old, IsEnum h e it ((n : Nat) : Int) old) ∧ h.IsTupleIter it a n ∧ e ≠ it ∧ a ≠ it ∧ e ≠ a) where
  mem := by simp
  obj := fun n h st b hb => by
    obtain ⟨⟨old, he⟩, ⟨ob, ho, _, hd⟩, _⟩ := st
    rcases (show b = e ∨ b = it by simpa using hb) with rfl | rfl
    · exact ⟨_, he, fun v q => nomatch q⟩
    · exact ⟨ob, ho, fun v q => by rw [hd] at q; cases q⟩
  keep := fun n h h' st k => let ⟨⟨old, he⟩, hi, r⟩ := st; ⟨⟨old, k e (by simp) _ he⟩, hi.at fun ob q => k it (by simp) ob q, r⟩
  item := by
    intro X hP hw hK hc n pins s σ H E I hf st hg
    subst hP hw hK
    obtain ⟨⟨old, he⟩, hit, hne, nai, nea⟩ := st
    obtain ⟨xs, x, hq, hx⟩ := hg
    obtain ⟨its, rv, p, hz⟩ := I.tuple hq
    obtain ⟨u, hu, ru⟩ := rv.get hx
    have hu' : its.toArray[n]? = some u := by simpa using hu
    have hel : e < s.heap.objs.size := Heap.lt_size he
    have hil : it < s.heap.objs.size := by obtain ⟨_, q, _⟩ := hit; exact Heap.lt_size q
    have lt : n < its.toArray.size := (Array.getElem?_eq_some_iff.mp hu').1
    refine wpAny_pyNext_enum_itemD (Draws.tuple (A := X.A.in1) (I.ok.hd hc) it a nai its.toArray) he ⟨hit, p⟩ lt hne (by simp [hne, nea]) fun y h' tk hy ho st' hT hsz hk => ?_
    have ey : y = u := Option.some.inj (hy.symm.trans hu')
    subst ey
    refine ⟨_, rfl, wpAny_letOwnedTupleGo_enum (s := { s with heap := h', toks := tk + 1 }) ho fun h2 he2 sb => ?_⟩
    have hT2 : h2.get? s.heap.objs.size = some { cls := .type "tuple", data := .seq #[.int n tk, y] } := (sb.2 _ (Nat.ne_of_gt hel)).trans hT
    have new : ObjOk X.prog X.w (upd H s.heap.objs.size (.tup [.int (n : Nat), x])) h2 s.heap.objs.size (.tup [.int (n : Nat), x]) := by
      refine ⟨by show 2 ≤ sizeLine; decide, [.int n tk, y], .cons ⟨_, rfl⟩ (.cons ru .nil), ?_⟩
      exact ⟨_, hT2, rfl, _, rfl⟩
    have J : Inv X pins σ (upd H s.heap.objs.size (.tup [.int (n : Nat), x])) { s with heap := h2, toks := tk + 1 } := by
      refine I.turnedNew (ch := [e, it]) (fun b ob hb q => ?_) hf (Nat.le_refl _) new
      exact (sb.2 b (fun z => hb (by simp [z]))).trans (hk b ob (fun z => hb (by simp [z])) (fun z => hb (by simp [z])) q)
    refine ⟨.ref s.heap.objs.size, _, J, rfl, ⟨_, x, rfl, I.hok.fresh (Nat.le_refl _), rfl, fun ys hy => by rw [I.tuple_inj hy hq]; exact hx⟩, ⟨⟨y, ?_⟩, st'.1.at fun ob q => (sb.2 it (Ne.symm hne)).trans q, hne, nai, nea⟩, fun b hb => ?_⟩
    · rw [show ((n + 1 : Nat) : Int) = (n : Int) + 1 by omega]
      exact he2
    · have hb' : b < s.heap.objs.size := by
        rcases (show b = e ∨ b = it by simpa using hb) with rfl | rfl
        · exact hel
        · exact hil
      rw [upd_ne (Nat.ne_of_lt hb')]
      exact (hf b hb).1
  done := by
    intro X hP hw hK hc n pins s σ H E I hf st hg
    subst hP hw hK
    obtain ⟨⟨old, he⟩, hit, hne, nai, nea⟩ := st
    obtain ⟨xs, hq, hx⟩ := hg
    obtain ⟨its, rv, p, hz⟩ := I.tuple hq
    obtain ⟨f0, f1, f2, f3, f4, f5⟩ := hf it (by simp)
    have hl := rv.length
    have hn : its.toArray[n]? = none := by simp; omega
    exact wpAny_pyNext_enum_endD (draws_end (ar := X.A.in1) (I.ok.hd hc) it a its.toArray n hn) he ⟨rfl, hit, p⟩ fun h' eb => ⟨rfl, I.turned (t' := s.toks) (fun b ob hb q => eb b ob hb q) f0 f1 f3 f4 f5⟩
  self := fun ar n s Q E st h => let ⟨⟨_, he⟩, _⟩ := st; wpAny_pyIter_enum he h
def iEnumT (K : PySem.W.Frag) (ta : TA) : TI := fun σ H R => ta σ H fun vs H1 => ∃ a xs, vs = [.ref a] ∧ SqT K H1 a xs ∧ R (IteT K a) H1
theorem pi_enumT {X : Cx} {e : Expr} {ta : TA} {p pos tpos : Pos} {elts : List Expr} {kk : Nat} (hg : Gl X "enumerate") (hm : X.mg "enumerate" = none) (ha : PA X [e] ta) (hs : starEach [e] X.env = [(false, eval e X.env)] := by rfl) : PI X (.Tuple elts kk tpos) (.Call (.Name "enumerate" p) [e] [] pos) (iEnumT X.K ta) := by
  refine ⟨fun pins s σ H R I h => ?_⟩
  refine Call_ (ld_blt I hg hm PyProof.Rows.boot_enumerate (PyProof.Rows.callWith_type1 (thn (ha.run pos pins s σ H _ I h) fun us s1 ⟨vs, H1, I1, r1, a, xs, ex, hq, q⟩ => ?_) hs rfl))
  subst ex
  rw [Vals.ref1 r1]
  obtain ⟨its, rv, p', hz⟩ := I1.tuple hq
  obtain ⟨oa, hoa, _⟩ := id p'
  have la : a < s1.heap.objs.size := Heap.lt_size hoa
  refine enum_made (begins_tuple a its.toArray) p' fun h' he hit hk => wpAny_pyIter_enum he ?_
  have I2 : Inv X pins σ H1 { s1 with heap := h' } := I1.kept (t' := s1.toks) hk
  refine ⟨s1.heap.objs.size + 1, [s1.heap.objs.size + 1, s1.heap.objs.size], _, _, H1, rfl, I2, turn_enumT a (s1.heap.objs.size + 1) s1.heap.objs.size, ⟨⟨.none, he⟩, ⟨_, hit, rfl, rfl⟩, Nat.succ_ne_self _, Nat.ne_of_lt la, Nat.ne_of_gt (Nat.lt_succ_of_lt la)⟩, fun b hb => ?_, q⟩
  have hle : s1.heap.objs.size ≤ b := by
    rcases (show b = s1.heap.objs.size + 1 ∨ b = s1.heap.objs.size by simpa using hb) with z | z
    · rw [z]; exact Nat.le_add_right _ _
    · rw [z]; exact Nat.le_refl _
  exact I1.fpOk hle (I1.hok.fresh hle)
theorem walk_enumT {K : PySem.W.Frag} {a : Addr} {xs : List V} : Walk (IteT K a) xs.length (fun H => SqT K H a xs) (YPair (fun n => some (.int (n : Nat))) (fun n => xs[n]?)) := by
  refine ⟨fun n _ hn q => ⟨xs, xs[n], q, by simp [hn]⟩, fun _ q => ⟨xs, q, Nat.le_refl _⟩, fun n H v H' _ q y => ?_⟩
  obtain ⟨T, x, h1, h2, h3, h4⟩ := y
  exact ⟨T, .int (n : Nat), x, h1, h2, h3, rfl, h4 xs q⟩
end Lh

namespace Lh
open PySem PySem.Spec PyProof.Rows L2
theorem strict_of {ns : List Int} (h : ns.Pairwise (· ≤ ·)) (nd : ns.Nodup) : ns.Pairwise (· < ·) := by
  refine (h.and (List.nodup_iff_pairwise_ne.mp nd)).imp fun z => ?_
  have := z.1
  have := z.2
  omega
theorem cut_to {α : Type} (xs : List α) (k : Nat) (h : k ≤ xs.length) : cutI xs none (some (k : Int)) = xs.take k := by
  unfold cutI
  rw [HT.sIx_none, HT.sIx_nat, Nat.sub_zero, List.drop_zero, Nat.min_eq_left h]
theorem cut_from {α : Type} (xs : List α) (k : Nat) (h : k ≤ xs.length) : cutI xs (some (k : Int)) none = xs.drop k := by
  unfold cutI
  rw [HT.sIx_none, HT.sIx_nat, Nat.min_eq_left h]
  exact List.take_of_length_le (by rw [List.length_drop]; omega)
theorem rep_one (v : V) : ∀ n : Nat, (List.replicate n [v]).flatten = List.replicate n v
  | 0 => rfl
  | n + 1 => by rw [List.replicate_succ, List.flatten_cons, rep_one v n, List.replicate_succ]; rfl
theorem merge_get : ∀ (kv : List (Int × Int)) (acc : List (Key × V)) (p : Int), (∃ y, valV (mergeK acc (kvOf kv)) (Sum.inl p) = some (.int y) ∧ (p, y) ∈ kv) ∨ (p ∉ kv.map (·.1) ∧ valV (mergeK acc (kvOf kv)) (Sum.inl p) = valV acc (Sum.inl p))
  | [], acc, p => .inr ⟨by simp, rfl⟩
  | (a, b) :: t, acc, p => by
    have e : mergeK acc (kvOf ((a, b) :: t)) = mergeK (putK acc (Sum.inl a) (.int b)) (kvOf t) := rfl
    rw [e]
    rcases merge_get t (putK acc (Sum.inl a) (.int b)) p with ⟨y, h1, h2⟩ | ⟨h1, h2⟩
    · exact .inl ⟨y, h1, List.mem_cons_of_mem _ h2⟩
    · rw [h2, valV_put]
      by_cases c : p = a
      · subst c
        rw [if_pos rfl]
        exact .inl ⟨b, rfl, List.mem_cons_self⟩
      · have c' : ¬ (Sum.inl p : Key) = Sum.inl a := fun z => c (Sum.inl.inj z)
        rw [if_neg c']
        refine .inr ⟨fun z => ?_, rfl⟩
        rcases List.mem_cons.mp z with z | z
        · exact c z
        · exact h1 z
theorem pairs_at {H : Hp} {ps : List Addr} {lot : List (Int × Int)} (h : Paired (PairAtH H) ps lot) : ∀ (n : Nat) (h1 : n < ps.length) (h2 : n < lot.length), PairAtH H ps[n] lot[n] := by
  induction h with
  | nil => intro n h1; exact absurd h1 (by simp)
  | cons r t ih =>
    intro n h1 h2
    cases n with
    | zero => exact r
    | succ n => exact ih n (by simpa using h1) (by simpa using h2)
theorem lotI_pairs (r : Rule) (ns : List Int) (p : Int) : ((seenPairs r).filter fun q => decide (nth ns q.1 < nth ns p)).map (fun q => (q.1, nth ns q.1)) = lotI r ns p := by
  unfold lotI
  rw [← seen_persons r, List.filter_map, List.map_map]
  rfl
section
variable {P : Program} {w : World} {K : PySem.W.Frag} {mg : Str → Option Value} {base : Heap}
def spFlat : Sp := fun vs H Q _ => ∃ (bx : Addr) (c m : Int), vs = [.ref bx, .int m] ∧ 0 < m ∧ m ≤ 12 ∧ c + 1000 ≤ 1000000000 ∧ Box bx c H ∧
  ∀ (l : Addr) (us : List V) (rs : List Rule) (H' : Hp), Ext bx H H' → Box bx (c + 1000) H' → H l = none → H' l = some (.lst us) → RulesAt H' us rs → Halls rs → Q (.ref l) H'
set_option maxHeartbeats 2000000 in
theorem ok_flat (T : Txt K mg w) : FnOk P w K mg base CX0 4 T.f_flat T.fd_flat p_flat spFlat := by
  have G_take := ok_take (P := P) (w := w) (base := base) T
  have G_strewn := ok_strewn (P := P) (w := w) (base := base) T
  have G_rule := ok_rule (P := P) (w := w) (base := base) T
  refine T.F_flat.ok sc_flat (fun vs H Q E h => ?_) (fun cdv A outer s H vs Q E hr h => ?_)
  · obtain ⟨bx, c, m, rfl, _⟩ := h
    rfl
  · obtain ⟨bx, c, m, rfl, m0, m1, c1, hB, q⟩ := h
    refine ⟨_, (pss_cons (ps_set (i := 2) sc_flat.nd rfl (.inl rfl) (pe_op op_add pe_int (pe_call G_take (hr.mono (by decide)) (by rfl) T.g_take T.F_take.kp T.b_take .nil pass0 (pa_cons (pv 0) (pa_cons (pv 1) pa_nil)))))
      (pss_cons (ps_par (i := 3) (j := 4) (by rfl) sc_flat.nd rfl rfl (by decide) rfl rfl (pa_cons (pe_call G_strewn (hr.mono (by decide)) (by rfl) T.g_strewn T.F_strewn.kp T.b_strewn .nil pass0 (pa_cons (pv 0) (pa_cons (pe_listRg (by rfl) (by rfl) T.m_list (prg_1 (by rfl) T.m_range (pv 2))) pa_nil))) (pa_cons (pe_op op_rep (pe_lst (pa_cons pe_non pa_nil)) (pv 2)) pa_nil)) (by rfl))
      (pss_cons (ps_for PassesOwn.never rfl (pi_enum (by rfl) T.m_enumerate (pa_cons (pv 3) pa_nil)) (pg_tup rfl (pgs_cons (pg_name (i := 5) sc_flat.nd rfl (.inl rfl)) (pgs_cons (pg_name (i := 6) sc_flat.nd rfl (.inl rfl)) pgs_nil)))
        (pss_one (ps_asg (pe_call G_rule (hr.mono (by decide)) (by rfl) T.g_rule T.F_rule.kp T.b_rule .nil pass0 (pa_cons (pv 0) (pa_cons (pv 2) (pa_cons (pe_callB cr_sortedI (by rfl) T.m_sorted (by decide +kernel) (pa_cons (pe_slice sl_list (pv 3) po_none (po_some (pv 5))) pa_nil)) (pa_cons pe_int pa_nil))))) (pg_sub (pv 4) (pv 6) set_list))))
      (pss_one (ps_ret (pv 4)))))), ?_⟩
    refine ⟨.ref bx, rfl, .int m, rfl, bx, _, m, rfl, m0, by omega, by omega, hB, fun r1 H1 r10 r11 e1 b1 => ⟨1, r1, rfl, rfl, ?_⟩⟩
    refine ⟨.ref bx, rfl, .int (1 + r1), rfl, _, rfl, RgOk.of_le (by omega) (by omega) (by omega) (by omega), fun pl npl => ?_⟩
    have nb := b1.ne npl
    have b2 := b1.new (o := .lst (rgV 0 (1 + r1))) npl
    have len : ((List.range (1 + r1).toNat).map fun k : Nat => (k : Int)).length = (1 + r1).toNat := by rw [List.length_map, List.length_range]
    refine ⟨bx, pl, _, (List.range (1 + r1).toNat).map (fun k : Nat => (k : Int)), rfl, by omega, by omega, b2, by rw [upd_same, rg_ints], nb, fun z ms H3 e3 b3 nz hz pm => ?_⟩
    have nzb : z ≠ bx := b2.ne nz
    have ml : ms.length = (1 + r1).toNat := by rw [pm.length_eq, len]
    have ris := rg_rising (1 + r1) (by omega)
    have mn : ms.Nodup := pm.nodup_iff.mpr ris.nodup
    have mi : ∀ x ∈ ms, 0 ≤ x ∧ x < 1 + r1 := fun x hx => ris.2 x (pm.mem_iff.mp hx)
    have eX : Ext bx H H3 := (e1.trans ((Ext.refl _).new npl)).trans e3
    refine ⟨by show 1 ≤ sizeLine; decide, fun l1 nl1 => ?_⟩
    refine ⟨.int (1 + r1), rfl, l1, 1 + r1, _, rfl, rfl, upd_same, by omega, by omega, ?_, fun l nl => ⟨_, _, rfl, ?_⟩⟩
    · show 1 * (1 + r1).toNat ≤ sizeLine
      exact Nat.le_of_lt (small1000 (by omega))
    rw [rep_one]
    have b4 := (b3.new (o := .lst [V.non]) nl1).new (o := .lst (List.replicate (1 + r1).toNat V.non)) nl
    have nlb := (b3.new (o := .lst [V.non]) nl1).ne nl
    have s4 : Same H3 (upd (upd H3 l1 (.lst [V.non])) l (.lst (List.replicate (1 + r1).toNat V.non))) := (same_upd nl1).trans (same_upd nl)
    have hz4 := s4 _ _ hz
    have nlH : H l = none := eX.free nlb ((same_upd nl1).free nl)
    refine ⟨.ref z, rfl, z, _, rfl, .inl (.inl hz4), ?_⟩
    refine for_it (walk_enum (xs := ms.map V.int)) (fun i σ H5 => ∃ (y5 y6 : Option V) (us : List V), σ = [some (.ref bx), some (.int m), some (.int (1 + r1)), some (.ref z), some (.ref l), y5, y6] ∧ Ext bx H H5 ∧ Box bx (c + 20 + 50 * i) H5 ∧ H5 z = some (.lst (ms.map V.int)) ∧ H5 l = some (.lst us) ∧ us.length = (1 + r1).toNat ∧ ∀ x ∈ ms.take i, ∃ v r, us[x.toNat]? = some v ∧ RuleAt H5 v r ∧ r.Wf (1 + r1))
      ⟨none, none, _, rfl, eX.trans (Ext.of s4), b4.mono (by omega), hz4, upd_same, List.length_replicate, fun x hx => absurd hx (by simp)⟩ ?_ ?_ ?_
    · rintro i σ H5 _ ⟨y5, y6, us, rfl, e5, b5, hz5, _⟩
      exact .inl (.inl hz5)
    · rintro i y σ H5 H6 hi ⟨y5, y6, us, rfl, e5, b5, hz5, hl5, lu, al⟩ ⟨t, x1, x2, rfl, nt, rfl, e1', e2'⟩
      rw [List.length_map] at hi
      have e2'' : (ms.map V.int)[i]? = some x2 := e2'
      rw [List.getElem?_map, List.getElem?_eq_getElem hi] at e2''
      cases e2''
      cases e1'
      have sT := same_upd (o := .tup [V.int ((i : Nat) : Int), V.int ms[i]]) nt
      refine ⟨t, _, rfl, .inl (.inl upd_same), rfl, _, _, rfl, _, _, rfl, rfl, ?_⟩
      refine ⟨.ref bx, rfl, .int (1 + r1), rfl, .ref z, rfl, .int i, rfl, i, rfl, z, _, rfl, .inl (.inl (sT _ _ hz5)), fun z2 nz2 => ?_⟩
      rw [cut_map, cut_to ms i (by omega)]
      refine ⟨z2, ms.take i, rfl, .inl (.inl upd_same), fun ns' p' pm' sd' np' => ?_⟩
      have b7 := ((b5.same sT).new (o := .lst ((ms.take i).map V.int)) nz2).new (o := .lst (ns'.map V.int)) np'
      have npb := ((b5.same sT).new (o := .lst ((ms.take i).map V.int)) nz2).ne np'
      have s57 : Same H5 (upd (upd (upd H5 t (.tup [V.int ((i : Nat) : Int), V.int ms[i]])) z2 (.lst ((ms.take i).map V.int))) p' (.lst (ns'.map V.int))) := (sT.trans (same_upd nz2)).trans (same_upd np')
      have ln : ns'.length ≤ 12 := by rw [pm'.length_eq, List.length_take]; omega
      have rn : Rising (1 + r1) ns' := ⟨strict_of sd' (pm'.nodup_iff.mpr (mn.sublist (List.take_sublist _ _))), fun n hn => mi n (List.mem_of_mem_take (pm'.mem_iff.mp hn))⟩
      refine ⟨bx, p', _, 9, 1 + r1, .int (1 + r1), ns', rfl, by decide, by decide, by omega, by omega, b7, upd_same, npb, rn, fun v r H8 e8 b8 ra8 wf8 sub8 => ?_⟩
      have e58 : Ext bx H5 H8 := (Ext.of s57).trans e8
      have k58 : Keep H5 H8 := (Keep.same s57).trans (Keep.ext e8 b7)
      have hl8 := e58 _ _ nlb hl5
      have mii := mi _ (List.getElem_mem hi)
      refine ⟨.ref l, rfl, .int ms[i], rfl, l, _, _, ms[i].toNat, rfl, rfl, hl8, ?_, ?_⟩
      · have h1 : ((ms[i].toNat : Nat) : Int) = ms[i] := by omega
        have h2 := ixN_at (n := us.length) (j := ms[i].toNat) (by omega)
        rw [h1] at h2
        exact h2
      have kL := keep_lst (ys := us.set ms[i].toNat v) hl8
      refine ⟨_, _, us.set ms[i].toNat v, rfl, (e5.trans e58).new nlH, (b8.at nlb).mono (by omega), ?_, upd_same, by rw [List.length_set]; exact lu, fun x hx => ?_⟩
      · have nzl : z ≠ l := fun q => by
          have q2 := e5 l
          subst q
          rw [hz5] at hl5
          have := ne_of_none (same_upd (o := .lst [V.non]) nl1 _ _ hz) nl
          exact this rfl
        rw [upd_ne nzl]
        exact e58 _ _ nzb hz5
      · rw [List.take_add_one, List.getElem?_eq_getElem hi] at hx
        by_cases cx : x = ms[i]
        · subst cx
          exact ⟨v, r, by rw [List.getElem?_set, if_pos rfl, if_pos (by omega)], ra8.keep kL, wf8⟩
        · have hx' : x ∈ ms.take i := by
            rcases List.mem_append.mp hx with h | h
            · exact h
            · exact absurd (by simpa using h) cx
          obtain ⟨v', r', h1, h2, h3⟩ := al x hx'
          have mx := mi x (List.mem_of_mem_take hx')
          exact ⟨v', r', by rw [List.getElem?_set, if_neg (by omega)]; exact h1, (h2.keep k58).keep kL, h3⟩
    · rintro σ H5 ⟨y5, y6, us, rfl, e5, b5, hz5, hl5, lu, al⟩
      rw [List.length_map, List.take_length] at al
      rw [List.length_map] at b5
      obtain ⟨rs, ra, wf⟩ := rules_of (H := H5) (m := 1 + r1) us (fun i hi => by
        have hm : (i : Int) ∈ ms := pm.mem_iff.mpr (List.mem_map.mpr ⟨i, List.mem_range.mpr (by omega), rfl⟩)
        obtain ⟨v, r, h1, h2, h3⟩ := al _ hm
        rw [Int.toNat_natCast, List.getElem?_eq_getElem hi] at h1
        cases h1
        exact ⟨r, h2, h3⟩)
      have lr : rs.length = (1 + r1).toNat := by rw [← lu]; exact ra.length.symm
      have lr' : (rs.length : Int) = 1 + r1 := by omega
      exact ⟨.ref l, rfl, q l us rs H5 e5 (b5.mono (by omega)) nlH hl5 ra ⟨by omega, by omega, by rw [lr']; exact wf⟩⟩
def spShown : Sp := fun vs H Q _ => ∃ (bx l : Addr) (c : Int) (us : List V), vs = [.ref bx, .ref l] ∧ c + 100 ≤ 1000000000 ∧ us.length ≤ 12 ∧ Box bx c H ∧ H l = some (.lst us) ∧ l ≠ bx ∧
  ∀ (t : Addr) (ns : List Int) (H' : Hp), Ext bx H H' → Box bx (c + 100) H' → H t = none → TupAt H' t (ns.map V.int) → ns.length = us.length → (∀ n ∈ ns, 0 ≤ n) → Q (.ref t) H'
set_option maxHeartbeats 2000000 in
theorem ok_shown (T : Txt K mg w) : FnOk P w K mg base CX0 2 T.f_shown T.fd_shown p_shown spShown := by
  have G_take := ok_take (P := P) (w := w) (base := base) T
  refine T.F_shown.ok sc_shown (fun vs H Q E h => ?_) (fun cdv A outer s H vs Q E hr h => ?_)
  · obtain ⟨bx, l, c, us, rfl, _⟩ := h
    rfl
  · obtain ⟨bx, l, c, us, rfl, c1, l1, hB, hl, nlb, q⟩ := h
    refine ⟨_, (pss_cons (ps_par (i := 2) (j := 3) (by rfl) sc_shown.nd rfl rfl (by decide) rfl rfl (pa_cons (pe_call G_take (hr.mono (by decide)) (by rfl) T.g_take T.F_take.kp T.b_take .nil pass0 (pa_cons (pv 0) (pa_cons pe_int pa_nil))) (pa_cons (pe_lst pa_nil) pa_nil)) (by rfl))
      (pss_cons (ps_for PassesOwn.never rfl (pi_list (pv 1)) (pg_name (i := 4) sc_shown.nd rfl (.inl rfl))
        (pss_one (ps_expr (pe_bm PySem.F.plainAttrs_list PySem.F.slot_list_append PySem.F.type_list_append mt_append (pv 3) (pa_cons (pe_ix ix_list (pe_lst (pa_cons (pe_call G_take (hr.mono (by decide)) (by rfl) T.g_take T.F_take.kp T.b_take .nil pass0 (pa_cons (pv 0) (pa_cons pe_int pa_nil))) (pa_cons (pe_call G_take (hr.mono (by decide)) (by rfl) T.g_take T.F_take.kp T.b_take .nil pass0 (pa_cons (pv 0) (pa_cons pe_int pa_nil))) (pa_cons pe_int (pa_cons (pe_call G_take (hr.mono (by decide)) (by rfl) T.g_take T.F_take.kp T.b_take .nil pass0 (pa_cons (pv 0) (pa_cons (pe_op op_pow pe_int pe_int) pa_nil))) (pa_cons (pe_call G_take (hr.mono (by decide)) (by rfl) T.g_take T.F_take.kp T.b_take .nil pass0 (pa_cons (pv 0) (pa_cons pe_int pa_nil))) pa_nil)))))) (pv 2) (fun _ _ => rfl)) pa_nil)))))
      (pss_one (ps_ret (pe_callTy call_tupleF (by rfl) T.m_tuple (by decide +kernel) (pa_cons (pv 3) pa_nil)))))), ?_⟩
    refine ⟨.ref bx, rfl, bx, _, 5, rfl, by decide, by decide, by omega, hB, fun r1 H1 r10 r11 e1 b1 => ⟨by show 0 ≤ sizeLine; decide, fun d nd => ⟨_, _, rfl, ?_⟩⟩⟩
    have ndb := b1.ne nd
    have ndH : H d = none := e1.free ndb nd
    have hl1 := same_upd (o := .lst []) nd _ _ (e1 _ _ nlb hl)
    refine ⟨.ref l, rfl, l, rfl, ⟨_, .inl (.inl hl1)⟩, ?_⟩
    refine for_it (walk_list (xs := us)) (fun i σ H3 => ∃ (y : Option V) (ns : List Int), σ = [some (.ref bx), some (.ref l), some (.int r1), some (.ref d), y] ∧ Ext bx H H3 ∧ Box bx (c + 1 + 4 * i) H3 ∧ H3 d = some (.lst (ns.map V.int)) ∧ ns.length = i ∧ ∀ n ∈ ns, 0 ≤ n) ⟨none, [], rfl, e1.trans ((Ext.refl _).new nd), by simpa using b1.new nd, upd_same, rfl, fun n h => absurd h (by simp)⟩ ?_ ?_ ?_
    · rintro i σ H3 _ ⟨y, ns, rfl, e3, _⟩
      exact .inl (.inl (e3 _ _ nlb hl))
    · rintro i v σ H3 H4 hi ⟨y, ns, rfl, e3, b3, h3, n3, p3⟩ ⟨rfl, hv⟩
      refine ⟨.ref d, rfl, .inl ⟨rfl, _, .inl (.inl h3)⟩, ?_⟩
      refine ⟨.ref bx, rfl, bx, _, 4, rfl, by decide, by decide, by omega, b3, fun a1 H5 a10 a11 e5 b5 => ?_⟩
      refine ⟨.ref bx, rfl, bx, _, 20, rfl, by decide, by decide, by omega, b5, fun a2 H6 a20 a21 e6 b6 => ?_⟩
      refine ⟨.ref bx, rfl, 10, 6, rfl, rfl, ⟨by decide, by decide, by decide⟩, bx, _, _, rfl, by decide, by decide, by omega, b6, fun a3 H7 a30 a31 e7 b7 => ?_⟩
      refine ⟨.ref bx, rfl, bx, _, 3, rfl, by decide, by decide, by omega, b7, fun a4 H8 a40 a41 e8 b8 => ⟨by show 5 ≤ sizeLine; decide, fun z nz => ?_⟩⟩
      have nzb := b8.ne nz
      obtain ⟨x, mx, ax⟩ := pick (xs := [V.int a1, .int a2, .int 7, .int a3, .int a4]) r10 (by simpa using r11)
      have eX : Ext bx H4 H8 := ((e5.trans e6).trans e7).trans e8
      refine ⟨.int r1, rfl, z, _, r1, x, rfl, rfl, .inl (.inl upd_same), ax, ?_⟩
      obtain ⟨n, rfl, n0⟩ : ∃ n : Int, x = .int n ∧ 0 ≤ n := by
        simp only [List.mem_cons, List.not_mem_nil, or_false] at mx
        rcases mx with rfl | rfl | rfl | rfl | rfl
        · exact ⟨_, rfl, a10⟩
        · exact ⟨_, rfl, a20⟩
        · exact ⟨_, rfl, by decide⟩
        · exact ⟨_, rfl, a30⟩
        · exact ⟨_, rfl, a40⟩
      have hd8 := same_upd (o := .lst [V.int a1, .int a2, .int 7, .int a3, .int a4]) nz _ _ (eX _ _ ndb h3)
      refine ⟨d, _, .int n, rfl, rfl, hd8, by rw [List.length_map]; exact small1000 (by omega), ?_⟩
      refine ⟨_, ns ++ [n], rfl, ((e3.trans eX).trans ((Ext.refl _).new nz)).new ndH, ((b8.new nz).at ndb).mono (by omega), by rw [upd_same, List.map_append]; rfl, by rw [List.length_append, n3]; rfl, fun n' hn' => ?_⟩
      rcases List.mem_append.mp hn' with h | h
      · exact p3 n' h
      · rw [List.mem_singleton.mp h]; exact n0
    · rintro σ H3 ⟨y, ns, rfl, e3, b3, h3, n3, p3⟩
      refine ⟨.ref d, rfl, d, _, rfl, .inl (.inl h3), fun t o nt od => ?_⟩
      exact q t ns _ (e3.trans ((Ext.refl _).new nt)) ((b3.new nt).mono (by omega)) (e3.free (b3.ne nt) nt) (.inr ⟨o, od, upd_same⟩) n3 p3
end
end Lh

namespace Lh
open PySem PySem.Spec PyProof.Rows L2
def pairD (q : Int × Int) : PyData := .tuple [.int q.1, .int q.2]
def Rule.data : Rule → PyData
  | .held n => .tuple [.str "held", .int n]
  | .sum own ties => .tuple [.str "sum", .int own, .tuple (ties.map pairD)]
  | .cap own ties most => .tuple [.str "cap", .int own, .tuple (ties.map pairD), .int most]
  | .kinds own seen => .tuple [.str "kinds", .int own, .tuple (seen.map PyData.int)]
  | .next seen => .tuple [.str "next", .tuple (seen.map PyData.int)]
  | .free seen => .tuple [.str "free", .tuple (seen.map PyData.int)]
theorem Box.neF {bx : Addr} {c : Int} {H : Hp} (h : Box bx c H) {p : Addr} {o : Obj} {u : HO} (n : H p = some (.frz o u)) : p ≠ bx := by
  obtain ⟨a, b, n', h, _⟩ := h
  exact ne_of n h (by intro z; cases z)
theorem pairs_rp {bx : Addr} {c : Int} {H : Hp} (b : Box bx c H) : ∀ {ps : List Addr} {ties : List (Int × Int)}, Paired (PairAtH H) ps ties → RpAll bx H (ps.map V.ref) (ties.map pairD)
  | _, _, .nil => .nil
  | _, _, .cons h r => .cons (.tup (.inl h) (b.neT h) (.cons (.int _) (.cons (.int _) .nil))) (pairs_rp b r)
theorem TiesAt.rp {bx : Addr} {c : Int} {H : Hp} (b : Box bx c H) {t : Addr} {ties : List (Int × Int)} (h : TiesAt H t ties) : Rp bx H (.ref t) (.tuple (ties.map pairD)) := by
  obtain ⟨o, ps, od, ht, pr⟩ := h
  exact .tup (.inr ⟨o, od, ht⟩) (b.neF ht) (pairs_rp b pr)
theorem SeenAt.rp {bx : Addr} {c : Int} {H : Hp} (b : Box bx c H) {t : Addr} {seen : List Int} (h : SeenAt H t seen) : Rp bx H (.ref t) (.tuple (seen.map PyData.int)) := by
  rcases h with ht | ⟨o, od, ht⟩
  · exact .tup (.inl ht) (b.neT ht) (RpAll.ints seen)
  · exact .tup (.inr ⟨o, od, ht⟩) (b.neF ht) (RpAll.ints seen)
theorem RuleAt.rp {bx : Addr} {c : Int} {H : Hp} (b : Box bx c H) {v : V} : ∀ {r : Rule}, RuleAt H v r → Rp bx H v r.data
  | .held n, ⟨a, e, h⟩ => by rw [e]; exact .tup (.inl h) (b.neT h) (.cons (.str _) (.cons (.int _) .nil))
  | .sum _ _, ⟨a, t, e, h, q⟩ => by rw [e]; exact .tup (.inl h) (b.neT h) (.cons (.str _) (.cons (.int _) (.cons (q.rp b) .nil)))
  | .cap _ _ _, ⟨a, t, e, h, q⟩ => by rw [e]; exact .tup (.inl h) (b.neT h) (.cons (.str _) (.cons (.int _) (.cons (q.rp b) (.cons (.int _) .nil))))
  | .kinds _ _, ⟨a, t, e, h, q⟩ => by rw [e]; exact .tup (.inl h) (b.neT h) (.cons (.str _) (.cons (.int _) (.cons (q.rp b) .nil)))
  | .next _, ⟨a, t, e, h, q⟩ => by rw [e]; exact .tup (.inl h) (b.neT h) (.cons (.str _) (.cons (q.rp b) .nil))
  | .free _, ⟨a, t, e, h, q⟩ => by rw [e]; exact .tup (.inl h) (b.neT h) (.cons (.str _) (.cons (q.rp b) .nil))
/-! ### data that can be shown -/
def tame (w : Nat) : Nat → PyData → Prop
  | _, .none => True
  | _, .bool _ => True
  | _, .int i => i.natAbs < 10 ^ 12
  | _, .str x => x.cps.size ≤ 10 ∧ ∀ c ∈ x.cps.toList, c < 16 ^ 8
  | n + 1, .list ds => ds.length ≤ w ∧ ∀ d ∈ ds, tame w n d
  | n + 1, .tuple ds => ds.length ≤ w ∧ ∀ d ∈ ds, tame w n d
  | _, _ => False
def Bk (w : Nat) : Nat → Nat
  | 0 => 10
  | n + 1 => 10 + w * (Bk w n + 1)
theorem Bk_ge (w : Nat) : ∀ n, 10 ≤ Bk w n
  | 0 => Nat.le_refl _
  | n + 1 => Nat.le_add_right _ _
theorem log_small {i : Int} (h : i.natAbs < 10 ^ 12) : i.natAbs.log2 < 1920 := by
  by_cases z : i.natAbs = 0
  · rw [z]; decide
  · rw [Nat.log2_lt z]
    exact Nat.lt_trans h (Nat.lt_of_lt_of_le (by decide : 10 ^ 12 < 2 ^ 40) (Nat.pow_le_pow_right (by decide) (by decide)))
structure Shown (n : Nat) (b : Nat) (d : PyData) : Prop where
  sh : d.showable = true
  nd : d.hasDict = false
  dp : d.depth ≤ n
  lv : d.leavesShort 13 = true
  bk : d.bulk ≤ b
theorem all_sh : ∀ {ds : List PyData} {n b : Nat}, (∀ d ∈ ds, Shown n b d) → PyData.showableAll ds = true ∧ PyData.hasDictAll ds = false ∧ PyData.depthAll ds ≤ n ∧ PyData.leavesShortAll 13 ds = true ∧ PyData.bulkAll ds ≤ ds.length * (b + 1)
  | [], n, b, _ => ⟨rfl, rfl, Nat.zero_le _, rfl, by show 0 ≤ _; omega⟩
  | d :: r, n, b, h => by
    have h1 := h d List.mem_cons_self
    obtain ⟨a1, a2, a3, a4, a5⟩ := all_sh (ds := r) (n := n) (b := b) (fun x hx => h x (List.mem_cons_of_mem _ hx))
    refine ⟨?_, ?_, ?_, ?_, ?_⟩
    · show (d.showable && PyData.showableAll r) = true
      rw [h1.sh, a1]; rfl
    · show (d.hasDict || PyData.hasDictAll r) = false
      rw [h1.nd, a2]; rfl
    · show max d.depth (PyData.depthAll r) ≤ n
      have := h1.dp
      omega
    · show (d.leavesShort 13 && PyData.leavesShortAll 13 r) = true
      rw [h1.lv, a4]; rfl
    · show d.bulk + 1 + PyData.bulkAll r ≤ (r.length + 1) * (b + 1)
      have := h1.bk
      rw [Nat.add_mul]
      omega
theorem tame_shown (w : Nat) : ∀ (n : Nat) (d : PyData), tame w n d → Shown n (Bk w n) d
  | n, .none, _ => ⟨rfl, rfl, Nat.zero_le _, rfl, Nat.zero_le _⟩
  | n, .bool _, _ => ⟨rfl, rfl, Nat.zero_le _, rfl, Nat.zero_le _⟩
  | n, .int i, h => by
    have h' : i.natAbs < 10 ^ 12 := by cases n <;> exact h
    exact ⟨decide_eq_true (log_small h'), rfl, Nat.zero_le _, decide_eq_true (PyData.shown_int_le h'), Nat.zero_le _⟩
  | n, .str x, h => by
    have h' : x.cps.size ≤ 10 ∧ ∀ c ∈ x.cps.toList, c < 16 ^ 8 := by cases n <;> exact h
    refine ⟨rfl, rfl, Nat.zero_le _, ?_, Nat.le_trans h'.1 (Bk_ge w n)⟩
    show (x.cps.toList.all fun c => decide (c < 16 ^ 8)) = true
    rw [List.all_eq_true]
    exact fun c hc => decide_eq_true (h'.2 c hc)
  | 0, .list _, h => h.elim
  | 0, .tuple _, h => h.elim
  | n + 1, .list ds, ⟨hl, h⟩ => by
    obtain ⟨a1, a2, a3, a4, a5⟩ := all_sh (fun d hd => tame_shown w n d (h d hd))
    refine ⟨a1, a2, Nat.succ_le_succ a3, a4, ?_⟩
    show PyData.bulkAll ds ≤ 10 + w * (Bk w n + 1)
    have := Nat.mul_le_mul_right (Bk w n + 1) hl
    omega
  | n + 1, .tuple ds, ⟨hl, h⟩ => by
    obtain ⟨a1, a2, a3, a4, a5⟩ := all_sh (fun d hd => tame_shown w n d (h d hd))
    refine ⟨a1, a2, Nat.succ_le_succ a3, a4, ?_⟩
    show PyData.bulkAll ds ≤ 10 + w * (Bk w n + 1)
    have := Nat.mul_le_mul_right (Bk w n + 1) hl
    omega
  | 0, .dict _, h => h.elim
  | n + 1, .dict _, h => h.elim
theorem tame_fits {w n : Nat} {d : PyData} (h : tame w n d) (hb : Bk w n ≤ 2 ^ 20) : d.shown.length ≤ sizeLine :=
  PyData.shown_fits_bulk (B := 13) (by decide) (by decide) (tame_shown w n d h).lv (Nat.le_trans (tame_shown w n d h).bk hb)
theorem tame_ok {w : Nat} (hw : w ≤ 8388608) : ∀ (n : Nat) (d : PyData), tame w n d → okD n d
  | n, .none, _ => by cases n <;> trivial
  | n, .bool _, _ => by cases n <;> trivial
  | n, .int i, _ => by cases n <;> trivial
  | n, .str x, _ => by cases n <;> trivial
  | 0, .list _, h => h.elim
  | 0, .tuple _, h => h.elim
  | n + 1, .list ds, ⟨hl, h⟩ => ⟨Nat.le_trans hl hw, fun d hd => tame_ok hw n d (h d hd)⟩
  | n + 1, .tuple ds, ⟨hl, h⟩ => ⟨Nat.le_trans hl hw, fun d hd => tame_ok hw n d (h d hd)⟩
  | 0, .dict _, h => h.elim
  | n + 1, .dict _, h => h.elim
theorem tame_int {w n : Nat} {i : Int} (h : i.natAbs < 10 ^ 12) : tame w n (.int i) := by cases n <;> exact h
theorem tame_word {w n : Nat} {x : Str} (h : x.cps.size ≤ 10 ∧ ∀ c ∈ x.cps.toList, c < 16 ^ 8) : tame w n (.str x) := by cases n <;> exact h
theorem tame_pairs {w n : Nat} (hw : 2 ≤ w) {l : List (Int × Int)} (h : ∀ q ∈ l, q.1.natAbs < 10 ^ 12 ∧ q.2.natAbs < 10 ^ 12) (hl : l.length ≤ w) : tame w (n + 2) (.tuple (l.map pairD)) := by
  refine ⟨by rw [List.length_map]; exact hl, fun d hd => ?_⟩
  obtain ⟨q, hq, rfl⟩ := List.mem_map.mp hd
  refine ⟨hw, fun x hx => ?_⟩
  have := h q hq
  rcases List.mem_cons.mp hx with e | e
  · rw [e]; exact tame_int this.1
  · rw [List.mem_singleton.mp e]; exact tame_int this.2
theorem tame_seen {w n : Nat} {l : List Int} (h : ∀ q ∈ l, q.natAbs < 10 ^ 12) (hl : l.length ≤ w) : tame w (n + 1) (.tuple (l.map PyData.int)) := by
  refine ⟨by rw [List.length_map]; exact hl, fun d hd => ?_⟩
  obtain ⟨q, hq, rfl⟩ := List.mem_map.mp hd
  exact tame_int (h q hq)
theorem tame_rule {w : Nat} (hw : 4 ≤ w) {many : Int} (hm : many ≤ 1000000) : ∀ {r : Rule}, r.Wf many → r.persons.length ≤ w → tame w 3 r.data
  | .held n, h, _ => by
    have h' : 0 ≤ n ∧ n ≤ 1000000 := by
      first
        | exact h
        | exact ⟨(show smallI n from h).1, Int.le_trans (show smallI n from h).2 (by decide)⟩
    refine ⟨by show 2 ≤ w; omega, fun d hd => ?_⟩
    simp only [List.mem_cons, List.not_mem_nil, or_false] at hd
    rcases hd with rfl | rfl
    · exact tame_word (by decide +kernel)
    · exact tame_int (by omega)
  | .sum own ties, ⟨ho, rs, w1⟩, hl => by
    unfold smallI at ho
    have hl' : ties.length ≤ w := by simpa [Rule.persons] using hl
    refine ⟨by show 3 ≤ w; omega, fun d hd => ?_⟩
    simp only [List.mem_cons, List.not_mem_nil, or_false] at hd
    rcases hd with rfl | rfl | rfl
    · exact tame_word (by decide +kernel)
    · exact tame_int (by omega)
    · refine tame_pairs (by omega) (fun q hq => ?_) hl'
      have h1 := rs.2 _ (List.mem_map_of_mem (f := (·.1)) hq)
      have h2 := w1 q hq
      omega
  | .cap own ties most, ⟨ho, rs, w1, hmo⟩, hl => by
    unfold smallI at ho hmo
    have hl' : ties.length ≤ w := by simpa [Rule.persons] using hl
    refine ⟨by show 4 ≤ w; omega, fun d hd => ?_⟩
    simp only [List.mem_cons, List.not_mem_nil, or_false] at hd
    rcases hd with rfl | rfl | rfl | rfl
    · exact tame_word (by decide +kernel)
    · exact tame_int (by omega)
    · refine tame_pairs (by omega) (fun q hq => ?_) hl'
      have h1 := rs.2 _ (List.mem_map_of_mem (f := (·.1)) hq)
      have h2 := w1 q hq
      omega
    · exact tame_int (by omega)
  | .kinds own seen, ⟨ho, rs⟩, hl => by
    unfold smallI at ho
    refine ⟨by show 3 ≤ w; omega, fun d hd => ?_⟩
    simp only [List.mem_cons, List.not_mem_nil, or_false] at hd
    rcases hd with rfl | rfl | rfl
    · exact tame_word (by decide +kernel)
    · exact tame_int (by omega)
    · exact tame_seen (fun q hq => by have := rs.2 q hq; omega) hl
  | .next seen, rs, hl => by
    have rs' : Rising many seen := rs
    refine ⟨by show 2 ≤ w; omega, fun d hd => ?_⟩
    simp only [List.mem_cons, List.not_mem_nil, or_false] at hd
    rcases hd with rfl | rfl
    · exact tame_word (by decide +kernel)
    · exact tame_seen (fun q hq => by have := rs'.2 q hq; omega) hl
  | .free seen, rs, hl => by
    have rs' : Rising many seen := rs
    refine ⟨by show 2 ≤ w; omega, fun d hd => ?_⟩
    simp only [List.mem_cons, List.not_mem_nil, or_false] at hd
    rcases hd with rfl | rfl
    · exact tame_word (by decide +kernel)
    · exact tame_seen (fun q hq => by have := rs'.2 q hq; omega) hl
end Lh

namespace LhN
open PySem PySem.Spec PyProof.Rows
section
variable {prog : Program} {w : World} {A : Around} {E : Value → Shared → Prop} {s : Shared} {K : PySem.W.Frag} {x y C L f : Addr} {h₀ : Heap} {m : Str → Option Value} {ox oy : Obj} {od od' : Option Obj}
theorem ifBound_objNe {M : Model} {args : List Value} {Q : Option Value → Shared → Prop} (X : K.In s.heap) (I : PySem.W.InstAt s.heap x ox C od) (hs : PySem.W.findIn K (.ref C) "__ne__" = some (some (.builtin "object.__ne__")))
    (h : wpAny M A (call (.builtin "object.__ne__") (.ref x :: args)) (fun v => Q (some v)) E s) : wpAny M A (callSpecialIfBound? (.ref x) "__ne__" args) Q E s := by
  simp only [callSpecialIfBound?, bindSpecialIfBound?]
  refine wpAny_holding (wpAny_bind (wpAny_bind (wpAny_bind (I.type.here ((PySem.W.looks_findIn X hs).here ?_)))))
  refine wpAny_bind (wpAny_askSetting (wpAny_ite ?_))
  have fin : wpAny M A (call (.builtin "object.__ne__") ([.ref x] ++ args) >>= fun v => pure (some v)) Q E s := wpAny_bind (wpAny_mono h (fun v s' h' => wpAny_pure h') fun _ _ h' => h')
  split
  · exact wpAny_bind (wpAny_of_eq (F.cmp_object.ne.bind _) (wpAny_pure (by exact fin)))
  · exact wpAny_tryCatch (wpAny_bind (wpAny_of_eq (F.cmp_object.ne.bind _) (wpAny_pure (by exact fin))))
theorem entry_ne (hu : A.units < cLine) (X : K.In s.heap) (I : PySem.W.InstAt s.heap x ox C od) (hs : PySem.W.findIn K (.ref C) "__eq__" = some (some (.ref f))) (hf : PySem.W.isFn K (.ref f) = true) {Q : Fin → Shared → Prop}
    (hcall : wpAny (model prog w) A (call (.ref f) [.ref x, .ref y]) (fun v s' => ∃ b, v = .bool b ∧ Q (.done (.ret (.bool (!b)))) s') E s) :
    wpAny (model prog w) A (Builtin.«object.__ne__» ⟨[.ref x, .ref y], []⟩) Q E s := by
  unfold Builtin.«object.__ne__»
  repeat (first
    | with_reducible refine wpAny_cRoomFor hu ?_
    | (refine wpAny_bind (m := callSpecialIfBound? (.ref x) (Str.ofString "__eq__") [.ref y])
        (PySem.W.ifBound_K X I hs hf (wpAny_mono hcall (fun r s' hr => by
          obtain ⟨b, rfl, hq⟩ := hr
          repeat (first | exact hq | exact wpAny_pure hq | exact wpAny_truthy_bool hq | (refine wpAny_bind (m := truthy (.bool _)) (wpAny_truthy_bool ?_)) | wp_step)) fun _ _ e => e)))
    | wp_step)
theorem ne_K {Q : Value → Shared → Prop} (hu : A.units < cLine) (hu1 : A.in1.units < cLine) (X : K.In s.heap) (I : PySem.W.InstAt s.heap x ox C od) (J : PySem.W.InstAt s.heap y oy C od')
    (hn : PySem.W.findIn K (.ref C) "__ne__" = some (some (.builtin "object.__ne__"))) (hm : PySem.W.mroIn K C (.type "object") = some true) (hs : PySem.W.findIn K (.ref C) "__eq__" = some (some (.ref f))) (hf : PySem.W.isFn K (.ref f) = true)
    (h : wpAny (model prog w) A.in1 (call (.ref f) [.ref x, .ref y]) (fun v s' => ∃ b, v = .bool b ∧ Q (.bool (!b)) s') E s) : wpAny (model prog w) A (richCompare .NotEq (.ref x) (.ref y)) Q E s := by
  have one : wpAny (model prog w) A (tryCompare (.ref x) "__ne__" (.ref y)) (fun r s' => ∃ v, r = some v ∧ Q v s') E s := by
    unfold tryCompare
    refine wpAny_bind (ifBound_objNe X I hn (wpAny_call (codeAny_call_builtin F.cmp_object.ne.plain F.cmpEntry_ne (PySem.W.check_slot F.cmpKind_ne F.cmpSplit_ne (I.type.andThen (PySem.W.looks_mroIn X hm)) (F.cmpArgs_ne _ _) (entry_ne (A := A.in1) hu1 X I hs hf (wpAny_mono h (fun v s' hv => ?_) fun _ _ e => e))))))
    obtain ⟨b, rfl, hq⟩ := hv
    first | exact ⟨b, rfl, wpAny_pure ⟨_, rfl, hq⟩⟩ | exact ⟨b, rfl, wpAny_pure (wpAny_pure ⟨_, rfl, hq⟩)⟩ | exact ⟨b, rfl, _, rfl, hq⟩
  unfold richCompare
  simp only [oneThing_ref]
  refine wpAny_holding (wpAny_bind (wpAny_cRoomFor hu ?_))
  rw [cmpInfo_NotEq]
  dsimp only
  refine wpAny_bind (I.type.here (wpAny_bind (J.type.here ?_)))
  rw [show (Value.ref C != Value.ref C) = false from by simp]
  simp only [Bool.false_eq_true, if_false]
  refine wpAny_bind (wpAny_pure ?_)
  simp only [Bool.false_eq_true, if_false]
  refine wpAny_bind (wpAny_mono one (fun r s' z => ?_) fun _ _ e => e)
  obtain ⟨v, rfl, hq⟩ := z
  exact wpAny_pure hq
end
end LhN
namespace Lh
open PySem PySem.Spec PyProof.Rows L2
theorem op_neIns {X : Cx} {k : Nat} {f C : Addr} {fd : FuncData} {ps : List Str} {sp : Sp} (hn : PySem.W.findIn X.K (.ref C) "__ne__" = some (some (.builtin "object.__ne__"))) (hm : PySem.W.mroIn X.K C (.type "object") = some true)
    (me : Meth X.K C "__eq__" f) (F : FnOk X.prog X.w X.K X.mg X.base CX0 k f fd ps sp) (hb : Binds X.K fd ps []) (hr : Room (k + 1) X.A) :
    OpR X (compareOp .NotEq) (fun x y H Q => ∃ (a b dx dy : Addr) (fs gs : List (Str × V)), x = .ref a ∧ y = .ref b ∧ H a = some (.ins C dx fs) ∧ H b = some (.ins C dy gs) ∧ sp [.ref a, .ref b] H (fun v H' => ∃ t : Bool, v = .bl t ∧ Q (.bl (!t)) H') E0) := by
  intro pins s σ H x y v u Q I rx ry hq
  obtain ⟨a, b, dx, dy, fs, gs, rfl, rfl, ha, hb', h⟩ := hq
  cases rx
  cases ry
  show wpAny (model X.prog X.w) X.A (richCompare .NotEq (.ref a) (.ref b)) (EP X pins σ Q) X.xe s
  obtain ⟨mA, J, _⟩ := ins_get I.hok ha
  obtain ⟨mB, J', _⟩ := ins_get I.hok hb'
  obtain ⟨od, J, _⟩ := J.look
  obtain ⟨od', J', _⟩ := J'.look
  refine LhN.ne_K hr.units0 hr.in1.units0 I.kIn J J' hn hm me.at_ me.fn ?_
  have e0 := I.env0
  have e1 : Env0 X.prog X.w X.K X.mg X.base X.A.in1 X.stack s H := ⟨e0.frames, e0.mod, e0.bs, e0.bsz, e0.funs, e0.frf, e0.hok, e0.bare⟩
  have hl : ([Value.ref a, Value.ref b] ++ []).length = ps.length := by rw [← F.len _ _ _ _ h]; rfl
  have bb := hb s [.ref a, .ref b] I.kIn hl
  rw [List.append_nil] at bb
  have vv : Vals [V.ref a, V.ref b] [Value.ref a, Value.ref b] := .cons rfl (.cons rfl .nil)
  have run := F.run X.A.in1 X.stack s H ⟨[.ref a, .ref b], []⟩ [.ref a, .ref b] [.ref a, .ref b] _ E0 hr.in1 e1 bb vv h
  refine wpAny_call (codeAny_mono run ?_)
  rintro (e | fl) t ht
  · exact False.elim ht
  cases fl with
  | next => exact False.elim ht
  | brk => exact False.elim ht
  | cont => exact False.elim ht
  | ret z =>
    obtain ⟨v, H', J2, rv, n, rfl, q⟩ := I.after ht
    cases (show z = Value.bool n from rv)
    exact ⟨n, rfl, .bl (!n), H', J2, rfl, q⟩
theorem lay_prsN : ∀ ps : List (Int × Int), PyData.canLayAll0 (ps.map pairD) = true ∧ PyData.depthAll (ps.map pairD) ≤ 1
  | [] => ⟨rfl, Nat.zero_le _⟩
  | q :: r => by
    obtain ⟨h1, h2⟩ := lay_prsN r
    refine ⟨?_, ?_⟩
    · show ((true && (true && true)) && PyData.canLayAll0 (r.map pairD)) = true
      rw [h1]; rfl
    · show max (max 0 (max 0 0) + 1) (PyData.depthAll (r.map pairD)) ≤ 1
      omega
theorem lay_rule : ∀ r : Rule, PyData.canLay0 r.data = true ∧ PyData.depth r.data ≤ 3
  | .held n => ⟨by show (PyData.canLay0 (.str "held") && (true && true)) = true; decide +kernel, by show max 0 (max 0 0) + 1 ≤ 3; omega⟩
  | .sum own ties => by
    obtain ⟨h1, h2⟩ := lay_prsN ties
    refine ⟨?_, ?_⟩
    · show (PyData.canLay0 (.str "sum") && (true && (PyData.canLayAll0 (ties.map pairD) && true))) = true
      rw [h1]; decide +kernel
    · show max 0 (max 0 (max (PyData.depthAll (ties.map pairD) + 1) 0)) + 1 ≤ 3
      omega
  | .cap own ties most => by
    obtain ⟨h1, h2⟩ := lay_prsN ties
    refine ⟨?_, ?_⟩
    · show (PyData.canLay0 (.str "cap") && (true && (PyData.canLayAll0 (ties.map pairD) && (true && true)))) = true
      rw [h1]; decide +kernel
    · show max 0 (max 0 (max (PyData.depthAll (ties.map pairD) + 1) (max 0 0))) + 1 ≤ 3
      omega
  | .kinds own seen => by
    refine ⟨?_, ?_⟩
    · show (PyData.canLay0 (.str "kinds") && (true && (PyData.canLayAll0 (seen.map PyData.int) && true))) = true
      rw [canLay_ints]; decide +kernel
    · show max 0 (max 0 (max (PyData.depthAll (seen.map PyData.int) + 1) 0)) + 1 ≤ 3
      rw [depth_ints]; omega
  | .next seen => by
    refine ⟨?_, ?_⟩
    · show (PyData.canLay0 (.str "next") && (PyData.canLayAll0 (seen.map PyData.int) && true)) = true
      rw [canLay_ints]; decide +kernel
    · show max 0 (max (PyData.depthAll (seen.map PyData.int) + 1) 0) + 1 ≤ 3
      rw [depth_ints]; omega
  | .free seen => by
    refine ⟨?_, ?_⟩
    · show (PyData.canLay0 (.str "free") && (PyData.canLayAll0 (seen.map PyData.int) && true)) = true
      rw [canLay_ints]; decide +kernel
    · show max 0 (max (PyData.depthAll (seen.map PyData.int) + 1) 0) + 1 ≤ 3
      rw [depth_ints]; omega
theorem lay_rules : ∀ rs : List Rule, PyData.canLayAll0 (rs.map Rule.data) = true ∧ PyData.depthAll (rs.map Rule.data) ≤ 3
  | [] => ⟨rfl, Nat.zero_le _⟩
  | r :: t => by
    obtain ⟨h1, h2⟩ := lay_rules t
    obtain ⟨h3, h4⟩ := lay_rule r
    refine ⟨?_, ?_⟩
    · show (PyData.canLay0 r.data && PyData.canLayAll0 (t.map Rule.data)) = true
      rw [h1, h3]; rfl
    · show max (PyData.depth r.data) (PyData.depthAll (t.map Rule.data)) ≤ 3
      omega
theorem shaped_rules (rs : List Rule) : SeqAt.shaped (.tuple (rs.map Rule.data)) = true := by
  show (PyData.canLayAll0 (rs.map Rule.data) && decide (PyData.depthAll (rs.map Rule.data) + 1 ≤ 64)) = true
  rw [(lay_rules rs).1, decide_eq_true (by have := (lay_rules rs).2; omega)]
  rfl
theorem eqv_rules (rs : List Rule) : PyData.eqv (.tuple (rs.map Rule.data)) (.tuple (rs.map Rule.data)) = true := by
  first
    | exact eqv_refl _ (lay_rules rs).1
    | exact PyData.eqv_refl _ (lay_rules rs).1
    | exact SeqAt.eqv_refl _ (lay_rules rs).1
theorem RulesAt.rpN {bx : Addr} {c : Int} {H : Hp} (b : Box bx c H) : ∀ {us : List V} {rs : List Rule}, RulesAt H us rs → RpAll bx H us (rs.map Rule.data)
  | _, _, .nil => .nil
  | _, _, .cons h r => .cons (h.rp b) (RulesAt.rpN b r)
section
variable {P : Program} {w : World} {K : PySem.W.Frag} {mg : Str → Option Value} {base : Heap}
def spHallEq (C : Addr) : Sp := fun vs H Q _ => ∃ (bx x y : Addr) (c : Int) (rs : List Rule), vs = [.ref x, .ref y] ∧ Box bx c H ∧ HallAt C H x rs ∧ HallAt C H y rs ∧ Q (.bl true) H
theorem ok_Hall_eq (T : Txt K mg w) : FnOk P w K mg base CX0 1 T.f_Hall_eq T.fd_Hall_eq p_Hall_eq (spHallEq T.C_Hall) := by
  refine T.F_Hall_eq.ok sc_Hall_eq (fun vs H Q E h => ?_) (fun cdv A outer s H vs Q E hr h => ?_)
  · obtain ⟨bx, x, y, c, rs, rfl, _⟩ := h
    rfl
  · obtain ⟨bx, x, y, c, rs, rfl, hB, ⟨dx, t, vs, hx, ht, hv⟩, ⟨dy, u, us, hy, hu, hw⟩, q⟩ := h
    refine ⟨_, (pss_one (ps_ret (pe_and (pe_callB (C8.call_isC T.is_Hall) (by rfl) T.m_isinstance (by decide +kernel) (pa_cons (pv 1) (pa_cons (pe_glob (v := .ref T.C_Hall) (by rfl) T.g_Hall rfl) pa_nil))) (pe_one (pe_cmpR (op_eqD hr.units) (pe_fld (pv 0) rfl) (pe_fld (pv 1) rfl) (nomark _)))))), ?_⟩
    refine ⟨.ref y, rfl, y, dy, _, rfl, hy, _, rfl, iteP rfl ?_⟩
    refine ⟨.ref x, rfl, x, T.C_Hall, dx, _, _, rfl, hx, T.cl_Hall, T.na_Hall_kept, kept_yes _, .ref y, rfl, y, T.C_Hall, dy, _, _, rfl, hy, T.cl_Hall, T.na_Hall_kept, kept_yes _, ?_⟩
    refine ⟨.tuple (rs.map Rule.data), .tuple (rs.map Rule.data), .tup ht.sq (RpAll.dp (bx := bx) (RulesAt.rpN hB hv)), .tup hu.sq (RpAll.dp (bx := bx) (RulesAt.rpN hB hw)), shaped_rules rs, shaped_rules rs, ?_⟩
    rw [eqv_rules]
    exact q
end
end Lh

namespace Lh
open PySem PySem.Spec PyProof.Rows L2
section
variable {P : Program} {w : World} {K : PySem.W.Frag} {mg : Str → Option Value} {base : Heap}
def spSeen : Sp := fun vs H Q _ => ∃ (v : V) (r : Rule), vs = [v] ∧ RuleAt H v r ∧ r.persons.length ≤ 1000 ∧ ∀ (p : Addr) (ps : List Addr) (H' : Hp), Same H H' → H p = none → H' p = some (.lst (ps.map V.ref)) → Paired (PairAtH H') ps (seenPairs r) → Q (.ref p) H'
theorem ok_seen (T : Txt K mg w) : FnOk P w K mg base CX0 1 T.f_seen T.fd_seen p_seen spSeen := by
  refine T.F_seen.ok sc_seen (fun vs H Q E h => ?_) (fun cdv A outer s H vs Q E hr h => ?_)
  · obtain ⟨v, r, rfl, _⟩ := h
    rfl
  · obtain ⟨v, r, rfl, hv, hl, q⟩ := h
    refine ⟨_, (pss_cons (ps_if (pt_cmpR op_eq (pe_ix ix_tup (pv 0) pe_int (fun _ _ => rfl)) pe_str (nomark _))
        (pss_one (ps_ret (pe_lst pa_nil)))
        pss_nil)
      (pss_one (ps_ret (pe_ifExp (pt_cmpR op_in_seq (pe_ix ix_tup (pv 0) pe_int (fun _ _ => rfl)) (pe_tup (pa_cons pe_str (pa_cons pe_str pa_nil))) (by rfl)) (pe_callTy call_list_of (by rfl) T.m_list (by decide +kernel) (pa_cons (pe_ix ix_tup (pv 0) pe_int (fun _ _ => rfl)) pa_nil)) (pe_lc (own := [("_law_one", 1)]) (g := gName 1) (by rfl) sc_seen.nd (pi_tup (pe_ix ix_tup (pv 0) (pe_un un_neg pe_int) (fun _ _ => rfl))) (blkOk_by (own := [("_law_one", 1)]) (N := n_seen) (sc := defScope s_seen) (by decide +kernel)) (fun _ _ _ _ _ => (pg_name (i := 1) sc_seen.nd rfl (.inl rfl) (.inr rfl))) (fun _ _ _ _ _ => pts_nil) (fun _ _ _ _ _ => (pe_tup (pa_cons (pv 1) (pa_cons pe_int pa_nil))))))))), ?_⟩
    cases r with
    | held n =>
      obtain ⟨a, rfl, ha⟩ := hv
      refine ⟨.ref a, rfl, a, _, 0, _, rfl, rfl, .inl (.inl ha), rfl, rfl, _, rfl, iteP (by decide +kernel) ?_⟩
      exact ⟨Nat.zero_le _, fun p np => q p [] _ (same_upd np) np upd_same .nil⟩
    | sum own ties =>
      obtain ⟨a, t, rfl, ha, o, ps, od, ht, pr⟩ := hv
      refine ⟨.ref a, rfl, a, _, 0, _, rfl, rfl, .inl (.inl ha), rfl, rfl, _, rfl, iteN (by decide +kernel) ?_⟩
      refine ⟨.ref a, rfl, a, _, 0, _, rfl, rfl, .inl (.inl ha), rfl, by show 2 ≤ sizeLine; decide, fun u hu => ⟨u, _, rfl, .inr (.inl (.inl upd_same)), rfl, rfl, _, rfl, iteP (by decide +kernel) ?_⟩⟩
      have s1 := same_upd (o := .tup [.str "sum", .str "cap"]) hu
      refine ⟨.ref a, rfl, a, _, 2, _, rfl, rfl, .inl (.inl (s1 _ _ ha)), rfl, t, _, rfl, .inr (.inl (.inr ⟨o, s1 _ _ ht⟩)), fun p np => ?_⟩
      exact q p ps _ (s1.trans (same_upd np)) (s1.free np) upd_same (pairs_keep (Keep.same (s1.trans (same_upd np))) pr)
    | cap own ties most =>
      obtain ⟨a, t, rfl, ha, o, ps, od, ht, pr⟩ := hv
      refine ⟨.ref a, rfl, a, _, 0, _, rfl, rfl, .inl (.inl ha), rfl, rfl, _, rfl, iteN (by decide +kernel) ?_⟩
      refine ⟨.ref a, rfl, a, _, 0, _, rfl, rfl, .inl (.inl ha), rfl, by show 2 ≤ sizeLine; decide, fun u hu => ⟨u, _, rfl, .inr (.inl (.inl upd_same)), rfl, rfl, _, rfl, iteP (by decide +kernel) ?_⟩⟩
      have s1 := same_upd (o := .tup [.str "sum", .str "cap"]) hu
      refine ⟨.ref a, rfl, a, _, 2, _, rfl, rfl, .inl (.inl (s1 _ _ ha)), rfl, t, _, rfl, .inr (.inl (.inr ⟨o, s1 _ _ ht⟩)), fun p np => ?_⟩
      exact q p ps _ (s1.trans (same_upd np)) (s1.free np) upd_same (pairs_keep (Keep.same (s1.trans (same_upd np))) pr)
    | kinds own seen =>
      obtain ⟨a, t, rfl, ha, hs⟩ := hv
      refine ⟨.ref a, rfl, a, _, 0, _, rfl, rfl, .inl (.inl ha), rfl, rfl, _, rfl, iteN (by decide +kernel) ?_⟩
      refine ⟨.ref a, rfl, a, _, 0, _, rfl, rfl, .inl (.inl ha), rfl, by show 2 ≤ sizeLine; decide, fun u hu => ⟨u, _, rfl, .inr (.inl (.inl upd_same)), rfl, rfl, _, rfl, iteN (by decide +kernel) ?_⟩⟩
      have s1 := same_upd (o := .tup [.str "sum", .str "cap"]) hu
      have hs1 := hs.keep (Keep.same s1)
      refine ⟨.ref a, rfl, 1, rfl, a, _, -1, _, rfl, rfl, .inl (.inl (s1 _ _ ha)), rfl, t, rfl, ⟨_, TupAt.sq hs1⟩, fun D hD => ?_⟩
      exact lc_ones hs1 hD hl (fun _ => rfl) (fun _ => rfl) (fun H3 ps s3 h3 pr => q D ps H3 (s1.trans s3) (s1.free hD) h3 pr)
    | next seen =>
      obtain ⟨a, t, rfl, ha, hs⟩ := hv
      refine ⟨.ref a, rfl, a, _, 0, _, rfl, rfl, .inl (.inl ha), rfl, rfl, _, rfl, iteN (by decide +kernel) ?_⟩
      refine ⟨.ref a, rfl, a, _, 0, _, rfl, rfl, .inl (.inl ha), rfl, by show 2 ≤ sizeLine; decide, fun u hu => ⟨u, _, rfl, .inr (.inl (.inl upd_same)), rfl, rfl, _, rfl, iteN (by decide +kernel) ?_⟩⟩
      have s1 := same_upd (o := .tup [.str "sum", .str "cap"]) hu
      have hs1 := hs.keep (Keep.same s1)
      refine ⟨.ref a, rfl, 1, rfl, a, _, -1, _, rfl, rfl, .inl (.inl (s1 _ _ ha)), rfl, t, rfl, ⟨_, TupAt.sq hs1⟩, fun D hD => ?_⟩
      exact lc_ones hs1 hD hl (fun _ => rfl) (fun _ => rfl) (fun H3 ps s3 h3 pr => q D ps H3 (s1.trans s3) (s1.free hD) h3 pr)
    | free seen =>
      obtain ⟨a, t, rfl, ha, hs⟩ := hv
      refine ⟨.ref a, rfl, a, _, 0, _, rfl, rfl, .inl (.inl ha), rfl, rfl, _, rfl, iteN (by decide +kernel) ?_⟩
      refine ⟨.ref a, rfl, a, _, 0, _, rfl, rfl, .inl (.inl ha), rfl, by show 2 ≤ sizeLine; decide, fun u hu => ⟨u, _, rfl, .inr (.inl (.inl upd_same)), rfl, rfl, _, rfl, iteN (by decide +kernel) ?_⟩⟩
      have s1 := same_upd (o := .tup [.str "sum", .str "cap"]) hu
      have hs1 := hs.keep (Keep.same s1)
      refine ⟨.ref a, rfl, 1, rfl, a, _, -1, _, rfl, rfl, .inl (.inl (s1 _ _ ha)), rfl, t, rfl, ⟨_, TupAt.sq hs1⟩, fun D hD => ?_⟩
      exact lc_ones hs1 hD hl (fun _ => rfl) (fun _ => rfl) (fun H3 ps s3 h3 pr => q D ps H3 (s1.trans s3) (s1.free hD) h3 pr)
end
end Lh

namespace Lh
open PySem PySem.Spec PyProof.Rows L2
def numB : PyData → Bool
  | .int i => decide (0 ≤ i)
  | _ => false
section
variable {P : Program} {w : World} {K : PySem.W.Frag} {mg : Str → Option Value} {base : Heap}
theorem fn_or {k : Nat} {f : Addr} {fd : FuncData} {ps : List Str} {s1 s2 : Sp} (a : FnOk P w K mg base CX0 k f fd ps s1) (b : FnOk P w K mg base CX0 k f fd ps s2) : FnOk P w K mg base CX0 k f fd ps (fun vs H Q E => s1 vs H Q E ∨ s2 vs H Q E) := by
  refine ⟨fun vs H Q E h => ?_, fun B out t H args us vs Q E hr e0 hb r h => ?_⟩
  · rcases h with h | h
    · exact a.len vs H Q E h
    · exact b.len vs H Q E h
  · rcases h with h | h
    · exact a.run B out t H args us vs Q E hr e0 hb r h
    · exact b.run B out t H args us vs Q E hr e0 hb r h
def spIsNumD : Sp := fun vs H Q _ => ∃ (bx : Addr) (v : V) (d : PyData), vs = [v] ∧ Rp bx H v d ∧ Q (.bl (numB d)) H
theorem ok_is_numberD (T : Txt K mg w) : FnOk P w K mg base CX0 1 T.f_is_number T.fd_is_number p_is_number spIsNumD := by
  refine T.F_is_number.ok sc_is_number (fun vs H Q E h => ?_) (fun cdv A outer s H vs Q E hr h => ?_)
  · obtain ⟨bx, v, d, rfl, _⟩ := h
    rfl
  · obtain ⟨bx, v, d, rfl, hv, q⟩ := h
    refine ⟨_, (pss_one (ps_ret (pe_and (pe_callB call_isi (by rfl) T.m_isinstance (by decide +kernel) (pa_cons (pv 0) (pa_cons (pe_bltn (v := .ty "int") (by rfl) T.m_int (by decide +kernel) rfl) pa_nil))) (pe_and (pe_not (pe_callB call_isi (by rfl) T.m_isinstance (by decide +kernel) (pa_cons (pv 0) (pa_cons (pe_bltn (v := .ty "bool") (by rfl) T.m_bool (by decide +kernel) rfl) pa_nil)))) (pe_one (pe_cmpR op_ge (pv 0) pe_int (nomark _))))))), ?_⟩
    have ty := hv.ty (K := K)
    cases d with
    | int i =>
      cases hv
      refine rd_isi (x := .int i) (T := "int") rfl (.base (.int i)) (by decide +kernel : kitB "int" "int" = some true) ⟨_, rfl, iteP rfl ?_⟩
      refine rd_isi (x := .int i) (T := "int") rfl (.base (.int i)) (by decide +kernel : kitB "int" "bool" = some false) ⟨_, rfl, _, rfl, iteP rfl ?_⟩
      exact ⟨.int i, rfl, i, 0, rfl, rfl, q⟩
    | bool b =>
      refine rd_isi (x := v) (T := "bool") rfl ty (by decide +kernel : kitB "bool" "int" = some true) ⟨_, rfl, iteP rfl ?_⟩
      exact rd_isi (x := v) (T := "bool") rfl ty (by decide +kernel : kitB "bool" "bool" = some true) ⟨_, rfl, _, rfl, iteN rfl q⟩
    | none => exact rd_isi (x := v) (T := "NoneType") rfl ty (by decide +kernel : kitB "NoneType" "int" = some false) ⟨_, rfl, iteN rfl q⟩
    | str x => exact rd_isi (x := v) (T := "str") rfl ty (by decide +kernel : kitB "str" "int" = some false) ⟨_, rfl, iteN rfl q⟩
    | list ds => exact rd_isi (x := v) (T := "list") rfl ty (by decide +kernel : kitB "list" "int" = some false) ⟨_, rfl, iteN rfl q⟩
    | tuple ds => exact rd_isi (x := v) (T := "tuple") rfl ty (by decide +kernel : kitB "tuple" "int" = some false) ⟨_, rfl, iteN rfl q⟩
    | _ => cases hv
end
end Lh

namespace Lh
open PySem PySem.Spec PyProof.Rows L2
/-! ### comprehensions that leave all as it was -/
theorem lc_map {J : It} {n : Nat} {G : Hp → Prop} {Y : Nat → Hp → V → Hp → Prop} (wk : Walk J n G Y) {g : TG} {te : TE} {vs : List Nat} {σ : L2.St} {H1 : Hp} {D : Addr} {Qd : Hp → Prop} (f : Nat → V) (hD : H1 D = none) (hn : n ≤ 1000) (hG : ∀ H3, Same H1 H3 → G H3)
    (hs : ∀ i x H3 H4, i < n → Same H1 H3 → Y i H3 x H4 → ∀ (Q : VK) (Z : Hp → Prop), (∀ H5, Same H3 H5 → Q (f i) H5) → g x (wipe σ vs) H4 fun σ2 H2 => wipe σ2 vs = wipe σ vs ∧ tYes σ2 H2 fun b H3 => if b = true then te σ2 H3 Q else Z H3)
    (hq : ∀ H', Same H1 H' → H' D = some (.lst ((List.range n).map f)) → Qd H') :
    ∃ W : Nat → Nat → Hp → Prop, (∃ m, W 0 m (upd H1 D (.lst []))) ∧ ∀ i m H, W i m H →
      (J.stop i H ∧ Qd H) ∨ (J.go i H ∧ ∃ Nx : Hp → Prop, (∀ H', Nx H' → ∃ m', m' < m ∧ W (i + 1) m' H') ∧ ∀ x H', J.yld i H x H' → g x (wipe σ vs) H' fun σ2 H2 => wipe σ2 vs = wipe σ vs ∧ tYes σ2 H2 fun b H3 =>
        if b = true then te σ2 H3 fun y H4 => ∃ acc, H4 D = some (.lst acc) ∧ acc.length < sizeLine ∧ Nx (upd H4 D (.lst (acc ++ [y]))) else Nx H3) := by
  refine lc_it wk (fun i H3 => Same H1 H3 ∧ H3 D = some (.lst ((List.range i).map f))) ⟨same_upd hD, upd_same⟩ (fun i H3 _ h => hG H3 h.1) ?_ (fun H3 h => hq H3 h.1 h.2)
  rintro i x H3 H4 hi ⟨sm, h3⟩ hy
  refine hs i x H3 H4 hi sm hy _ _ (fun H5 s5 => ⟨_, s5 _ _ h3, ?_, same_mut (sm.trans s5) hD, ?_⟩)
  · rw [List.length_map, List.length_range]; exact small1000 (by omega)
  · rw [upd_same, List.range_succ, List.map_append]; rfl
theorem lc_filt {J : It} {n : Nat} {G : Hp → Prop} {Y : Nat → Hp → V → Hp → Prop} (wk : Walk J n G Y) {g : TG} {tt : TT} {te : TE} {vs : List Nat} {σ : L2.St} {H1 : Hp} {D : Addr} {Qd : Hp → Prop} (p : Nat → Bool) (f : Nat → V) (hD : H1 D = none) (hn : n ≤ 1000) (hG : ∀ H3, Same H1 H3 → G H3)
    (hs : ∀ i x H3 H4, i < n → Same H1 H3 → Y i H3 x H4 → ∀ (Q : VK) (Z : Hp → Prop), (p i = true → ∀ H5, Same H3 H5 → Q (f i) H5) → (p i = false → ∀ H5, Same H3 H5 → Z H5) → g x (wipe σ vs) H4 fun σ2 H2 => wipe σ2 vs = wipe σ vs ∧ tt σ2 H2 fun b H3 => if b = true then te σ2 H3 Q else Z H3)
    (hq : ∀ H', Same H1 H' → H' D = some (.lst (((List.range n).filter p).map f)) → Qd H') :
    ∃ W : Nat → Nat → Hp → Prop, (∃ m, W 0 m (upd H1 D (.lst []))) ∧ ∀ i m H, W i m H →
      (J.stop i H ∧ Qd H) ∨ (J.go i H ∧ ∃ Nx : Hp → Prop, (∀ H', Nx H' → ∃ m', m' < m ∧ W (i + 1) m' H') ∧ ∀ x H', J.yld i H x H' → g x (wipe σ vs) H' fun σ2 H2 => wipe σ2 vs = wipe σ vs ∧ tt σ2 H2 fun b H3 =>
        if b = true then te σ2 H3 fun y H4 => ∃ acc, H4 D = some (.lst acc) ∧ acc.length < sizeLine ∧ Nx (upd H4 D (.lst (acc ++ [y]))) else Nx H3) := by
  refine lc_it wk (fun i H3 => Same H1 H3 ∧ H3 D = some (.lst (((List.range i).filter p).map f))) ⟨same_upd hD, upd_same⟩ (fun i H3 _ h => hG H3 h.1) ?_ (fun H3 h => hq H3 h.1 h.2)
  rintro i x H3 H4 hi ⟨sm, h3⟩ hy
  refine hs i x H3 H4 hi sm hy _ _ (fun z H5 s5 => ⟨_, s5 _ _ h3, ?_, same_mut (sm.trans s5) hD, ?_⟩) (fun z H5 s5 => ⟨sm.trans s5, ?_⟩)
  · rw [List.length_map]; exact small1000 (Nat.le_trans (List.length_filter_le _ _) (by rw [List.length_range]; omega))
  · rw [upd_same, List.range_succ, List.filter_append, List.map_append, List.filter_cons, if_pos z]; rfl
  · rw [s5 _ _ h3, List.range_succ, List.filter_append, List.filter_cons, if_neg (by rw [z]; exact Bool.false_ne_true), List.filter_nil, List.append_nil]
end Lh

namespace Lh
open PySem PySem.Spec PyProof.Rows L2
def stdB (n : Nat) : PyData → Bool
  | .tuple ds => decide (ds.length = n) && ds.all numB
  | _ => false
theorem stdB_tup (n : Nat) (ds : List PyData) : stdB n (.tuple ds) = (decide (ds.length = n) && ds.all numB) := rfl
section
variable {X : Cx}
/-- repr of data of any make -/
def shV : PyData → Str
  | .none => Str.ofString "None"
  | .bool b => Str.ofString (if b then "True" else "False")
  | .int i => Str.ofString (toString i)
  | .str x => reprText x
  | d => d.shown
def rReprV (K : PySem.W.Frag) : List V → Hp → VK → Prop := fun xs H Q => ∃ (v : V) (d : PyData), xs = [v] ∧ Dp K H v d ∧ d.showable = true ∧ d.hasDict = false ∧ d.depth ≤ 60 ∧ d.shown.length ≤ sizeLine ∧ (∀ x, d = .str x → (reprText x).length ≤ sizeLine) ∧ (∀ i, d = .int i → i.natAbs.log2 < 1920) ∧ Q (.str (shV d)) H
theorem call_reprV (hG : X.A.guards = some []) (hu : X.A.units + 64 < cLine) : CallR X (.builtin "repr") (rReprV X.K) := by
  intro pins s σ H xs us Q I r h
  obtain ⟨v, d, rfl, hd, h1, h2, h3, h4, h5, h6, q⟩ := h
  obtain ⟨u, rfl, ru⟩ := vals1 r
  have hds := hd
  cases d with
  | none =>
    cases hd
    cases (show u = Value.none from ru)
    exact PySem.P.repr_of_none ⟨.str _, H, I.tok _, ⟨_, rfl⟩, q⟩
  | bool b =>
    cases hd
    cases (show u = Value.bool b from ru)
    exact PySem.P.repr_of_bool ⟨.str _, H, I.tok _, ⟨_, rfl⟩, by cases b <;> exact q⟩
  | int i =>
    cases hd
    obtain ⟨tk, rfl⟩ := ru
    exact PySem.P.repr_of_int (h6 i rfl) ⟨.str _, H, I.tok _, ⟨_, rfl⟩, q⟩
  | str x =>
    cases hd
    obtain ⟨tk, rfl⟩ := ru
    exact PySem.P.repr_of_str ⟨.str _, H, I.tok _, ⟨_, rfl⟩, q⟩ (h5 x rfl)
  | list ds =>
    cases hd
    obtain rfl : u = Value.ref _ := ru
    obtain ⟨as, rd⟩ := Dp.reads I _ _ _ hds rfl
    exact repr_of_reads' rd h1 (fun z => by rw [h2] at z; cases z) hG (by omega) (fun b o e => e) (fun h' u tk hk => ⟨.str _, H, I.kept hk, ⟨u, rfl⟩, q⟩) h4
  | tuple ds =>
    cases hd
    obtain rfl : u = Value.ref _ := ru
    obtain ⟨as, rd⟩ := Dp.reads I _ _ _ hds rfl
    exact repr_of_reads' rd h1 (fun z => by rw [h2] at z; cases z) hG (by omega) (fun b o e => e) (fun h' u tk hk => ⟨.str _, H, I.kept hk, ⟨u, rfl⟩, q⟩) h4
  | _ => cases hd
end
theorem RpAll.at {bx : Addr} {H : Hp} {vs : List V} {ds : List PyData} (h : RpAll bx H vs ds) {j : Nat} {v : V} (e : vs[j]? = some v) : ∃ d, ds[j]? = some d ∧ Rp bx H v d := by
  have hj : j < vs.length := (List.getElem?_eq_some_iff.mp e).1
  obtain ⟨u, h1, h2⟩ := h.get (i := j) (d := ds[j]'(by rw [← h.length]; exact hj)) (List.getElem?_eq_getElem _)
  rw [e] at h1
  cases h1
  exact ⟨_, List.getElem?_eq_getElem _, h2⟩
theorem RpAll.same {bx : Addr} {H H' : Hp} (s : Same H H') {vs : List V} {ds : List PyData} (h : RpAll bx H vs ds) : RpAll bx H' vs ds := RpAll.ext (Ext.of s) h
theorem range_getD2 {α β : Type} (f : α → β) (d : α) : ∀ xs : List α, (List.range xs.length).map (fun i => f (xs.getD i d)) = xs.map f := fun xs => by
  refine List.ext_getElem (by rw [List.length_map, List.length_range, List.length_map]) fun i h1 h2 => ?_
  rw [List.length_map] at h2
  rw [List.getElem_map, List.getElem_map, List.getElem_range, List.getD_eq_getElem?_getD, List.getElem?_eq_getElem h2]
  rfl
section
variable {P : Program} {w : World} {K : PySem.W.Frag} {mg : Str → Option Value} {base : Heap}
def spIsStand (C : Addr) : Sp := fun vs H Q _ => ∃ (bx x : Addr) (v : V) (d : PyData) (rs : List Rule), vs = [.ref x, v] ∧ HallAt C H x rs ∧ Halls rs ∧ Rp bx H v d ∧ (∀ ds, d = .tuple ds → ds.length ≤ 1000) ∧ ∀ H', Same H H' → Q (.bl (stdB rs.length d)) H'
end
end Lh

namespace Lh
open PySem PySem.Spec PyProof.Rows L2
theorem cutV_id (xs : List V) (lo hi : Option Int) : cutV xs lo hi = cutI xs lo hi := by
  have h := cut_map id xs lo hi
  rw [List.map_id, List.map_id] at h
  exact h
theorem sl_tup_use {K : PySem.W.Frag} {H : Hp} {a : Addr} {xs : List V} {lo hi : Option Int} {Q : VK} (h : TupAt H a xs) (q : ∀ (c : Addr) (H' : Hp), Same H H' → TupAt H' c (cutI xs lo hi) → Q (.ref c) H') : rSlA K (.ref a) lo hi H Q := by
  refine ⟨a, xs, rfl, h.sq, fun w => q a H (Same.refl _) ?_, fun _ p np => q p _ (same_upd np) (.inl (by rw [upd_same, cutV_id]))⟩
  have e : cutI xs lo hi = xs := by
    unfold cutI
    rw [w.1, w.2, List.drop_zero, Nat.sub_zero, List.take_length]
  rw [e]; exact h
theorem cat_use {K : PySem.W.Frag} {H : Hp} {a b : Addr} {xs ys : List V} {Q : VK} (ha : TupAt H a xs) (hb : TupAt H b ys) (hz : xs.length + ys.length ≤ sizeLine) (q : ∀ (c : Addr) (H' : Hp), Same H H' → TupAt H' c (xs ++ ys) → Q (.ref c) H') : rCatA K (.ref a) (.ref b) H Q := by
  refine ⟨a, b, xs, ys, rfl, rfl, ha.sq, hb.sq, hz, fun e => q b H (Same.refl _) (by rw [e]; exact hb), fun _ e => q a H (Same.refl _) (by rw [e, List.append_nil]; exact ha), fun _ _ p np => q p _ (same_upd np) (.inl upd_same)⟩
/-- the standing in which p shows v -/
theorem put_at {ns : List Int} {p : Nat} (hp : p < ns.length) (v : V) : cutI (ns.map V.int) none (some (p : Int)) ++ [v] ++ cutI (ns.map V.int) (some ((p : Int) + 1)) none = (ns.map V.int).set p v := by
  rw [cut_to _ _ (by rw [List.length_map]; omega), show (p : Int) + 1 = ((p + 1 : Nat) : Int) by omega, cut_from _ _ (by rw [List.length_map]; omega), List.set_eq_take_append_cons_drop, if_pos (by rw [List.length_map]; exact hp), List.append_assoc]
  rfl
end Lh

namespace Lh
open PySem PySem.Spec PyProof.Rows L2
/-- a rule of the same word and numbers that sees these -/
def tiedR : Rule → List (Int × Int) → Rule
  | .held n, _ => .held n
  | .sum own _, ts => .sum own ts
  | .cap own _ m, ts => .cap own ts m
  | .kinds own _, ts => .kinds own (ts.map (·.1))
  | .next _, ts => .next (ts.map (·.1))
  | .free _, ts => .free (ts.map (·.1))
theorem go_nextT {D : Ends} {σ : L2.St} {H : Hp} (h : D.nx σ H) : tNext D σ H := h
section
variable {P : Program} {w : World} {K : PySem.W.Frag} {mg : Str → Option Value} {base : Heap}
theorem ok_ties_of (T : Txt K mg w) : FnOk P w K mg base CX0 2 T.f_ties_of T.fd_ties_of p_ties_of spSeen := by
  have G_seen_by := ok_seen_by (P := P) (w := w) (base := base) T
  refine T.F_ties_of.ok sc_ties_of (fun vs H Q E h => ?_) (fun cdv A outer s H vs Q E hr h => ?_)
  · obtain ⟨v, r, rfl, _⟩ := h
    rfl
  · obtain ⟨v, r, rfl, hv, hl, q⟩ := h
    refine ⟨_, (pss_cons (ps_if (pt_cmpR op_in_seq (pe_ix ix_tup (pv 0) pe_int (fun _ _ => rfl)) (pe_tup (pa_cons pe_str (pa_cons pe_str pa_nil))) (by rfl))
        (pss_one (ps_ret (pe_callTy call_list_of (by rfl) T.m_list (by decide +kernel) (pa_cons (pe_ix ix_tup (pv 0) pe_int (fun _ _ => rfl)) pa_nil))))
        pss_nil)
      (pss_one (ps_ret (pe_lc (own := [("person", 1)]) (g := gName 1) (by rfl) sc_ties_of.nd (pi_list (pe_call G_seen_by (hr.mono (by decide)) (by rfl) T.g_seen_by T.F_seen_by.kp T.b_seen_by .nil pass0 (pa_cons (pv 0) pa_nil))) (blkOk_by (own := [("person", 1)]) (N := n_ties_of) (sc := defScope s_ties_of) (by decide +kernel)) (fun _ _ _ _ _ => (pg_name (i := 1) sc_ties_of.nd rfl (.inl rfl) (.inr rfl))) (fun _ _ _ _ _ => pts_nil) (fun _ _ _ _ _ => (pe_tup (pa_cons (pv 1) (pa_cons pe_int pa_nil)))))))), ?_⟩
    cases r with
    | held n =>
      obtain ⟨a, rfl, ha⟩ := id hv
      refine ⟨.ref a, rfl, a, _, 0, _, rfl, rfl, .inl (.inl ha), rfl, by show 2 ≤ sizeLine; decide, fun u hu => ⟨u, _, rfl, .inr (.inl (.inl upd_same)), rfl, rfl, _, rfl, iteN (by decide +kernel) (go_nextT ?_)⟩⟩
      dsimp only
      have s1 := same_upd (o := .tup [.str "sum", .str "cap"]) hu
      refine ⟨.ref a, rfl, .ref a, .held n, rfl, hv.keep (Keep.same s1), hl, fun l H2 s2 nl hl2 => ⟨l, rfl, ⟨_, .inl (.inl hl2)⟩, fun D hD => ?_⟩⟩
      exact lc_onesL hl2 hD hl (fun _ => rfl) (fun _ => rfl) (fun H3 ps s3 h3 pr => q D ps H3 (s1.trans (s2.trans s3)) ((s1.trans s2).free hD) h3 pr)
    | sum own ties =>
      obtain ⟨a, t, rfl, ha, o, ps, od, ht, pr⟩ := hv
      refine ⟨.ref a, rfl, a, _, 0, _, rfl, rfl, .inl (.inl ha), rfl, by show 2 ≤ sizeLine; decide, fun u hu => ⟨u, _, rfl, .inr (.inl (.inl upd_same)), rfl, rfl, _, rfl, iteP (by decide +kernel) ?_⟩⟩
      have s1 := same_upd (o := .tup [.str "sum", .str "cap"]) hu
      refine ⟨.ref a, rfl, a, _, 2, _, rfl, rfl, .inl (.inl (s1 _ _ ha)), rfl, t, _, rfl, .inr (.inl (.inr ⟨o, s1 _ _ ht⟩)), fun p np => ?_⟩
      exact q p ps _ (s1.trans (same_upd np)) (s1.free np) upd_same (pairs_keep (Keep.same (s1.trans (same_upd np))) pr)
    | cap own ties most =>
      obtain ⟨a, t, rfl, ha, o, ps, od, ht, pr⟩ := hv
      refine ⟨.ref a, rfl, a, _, 0, _, rfl, rfl, .inl (.inl ha), rfl, by show 2 ≤ sizeLine; decide, fun u hu => ⟨u, _, rfl, .inr (.inl (.inl upd_same)), rfl, rfl, _, rfl, iteP (by decide +kernel) ?_⟩⟩
      have s1 := same_upd (o := .tup [.str "sum", .str "cap"]) hu
      refine ⟨.ref a, rfl, a, _, 2, _, rfl, rfl, .inl (.inl (s1 _ _ ha)), rfl, t, _, rfl, .inr (.inl (.inr ⟨o, s1 _ _ ht⟩)), fun p np => ?_⟩
      exact q p ps _ (s1.trans (same_upd np)) (s1.free np) upd_same (pairs_keep (Keep.same (s1.trans (same_upd np))) pr)
    | kinds own seen =>
      obtain ⟨a, t, rfl, ha, ht⟩ := id hv
      refine ⟨.ref a, rfl, a, _, 0, _, rfl, rfl, .inl (.inl ha), rfl, by show 2 ≤ sizeLine; decide, fun u hu => ⟨u, _, rfl, .inr (.inl (.inl upd_same)), rfl, rfl, _, rfl, iteN (by decide +kernel) (go_nextT ?_)⟩⟩
      dsimp only
      have s1 := same_upd (o := .tup [.str "sum", .str "cap"]) hu
      refine ⟨.ref a, rfl, .ref a, .kinds own seen, rfl, hv.keep (Keep.same s1), hl, fun l H2 s2 nl hl2 => ⟨l, rfl, ⟨_, .inl (.inl hl2)⟩, fun D hD => ?_⟩⟩
      exact lc_onesL hl2 hD hl (fun _ => rfl) (fun _ => rfl) (fun H3 ps s3 h3 pr => q D ps H3 (s1.trans (s2.trans s3)) ((s1.trans s2).free hD) h3 pr)
    | next seen =>
      obtain ⟨a, t, rfl, ha, ht⟩ := id hv
      refine ⟨.ref a, rfl, a, _, 0, _, rfl, rfl, .inl (.inl ha), rfl, by show 2 ≤ sizeLine; decide, fun u hu => ⟨u, _, rfl, .inr (.inl (.inl upd_same)), rfl, rfl, _, rfl, iteN (by decide +kernel) (go_nextT ?_)⟩⟩
      dsimp only
      have s1 := same_upd (o := .tup [.str "sum", .str "cap"]) hu
      refine ⟨.ref a, rfl, .ref a, .next seen, rfl, hv.keep (Keep.same s1), hl, fun l H2 s2 nl hl2 => ⟨l, rfl, ⟨_, .inl (.inl hl2)⟩, fun D hD => ?_⟩⟩
      exact lc_onesL hl2 hD hl (fun _ => rfl) (fun _ => rfl) (fun H3 ps s3 h3 pr => q D ps H3 (s1.trans (s2.trans s3)) ((s1.trans s2).free hD) h3 pr)
    | free seen =>
      obtain ⟨a, t, rfl, ha, ht⟩ := id hv
      refine ⟨.ref a, rfl, a, _, 0, _, rfl, rfl, .inl (.inl ha), rfl, by show 2 ≤ sizeLine; decide, fun u hu => ⟨u, _, rfl, .inr (.inl (.inl upd_same)), rfl, rfl, _, rfl, iteN (by decide +kernel) (go_nextT ?_)⟩⟩
      dsimp only
      have s1 := same_upd (o := .tup [.str "sum", .str "cap"]) hu
      refine ⟨.ref a, rfl, .ref a, .free seen, rfl, hv.keep (Keep.same s1), hl, fun l H2 s2 nl hl2 => ⟨l, rfl, ⟨_, .inl (.inl hl2)⟩, fun D hD => ?_⟩⟩
      exact lc_onesL hl2 hD hl (fun _ => rfl) (fun _ => rfl) (fun H3 ps s3 h3 pr => q D ps H3 (s1.trans (s2.trans s3)) ((s1.trans s2).free hD) h3 pr)
def spTiedSo : Sp := fun vs H Q _ => ∃ (v : V) (r : Rule) (l : Addr) (ps : List Addr) (ts : List (Int × Int)), vs = [v, .ref l] ∧ RuleAt H v r ∧ H l = some (.lst (ps.map V.ref)) ∧ Paired (PairAtH H) ps ts ∧ ts.length ≤ 1000 ∧ ∀ (u : V) (H' : Hp), Same H H' → RuleAt H' u (tiedR r ts) → Q u H'
set_option maxHeartbeats 2000000 in
theorem ok_tied_so (T : Txt K mg w) : FnOk P w K mg base CX0 1 T.f_tied_so T.fd_tied_so p_tied_so spTiedSo := by
  refine T.F_tied_so.ok sc_tied_so (fun vs H Q E h => ?_) (fun cdv A outer s H vs Q E hr h => ?_)
  · obtain ⟨v, r, l, ps, ts, rfl, _⟩ := h
    rfl
  · obtain ⟨v, r, l, ps, ts, rfl, hv, hl, pr, lt, q⟩ := h
    have lps : ps.length = ts.length := pr.length
    refine ⟨_, (pss_cons (ps_set (i := 2) sc_tied_so.nd rfl (.inl rfl) (pe_ix ix_tup (pv 0) pe_int (fun _ _ => rfl)))
      (pss_cons (ps_if (pt_cmpR op_eq (pv 2) pe_str (nomark _))
        (pss_one (ps_ret (pv 0)))
        pss_nil)
      (pss_cons (ps_if (pt_cmpR op_in_seq (pv 2) (pe_tup (pa_cons pe_str (pa_cons pe_str pa_nil))) (by rfl))
        (pss_one (ps_ret (pe_tup (StX.pa_star (pe_slice sl_tupA (pv 0) po_none (po_some pe_int)) (pa_cons (pe_callTy call_tupleF (by rfl) T.m_tuple (by decide +kernel) (pa_cons (pv 1) pa_nil)) (StX.pa_star (pe_slice sl_tupA (pv 0) (po_some pe_int) po_none) pa_nil))))))
        pss_nil)
      (pss_one (ps_ret (pe_tup (StX.pa_star (pe_slice sl_tupA (pv 0) po_none (po_some (pe_un un_neg pe_int))) (pa_cons (pe_callTy call_tupleF (by rfl) T.m_tuple (by decide +kernel) (pa_cons (pe_lc (own := [("person", 3), ("weight", 4)]) (g := gTup K 2 (gCons (gName 3) (gCons (gName 4) gNil))) (by rfl) sc_tied_so.nd (pi_list (pv 1)) (blkOk_by (own := [("person", 3), ("weight", 4)]) (N := n_tied_so) (sc := defScope s_tied_so) (by decide +kernel)) (fun _ _ _ _ _ => (pg_tup rfl (pgs_cons (pg_name (i := 3) sc_tied_so.nd rfl (.inl rfl) (.inr rfl)) (pgs_cons (pg_name (i := 4) sc_tied_so.nd rfl (.inl rfl) (.inr rfl)) pgs_nil)))) (fun _ _ _ _ _ => pts_nil) (fun _ _ _ _ _ => (pv 3))) pa_nil)) pa_nil)))))))), ?_⟩
    cases r with
    | held n =>
      obtain ⟨a, rfl, ha⟩ := id hv
      refine ⟨.ref a, rfl, a, _, 0, _, rfl, rfl, .inl (.inl ha), rfl, ?_⟩
      refine ⟨.str (Str.ofString "held"), rfl, rfl, _, rfl, iteP (by decide +kernel) ?_⟩
      exact ⟨.ref a, rfl, q _ _ (Same.refl _) hv⟩
    | sum own ties =>
      obtain ⟨a, t, rfl, ha, ht⟩ := id hv
      refine ⟨.ref a, rfl, a, _, 0, _, rfl, rfl, .inl (.inl ha), rfl, ?_⟩
      refine ⟨.str (Str.ofString "sum"), rfl, rfl, _, rfl, iteN (by decide +kernel) ?_⟩
      refine ⟨.str (Str.ofString "sum"), rfl, by show 2 ≤ sizeLine; decide, fun u hu => ⟨u, _, rfl, .inr (.inl (.inl upd_same)), rfl, rfl, _, rfl, iteP (by decide +kernel) ?_⟩⟩
      have s1 := same_upd (o := .tup [.str "sum", .str "cap"]) hu
      generalize upd H u (.tup [.str "sum", .str "cap"]) = H1 at s1 ⊢
      refine ⟨.ref a, rfl, 2, rfl, sl_tup_use (.inl (s1 _ _ ha)) fun c1 H2 s2 hc1 => ⟨c1, _, rfl, .inl hc1.sq, ?_⟩⟩
      have s12 := s1.trans s2
      refine ⟨.ref l, rfl, l, _, rfl, .inl (.inl (s12 _ _ hl)), fun t2 o2 nt2 od2 => ?_⟩
      have s3 := same_upd (o := .frz o2 (.tup (ps.map V.ref))) nt2
      have ht2 := upd_same (H := H2) (a := t2) (o := HO.frz o2 (.tup (ps.map V.ref)))
      generalize upd H2 t2 (.frz o2 (.tup (ps.map V.ref))) = H3 at s3 ht2 ⊢
      have s13 := s12.trans s3
      refine ⟨.ref a, rfl, 3, rfl, ?_⟩
      dsimp only [tNoPart]
      refine sl_tup_use (.inl (s13 _ _ ha)) fun c2 H4 s4 hc2 => ⟨c2, _, rfl, .inl hc2.sq, by show 3 ≤ sizeLine; decide, fun p np => ?_⟩
      have s5 := same_upd (o := .tup [V.str (Str.ofString "sum"), .int own, .ref t2]) np
      have s15 := (s13.trans s4).trans s5
      exact q (.ref p) _ s15 ⟨p, t2, rfl, upd_same, o2, ps, od2, s5 _ _ (s4 _ _ ht2), pairs_keep (Keep.same s15) pr⟩
    | cap own ties most =>
      obtain ⟨a, t, rfl, ha, ht⟩ := id hv
      refine ⟨.ref a, rfl, a, _, 0, _, rfl, rfl, .inl (.inl ha), rfl, ?_⟩
      refine ⟨.str (Str.ofString "cap"), rfl, rfl, _, rfl, iteN (by decide +kernel) ?_⟩
      refine ⟨.str (Str.ofString "cap"), rfl, by show 2 ≤ sizeLine; decide, fun u hu => ⟨u, _, rfl, .inr (.inl (.inl upd_same)), rfl, rfl, _, rfl, iteP (by decide +kernel) ?_⟩⟩
      have s1 := same_upd (o := .tup [.str "sum", .str "cap"]) hu
      generalize upd H u (.tup [.str "sum", .str "cap"]) = H1 at s1 ⊢
      refine ⟨.ref a, rfl, 2, rfl, sl_tup_use (.inl (s1 _ _ ha)) fun c1 H2 s2 hc1 => ⟨c1, _, rfl, .inl hc1.sq, ?_⟩⟩
      have s12 := s1.trans s2
      refine ⟨.ref l, rfl, l, _, rfl, .inl (.inl (s12 _ _ hl)), fun t2 o2 nt2 od2 => ?_⟩
      have s3 := same_upd (o := .frz o2 (.tup (ps.map V.ref))) nt2
      have ht2 := upd_same (H := H2) (a := t2) (o := HO.frz o2 (.tup (ps.map V.ref)))
      generalize upd H2 t2 (.frz o2 (.tup (ps.map V.ref))) = H3 at s3 ht2 ⊢
      have s13 := s12.trans s3
      refine ⟨.ref a, rfl, 3, rfl, ?_⟩
      dsimp only [tNoPart]
      refine sl_tup_use (.inl (s13 _ _ ha)) fun c2 H4 s4 hc2 => ⟨c2, _, rfl, .inl hc2.sq, by show 4 ≤ sizeLine; decide, fun p np => ?_⟩
      have s5 := same_upd (o := .tup [V.str (Str.ofString "cap"), .int own, .ref t2, .int most]) np
      have s15 := (s13.trans s4).trans s5
      exact q (.ref p) _ s15 ⟨p, t2, rfl, upd_same, o2, ps, od2, s5 _ _ (s4 _ _ ht2), pairs_keep (Keep.same s15) pr⟩
    | kinds own seen =>
      obtain ⟨a, t, rfl, ha, ht⟩ := id hv
      refine ⟨.ref a, rfl, a, _, 0, _, rfl, rfl, .inl (.inl ha), rfl, ?_⟩
      refine ⟨.str (Str.ofString "kinds"), rfl, rfl, _, rfl, iteN (by decide +kernel) ?_⟩
      refine ⟨.str (Str.ofString "kinds"), rfl, by show 2 ≤ sizeLine; decide, fun u hu => ⟨u, _, rfl, .inr (.inl (.inl upd_same)), rfl, rfl, _, rfl, iteN (by decide +kernel) (go_nextT ?_)⟩⟩
      dsimp only
      have s1 := same_upd (o := .tup [.str "sum", .str "cap"]) hu
      generalize upd H u (.tup [.str "sum", .str "cap"]) = H1 at s1 ⊢
      refine ⟨.ref a, rfl, 1, rfl, -1, rfl, sl_tup_use (.inl (s1 _ _ ha)) fun c1 H2 s2 hc1 => ⟨c1, _, rfl, .inl hc1.sq, ?_⟩⟩
      have s12 := s1.trans s2
      have hl2 := s12 _ _ hl
      refine ⟨.ref l, rfl, l, rfl, ⟨_, .inl (.inl hl2)⟩, fun D hD => ?_⟩
      refine lc_map (walk_list (K := K) (xs := ps.map V.ref)) (fun i => .int ((ts.map (·.1)).getD i 0)) hD (by rw [List.length_map]; omega) (fun H3 s3 => .inl (.inl (s3 _ _ hl2))) ?_ ?_
      · rintro i y H3 H4 hi s3 ⟨rfl, hy⟩ Q' Z hQ
        rw [List.length_map] at hi
        rw [List.getElem?_map, List.getElem?_eq_getElem hi] at hy
        cases hy
        have e2 := (s12.trans s3) _ _ (pairs_at pr i hi (by omega))
        rw [List.getD_eq_getElem?_getD, List.getElem?_map, List.getElem?_eq_getElem (show i < ts.length by omega)] at hQ
        exact ⟨ps[i], _, rfl, .inl (.inl e2), rfl, _, _, rfl, _, _, rfl, rfl, rfl, yes (iteT ⟨_, rfl, hQ _ (Same.refl _)⟩)⟩
      intro H3 s3 h3
      have h3' : H3 D = some (.lst ((ts.map (·.1)).map V.int)) := by
        rw [h3, List.length_map, lps, ← range_getD2 (V.int) 0 (ts.map (·.1)), List.length_map]
      refine ⟨D, _, rfl, .inl (.inl h3'), fun t2 o2 nt2 od2 => ?_⟩
      have s4 := same_upd (o := .frz o2 (.tup ((ts.map (·.1)).map V.int))) nt2
      have ht2 : TupAt (upd H3 t2 (.frz o2 (.tup ((ts.map (·.1)).map V.int)))) t2 ((ts.map (·.1)).map V.int) := .inr ⟨o2, od2, upd_same⟩
      generalize upd H3 t2 (.frz o2 (.tup ((ts.map (·.1)).map V.int))) = H4 at s4 ht2 ⊢
      refine ⟨by show 3 ≤ sizeLine; decide, fun p np => ?_⟩
      have s5 := same_upd (o := .tup [V.str (Str.ofString "kinds"), .int own, .ref t2]) np
      have s15 := (s12.trans s3).trans (s4.trans s5)
      exact q (.ref p) _ s15 ⟨p, t2, rfl, upd_same, ht2.keep (Keep.same s5)⟩
    | next seen =>
      obtain ⟨a, t, rfl, ha, ht⟩ := id hv
      refine ⟨.ref a, rfl, a, _, 0, _, rfl, rfl, .inl (.inl ha), rfl, ?_⟩
      refine ⟨.str (Str.ofString "next"), rfl, rfl, _, rfl, iteN (by decide +kernel) ?_⟩
      refine ⟨.str (Str.ofString "next"), rfl, by show 2 ≤ sizeLine; decide, fun u hu => ⟨u, _, rfl, .inr (.inl (.inl upd_same)), rfl, rfl, _, rfl, iteN (by decide +kernel) (go_nextT ?_)⟩⟩
      dsimp only
      have s1 := same_upd (o := .tup [.str "sum", .str "cap"]) hu
      generalize upd H u (.tup [.str "sum", .str "cap"]) = H1 at s1 ⊢
      refine ⟨.ref a, rfl, 1, rfl, -1, rfl, sl_tup_use (.inl (s1 _ _ ha)) fun c1 H2 s2 hc1 => ⟨c1, _, rfl, .inl hc1.sq, ?_⟩⟩
      have s12 := s1.trans s2
      have hl2 := s12 _ _ hl
      refine ⟨.ref l, rfl, l, rfl, ⟨_, .inl (.inl hl2)⟩, fun D hD => ?_⟩
      refine lc_map (walk_list (K := K) (xs := ps.map V.ref)) (fun i => .int ((ts.map (·.1)).getD i 0)) hD (by rw [List.length_map]; omega) (fun H3 s3 => .inl (.inl (s3 _ _ hl2))) ?_ ?_
      · rintro i y H3 H4 hi s3 ⟨rfl, hy⟩ Q' Z hQ
        rw [List.length_map] at hi
        rw [List.getElem?_map, List.getElem?_eq_getElem hi] at hy
        cases hy
        have e2 := (s12.trans s3) _ _ (pairs_at pr i hi (by omega))
        rw [List.getD_eq_getElem?_getD, List.getElem?_map, List.getElem?_eq_getElem (show i < ts.length by omega)] at hQ
        exact ⟨ps[i], _, rfl, .inl (.inl e2), rfl, _, _, rfl, _, _, rfl, rfl, rfl, yes (iteT ⟨_, rfl, hQ _ (Same.refl _)⟩)⟩
      intro H3 s3 h3
      have h3' : H3 D = some (.lst ((ts.map (·.1)).map V.int)) := by
        rw [h3, List.length_map, lps, ← range_getD2 (V.int) 0 (ts.map (·.1)), List.length_map]
      refine ⟨D, _, rfl, .inl (.inl h3'), fun t2 o2 nt2 od2 => ?_⟩
      have s4 := same_upd (o := .frz o2 (.tup ((ts.map (·.1)).map V.int))) nt2
      have ht2 : TupAt (upd H3 t2 (.frz o2 (.tup ((ts.map (·.1)).map V.int)))) t2 ((ts.map (·.1)).map V.int) := .inr ⟨o2, od2, upd_same⟩
      generalize upd H3 t2 (.frz o2 (.tup ((ts.map (·.1)).map V.int))) = H4 at s4 ht2 ⊢
      refine ⟨by show 2 ≤ sizeLine; decide, fun p np => ?_⟩
      have s5 := same_upd (o := .tup [V.str (Str.ofString "next"), .ref t2]) np
      have s15 := (s12.trans s3).trans (s4.trans s5)
      exact q (.ref p) _ s15 ⟨p, t2, rfl, upd_same, ht2.keep (Keep.same s5)⟩
    | free seen =>
      obtain ⟨a, t, rfl, ha, ht⟩ := id hv
      refine ⟨.ref a, rfl, a, _, 0, _, rfl, rfl, .inl (.inl ha), rfl, ?_⟩
      refine ⟨.str (Str.ofString "free"), rfl, rfl, _, rfl, iteN (by decide +kernel) ?_⟩
      refine ⟨.str (Str.ofString "free"), rfl, by show 2 ≤ sizeLine; decide, fun u hu => ⟨u, _, rfl, .inr (.inl (.inl upd_same)), rfl, rfl, _, rfl, iteN (by decide +kernel) (go_nextT ?_)⟩⟩
      dsimp only
      have s1 := same_upd (o := .tup [.str "sum", .str "cap"]) hu
      generalize upd H u (.tup [.str "sum", .str "cap"]) = H1 at s1 ⊢
      refine ⟨.ref a, rfl, 1, rfl, -1, rfl, sl_tup_use (.inl (s1 _ _ ha)) fun c1 H2 s2 hc1 => ⟨c1, _, rfl, .inl hc1.sq, ?_⟩⟩
      have s12 := s1.trans s2
      have hl2 := s12 _ _ hl
      refine ⟨.ref l, rfl, l, rfl, ⟨_, .inl (.inl hl2)⟩, fun D hD => ?_⟩
      refine lc_map (walk_list (K := K) (xs := ps.map V.ref)) (fun i => .int ((ts.map (·.1)).getD i 0)) hD (by rw [List.length_map]; omega) (fun H3 s3 => .inl (.inl (s3 _ _ hl2))) ?_ ?_
      · rintro i y H3 H4 hi s3 ⟨rfl, hy⟩ Q' Z hQ
        rw [List.length_map] at hi
        rw [List.getElem?_map, List.getElem?_eq_getElem hi] at hy
        cases hy
        have e2 := (s12.trans s3) _ _ (pairs_at pr i hi (by omega))
        rw [List.getD_eq_getElem?_getD, List.getElem?_map, List.getElem?_eq_getElem (show i < ts.length by omega)] at hQ
        exact ⟨ps[i], _, rfl, .inl (.inl e2), rfl, _, _, rfl, _, _, rfl, rfl, rfl, yes (iteT ⟨_, rfl, hQ _ (Same.refl _)⟩)⟩
      intro H3 s3 h3
      have h3' : H3 D = some (.lst ((ts.map (·.1)).map V.int)) := by
        rw [h3, List.length_map, lps, ← range_getD2 (V.int) 0 (ts.map (·.1)), List.length_map]
      refine ⟨D, _, rfl, .inl (.inl h3'), fun t2 o2 nt2 od2 => ?_⟩
      have s4 := same_upd (o := .frz o2 (.tup ((ts.map (·.1)).map V.int))) nt2
      have ht2 : TupAt (upd H3 t2 (.frz o2 (.tup ((ts.map (·.1)).map V.int)))) t2 ((ts.map (·.1)).map V.int) := .inr ⟨o2, od2, upd_same⟩
      generalize upd H3 t2 (.frz o2 (.tup ((ts.map (·.1)).map V.int))) = H4 at s4 ht2 ⊢
      refine ⟨by show 2 ≤ sizeLine; decide, fun p np => ?_⟩
      have s5 := same_upd (o := .tup [V.str (Str.ofString "free"), .ref t2]) np
      have s15 := (s12.trans s3).trans (s4.trans s5)
      exact q (.ref p) _ s15 ⟨p, t2, rfl, upd_same, ht2.keep (Keep.same s5)⟩
end
end Lh

namespace Lh
open PySem PySem.Spec PyProof.Rows L2
def PrAt (H : Hp) (v : V) (q : Int × Int) : Prop := ∃ t, v = .ref t ∧ H t = some (.tup [.int q.1, .int q.2])
def PrsAt (H : Hp) : List V → List (Int × Int) → Prop := Paired (PrAt H)
theorem PrsAt.keep {H H' : Hp} (k : Keep H H') : ∀ {us : List V} {ps : List (Int × Int)}, PrsAt H us ps → PrsAt H' us ps
  | _, _, .nil => .nil
  | _, _, .cons ⟨a, e, h⟩ r => .cons ⟨a, e, k.tup _ _ h⟩ (PrsAt.keep k r)
theorem PrsAt.get {H : Hp} : ∀ {us : List V} {ps : List (Int × Int)}, PrsAt H us ps → ∀ (i : Nat) (h : i < ps.length), ∃ v, us[i]? = some v ∧ PrAt H v ps[i]
  | _, _, .nil, i, h => absurd h (by simp)
  | _, _, .cons h r, 0, _ => ⟨_, rfl, h⟩
  | _, _, .cons _ r, i + 1, h => PrsAt.get r i (by simpa using h)
def kOf (H : Hp) : V → Int × Int
  | .ref a => match H a with
    | some (.tup [.int i, .int j]) => (i, j)
    | _ => (0, 0)
  | _ => (0, 0)
theorem kOf_at {H : Hp} {v : V} {q : Int × Int} (h : PrAt H v q) : kOf H v = q := by
  obtain ⟨t, rfl, e⟩ := h
  show (match H t with | some (.tup [.int i, .int j]) => (i, j) | _ => (0, 0)) = q
  rw [e]
theorem PrsAt.map {H : Hp} : ∀ {us : List V} {ps : List (Int × Int)}, PrsAt H us ps → ps = us.map (kOf H) ∧ ∀ v ∈ us, PrAt H v (kOf H v)
  | _, _, .nil => ⟨rfl, fun v hv => by cases hv⟩
  | _, _, .cons h r => by
    obtain ⟨e, a⟩ := PrsAt.map r
    have k := kOf_at h
    refine ⟨by rw [List.map_cons, k, ← e], fun v hv => ?_⟩
    rcases List.mem_cons.mp hv with rfl | hv
    · rw [k]; exact h
    · exact a v hv
theorem PrsAt.of {H : Hp} : ∀ {us : List V}, (∀ v ∈ us, PrAt H v (kOf H v)) → PrsAt H us (us.map (kOf H))
  | [], _ => .nil
  | v :: r, h => .cons (h v List.mem_cons_self) (PrsAt.of fun u hu => h u (List.mem_cons_of_mem _ hu))
theorem PrsAt.pairs {H : Hp} : ∀ {us : List V} {ps : List (Int × Int)}, PrsAt H us ps → ∃ as : List Addr, us = as.map V.ref ∧ Paired (PairAtH H) as ps
  | _, _, .nil => ⟨[], rfl, .nil⟩
  | _, _, .cons ⟨a, e, h⟩ r => by
    obtain ⟨as, e2, h2⟩ := PrsAt.pairs r
    exact ⟨a :: as, by rw [e, e2]; rfl, .cons h h2⟩
theorem PrsAt.ofP {H : Hp} : ∀ {as : List Addr} {ps : List (Int × Int)}, Paired (PairAtH H) as ps → PrsAt H (as.map V.ref) ps
  | _, _, .nil => .nil
  | _, _, .cons h r => .cons ⟨_, rfl, h⟩ (PrsAt.ofP r)
/-- r2 is r, its persons called by f -/
def IsLed (f : Int → Int) (r r2 : Rule) : Prop := ∃ ts : List (Int × Int), ts.Perm ((seenPairs r).map fun q => (f q.1, q.2)) ∧ ts.Pairwise (fun a b => a.1 < b.1) ∧ r2 = tiedR r ts
theorem strict_ofP {l : List (Int × Int)} (s : l.Pairwise fun a b => ¬ (b.1 < a.1 ∨ b.1 = a.1 ∧ b.2 < a.2)) (nd : (l.map (·.1)).Nodup) : l.Pairwise (fun a b => a.1 < b.1) := by
  rw [List.nodup_iff_pairwise_ne, List.pairwise_map] at nd
  exact (s.and nd).imp fun {a b} ⟨h1, h2⟩ => by
    have : ¬ b.1 < a.1 := fun z => h1 (.inl z)
    omega
theorem perm_strict : ∀ {l m : List (Int × Int)}, l.Perm m → l.Pairwise (fun a b => a.1 < b.1) → m.Pairwise (fun a b => a.1 < b.1) → l = m := fun {l m} p a b =>
  p.eq_of_pairwise (fun x y _ _ h1 h2 => by omega) a b
theorem IsLed.unique {f : Int → Int} {r a b : Rule} (h : IsLed f r a) (g : IsLed f r b) : a = b := by
  obtain ⟨s, p, w, e⟩ := h
  obtain ⟨t, p2, w2, e2⟩ := g
  rw [e, e2, perm_strict (p.trans p2.symm) w w2]
section
variable {P : Program} {w : World} {K : PySem.W.Frag} {mg : Str → Option Value} {base : Heap}
def spRenamed : Sp := fun vs H Q _ => ∃ (v : V) (r : Rule) (d : Addr) (kvs : List (Key × V)) (f : Int → Int), vs = [v, .ref d] ∧ RuleAt H v r ∧ H d = some (.dK kvs) ∧ (∀ p ∈ r.persons, valV kvs (Sum.inl p) = some (.int (f p))) ∧ (r.persons.map f).Nodup ∧ r.persons.length ≤ 900 ∧
  ∀ (u : V) (H' : Hp) (r2 : Rule), Same H H' → RuleAt H' u r2 → IsLed f r r2 → Q u H'
end
end Lh

namespace Lh
open PySem PySem.Spec PyProof.Rows L2
theorem dc_it {J : It} {n : Nat} {G : Hp → Prop} {Y : Nat → Hp → V → Hp → Prop} (w : Walk J n G Y) {g : TG} {tt : TT} {tk tv : TE} {vs : List Nat} {σ : L2.St} {H1 : Hp} {D : Addr} {Qd : Hp → Prop} (Pv : Nat → Hp → Prop) (h0 : Pv 0 (upd H1 D (.dK []))) (hG : ∀ i H, i ≤ n → Pv i H → G H)
    (hs : ∀ i x H H', i < n → Pv i H → Y i H x H' → g x (wipe σ vs) H' fun σ2 H2 => wipe σ2 vs = wipe σ vs ∧ tt σ2 H2 fun b H3 =>
      if b = true then tk σ2 H3 fun y H4 => tv σ2 H4 fun z H5 => ∃ kvs k, y = kV k ∧ H5 D = some (.dK kvs) ∧ kvs.length < sizeLine ∧ Pv (i + 1) (upd H5 D (.dK (putK kvs k z))) else Pv (i + 1) H3) (hd : ∀ H, Pv n H → Qd H) :
    ∃ W : Nat → Nat → Hp → Prop, (∃ m, W 0 m (upd H1 D (.dK []))) ∧ ∀ i m H, W i m H →
      (J.stop i H ∧ Qd H) ∨ (J.go i H ∧ ∃ Nx : Hp → Prop, (∀ H', Nx H' → ∃ m', m' < m ∧ W (i + 1) m' H') ∧ ∀ x H', J.yld i H x H' → g x (wipe σ vs) H' fun σ2 H2 => wipe σ2 vs = wipe σ vs ∧ tt σ2 H2 fun b H3 =>
        if b = true then tk σ2 H3 fun y H4 => tv σ2 H4 fun z H5 => ∃ kvs k, y = kV k ∧ H5 D = some (.dK kvs) ∧ kvs.length < sizeLine ∧ Nx (upd H5 D (.dK (putK kvs k z))) else Nx H3) := by
  refine ⟨fun i m H => m = n - i ∧ i ≤ n ∧ Pv i H, ⟨n, by simp, Nat.zero_le _, h0⟩, ?_⟩
  rintro i m H ⟨rfl, hi, p⟩
  have q := hG i H hi p
  by_cases hlt : i < n
  · exact .inr ⟨w.goes i H hlt q, Pv (i + 1), fun H' p' => ⟨n - (i + 1), by omega, rfl, hlt, p'⟩, fun x H' y => hs i x H H' hlt p (w.yields i H x H' hlt q y)⟩
  · have e : i = n := by omega
    subst e
    exact .inl ⟨w.stops H q, hd H p⟩
/-- {key i: value i for ..}, ints by ints -/
def kvI (f : Nat → Int × Int) (n : Nat) : List (Key × V) := mergeK [] (kvOf ((List.range n).map f))
theorem kvI_step (f : Nat → Int × Int) (n : Nat) : kvI f (n + 1) = putK (kvI f n) (Sum.inl (f n).1) (.int (f n).2) := by
  unfold kvI kvOf mergeK
  rw [List.range_succ, List.map_append, List.map_append, List.foldl_append]
  rfl
theorem kvI_len (f : Nat → Int × Int) (n : Nat) : (kvI f n).length ≤ n := by
  have := length_mergeK (kvOf ((List.range n).map f)) []
  unfold kvOf at this
  rw [List.length_map, List.length_map, List.length_range] at this
  unfold kvI kvOf
  simpa using this
theorem kvI_get {f : Nat → Int × Int} {n i : Nat} (hi : i < n) (inj : ∀ a b, a < n → b < n → (f a).1 = (f b).1 → a = b) : valV (kvI f n) (Sum.inl (f i).1) = some (.int (f i).2) := by
  unfold kvI
  rcases merge_get ((List.range n).map f) [] (f i).1 with ⟨y, h1, h2⟩ | ⟨h1, _⟩
  · obtain ⟨j, hj, ej⟩ := List.mem_map.mp h2
    have := inj j i (List.mem_range.mp hj) hi (by rw [ej])
    subst this
    rw [h1, show y = (f j).2 by rw [ej]]
  · exact absurd (List.mem_map.mpr ⟨f i, List.mem_map.mpr ⟨i, List.mem_range.mpr hi, rfl⟩, rfl⟩) h1
theorem dc_map {J : It} {n : Nat} {G : Hp → Prop} {Y : Nat → Hp → V → Hp → Prop} (w : Walk J n G Y) {g : TG} {tk tv : TE} {vs : List Nat} {σ : L2.St} {H1 : Hp} {D : Addr} {Qd : Hp → Prop} (f : Nat → Int × Int) (hD : H1 D = none) (hn : n ≤ 1000) (hG : ∀ H3, Same H1 H3 → G H3)
    (hs : ∀ i x H3 H4, i < n → Same H1 H3 → Y i H3 x H4 → ∀ (Q : V → V → Hp → Prop) (Z : Hp → Prop), (∀ H5, Same H3 H5 → Q (.int (f i).1) (.int (f i).2) H5) → g x (wipe σ vs) H4 fun σ2 H2 => wipe σ2 vs = wipe σ vs ∧ tYes σ2 H2 fun b H3 => if b = true then tk σ2 H3 fun y H4 => tv σ2 H4 fun z H5 => Q y z H5 else Z H3)
    (hq : ∀ H', Same H1 H' → H' D = some (.dK (kvI f n)) → Qd H') :
    ∃ W : Nat → Nat → Hp → Prop, (∃ m, W 0 m (upd H1 D (.dK []))) ∧ ∀ i m H, W i m H →
      (J.stop i H ∧ Qd H) ∨ (J.go i H ∧ ∃ Nx : Hp → Prop, (∀ H', Nx H' → ∃ m', m' < m ∧ W (i + 1) m' H') ∧ ∀ x H', J.yld i H x H' → g x (wipe σ vs) H' fun σ2 H2 => wipe σ2 vs = wipe σ vs ∧ tYes σ2 H2 fun b H3 =>
        if b = true then tk σ2 H3 fun y H4 => tv σ2 H4 fun z H5 => ∃ kvs k, y = kV k ∧ H5 D = some (.dK kvs) ∧ kvs.length < sizeLine ∧ Nx (upd H5 D (.dK (putK kvs k z))) else Nx H3) := by
  refine dc_it w (fun i H3 => Same H1 H3 ∧ H3 D = some (.dK (kvI f i))) ⟨same_upd hD, upd_same⟩ (fun i H3 _ h => hG H3 h.1) ?_ (fun H3 h => hq H3 h.1 h.2)
  rintro i x H3 H4 hi ⟨sm, h3⟩ hy
  refine hs i x H3 H4 hi sm hy _ _ fun H5 s5 => ?_
  have h5 := s5 _ _ h3
  have hl := kvI_len f i
  refine ⟨_, Sum.inl (f i).1, rfl, h5, small1000 (by omega), fun b o hb => ?_, by rw [upd_same, kvI_step]⟩
  rw [upd_ne (ne_of_none hb hD)]
  exact s5 _ _ (sm b o hb)
/-- the rule whose persons are called by f -/
noncomputable def led (f : Int → Int) (r : Rule) : Rule := by
  classical
  exact if h : ∃ r2, IsLed f r r2 then Classical.choose h else r
theorem IsLed.eq {f : Int → Int} {r r2 : Rule} (h : IsLed f r r2) : r2 = led f r := by
  unfold led
  rw [dif_pos ⟨r2, h⟩]
  exact h.unique (Classical.choose_spec (⟨r2, h⟩ : ∃ r2, IsLed f r r2))
/-- the place of a person in an order -/
def posI (os : List Int) (p : Int) : Int := (os.idxOf p : Nat)
noncomputable def calledR (rs : List Rule) (os : List Int) : List Rule := os.map fun o => led (posI os) (rs.getD o.toNat (.held 0))
noncomputable def besideR (rs more : List Rule) : List Rule := rs ++ more.map (led fun p => (rs.length : Int) + p)
def rHLen (C : Addr) : List V → Hp → VK → Prop := fun xs H Q => ∃ (x dx : Addr) (fs : List (Str × V)), xs = [.ref x] ∧ H x = some (.ins C dx fs) ∧ spLen C [.ref x] H (fun v H' => ∃ n : Int, v = .int n ∧ 0 ≤ n ∧ n < 2 ^ 63 ∧ Q (.int n) H') E0
theorem Wf.rise {m : Int} : ∀ {r : Rule}, r.Wf m → Rising m r.persons
  | .held _, _ => ⟨List.Pairwise.nil, fun x hx => absurd hx (by simp [Rule.persons])⟩
  | .sum _ _, h => h.2.1
  | .cap _ _ _, h => h.2.1
  | .kinds _ _, h => h.2
  | .next _, h => h
  | .free _, h => h
theorem nodup_map {f : Int → Int} (inj : ∀ a b, f a = f b → a = b) {l : List Int} (h : l.Nodup) : (l.map f).Nodup := by
  rw [List.nodup_iff_pairwise_ne] at h ⊢
  exact List.pairwise_map.mpr (h.imp fun {a b} z e => z (inj a b e))
theorem RulesAt.app {H : Hp} : ∀ {us vs : List V} {rs ss : List Rule}, RulesAt H us rs → RulesAt H vs ss → RulesAt H (us ++ vs) (rs ++ ss)
  | _, _, _, _, .nil, h => h
  | _, _, _, _, .cons h r, g => .cons h (RulesAt.app r g)
section
variable {P : Program} {w : World} {K : PySem.W.Frag} {mg : Str → Option Value} {base : Heap}
def spRules (C : Addr) : Sp := fun vs H Q _ => ∃ (x : Addr) (rs : List Rule), vs = [.ref x] ∧ HallAt C H x rs ∧ ∀ (t : Addr) (us : List V), TupAt H t us → RulesAt H us rs → Q (.ref t) H
theorem ok_Hall_rules (T : Txt K mg w) : FnOk P w K mg base CX0 1 T.f_Hall_rules T.fd_Hall_rules p_Hall_rules (spRules T.C_Hall) := by
  refine T.F_Hall_rules.ok sc_Hall_rules (fun vs H Q E h => ?_) (fun cdv A outer s H vs Q E hr h => ?_)
  · obtain ⟨x, rs, rfl, _⟩ := h
    rfl
  · obtain ⟨x, rs, rfl, ⟨dx, t, vs, hx, ht, hv⟩, q⟩ := h
    refine ⟨_, (pss_one (ps_ret (pe_fld (pv 0) rfl))), ?_⟩
    exact ⟨.ref x, rfl, x, T.C_Hall, dx, _, _, rfl, hx, T.cl_Hall, T.na_Hall_kept, kept_yes _, q t vs ht hv⟩
def spBeside (C : Addr) : Sp := fun vs H Q _ => ∃ (x y : Addr) (rs more : List Rule), vs = [.ref x, .ref y] ∧ HallAt C H x rs ∧ HallAt C H y more ∧ Halls rs ∧ Halls more ∧ Halls (besideR rs more) ∧ ∀ (z : Addr) (H' : Hp), Same H H' → HallAt C H' z (besideR rs more) → Q (.ref z) H'
end
end Lh

namespace Lh
open PySem PySem.Spec PyProof.Rows L2
theorem paired_set {α β : Type} {R : α → β → Prop} : ∀ {xs : List α} {ys : List β}, Paired R xs ys → ∀ (i : Nat) {x : α} {y : β}, R x y → Paired R (xs.set i x) (ys.set i y)
  | _, _, .nil, _, _, _, _ => .nil
  | _, _, .cons _ r, 0, _, _, h => .cons h r
  | _, _, .cons g r, i + 1, _, _, h => .cons g (paired_set r i h)
theorem halls_set {rs : List Rule} (hh : Halls rs) {i : Nat} {r : Rule} (wf : r.Wf rs.length) : Halls (rs.set i r) := by
  refine ⟨by rw [List.length_set]; exact hh.1, by rw [List.length_set]; exact hh.2.1, fun x hx => ?_⟩
  rw [List.length_set]
  rcases List.mem_or_eq_of_mem_set hx with h | h
  · exact hh.2.2 x h
  · rw [h]; exact wf
section
variable {P : Program} {w : World} {K : PySem.W.Frag} {mg : Str → Option Value} {base : Heap}
def spWith (C : Addr) : Sp := fun vs H Q _ => ∃ (x : Addr) (p : Nat) (v : V) (r : Rule) (rs : List Rule), vs = [.ref x, .int p, v] ∧ HallAt C H x rs ∧ Halls rs ∧ p < rs.length ∧ RuleAt H v r ∧ r.Wf rs.length ∧ ∀ (z : Addr) (H' : Hp), Same H H' → HallAt C H' z (rs.set p r) → Q (.ref z) H'
theorem ok_with_rule (T : Txt K mg w) : FnOk P w K mg base CX0 9 T.f_with_rule T.fd_with_rule p_with_rule (spWith T.C_Hall) := by
  have G_Hall_rules := ok_Hall_rules (P := P) (w := w) (base := base) T
  have G_Hall_init := ok_Hall_init (P := P) (w := w) (base := base) T
  refine T.F_with_rule.ok sc_with_rule (fun vs H Q E h => ?_) (fun cdv A outer s H vs Q E hr h => ?_)
  · obtain ⟨x, p, v, r, rs, rfl, _⟩ := h
    rfl
  · obtain ⟨x, p, v, r, rs, rfl, hA, hh, hp, hv, wf, q⟩ := h
    obtain ⟨dx, tx, vx, ex, _, _⟩ := id hA
    refine ⟨_, (pss_cons (ps_set (i := 3) sc_with_rule.nd rfl (.inl rfl) (pe_callTy call_list_of (by rfl) T.m_list (by decide +kernel) (pa_cons (pe_meth0 (pv 0) T.cl_Hall T.me_Hall_rules G_Hall_rules (hr.mono (by decide)) T.b_Hall_rules .nil pass0) pa_nil)))
      (pss_cons (ps_asg (pv 2) (pg_sub (pv 3) (pv 1) set_list))
      (pss_one (ps_ret (pe_make T.mk_Hall G_Hall_init (hr.mono (by decide)) (by rfl) T.g_Hall T.b_Hall_init .nil pass0 (pa_cons (pv 3) pa_nil)))))), ?_⟩
    refine ⟨.ref x, rfl, x, dx, _, rfl, ex, kept_no _ (by decide +kernel), x, rs, rfl, hA, fun t us ht ra => ?_⟩
    have lu : us.length = rs.length := ra.length
    refine ⟨t, us, rfl, .inr ht.sq, fun d nd => ?_⟩
    have sd := same_upd (o := .lst us) nd
    have hd := upd_same (H := H) (a := d) (o := HO.lst us)
    generalize upd H d (.lst us) = H1 at sd hd ⊢
    refine ⟨v, rfl, .ref d, rfl, .int p, rfl, d, _, _, p, rfl, rfl, hd, ixN_at (by omega), ?_⟩
    have s2 := same_mut (o := .lst (us.set p v)) sd nd
    have h2 := upd_same (H := H1) (a := d) (o := HO.lst (us.set p v))
    have kT := keep_lst (ys := us.set p v) hd
    have ra2 : RulesAt (upd H1 d (.lst (us.set p v))) (us.set p v) (rs.set p r) := paired_set ((ra.keep (Keep.same sd)).keep kT) p ((hv.keep (Keep.same sd)).keep kT)
    generalize upd H1 d (.lst (us.set p v)) = H2 at s2 h2 ra2 ⊢
    refine ⟨.ref d, rfl, fun z dz nz ndz nzd => ?_⟩
    have sz : Same H2 (upd (upd H2 dz (.own z)) z (.ins T.C_Hall dz [])) := fun b o hb => by
      rw [upd_ne (ne_of_none hb nz), upd_ne (ne_of_none hb ndz)]
      exact hb
    refine ⟨z, dz, d, us.set p v, rs.set p r, rfl, upd_same, sz _ _ h2, ra2.keep (Keep.same sz), halls_set hh wf, fun H5 k5 hZ => ⟨rfl, ?_⟩⟩
    exact q z H5 (s2.trans fun b o hb => k5 b o (ne_of_none hb nz) (sz b o hb)) hZ
def spHeldAt (C X : Addr) : Sp := fun vs H Q E => ∃ (x : Addr) (p n : Int) (rs : List Rule), vs = [.ref x, .int p, .int n] ∧ HallAt C H x rs ∧ Halls rs ∧ 0 ≤ n ∧ n ≤ 1000 ∧
  (∀ (k : Nat), k < rs.length → p = (k : Int) → ∀ (z : Addr) (H' : Hp), Same H H' → HallAt C H' z (rs.set k (.held n)) → Q (.ref z) H') ∧ (¬ (0 ≤ p ∧ p < rs.length) → NoP X E H p)
theorem ok_held_atX (T : Txt K mg w) : FnOk P w K mg base (L2.CX P w) 10 T.f_held_at T.fd_held_at p_held_at (spHeldAt T.C_Hall T.C_NoPerson) := by
  have G_Hall_must_have := ok_must_haveX (P := P) (w := w) (base := base) T
  have G_with_rule := ok_with_rule (P := P) (w := w) (base := base) T
  refine T.F_held_at.okX sc_held_at (fun vs H Q E h => ?_) (fun cdv A outer s H vs Q E hr h => ?_)
  · obtain ⟨x, p, n, rs, rfl, _⟩ := h
    rfl
  · obtain ⟨x, p, n, rs, rfl, hA, hh, n0, n1, qQ, qE⟩ := h
    obtain ⟨dx, t, vs, hx, ht, hv⟩ := id hA
    refine ⟨_, (pss_cons (ps_expr (pe_meth (pv 0) T.cl_Hall T.me_Hall_must_have G_Hall_must_have (hr.mono (by decide)) T.b_Hall_must_have .nil (passes_call (takes_of rfl rfl rfl rfl) (fun _ _ _ _ h => h)) (pa_cons (pv 1) pa_nil)))
      (pss_one (ps_ret (pe_call G_with_rule (hr.mono (by decide)) (by rfl) T.g_with_rule T.F_with_rule.kp T.b_with_rule .nil pass0 (pa_cons (pv 0) (pa_cons (pv 1) (pa_cons (pe_tup (pa_cons pe_str (pa_cons (pv 2) pa_nil))) pa_nil))))))), ?_⟩
    refine ⟨.ref x, rfl, x, dx, _, rfl, hx, kept_no _ (by decide +kernel), .int p, rfl, x, p, rs, rfl, hA, fun c => ?_, qE⟩
    obtain ⟨k, rfl⟩ : ∃ k : Nat, p = (k : Int) := ⟨p.toNat, by omega⟩
    have hk : k < rs.length := by omega
    refine ⟨.ref x, rfl, .int k, rfl, .int n, rfl, by show 2 ≤ sizeLine; decide, fun u nu => ?_⟩
    have su := same_upd (o := .tup [.str (Str.ofString "held"), .int n]) nu
    refine ⟨x, k, .ref u, .held n, rs, rfl, hA.keep su, hh, hk, ⟨u, rfl, upd_same⟩, ⟨n0, n1⟩, fun z H' s' hZ => qQ k hk rfl z H' (su.trans s') hZ⟩
end
end Lh

namespace Lh
open PySem PySem.Spec PyProof.Rows L2
def TieR : Rule → Prop
  | .sum _ _ => True
  | .cap _ _ _ => True
  | _ => False
instance (r : Rule) : Decidable (TieR r) := by cases r <;> unfold TieR <;> infer_instance
def wordX : Rule → Str
  | .held _ => "held"
  | .sum _ _ => "sum"
  | .cap _ _ _ => "cap"
  | .kinds _ _ => "kinds"
  | .next _ => "next"
  | .free _ => "free"
theorem RuleAt.firstX {H : Hp} {v : V} : ∀ {r : Rule}, RuleAt H v r → ∃ (a : Addr) (xs : List V), v = .ref a ∧ H a = some (.tup xs) ∧ atI xs 0 = some (.str (wordX r))
  | .held _, ⟨a, e, h⟩ => ⟨a, _, e, h, rfl⟩
  | .sum _ _, ⟨a, t, e, h, _⟩ => ⟨a, _, e, h, rfl⟩
  | .cap _ _ _, ⟨a, t, e, h, _⟩ => ⟨a, _, e, h, rfl⟩
  | .kinds _ _, ⟨a, t, e, h, _⟩ => ⟨a, _, e, h, rfl⟩
  | .next _, ⟨a, t, e, h, _⟩ => ⟨a, _, e, h, rfl⟩
  | .free _, ⟨a, t, e, h, _⟩ => ⟨a, _, e, h, rfl⟩
theorem word_ties : ∀ r : Rule, inV (.str (wordX r)) [.str "sum", .str "cap"] = decide (TieR r)
  | .held _ => (show inV (V.str (Str.ofString "held")) [V.str (Str.ofString "sum"), V.str (Str.ofString "cap")] = false from by decide +kernel).trans (decide_eq_false (fun h => h)).symm
  | .sum _ _ => (show inV (V.str (Str.ofString "sum")) [V.str (Str.ofString "sum"), V.str (Str.ofString "cap")] = true from by decide +kernel).trans (decide_eq_true trivial).symm
  | .cap _ _ _ => (show inV (V.str (Str.ofString "cap")) [V.str (Str.ofString "sum"), V.str (Str.ofString "cap")] = true from by decide +kernel).trans (decide_eq_true trivial).symm
  | .kinds _ _ => (show inV (V.str (Str.ofString "kinds")) [V.str (Str.ofString "sum"), V.str (Str.ofString "cap")] = false from by decide +kernel).trans (decide_eq_false (fun h => h)).symm
  | .next _ => (show inV (V.str (Str.ofString "next")) [V.str (Str.ofString "sum"), V.str (Str.ofString "cap")] = false from by decide +kernel).trans (decide_eq_false (fun h => h)).symm
  | .free _ => (show inV (V.str (Str.ofString "free")) [V.str (Str.ofString "sum"), V.str (Str.ofString "cap")] = false from by decide +kernel).trans (decide_eq_false (fun h => h)).symm
/-- the pairs behind tying o by wt -/
def tieL (o wt : Int) (ts : List (Int × Int)) : List (Int × Int) := ts.filter (fun q => decide (q.1 ≠ o)) ++ if 0 < wt then [(o, wt)] else []
def IsTied (o wt : Int) (r r2 : Rule) : Prop := ∃ ts : List (Int × Int), ts.Perm (tieL o wt (seenPairs r)) ∧ ts.Pairwise (fun a b => a.1 < b.1) ∧ r2 = tiedR r ts
theorem IsTied.unique {o wt : Int} {r a b : Rule} (h : IsTied o wt r a) (g : IsTied o wt r b) : a = b := by
  obtain ⟨ts, p1, w1, rfl⟩ := h
  obtain ⟨us, p2, w2, rfl⟩ := g
  rw [perm_strict (p1.trans p2.symm) w1 w2]
theorem tieL_nodup {o wt : Int} {ts : List (Int × Int)} (nd : (ts.map (·.1)).Nodup) : ((tieL o wt ts).map (·.1)).Nodup := by
  unfold tieL
  rw [List.map_append]
  have n1 : ((ts.filter fun q => decide (q.1 ≠ o)).map (·.1)).Nodup := List.Sublist.nodup (List.Sublist.map _ List.filter_sublist) nd
  by_cases c : 0 < wt
  · rw [if_pos c]
    refine List.nodup_append.mpr ⟨n1, by simp, fun a ha b hb => ?_⟩
    obtain ⟨q, hq, rfl⟩ := List.mem_map.mp ha
    have e : b = o := by simpa using hb
    rw [e]
    exact of_decide_eq_true (List.mem_filter.mp hq).2
  · rw [if_neg c]
    simpa using n1
theorem tied_wf {m o wt : Int} {r r2 : Rule} (hr : TieR r) (wf : r.Wf m) (o0 : 0 ≤ o) (o1 : o < m) (w1 : wt ≤ 1000) (h : IsTied o wt r r2) : r2.Wf m := by
  obtain ⟨ts, perm, pw, rfl⟩ := h
  have key : ∀ old : List (Int × Int), Rising m (old.map (·.1)) → (∀ q ∈ old, 1 ≤ q.2 ∧ q.2 ≤ 1000) → ts.Perm (tieL o wt old) → Rising m (ts.map (·.1)) ∧ ∀ q ∈ ts, 1 ≤ q.2 ∧ q.2 ≤ 1000 := fun old ro wo pm => by
    have all : ∀ q ∈ ts, (0 ≤ q.1 ∧ q.1 < m) ∧ 1 ≤ q.2 ∧ q.2 ≤ 1000 := fun q hq => by
      rcases List.mem_append.mp (pm.mem_iff.mp hq) with h | h
      · have hm := (List.mem_filter.mp h).1
        exact ⟨ro.2 _ (List.mem_map_of_mem (f := (·.1)) hm), wo q hm⟩
      · by_cases c : 0 < wt
        · rw [if_pos c] at h
          rw [List.mem_singleton.mp h]
          exact ⟨⟨o0, o1⟩, by show 1 ≤ wt; omega, w1⟩
        · rw [if_neg c] at h
          exact absurd h (by simp)
    refine ⟨⟨List.pairwise_map.mpr pw, fun n hn => ?_⟩, fun q hq => (all q hq).2⟩
    obtain ⟨q, hq, rfl⟩ := List.mem_map.mp hn
    exact (all q hq).1
  cases r with
  | sum own old =>
    obtain ⟨a, b⟩ := key old wf.2.1 wf.2.2 perm
    exact ⟨wf.1, a, b⟩
  | cap own old c =>
    obtain ⟨a, b⟩ := key old wf.2.1 wf.2.2.1 perm
    exact ⟨wf.1, a, b, wf.2.2.2⟩
  | _ => exact hr.elim
theorem seq_useX {t u : TS} {D : Ends} {σ : L2.St} {H : Hp} (Φ : L2.St → Hp → Prop) (a : ∀ N : L2.St → Hp → Prop, (∀ σ H, Φ σ H → N σ H) → t { D with nx := N } σ H) (b : ∀ σ H, Φ σ H → u D σ H) : tSeq t u D σ H := a (u D) b
theorem seen_tie : ∀ {r : Rule}, TieR r → ∀ {m : Int}, r.Wf m → ((seenPairs r).map (·.1)).Nodup
  | .sum _ ts, _, _, wf => by
    show (ts.map (·.1)).Nodup
    exact wf.2.1.nodup
  | .cap _ ts _, _, _, wf => by
    show (ts.map (·.1)).Nodup
    exact wf.2.1.nodup
section
variable {P : Program} {w : World} {K : PySem.W.Frag} {mg : Str → Option Value} {base : Heap}
theorem ok_NoSum_init (T : Txt K mg w) : FnOk P w K mg base CX0 1 T.f_NoSum_init T.fd_NoSum_init p_NoSum_init (spInitF T.C_NoSum "person") := by
  refine T.F_NoSum_init.ok sc_NoSum_init (fun vs H Q E h => ?_) (fun cdv A outer s H vs Q E hr h => ?_)
  · obtain ⟨a, v, rfl, _⟩ := h
    rfl
  · obtain ⟨a, v, rfl, ha, q⟩ := h
    refine ⟨_, (pss_cons (ps_expr (pe_veinit (by rfl) T.m_ValueError T.vi_ValueError (pa_cons (pv 0) (pa_cons pe_str pa_nil))))
      (pss_one (ps_ost (pv 0) (pv 1)))), ?_⟩
    refine ⟨.ref a, rfl, a, T.C_NoSum, _, rfl, by show 1 ≤ 1000; decide, T.ox_NoSum, ha, ?_⟩
    exact ⟨v, rfl, .ref a, rfl, a, T.C_NoSum, rfl, T.ox_NoSum, T.na_NoSum_person, .inl ⟨ha, q⟩⟩
def spTiedX (C X Y : Addr) : Sp := fun vs H Q E => ∃ (x : Addr) (p o wt : Int) (rs : List Rule), vs = [.ref x, .int p, .int o, .int wt] ∧ HallAt C H x rs ∧ Halls rs ∧ wt ≤ 1000 ∧
  (¬ (0 ≤ p ∧ p < rs.length) → NoP X E H p) ∧ ((0 ≤ p ∧ p < rs.length) → ¬ (0 ≤ o ∧ o < rs.length) → NoP X E H o) ∧
  (∀ (k : Nat) (hk : k < rs.length), p = (k : Int) → (0 ≤ o ∧ o < rs.length) → ¬ TieR rs[k] → NoP Y E H p) ∧
  (∀ (k : Nat) (hk : k < rs.length), p = (k : Int) → (0 ≤ o ∧ o < rs.length) → TieR rs[k] → ∀ (r2 : Rule) (z : Addr) (H' : Hp), IsTied o wt rs[k] r2 → Same H H' → HallAt C H' z (rs.set k r2) → Q (.ref z) H')
set_option maxHeartbeats 4000000 in
theorem ok_tiedX (T : Txt K mg w) : FnOk P w K mg base (L2.CX P w) 11 T.f_tied T.fd_tied p_tied (spTiedX T.C_Hall T.C_NoPerson T.C_NoSum) := by
  have G_NoSum_init := ok_NoSum_init (P := P) (w := w) (base := base) T
  have G_Hall_must_have := ok_must_haveX (P := P) (w := w) (base := base) T
  have G_Hall_rule := ok_ruleX (P := P) (w := w) (base := base) T
  have G_ties_of := ok_ties_of (P := P) (w := w) (base := base) T
  have G_tied_so := ok_tied_so (P := P) (w := w) (base := base) T
  have G_with_rule := ok_with_rule (P := P) (w := w) (base := base) T
  refine T.F_tied.okX sc_tied (fun vs H Q E h => ?_) (fun cdv A outer s H vs Q E hr h => ?_)
  · obtain ⟨x, p, o, wt, rs, rfl, _⟩ := h
    rfl
  · obtain ⟨x, p, o, wt, rs, rfl, hA, hh, w1, eP, eO, eS, qQ⟩ := h
    obtain ⟨dx, t, vs, hx, ht, hv⟩ := id hA
    refine ⟨_, (pss_cons (ps_expr (pe_meth (pv 0) T.cl_Hall T.me_Hall_must_have G_Hall_must_have (hr.mono (by decide)) T.b_Hall_must_have .nil (passes_call (takes_of rfl rfl rfl rfl) (fun _ _ _ _ h => h)) (pa_cons (pv 1) pa_nil)))
      (pss_cons (ps_expr (pe_meth (pv 0) T.cl_Hall T.me_Hall_must_have G_Hall_must_have (hr.mono (by decide)) T.b_Hall_must_have .nil (passes_call (takes_of rfl rfl rfl rfl) (fun _ _ _ _ h => h)) (pa_cons (pv 2) pa_nil)))
      (pss_cons (ps_set (i := 4) sc_tied.nd rfl (.inl rfl) (pe_meth (pv 0) T.cl_Hall T.me_Hall_rule G_Hall_rule (hr.mono (by decide)) T.b_Hall_rule .nil (passes_call (takes_of rfl rfl rfl rfl) (fun _ _ _ _ h => h)) (pa_cons (pv 1) pa_nil)))
      (pss_cons (ps_if (pt_cmpR op_notIn_seq (pe_ix ix_tup (pv 4) pe_int (fun _ _ => rfl)) (pe_tup (pa_cons pe_str (pa_cons pe_str pa_nil))) (by rfl))
        (pss_one (ps_raise rfl (takes_of rfl rfl rfl rfl) (pmk_oex T.ox_NoSum T.me_NoSum_init.1 T.ti_NoSum G_NoSum_init (hr.mono (by decide)) T.b_NoSum_init .nil pass0 (by rfl) T.g_NoSum (pa_cons (pv 1) pa_nil))))
        pss_nil)
      (pss_cons (ps_setLc (i := 5) (own := [("tie", 6)]) (g := gName 6) (by rfl) sc_tied.nd rfl rfl (sw_true rfl rfl rfl (by decide +kernel)) (pi_list (pe_call G_ties_of (hr.mono (by decide)) (by rfl) T.g_ties_of T.F_ties_of.kp T.b_ties_of .nil pass0 (pa_cons (pv 4) pa_nil))) (blkOk_by (own := [("tie", 6)]) (N := n_tied) (sc := defScope s_tied) (by decide +kernel)) (fun _ _ _ _ _ => (pg_name (i := 6) sc_tied.nd rfl (.inl rfl) (.inr rfl))) (fun _ _ _ _ _ => (pts_one (pt_cmpR op_ne (pe_ix (r := rIxT K) ix_tup (pv 6) pe_int (fun _ _ => rfl)) (pv 2) (nomark _)))) (fun _ _ _ _ _ => (pv 6)))
      (pss_cons (ps_if (pt_cmpR op_gt (pv 3) pe_int (nomark _))
        (pss_one (ps_expr (pe_bm PySem.F.plainAttrs_list PySem.F.slot_list_append PySem.F.type_list_append mt_append (pv 5) (pa_cons (pe_tup (pa_cons (pv 2) (pa_cons (pv 3) pa_nil))) pa_nil))))
        pss_nil)
      (pss_one (ps_ret (pe_call G_with_rule (hr.mono (by decide)) (by rfl) T.g_with_rule T.F_with_rule.kp T.b_with_rule .nil pass0 (pa_cons (pv 0) (pa_cons (pv 1) (pa_cons (pe_call G_tied_so (hr.mono (by decide)) (by rfl) T.g_tied_so T.F_tied_so.kp T.b_tied_so .nil pass0 (pa_cons (pv 4) (pa_cons (pe_callB cr_sortedPO (by rfl) T.m_sorted (by decide +kernel) (pa_cons (pv 5) pa_nil)) pa_nil))) pa_nil)))))))))))), ?_⟩
    refine ⟨.ref x, rfl, x, dx, _, rfl, hx, kept_no _ (by decide +kernel), .int p, rfl, x, p, rs, rfl, hA, fun c => ?_, eP⟩
    refine ⟨.ref x, rfl, x, dx, _, rfl, hx, kept_no _ (by decide +kernel), .int o, rfl, x, o, rs, rfl, hA, fun co => ?_, eO c⟩
    refine ⟨.ref x, rfl, x, dx, _, rfl, hx, kept_no _ (by decide +kernel), .int p, rfl, x, p, rs, rfl, hA, fun k hk ep v hv => ?_, fun z => absurd c z⟩
    subst ep
    obtain ⟨a, xs, rfl, ha, h0⟩ := hv.firstX
    refine ⟨.ref a, rfl, a, xs, 0, _, rfl, rfl, .inl (.inl ha), h0, by show 2 ≤ sizeLine; decide, fun u nu => ?_⟩
    have su := same_upd (o := .tup [.str "sum", .str "cap"]) nu
    refine ⟨u, _, rfl, .inr (.inl (.inl upd_same)), rfl, rfl, _, rfl, ?_⟩
    generalize upd H u (.tup [.str "sum", .str "cap"]) = H1 at su ⊢
    have ew := word_ties rs[k]
    have hv1 := hv.keep (Keep.same su)
    have hA1 := hA.keep su
    have lp : rs[k].persons.length ≤ 900 := by have := hh.few hk; omega
    by_cases ct : TieR rs[k]
    · refine iteN (by rw [if_pos rfl]; rw [show inV (V.str (wordX rs[k])) [.str "sum", .str "cap"] = true from ew.trans (decide_eq_true ct)]; rfl) ?_
      refine ⟨.ref a, rfl, .ref a, rs[k], rfl, hv1, by omega, fun pl ps H2 s2 npl hpl pr => ⟨pl, rfl, ⟨_, .inl (.inl hpl)⟩, fun D hD => ?_⟩⟩
      have s02 := su.trans s2
      have lps : ps.length = (seenPairs rs[k]).length := pr.length
      have lsp : (seenPairs rs[k]).length = rs[k].persons.length := by rw [← seen_persons, List.length_map]
      obtain ⟨old, eold⟩ : ∃ old, seenPairs rs[k] = old := ⟨_, rfl⟩
      have ndo : (old.map (·.1)).Nodup := by rw [← eold]; exact seen_tie ct (hh.2.2 _ (List.getElem_mem hk))
      rw [eold] at pr lps lsp
      refine lc_it (walk_list (K := K) (xs := ps.map V.ref)) (fun i H3 => ∃ qs : List Addr, Same H2 H3 ∧ H3 D = some (.lst (qs.map V.ref)) ∧ qs.length ≤ i ∧ Paired (PairAtH H3) qs ((old.take i).filter fun q => decide (q.1 ≠ o))) ⟨[], same_upd hD, upd_same, Nat.le_refl _, .nil⟩ (fun i H3 _ ⟨qs, s3, _⟩ => .inl (.inl (s3 _ _ hpl))) ?_ ?_
      · rintro i y H3 H4 hi ⟨qs, s3, h3, lq, pq⟩ ⟨rfl, hy⟩
        rw [List.length_map] at hi
        rw [List.getElem?_map, List.getElem?_eq_getElem hi] at hy
        cases hy
        have hi' : i < old.length := by omega
        have e2 := s3 _ _ (pairs_at pr i hi hi')
        refine ⟨rfl, .ref ps[i], rfl, ps[i], _, 0, _, rfl, rfl, .inl (.inl e2), rfl, .int o, rfl, rfl, _, rfl, ?_⟩
        by_cases co2 : old[i].1 = o
        · refine iteN (by rw [decide_eq_true (congrArg V.int co2)]; rfl) ⟨qs, s3, h3, by omega, ?_⟩
          rw [List.take_add_one, List.getElem?_eq_getElem hi', List.filter_append]
          have : (Option.some old[i]).toList.filter (fun q => decide (q.1 ≠ o)) = [] := by simp [co2]
          rw [this, List.append_nil]
          exact pq
        · refine iteP (by rw [decide_eq_false (fun z => co2 (V.int.inj z))]; rfl) ⟨_, rfl, _, h3, by rw [List.length_map]; exact small1000 (by omega), qs ++ [ps[i]], same_mut s3 hD, by rw [upd_same, List.map_append]; rfl, by rw [List.length_append]; show qs.length + 1 ≤ i + 1; omega, ?_⟩
          have kT := keep_lst (ys := qs.map V.ref ++ [V.ref ps[i]]) h3
          rw [List.take_add_one, List.getElem?_eq_getElem hi', List.filter_append]
          have : (Option.some old[i]).toList.filter (fun q => decide (q.1 ≠ o)) = [old[i]] := by simp [co2]
          rw [this]
          exact Paired.snoc (R := PairAtH _) (kT.tup _ _ e2) (pairs_keep kT pq)
      rintro H3 ⟨qs, s3, h3, lq, pq⟩
      rw [List.length_map] at lq
      rw [List.length_map, lps, List.take_length] at pq
      dsimp only [gName]
      refine seq_useX (fun σ H4 => σ = [some (.ref x), some (.int (k : Int)), some (.int o), some (.int wt), some (.ref a), some (.ref D), none] ∧ ∃ qs : List Addr, Same H2 H4 ∧ H4 D = some (.lst (qs.map V.ref)) ∧ Paired (PairAtH H4) qs (tieL o wt old)) (fun N hN => ?_) ?_
      · refine ⟨.int wt, rfl, wt, 0, rfl, rfl, _, rfl, ite2 (fun cw => ?_) (fun cw => ?_)⟩
        · have cw : 0 < wt := of_decide_eq_true cw
          refine ⟨.ref D, rfl, .inl ⟨rfl, _, .inl (.inl h3)⟩, .int o, rfl, .int wt, rfl, by show 2 ≤ sizeLine; decide, fun g ng => ?_⟩
          have sg := same_upd (o := .tup [.int o, .int wt]) ng
          have h4 := sg _ _ h3
          have kT := keep_lst (ys := qs.map V.ref ++ [V.ref g]) h4
          refine ⟨D, _, .ref g, rfl, rfl, h4, by rw [List.length_map]; exact small1000 (by omega), hN _ _ ⟨rfl, qs ++ [g], same_mut (s3.trans sg) hD, by rw [upd_same, List.map_append]; rfl, ?_⟩⟩
          unfold tieL
          rw [if_pos cw]
          exact Paired.snoc (R := PairAtH _) (kT.tup _ _ upd_same) (pairs_keep kT (pairs_keep (Keep.same sg) pq))
        · refine hN _ _ ⟨rfl, qs, s3, h3, ?_⟩
          have cw : ¬ 0 < wt := fun z => cw (decide_eq_true z)
          unfold tieL
          rw [if_neg cw, List.append_nil]
          exact pq
      rintro σ H4 ⟨rfl, qs, s4, h4, pq⟩
      have pr2 := PrsAt.ofP pq
      obtain ⟨em, al⟩ := pr2.map
      refine ⟨.ref x, rfl, .int (k : Int), rfl, .ref a, rfl, .ref D, rfl, D, qs.map V.ref, kOf H4, rfl, .inl (.inl h4), fun v hv => al v hv, fun ys p2 sd st np2 => ?_⟩
      have s5 := same_upd (o := .lst ys) np2
      have h5 := upd_same (H := H4) (a := p2) (o := HO.lst ys)
      have pr5 : PrsAt (upd H4 p2 (.lst ys)) ys (ys.map (kOf H4)) := (PrsAt.of fun v hv => al v (st.perm.mem_iff.mp hv)).keep (Keep.same s5)
      generalize upd H4 p2 (.lst ys) = H5 at s5 h5 pr5 ⊢
      have perm : (ys.map (kOf H4)).Perm (tieL o wt old) := by
        rw [em]
        exact st.perm.map _
      have nd2 : ((ys.map (kOf H4)).map (·.1)).Nodup := (perm.map (·.1)).nodup_iff.mpr (tieL_nodup ndo)
      have srt : (ys.map (kOf H4)).Pairwise (fun a b => a.1 < b.1) := by
        refine strict_ofP (List.pairwise_map.mpr (List.Pairwise.imp (fun {a b} z => ?_) sd)) nd2
        have := SrtO.lexB_no.mp z
        omega
      obtain ⟨as, ea, pa⟩ := pr5.pairs
      subst ea
      have s05 := s02.trans (s4.trans s5)
      have lq2 : (tieL o wt old).length ≤ 901 := by
        unfold tieL
        rw [List.length_append]
        have h1 : (old.filter fun q => decide (q.1 ≠ o)).length ≤ old.length := List.length_filter_le _ _
        have h2 : (if 0 < wt then [(o, wt)] else []).length ≤ 1 := by split <;> simp
        omega
      have tied : IsTied o wt rs[k] (tiedR rs[k] ((as.map V.ref).map (kOf H4))) := ⟨_, by rw [eold]; exact perm, srt, rfl⟩
      refine ⟨.ref a, rs[k], p2, as, _, rfl, hv.keep (Keep.same s05), h5, pa, by rw [perm.length_eq]; omega, fun u H6 s6 hu => ?_⟩
      have s06 := s05.trans s6
      exact ⟨x, k, u, _, rs, rfl, hA.keep s06, hh, hk, hu, tied_wf ct (hh.2.2 _ (List.getElem_mem hk)) co.1 co.2 w1 tied, fun z H7 s7 hZ => qQ k hk rfl co ct _ z H7 tied (s06.trans s7) hZ⟩
    · refine iteP (by rw [if_pos rfl]; rw [show inV (V.str (wordX rs[k])) [.str "sum", .str "cap"] = false from ew.trans (decide_eq_false ct)]; rfl) ?_
      refine ⟨.int (k : Int), rfl, by show 1 ≤ 1000; decide, fun e ne => ?_⟩
      refine ⟨e, .int (k : Int), rfl, upd_same, fun d nd nde => ⟨rfl, d, [("person", .int (k : Int))], upd_same, ?_, ?_, ?_⟩⟩
      · rw [upd_ne nde, upd_same]
      · rw [upd_ne nde] at nd; exact nd
      · rw [upd_ne nde] at nd
        refine eS k hk rfl co ct d _ (su.trans fun b o hbo => ?_) (su.free nd) upd_same
        have n1 : b ≠ e := ne_of_none hbo ne
        have n2 : b ≠ d := ne_of_none hbo nd
        rw [upd_ne n2, L2.del_ne n1, upd_ne n1, upd_ne n2, upd_ne n1]
        exact hbo
end
end Lh

namespace Lh
open PySem PySem.Spec PyProof.Rows L2
/-- what comes of a hall with a person held, or tied -/
inductive Out
  | rules (rs : List Rule)
  | nobody (p : Int)
  | sum (p : Int)
def OutAt (H : Hp) (v : V) : Out → Prop
  | .rules rs => ∃ (l : Addr) (us : List V), v = .ref l ∧ H l = some (.lst us) ∧ RulesAt H us rs
  | .nobody p => ∃ t : Addr, v = .ref t ∧ H t = some (.tup [.str "nobody", .int p])
  | .sum p => ∃ t : Addr, v = .ref t ∧ H t = some (.tup [.str "sum", .int p])
inductive Says (rs : List Rule) (p wt : Int) : V → Out → Prop
  | held (k : Nat) (hk : k < rs.length) (e : p = (k : Int)) : Says rs p wt .non (.rules (rs.set k (.held wt)))
  | none1 (tv : V) (h : ¬ (0 ≤ p ∧ p < rs.length)) : Says rs p wt tv (.nobody p)
  | none2 (o : Int) (hp : 0 ≤ p ∧ p < rs.length) (h : ¬ (0 ≤ o ∧ o < rs.length)) : Says rs p wt (.int o) (.nobody o)
  | noSum (k : Nat) (hk : k < rs.length) (e : p = (k : Int)) (o : Int) (ho : 0 ≤ o ∧ o < rs.length) (h : ¬ TieR rs[k]) : Says rs p wt (.int o) (.sum p)
  | tied (k : Nat) (hk : k < rs.length) (e : p = (k : Int)) (o : Int) (ho : 0 ≤ o ∧ o < rs.length) (h : TieR rs[k]) (r2 : Rule) (t : IsTied o wt rs[k] r2) : Says rs p wt (.int o) (.rules (rs.set k r2))
theorem Says.unique {rs : List Rule} {p wt : Int} {tv : V} {a b : Out} (h : Says rs p wt tv a) (g : Says rs p wt tv b) : a = b := by
  cases h with
  | held k hk e =>
    cases g with
    | held k2 hk2 e2 =>
      have : k = k2 := by omega
      subst this; rfl
    | none1 _ h => exact absurd ⟨by omega, by omega⟩ h
  | none1 _ h =>
    cases g with
    | held k2 hk2 e2 => exact absurd ⟨by omega, by omega⟩ h
    | none1 _ _ => rfl
    | none2 o hp _ => exact absurd hp h
    | noSum k hk e => exact absurd ⟨by omega, by omega⟩ h
    | tied k hk e => exact absurd ⟨by omega, by omega⟩ h
  | none2 o hp h =>
    cases g with
    | none1 _ h2 => exact absurd hp h2
    | none2 _ _ _ => rfl
    | noSum k hk e _ ho => exact absurd ho h
    | tied k hk e _ ho => exact absurd ho h
  | noSum k hk e o ho h =>
    cases g with
    | none1 _ h2 => exact absurd ⟨by omega, by omega⟩ h2
    | none2 _ _ h2 => exact absurd ho h2
    | noSum _ _ _ _ _ _ => rfl
    | tied k2 hk2 e2 _ _ h2 =>
      have : k = k2 := by omega
      subst this; exact absurd h2 h
  | tied k hk e o ho h r2 t =>
    cases g with
    | none1 _ h2 => exact absurd ⟨by omega, by omega⟩ h2
    | none2 _ _ h2 => exact absurd ho h2
    | noSum k2 hk2 e2 _ _ h2 =>
      have : k = k2 := by omega
      subst this; exact absurd h h2
    | tied k2 hk2 e2 _ _ h2 r3 t3 =>
      have : k = k2 := by omega
      subst this
      rw [t.unique t3]
section
variable {P : Program} {w : World} {K : PySem.W.Frag} {mg : Str → Option Value} {base : Heap}
def spTold (C : Addr) : Sp := fun vs H Q _ => ∃ (x : Addr) (p wt : Int) (tv : V) (rs : List Rule), vs = [.ref x, .int p, tv, .int wt] ∧ HallAt C H x rs ∧ Halls rs ∧ 0 ≤ wt ∧ wt ≤ 1000 ∧ (tv = .non ∨ ∃ o, tv = .int o) ∧
  ∀ (out : Out) (v : V) (H' : Hp), Same H H' → Says rs p wt tv out → OutAt H' v out → Q v H'
set_option maxHeartbeats 4000000 in
theorem ok_told (T : Txt K mg w) : FnOk P w K mg base CX0 12 T.f_told T.fd_told p_told (spTold T.C_Hall) := by
  have G_held_at := ok_held_atX (P := P) (w := w) (base := base) T
  have G_tied := ok_tiedX (P := P) (w := w) (base := base) T
  have G_Hall_rules := ok_Hall_rules (P := P) (w := w) (base := base) T
  refine T.F_told.ok sc_told (fun vs H Q E h => ?_) (fun cdv A outer s H vs Q E hr h => ?_)
  · obtain ⟨x, p, wt, tv, rs, rfl, _⟩ := h
    rfl
  · obtain ⟨x, p, wt, tv, rs, rfl, hA, hh, w0, w1, htv, q⟩ := h
    refine ⟨_, (pss_cons (ps_asg (pe_tup (pa_cons pe_non (pa_cons pe_non pa_nil))) (pg_tup rfl (pgs_cons (pg_name (i := 4) sc_told.nd rfl (.inl rfl)) (pgs_cons (pg_name (i := 5) sc_told.nd rfl (.inl rfl)) pgs_nil))))
      (pss_cons (ps_try_keep (i := 6) rfl rfl rfl sc_told.nd rfl rfl (tests3 (by exact ⟨rfl, by decide, .inl T.g_NoPerson⟩) (by exact ⟨rfl, by decide, .inl T.g_NoSum⟩) (by exact ⟨rfl, by decide, .inl T.g_NotSums⟩)) (fun W pn xe tk _ => (pss_one (ps_set (i := 5) sc_told.nd rfl (.inl rfl) (pe_ifExp (pt_cmpR op_isN (pv 2) pe_non (nomark _)) (pe_callS G_held_at (hr.mono (by decide)) (by rfl) T.g_held_at T.F_held_at.kp T.b_held_at (fun σ => passAt tk σ) (pa_cons (pv 0) (pa_cons (pv 1) (pa_cons (pv 3) pa_nil)))) (pe_callS G_tied (hr.mono (by decide)) (by rfl) T.g_tied T.F_tied.kp T.b_tied (fun σ => passAt tk σ) (pa_cons (pv 0) (pa_cons (pv 1) (pa_cons (pv 2) (pa_cons (pv 3) pa_nil))))))))) (fun a oe cls d pn _ _ => (pss_one (ps_set (i := 4) sc_told.nd rfl (.inl rfl) (pv 6)))))
      (pss_cons (ps_if (pt_cmpR op_isN (pv 4) pe_non (nomark _))
        (pss_one (ps_ret (pe_callTy call_list_of (by rfl) T.m_list (by decide +kernel) (pa_cons (pe_meth0 (pv 5) T.cl_Hall T.me_Hall_rules G_Hall_rules (hr.mono (by decide)) T.b_Hall_rules .nil pass0) pa_nil))))
        pss_nil)
      (pss_cons (ps_set (i := 7) sc_told.nd rfl (.inl rfl) (pe_lst (pa_cons (pe_callB (call_or call_isi call_isX) (by rfl) T.m_isinstance (by decide +kernel) (pa_cons (pv 4) (pa_cons (pe_glob (v := .ref T.C_NoPerson) (by rfl) T.g_NoPerson rfl) pa_nil))) (pa_cons (pe_callB (call_or call_isi call_isX) (by rfl) T.m_isinstance (by decide +kernel) (pa_cons (pv 4) (pa_cons (pe_glob (v := .ref T.C_NoSum) (by rfl) T.g_NoSum rfl) pa_nil))) (pa_cons (pe_callB (call_or call_isi call_isX) (by rfl) T.m_isinstance (by decide +kernel) (pa_cons (pv 4) (pa_cons (pe_glob (v := .ref T.C_NotSums) (by rfl) T.g_NotSums rfl) pa_nil))) pa_nil)))))
      (pss_cons (ps_set (i := 8) sc_told.nd rfl (.inl rfl) (pe_lst (pa_cons (pe_callB (call_or call_isi call_isX) (by rfl) T.m_isinstance (by decide +kernel) (pa_cons (pv 4) (pa_cons (pe_bltn (v := .ty "IndexError") (by rfl) T.m_IndexError (by decide +kernel) rfl) pa_nil))) (pa_cons (pe_callB (call_or call_isi call_isX) (by rfl) T.m_isinstance (by decide +kernel) (pa_cons (pv 4) (pa_cons (pe_bltn (v := .ty "ValueError") (by rfl) T.m_ValueError (by decide +kernel) rfl) pa_nil))) pa_nil))))
      (pss_cons (ps_if (PW.pt (pw_and (pt_cmpR (op_eqD hr.units) (pv 7) (pe_lst (pa_cons pe_bl (pa_cons pe_bl (pa_cons pe_bl pa_nil)))) (nomark _)) (pw_and1 (pt_cmpR (op_eqD hr.units) (pv 8) (pe_lst (pa_cons pe_bl (pa_cons pe_bl pa_nil))) (nomark _)))))
        (pss_one (ps_ret (pe_tup (pa_cons pe_str (pa_cons (pe_xk (pv 4)) pa_nil)))))
        pss_nil)
      (pss_one (ps_ret (pe_ifExp (PW.pt (pw_and (pt_cmpR (op_eqD hr.units) (pv 7) (pe_lst (pa_cons pe_bl (pa_cons pe_bl (pa_cons pe_bl pa_nil)))) (nomark _)) (pw_and1 (pt_cmpR (op_eqD hr.units) (pv 8) (pe_lst (pa_cons pe_bl (pa_cons pe_bl pa_nil))) (nomark _))))) (pe_tup (pa_cons pe_str (pa_cons (pe_xk (pv 4)) pa_nil))) pe_non))))))))), ?_⟩
    refine ⟨by show 2 ≤ sizeLine; decide, fun tp ntp => ⟨tp, _, rfl, .inl (.inl upd_same), rfl, _, _, rfl, _, _, rfl, rfl, ?_⟩⟩
    have s0 := same_upd (o := .tup [V.non, .non]) ntp
    generalize upd H tp (.tup [V.non, .non]) = H0 at s0 ⊢
    have hA0 := hA.keep s0
    dsimp only
    refine seq_useX (fun σ H1 => (∃ (z : Addr) (rs2 : List Rule), σ = [some (.ref x), some (.int p), some tv, some (.int wt), some .non, some (.ref z), none, none, none] ∧ Same H0 H1 ∧ HallAt T.C_Hall H1 z rs2 ∧ Says rs p wt tv (.rules rs2)) ∨
      (∃ (e d : Addr) (n : Int), σ = [some (.ref x), some (.int p), some tv, some (.int wt), some (.ref e), some .non, none, none, none] ∧ Same H0 H1 ∧ H1 e = some (exK e (.ref T.C_NoPerson) (some d)) ∧ H1 d = some (.xd [("person", .int n)]) ∧ Says rs p wt tv (.nobody n)) ∨
      (∃ (e d : Addr) (n : Int), σ = [some (.ref x), some (.int p), some tv, some (.int wt), some (.ref e), some .non, none, none, none] ∧ Same H0 H1 ∧ H1 e = some (exK e (.ref T.C_NoSum) (some d)) ∧ H1 d = some (.xd [("person", .int n)]) ∧ Says rs p wt tv (.sum n))) (fun N hN => ?_) ?_
    · have keepP : ∀ (n : Int) (d : Addr) (H' : Hp), Same H0 H' → H' d = some (.xd [("person", .int n)]) → Says rs p wt tv (.nobody n) → ∀ e, H' e = none → N [some (.ref x), some (.int p), some tv, some (.int wt), some (.ref e), some .non, none, none, none] (upd H' e (exK e (.ref T.C_NoPerson) (some d))) := fun n d H' s' hd sy e ne => by
        have se := same_upd (o := exK e (.ref T.C_NoPerson) (some d)) ne
        exact hN _ _ (.inr (.inl ⟨e, d, n, rfl, s'.trans se, upd_same, se _ _ hd, sy⟩))
      have keepS : ∀ (n : Int) (d : Addr) (H' : Hp), Same H0 H' → H' d = some (.xd [("person", .int n)]) → Says rs p wt tv (.sum n) → ∀ e, H' e = none → N [some (.ref x), some (.int p), some tv, some (.int wt), some (.ref e), some .non, none, none, none] (upd H' e (exK e (.ref T.C_NoSum) (some d))) := fun n d H' s' hd sy e ne => by
        have se := same_upd (o := exK e (.ref T.C_NoSum) (some d)) ne
        exact hN _ _ (.inr (.inr ⟨e, d, n, rfl, s'.trans se, upd_same, se _ _ hd, sy⟩))
      have mP := exm_three T.em_NoPerson_NoPerson T.em_NoPerson_NoSum T.em_NoPerson_NotSums
      have mS := exm_three T.em_NoSum_NoPerson T.em_NoSum_NoSum T.em_NoSum_NotSums
      rcases htv with rfl | ⟨o, rfl⟩
      · refine ⟨.non, rfl, rfl, _, rfl, iteP (decide_eq_true rfl) ?_⟩
        refine ⟨.ref x, rfl, .int p, rfl, .int wt, rfl, x, p, wt, rs, rfl, hA0, hh, w0, w1, fun k hk e z H' s' hZ => ?_, fun c d H' s' nd hd => ⟨mP, fun e ne => ?_⟩⟩
        · exact hN _ _ (.inl ⟨z, _, rfl, s', hZ, .held k hk e⟩)
        · exact ⟨.ref e, rfl, keepP p d H' s' hd (.none1 _ c) e ne⟩
      · refine ⟨.int o, rfl, rfl, _, rfl, iteN (decide_eq_false (by intro z; cases z)) ?_⟩
        refine ⟨.ref x, rfl, .int p, rfl, .int o, rfl, .int wt, rfl, x, p, o, wt, rs, rfl, hA0, hh, w1, fun c d H' s' nd hd => ⟨mP, fun e ne => ?_⟩, fun cp c d H' s' nd hd => ⟨mP, fun e ne => ?_⟩, fun k hk e co ct d H' s' nd hd => ⟨mS, fun e2 ne => ?_⟩, fun k hk e co ct r2 z H' ti s' hZ => ?_⟩
        · exact ⟨.ref e, rfl, keepP p d H' s' hd (.none1 _ c) e ne⟩
        · exact ⟨.ref e, rfl, keepP o d H' s' hd (.none2 o cp c) e ne⟩
        · exact ⟨.ref e2, rfl, keepS p d H' s' hd (.noSum k hk e o co ct) e2 ne⟩
        · exact hN _ _ (.inl ⟨z, _, rfl, s', hZ, .tied k hk e o co ct r2 ti⟩)
    rintro σ H1 (h1 | h1 | h1)
    · obtain ⟨z, rs2, rfl, s1, hZ, sy⟩ := h1
      obtain ⟨dz, tz, vz, hz, _, _⟩ := id hZ
      refine ⟨.non, rfl, rfl, _, rfl, iteP (decide_eq_true rfl) ?_⟩
      refine ⟨.ref z, rfl, z, dz, _, rfl, hz, kept_no _ (by decide +kernel), z, rs2, rfl, hZ, fun t us ht ra => ?_⟩
      refine ⟨t, us, rfl, .inr ht.sq, fun l nl => ?_⟩
      have sl := same_upd (o := .lst us) nl
      exact q _ _ _ (s0.trans (s1.trans sl)) sy ⟨l, us, rfl, upd_same, ra.keep (Keep.same sl)⟩
    · obtain ⟨e, d, n, rfl, s1, he, hd, sy⟩ := h1
      have xk := T.xc_NoPerson
      refine ⟨.ref e, rfl, rfl, _, rfl, iteN (decide_eq_false (by intro z; cases z)) ?_⟩
      refine ⟨.ref e, rfl, .inr ⟨e, T.C_NoPerson, d, _, .ref T.C_NoPerson, .ref T.C_NoPerson, _, rfl, he, hd, xk, fun u h => h, T.ki_NoPerson_NoPerson, ?_⟩⟩
      refine ⟨.ref e, rfl, .inr ⟨e, T.C_NoPerson, d, _, .ref T.C_NoSum, .ref T.C_NoSum, _, rfl, he, hd, xk, fun u h => h, T.ki_NoPerson_NoSum, ?_⟩⟩
      refine ⟨.ref e, rfl, .inr ⟨e, T.C_NoPerson, d, _, .ref T.C_NotSums, .ref T.C_NotSums, _, rfl, he, hd, xk, fun u h => h, T.ki_NoPerson_NotSums, ?_⟩⟩
      refine ⟨by show 3 ≤ sizeLine; decide, fun l1 nl1 => ?_⟩
      have t1 := same_upd (o := .lst [V.bl true, .bl false, .bl false]) nl1
      have g1 := upd_same (H := H1) (a := l1) (o := HO.lst [V.bl true, .bl false, .bl false])
      generalize upd H1 l1 (.lst [V.bl true, .bl false, .bl false]) = H2 at t1 g1 ⊢
      refine ⟨.ref e, rfl, .inr ⟨e, T.C_NoPerson, d, _, .ty "IndexError", .type "IndexError", _, rfl, t1 _ _ he, t1 _ _ hd, xk, fun u h => h, T.ki_NoPerson_IndexError, ?_⟩⟩
      refine ⟨.ref e, rfl, .inr ⟨e, T.C_NoPerson, d, _, .ty "ValueError", .type "ValueError", _, rfl, t1 _ _ he, t1 _ _ hd, xk, fun u h => h, T.ki_NoPerson_ValueError, ?_⟩⟩
      refine ⟨by show 2 ≤ sizeLine; decide, fun l2 nl2 => ?_⟩
      have t2 := same_upd (o := .lst [V.bl true, .bl false]) nl2
      have g2 := upd_same (H := H2) (a := l2) (o := HO.lst [V.bl true, .bl false])
      generalize upd H2 l2 (.lst [V.bl true, .bl false]) = H3 at t2 g2 ⊢
      have g1' := t2 _ _ g1
      refine ⟨.ref l1, rfl, by show 3 ≤ sizeLine; decide, fun c1 nc1 => ?_⟩
      have tc1 := same_upd (o := .lst [V.bl true, .bl false, .bl false]) nc1
      have gc1 := upd_same (H := H3) (a := c1) (o := HO.lst [V.bl true, .bl false, .bl false])
      generalize upd H3 c1 (.lst [V.bl true, .bl false, .bl false]) = H4 at tc1 gc1 ⊢
      refine ⟨.list [.bool true, .bool false, .bool false], .list [.bool true, .bool false, .bool false], Rp.dp (bx := l1 + 1) (.lst (tc1 _ _ g1') (Nat.ne_of_lt (Nat.lt_succ_self _)) (.cons (.bl _) (.cons (.bl _) (.cons (.bl _) .nil)))), Rp.dp (bx := c1 + 1) (.lst gc1 (Nat.ne_of_lt (Nat.lt_succ_self _)) (.cons (.bl _) (.cons (.bl _) (.cons (.bl _) .nil)))), (by decide +kernel), (by decide +kernel), _, rfl, iteP (by decide +kernel) ?_⟩
      refine ⟨.ref l2, rfl, by show 2 ≤ sizeLine; decide, fun c2 nc2 => ?_⟩
      have tc2 := same_upd (o := .lst [V.bl true, .bl false]) nc2
      have gc2 := upd_same (H := H4) (a := c2) (o := HO.lst [V.bl true, .bl false])
      generalize upd H4 c2 (.lst [V.bl true, .bl false]) = H5 at tc2 gc2 ⊢
      refine ⟨.list [.bool true, .bool false], .list [.bool true, .bool false], Rp.dp (bx := l2 + 1) (.lst (tc2 _ _ (tc1 _ _ g2)) (Nat.ne_of_lt (Nat.lt_succ_self _)) (.cons (.bl _) (.cons (.bl _) .nil))), Rp.dp (bx := c2 + 1) (.lst gc2 (Nat.ne_of_lt (Nat.lt_succ_self _)) (.cons (.bl _) (.cons (.bl _) .nil))), (by decide +kernel), (by decide +kernel), _, rfl, iteP (by decide +kernel) ?_⟩
      have s15 := t1.trans (t2.trans (tc1.trans tc2))
      refine ⟨.ref e, rfl, e, T.C_NoPerson, d, _, .int n, rfl, s15 _ _ he, s15 _ _ hd, T.xf_NoPerson, T.na_NoPerson_person, rfl, by show 2 ≤ sizeLine; decide, fun t nt => ?_⟩
      exact q _ _ _ (s0.trans (s1.trans (s15.trans (same_upd nt)))) sy ⟨t, rfl, upd_same⟩
    · obtain ⟨e, d, n, rfl, s1, he, hd, sy⟩ := h1
      have xk := T.xc_NoSum
      refine ⟨.ref e, rfl, rfl, _, rfl, iteN (decide_eq_false (by intro z; cases z)) ?_⟩
      refine ⟨.ref e, rfl, .inr ⟨e, T.C_NoSum, d, _, .ref T.C_NoPerson, .ref T.C_NoPerson, _, rfl, he, hd, xk, fun u h => h, T.ki_NoSum_NoPerson, ?_⟩⟩
      refine ⟨.ref e, rfl, .inr ⟨e, T.C_NoSum, d, _, .ref T.C_NoSum, .ref T.C_NoSum, _, rfl, he, hd, xk, fun u h => h, T.ki_NoSum_NoSum, ?_⟩⟩
      refine ⟨.ref e, rfl, .inr ⟨e, T.C_NoSum, d, _, .ref T.C_NotSums, .ref T.C_NotSums, _, rfl, he, hd, xk, fun u h => h, T.ki_NoSum_NotSums, ?_⟩⟩
      refine ⟨by show 3 ≤ sizeLine; decide, fun l1 nl1 => ?_⟩
      have t1 := same_upd (o := .lst [V.bl false, .bl true, .bl false]) nl1
      have g1 := upd_same (H := H1) (a := l1) (o := HO.lst [V.bl false, .bl true, .bl false])
      generalize upd H1 l1 (.lst [V.bl false, .bl true, .bl false]) = H2 at t1 g1 ⊢
      refine ⟨.ref e, rfl, .inr ⟨e, T.C_NoSum, d, _, .ty "IndexError", .type "IndexError", _, rfl, t1 _ _ he, t1 _ _ hd, xk, fun u h => h, T.ki_NoSum_IndexError, ?_⟩⟩
      refine ⟨.ref e, rfl, .inr ⟨e, T.C_NoSum, d, _, .ty "ValueError", .type "ValueError", _, rfl, t1 _ _ he, t1 _ _ hd, xk, fun u h => h, T.ki_NoSum_ValueError, ?_⟩⟩
      refine ⟨by show 2 ≤ sizeLine; decide, fun l2 nl2 => ?_⟩
      have t2 := same_upd (o := .lst [V.bl false, .bl true]) nl2
      have g2 := upd_same (H := H2) (a := l2) (o := HO.lst [V.bl false, .bl true])
      generalize upd H2 l2 (.lst [V.bl false, .bl true]) = H3 at t2 g2 ⊢
      have g1' := t2 _ _ g1
      refine ⟨.ref l1, rfl, by show 3 ≤ sizeLine; decide, fun c1 nc1 => ?_⟩
      have tc1 := same_upd (o := .lst [V.bl true, .bl false, .bl false]) nc1
      have gc1 := upd_same (H := H3) (a := c1) (o := HO.lst [V.bl true, .bl false, .bl false])
      generalize upd H3 c1 (.lst [V.bl true, .bl false, .bl false]) = H4 at tc1 gc1 ⊢
      refine ⟨.list [.bool false, .bool true, .bool false], .list [.bool true, .bool false, .bool false], Rp.dp (bx := l1 + 1) (.lst (tc1 _ _ g1') (Nat.ne_of_lt (Nat.lt_succ_self _)) (.cons (.bl _) (.cons (.bl _) (.cons (.bl _) .nil)))), Rp.dp (bx := c1 + 1) (.lst gc1 (Nat.ne_of_lt (Nat.lt_succ_self _)) (.cons (.bl _) (.cons (.bl _) (.cons (.bl _) .nil)))), (by decide +kernel), (by decide +kernel), _, rfl, iteN (by decide +kernel) ?_⟩
      refine ⟨.ref l1, rfl, by show 3 ≤ sizeLine; decide, fun c3 nc3 => ?_⟩
      have tc3 := same_upd (o := .lst [V.bl false, .bl true, .bl false]) nc3
      have gc3 := upd_same (H := H4) (a := c3) (o := HO.lst [V.bl false, .bl true, .bl false])
      generalize upd H4 c3 (.lst [V.bl false, .bl true, .bl false]) = H5 at tc3 gc3 ⊢
      refine ⟨.list [.bool false, .bool true, .bool false], .list [.bool false, .bool true, .bool false], Rp.dp (bx := l1 + 1) (.lst (tc3 _ _ (tc1 _ _ g1')) (Nat.ne_of_lt (Nat.lt_succ_self _)) (.cons (.bl _) (.cons (.bl _) (.cons (.bl _) .nil)))), Rp.dp (bx := c3 + 1) (.lst gc3 (Nat.ne_of_lt (Nat.lt_succ_self _)) (.cons (.bl _) (.cons (.bl _) (.cons (.bl _) .nil)))), (by decide +kernel), (by decide +kernel), _, rfl, iteP (by decide +kernel) ?_⟩
      refine ⟨.ref l2, rfl, by show 2 ≤ sizeLine; decide, fun c2 nc2 => ?_⟩
      have tc2 := same_upd (o := .lst [V.bl false, .bl true]) nc2
      have gc2 := upd_same (H := H5) (a := c2) (o := HO.lst [V.bl false, .bl true])
      generalize upd H5 c2 (.lst [V.bl false, .bl true]) = H6 at tc2 gc2 ⊢
      refine ⟨.list [.bool false, .bool true], .list [.bool false, .bool true], Rp.dp (bx := l2 + 1) (.lst (tc2 _ _ (tc3 _ _ (tc1 _ _ g2))) (Nat.ne_of_lt (Nat.lt_succ_self _)) (.cons (.bl _) (.cons (.bl _) .nil))), Rp.dp (bx := c2 + 1) (.lst gc2 (Nat.ne_of_lt (Nat.lt_succ_self _)) (.cons (.bl _) (.cons (.bl _) .nil))), (by decide +kernel), (by decide +kernel), _, rfl, iteP (by decide +kernel) ?_⟩
      have s15 := t1.trans (t2.trans (tc1.trans (tc3.trans tc2)))
      refine ⟨.ref e, rfl, e, T.C_NoSum, d, _, .int n, rfl, s15 _ _ he, s15 _ _ hd, T.xf_NoSum, T.na_NoSum_person, rfl, by show 2 ≤ sizeLine; decide, fun t nt => ?_⟩
      exact q _ _ _ (s0.trans (s1.trans (s15.trans (same_upd nt)))) sy ⟨t, rfl, upd_same⟩
end
end Lh

namespace Lh
open PySem PySem.Spec PyProof.Rows L2
/-! ### a dict comprehension of two clauses without tests -/
abbrev dc2 (kx vx a b c d : Expr) (scope : Scope) (pos : Pos) : Expr := .DictComp kx vx [⟨a, b, [], 0⟩, ⟨c, d, [], 0⟩] scope pos
theorem dc2_turn0 (kx vx a b c d : Expr) (scope : Scope) (pos : Pos) (it acc : Value) (env : Env) : compTurn (dc2 kx vx a b c d scope pos) 0 it acc env = (do
    standAt b.pos
    match ← pyNext it with
    | none => pure (.done .next)
    | some v =>
      letOwnedTupleGo a it v
      assign a env v
      let x ← eval d env
      standAt d.pos
      let x ← foldedSetIterable d env x
      let _ ← runOwn (.compStart (dc2 kx vx a b c d scope pos) 1 (← holding [x] (pyIter x)) acc env) env
      again (.compLoop (dc2 kx vx a b c d scope pos) 0 it acc env)) := by rfl
theorem dc2_turn1 (kx vx a b c d : Expr) (scope : Scope) (pos : Pos) (it : Value) (D : Addr) (env : Env) : compTurn (dc2 kx vx a b c d scope pos) 1 it (.ref D) env = (do
    standAt d.pos
    match ← pyNext it with
    | none => pure (.done .next)
    | some v =>
      letOwnedTupleGo c it v
      assign c env v
      (do
        let kv ← eval kx env
        let vv ← holding [kv] (eval vx env)
        standAt { kx.pos with endLine := vx.pos.endLine, endCol := vx.pos.endCol }
        holding [kv, vv] (dictSet D kv vv))
      again (.compLoop (dc2 kx vx a b c d scope pos) 1 it (.ref D) env)) := by rfl
section
variable {prog : Program} {w : World} {A : Around} {R : Result → Shared → Prop} {s : Shared} {kx vx a b c d : Expr} {scope : Scope} {pos : Pos} {it acc : Value} {env : Env}
/-- turns of the outer clause, each measured -/
theorem dc2_outer (hf : ∀ x, foldedSetIterable d env x = pure x) (Inn : Nat → Shared → Prop)
    (one : ∀ n s, Inn n s → wpAny (model prog w) A (pyNext it) (fun o z1 => match o with
      | none => R (.ok .next) z1
      | some v => wpAny (model prog w) A (letOwnedTupleGo a it v) (fun _ z2 => wpAny (model prog w) A (assign a env v) (fun _ z3 => wpAny (model prog w) A (eval d env) (fun x z4 => wpAny (model prog w) A (pyIter x) (fun it1 z5 =>
          codeAny (model prog w) A (.compStart (dc2 kx vx a b c d scope pos) 1 it1 acc env) (fun o z6 => match o with | .ok _ => ∃ m, m < n ∧ Inn m z6 | .error _ => False) z5) (notedBy (model prog w) A env fun e z => R (.error e) z) z4) (notedBy (model prog w) A env fun e z => R (.error e) z) z3) (notedBy (model prog w) A env fun e z => R (.error e) z) z2) (notedBy (model prog w) A env fun e z => R (.error e) z) z1) (notedBy (model prog w) A env fun e z => R (.error e) z) s)
    (n : Nat) (h0 : Inn n s) : codeAny (model prog w) A (.compLoop (dc2 kx vx a b c d scope pos) 0 it acc env) R s := by
  refine codeAny_loop rfl Inn (fun n s hn => ?_) n h0
  show wpAny _ A ((compTurn (dc2 kx vx a b c d scope pos) 0 it acc env).onRaise (fun x => do noteFrame x env; theTreesLotGoes x)) _ _ s
  rw [dc2_turn0]
  refine wpAny_noted (wpAny_bind (wpAny_standAt (wpAny_bind (wpAny_mono (one n s hn) (fun o z1 k1 => ?_) fun _ _ q => q))))
  match o, k1 with
  | none, k1 => exact wpAny_pure k1
  | some v, k1 =>
    refine wpAny_bind (wpAny_mono k1 (fun _ z2 k2 => wpAny_bind (wpAny_mono k2 (fun _ z3 k3 => wpAny_bind (wpAny_mono k3 (fun x z4 k4 => ?_) fun _ _ q => q)) fun _ _ q => q)) fun _ _ q => q)
    refine wpAny_bind (wpAny_standAt (wpAny_bind (wpAny_of_eq (hf x) (wpAny_bind (wpAny_holding (wpAny_mono k4 (fun it1 z5 k5 => wpAny_bind (wpAny_runOwn ?_)) fun _ _ q => q))))))
    rw [Around.mark_none]
    refine codeAny_mono k5 fun o z6 k6 => ?_
    cases o with
    | error e => exact k6.elim
    | ok f =>
      first
        | exact wpAny_pure ⟨rfl, k6⟩
        | exact wpAny_bind (wpAny_pure (wpAny_pure ⟨rfl, k6⟩))
/-- turns of the inner clause -/
theorem dc2_inner {D : Addr} (Inn : Nat → Shared → Prop)
    (one : ∀ n s, Inn n s → wpAny (model prog w) A (pyNext it) (fun o z1 => match o with
      | none => R (.ok .next) z1
      | some v => wpAny (model prog w) A (letOwnedTupleGo c it v) (fun _ z2 => wpAny (model prog w) A (assign c env v) (fun _ z3 => wpAny (model prog w) A (eval kx env) (fun kv z4 => wpAny (model prog w) A (eval vx env) (fun vv z5 =>
          wpAny (model prog w) A (dictSet D kv vv) (fun _ z6 => ∃ m, m < n ∧ Inn m z6) (notedBy (model prog w) A env fun e z => R (.error e) z) z5) (notedBy (model prog w) A env fun e z => R (.error e) z) z4) (notedBy (model prog w) A env fun e z => R (.error e) z) z3) (notedBy (model prog w) A env fun e z => R (.error e) z) z2) (notedBy (model prog w) A env fun e z => R (.error e) z) z1) (notedBy (model prog w) A env fun e z => R (.error e) z) s)
    (n : Nat) (h0 : Inn n s) : codeAny (model prog w) A (.compLoop (dc2 kx vx a b c d scope pos) 1 it (.ref D) env) R s := by
  refine codeAny_loop rfl Inn (fun n s hn => ?_) n h0
  show wpAny _ A ((compTurn (dc2 kx vx a b c d scope pos) 1 it (.ref D) env).onRaise (fun x => do noteFrame x env; theTreesLotGoes x)) _ _ s
  rw [dc2_turn1]
  refine wpAny_noted (wpAny_bind (wpAny_standAt (wpAny_bind (wpAny_mono (one n s hn) (fun o z1 k1 => ?_) fun _ _ q => q))))
  match o, k1 with
  | none, k1 => exact wpAny_pure k1
  | some v, k1 =>
    refine wpAny_bind (wpAny_mono k1 (fun _ z2 k2 => wpAny_bind (wpAny_mono k2 (fun _ z3 k3 => ?_) fun _ _ q => q)) fun _ _ q => q)
    refine wpAny_bind (wpAny_bind (wpAny_mono k3 (fun kv z4 k4 => wpAny_bind (wpAny_holding (wpAny_mono k4 (fun vv z5 k5 => wpAny_bind (wpAny_standAt (wpAny_holding (wpAny_mono k5 (fun _ z6 k6 => ?_) fun _ _ q => q)))) fun _ _ q => q))) fun _ _ q => q))
    exact wpAny_pure ⟨rfl, k6⟩
theorem dc2_begin1 (h0 : codeAny (model prog w) A (.compLoop (dc2 kx vx a b c d scope pos) 1 it acc env) R s)
    (h1 : wpAny (model prog w) A (pyIter it) (fun it' z => codeAny (model prog w) A (.compLoop (dc2 kx vx a b c d scope pos) 1 it' acc env) R z) (notedBy (model prog w) A env fun x z => R (.error x) z) s) : codeAny (model prog w) A (.compStart (dc2 kx vx a b c d scope pos) 1 it acc env) R s := by
  refine codeAny_of_tree (show wpAny _ _ ((compStart (dc2 kx vx a b c d scope pos) 1 it acc env).onRaise (fun x => do noteFrame x env; standAt theWindowsPlace)) _ _ s from wpAny_notedAt ?_)
  unfold compStart
  refine (show wpAny _ _ (ask >>= _) _ _ s from wpAny_bind (wpAny_askSetting (wpAny_ite ?_)))
  split
  · first
      | exact wpAny_pure ⟨rfl, h0⟩
      | exact wpAny_bind (wpAny_pure (wpAny_pure ⟨rfl, h0⟩))
  · refine wpAny_bind (wpAny_rule ?_)
    refine (show wpAny _ _ (standAt d.pos >>= _) _ _ s from wpAny_bind (wpAny_standAt (wpAny_bind (wpAny_mono h1 (fun it' z k => wpAny_pure ⟨rfl, k⟩) fun _ _ q => q))))
end
section
variable {X : Cx}
/-- {k: v for a in b for c in d}: D the new dict; vs the block's own slots, vs1 those of the inner target -/
def tDc2 (wi : TI) (g : TG) (wi1 : TI) (g1 : TG) (tk tv : TE) (vs vs1 : List Nat) : TE := fun σ H Q => wi σ H fun J H1 => ∀ D, H1 D = none → ∃ W : Nat → Nat → Hp → Prop, (∃ m, W 0 m (upd H1 D (.dK []))) ∧ ∀ i m H, W i m H →
  (J.stop i H ∧ Q (.ref D) H) ∨ (J.go i H ∧ ∃ Nx : Hp → Prop, (∀ H', Nx H' → ∃ m', m' < m ∧ W (i + 1) m' H') ∧ ∀ x H', J.yld i H x H' → g x (wipe σ vs) H' fun σ2 H2 => wipe σ2 vs = wipe σ vs ∧ wi1 σ2 H2 fun J1 H4 => ∃ W1 : Nat → Nat → Hp → Prop, (∃ m, W1 0 m H4) ∧ ∀ j k H, W1 j k H →
    (J1.stop j H ∧ Nx H) ∨ (J1.go j H ∧ ∃ Nx1 : Hp → Prop, (∀ H', Nx1 H' → ∃ k', k' < k ∧ W1 (j + 1) k' H') ∧ ∀ x H', J1.yld j H x H' → g1 x (wipe σ2 vs1) H' fun σ3 H5 => wipe σ3 vs1 = wipe σ2 vs1 ∧ tk σ3 H5 fun y H6 => tv σ3 H6 fun z H7 => ∃ kvs key, y = kV key ∧ H7 D = some (.dK kvs) ∧ kvs.length < sizeLine ∧ Nx1 (upd H7 D (.dK (putK kvs key z)))))
abbrev BkX (X : Cx) (scope : Scope) (G : Cx → Prop) : Prop := ∀ (s : Shared) (H : Hp) (C : Addr) (cl : List (Str × Addr)) (fp : List Addr), G (X.blk s H scope (compEnvC scope cl C X.env) fp)
set_option maxHeartbeats 4000000 in
theorem pe_dc2 {kx vx a b c d : Expr} {scope : Scope} {own : List (Str × Nat)} {vs1 : List Nat} {pos : Pos} {wi wi1 : TI} {g g1 : TG} {tk tv : TE} (hc : X.calm = true) (hN : X.N.Nodup) (hi : PI X a b wi) (ok : BlkOk X.N X.env.scope scope own) (hv : ∀ i ∈ vs1, i ∈ own.map (·.2))
    (hg : BkX X scope fun Y => PG Y a g) (hi1 : BkX X scope fun Y => PI Y c d wi1) (hg1 : BkX X scope fun Y => PG Y c g1) (hk : BkX X scope fun Y => PE Y kx tk) (he : BkX X scope fun Y => PE Y vx tv) (hs : ∀ x, foldedSetIterable b X.env x = pure x := by intro _; rfl) (hs1 : ∀ env x, foldedSetIterable d env x = pure x := by intro _ _; rfl) :
    PE X (.DictComp kx vx [⟨a, b, [], 0⟩, ⟨c, d, [], 0⟩] scope pos) (tDc2 wi g wi1 g1 tk tv (own.map (·.2)) vs1) := by
  refine ⟨fun pins s σ H Q I h => ?_⟩
  rw [arm_eval_DictComp]
  have cellsOk : ∀ y ∈ scope.names, y.2 = .free → ∃ c, X.env.cells.lookup y.1 = some c := fun y hy e => (ok.free y hy e).elim (fun z => I.ok.has _ (.inl z)) (fun z => I.ok.has _ (.inr z))
  refine wpAny_comprehension_free rfl hs (closure_ok cellsOk) ok.kind (fun y hy e => by rw [ok.uniq y hy, e]) (thn (hi.run pins s σ H _ I h) fun xv s1 hx => thn hx fun itv s2 h2 => ?_)
  obtain ⟨it, fp, tn, J, H2, eit, I2, TT, st2, f2, q⟩ := h2
  subst eit
  refine wpAny_newObj_type (newEnv_comp ?_)
  -- the new dict
  obtain ⟨D, hD⟩ : ∃ D, D = s2.heap.objs.size := ⟨_, rfl⟩
  rw [← hD]
  obtain ⟨W, ⟨m0, w0⟩, turn⟩ := q D (I2.hok.fresh (Nat.le_of_eq hD.symm))
  obtain ⟨s3, es3⟩ : ∃ s3 : Shared, s3 = { s2 with heap := s2.heap.push { cls := .type "dict", data := .dict #[] } } := ⟨_, rfl⟩
  have hp3 : s3.heap = s2.heap.push { cls := .type "dict", data := .dict #[] } := by rw [es3]
  obtain ⟨H3, eH3⟩ : ∃ H3 : Hp, H3 = upd H2 D (.dK []) := ⟨_, rfl⟩
  have I3 : Inv X pins σ H3 s3 := by
    rw [es3, eH3]
    exact I2.laid (t' := s2.toks) (fun _ _ e => Heap.get?_push_of_some _ e) (Nat.le_of_eq hD.symm) (by rw [hD]; exact dk_empty s2.heap I2.big)
  have low : ∀ z ∈ fp, z < s2.heap.objs.size := fun z hz => (TT.obj _ _ st2 z hz).elim fun o e => Heap.lt_size e.1
  have f3 : ∀ z ∈ fp, FpOk X pins H3 z ∧ z < s3.heap.objs.size := fun z hz => by
    refine ⟨⟨?_, (f2 z hz).2⟩, by rw [hp3, Heap.size_push]; exact Nat.lt_succ_of_lt (low z hz)⟩
    rw [eH3, upd_ne (fun e => Nat.lt_irrefl _ (by have := low z hz; rw [← hD, ← e] at this; exact this))]
    exact (f2 z hz).1
  have st3 : tn 0 s3.heap := TT.keep _ _ _ st2 fun z _ o e => by rw [hp3]; exact Heap.get?_push_of_some _ e
  have I4 := block_start I3 ok hN f3
  rw [← eH3] at w0
  rw [← es3]
  obtain ⟨cl, ecl⟩ : ∃ cl, cl = cellsFrom (s3.heap.objs.size + 1) scope.names (cloFrom X.env.cells scope.names []) := ⟨_, rfl⟩
  rw [← ecl] at I4
  have pg := hg s3 H3 s3.heap.objs.size cl fp
  have pi1 := hi1 s3 H3 s3.heap.objs.size cl fp
  have pg1 := hg1 s3 H3 s3.heap.objs.size cl fp
  have pk := hk s3 H3 s3.heap.objs.size cl fp
  have pv := he s3 H3 s3.heap.objs.size cl fp
  obtain ⟨ce, ece⟩ : ∃ ce, ce = compEnvC scope cl s3.heap.objs.size X.env := ⟨_, rfl⟩
  have cL : ce.locals = s3.heap.objs.size := by rw [ece]; rfl
  rw [← ece] at I4 pg pi1 pg1 pk pv
  obtain ⟨s4, es4⟩ : ∃ s4 : Shared, s4 = { s3 with heap := pushCells (s3.heap.push { cls := .type "dict", data := .dict #[] }) scope.names } := ⟨_, rfl⟩
  rw [← es4] at I4
  have st4 : tn 0 s4.heap := TT.keep _ _ _ st3 fun z _ o e => by rw [es4]; exact pushCells_keeps _ _ _ _ (Heap.get?_push_of_some _ e)
  obtain ⟨Y, eY⟩ : ∃ Y : Cx, Y = X.blk s3 H3 scope ce fp := ⟨_, rfl⟩
  have still : ∀ {σ' : L2.St} {H' : Hp} {s' : Shared}, Inv (X.blk s3 H3 scope ce fp) [] σ' H' s' → (∀ z ∈ fp, H' z = none) → ∀ z ∈ fp, FpOk (X.blk s3 H3 scope ce fp) [] H' z := fun J' hn z hz =>
    ⟨hn z hz, (J'.ok.exf z hz).1, J'.ok.exfs z hz, .inl hz, fun x c e => (J'.ok.exf z hz).2 x c e, fun p hp => absurd (show p ∈ ([] : List (Addr × Obj)) ++ [] from hp) (by simp)⟩
  have outer : codeAny (model X.prog X.w) X.A (.compLoop (dc2 kx vx a b c d scope pos) 0 (.ref it) (.ref D) ce) (compPost (model X.prog X.w) X.A X.xe none (fun v s' => ∃ (v0 : V) (H' : Hp), Inv X pins σ H' s' ∧ RelV v0 v ∧ Q v0 H') (.ref D) s3.heap.objs.size) s4 := by
    refine dc2_outer (hs1 ce) (fun n z => ∃ i H', Inv (X.blk s3 H3 scope ce fp) [] (wipe σ (own.map (·.2))) H' z ∧ tn i z.heap ∧ (∀ y ∈ fp, H' y = none) ∧ W i n H') ?_ m0 ⟨0, H3, I4, st4, fun z hz => (f3 z hz).1.1, w0⟩
    rintro n s5 ⟨i, H5, I5, st5, n5, w5⟩
    rcases turn i n H5 w5 with ⟨stop, qq⟩ | ⟨go, Nx, hNx, step⟩
    · refine thnF (TT.done (X.blk s3 H3 scope ce fp) rfl rfl rfl hc i [] s5 _ H5 (fun _ _ => False) I5 (still I5 n5) st5 stop) fun r s6 ⟨er, I6⟩ => ?_
      subst er
      have I7 : Inv X pins σ H5 s6 := I3.call' (ch := fp) I6.os I6.base I6.hok I6.bare fun z hz => by
        obtain ⟨_, q2, _, q4, q5, q6⟩ := (f3 z hz).1
        exact ⟨q4, q2, q5, q6⟩
      have nC : H5 s3.heap.objs.size = none := by rw [← cL]; exact I6.free
      obtain ⟨m, hn, _⟩ := I6.loc
      have hn' : s6.heap.Ns s3.heap.objs.size m := by rw [← cL]; exact hn
      obtain ⟨g0, g1', g2, g3, g4, g5⟩ := I3.fpOk (pins := pins) (Nat.le_refl s3.heap.objs.size) nC
      exact ⟨m, hn', fun h'' sb => ⟨.ref D, H5, I7.turned (t' := s6.toks) (fun y o hy e => (sb.2 y hy).trans e) g0 g1' g3 g4 g5, rfl, qq⟩⟩
    · refine thnF (TT.item (X.blk s3 H3 scope ce fp) rfl rfl rfl hc i [] s5 _ H5 (fun _ _ => False) I5 (still I5 n5) st5 go) fun r s6 ⟨u, er, h6⟩ => ?_
      subst er
      refine thnF h6 fun _ s7 ⟨x, H7, I7, r7, y7, st7, n7⟩ => ?_
      refine thnF (pg.run _ s7 _ H7 x u _ (I7.pinned (still I7 n7) (TT.obj _ _ st7)) r7 (step x H7 y7)) fun _ s8 ⟨σ8, H8, I8, w8, q8⟩ => ?_
      -- back to the outer clause from any slots that know what was known at first
      have back : ∀ {σ9 : L2.St} {z : Shared} {H' : Hp}, Inv (X.blk s3 H3 scope ce fp) ([] ++ pinsAt fp s7.heap) σ9 H' z → (wipe σ (own.map (·.2))).length = σ9.length → (∀ (j : Nat) v, (wipe σ (own.map (·.2)))[j]? = some (some v) → σ9[j]? = some (some v)) → Nx H' → ∃ m, m < n ∧ ∃ i H', Inv (X.blk s3 H3 scope ce fp) [] (wipe σ (own.map (·.2))) H' z ∧ tn i z.heap ∧ (∀ y ∈ fp, H' y = none) ∧ W i m H' := fun {σ9 z H'} J' e1 e2 nx => by
        obtain ⟨m', lt', w'⟩ := hNx H' nx
        have held : ∀ y ∈ fp, ∀ o, s7.heap.get? y = some o → z.heap.get? y = some o ∧ H' y = none := fun y hy o e => by
          have := J'.pin (y, o) (List.mem_append_right _ (List.mem_append_right _ (mem_pinsAt hy e)))
          exact ⟨this.1, this.2.1⟩
        exact ⟨m', lt', i + 1, H', (J'.unpinned (pins := [])).weak e1 e2, TT.keep _ _ _ st7 (fun y hy o e => (held y hy o e).1), (fun y hy => (TT.obj _ _ st7 y hy).elim fun o e => (held y hy o e.1).2), w'⟩
      have l8 : (wipe σ (own.map (·.2))).length = σ8.length := (congrArg List.length w8).symm.trans (wipe_length _ _)
      have k9 : ∀ (j : Nat) v, (wipe σ (own.map (·.2)))[j]? = some (some v) → (wipe σ8 vs1)[j]? = some (some v) := fun j v e => by
        rw [← w8] at e
        obtain ⟨a1, a2⟩ := wipe_some e
        rw [wipe_out fun z => a2 (hv j z)]
        exact a1
      refine thnF (pi1.run _ s8 σ8 H8 _ I8 q8) fun xv s10 hx => thnF hx fun itv s11 h11 => ?_
      obtain ⟨it1, fp1, tn1, J1, H11, ei1, I11, T1, st11, f11, W1, ⟨m1, w1⟩, turn1⟩ := h11
      subst ei1
      have still1 : ∀ {H' : Hp}, (∀ z ∈ fp1, H' z = none) → ∀ z ∈ fp1, FpOk (X.blk s3 H3 scope ce fp) ([] ++ pinsAt fp s7.heap) H' z := fun hn z hz => ⟨hn z hz, (f11 z hz).2⟩
      have inner : codeAny (model X.prog X.w) X.A (.compLoop (dc2 kx vx a b c d scope pos) 1 (.ref it1) (.ref D) ce) (fun r z => match r with | .ok _ => ∃ m, m < n ∧ ∃ i H', Inv (X.blk s3 H3 scope ce fp) [] (wipe σ (own.map (·.2))) H' z ∧ tn i z.heap ∧ (∀ y ∈ fp, H' y = none) ∧ W i m H' | .error _ => False) s11 := by
        refine dc2_inner (fun k z => ∃ j H', Inv (X.blk s3 H3 scope ce fp) ([] ++ pinsAt fp s7.heap) (wipe σ8 vs1) H' z ∧ tn1 j z.heap ∧ (∀ y ∈ fp1, H' y = none) ∧ W1 j k H') ?_ m1 ⟨0, H11, I11.weak (wipe_length _ _) (fun j v e => (wipe_some e).1), st11, fun z hz => (f11 z hz).1, w1⟩
        rintro k s12 ⟨j, H12, I12, st12, n12, w12⟩
        rcases turn1 j k H12 w12 with ⟨stop1, nx1⟩ | ⟨go1, Nx1, hNx1, step1⟩
        · refine thnF (T1.done (X.blk s3 H3 scope ce fp) rfl rfl rfl hc j _ s12 (wipe σ8 vs1) H12 (fun _ _ => False) I12 (still1 n12) st12 stop1) fun r s13 ⟨er, I13⟩ => ?_
          subst er
          exact back I13 (l8.trans (wipe_length σ8 vs1).symm) k9 nx1
        · refine thnF (T1.item (X.blk s3 H3 scope ce fp) rfl rfl rfl hc j _ s12 (wipe σ8 vs1) H12 (fun _ _ => False) I12 (still1 n12) st12 go1) fun r s13 ⟨u1, er, h13⟩ => ?_
          subst er
          refine thnF h13 fun _ s14 ⟨x1, H14, I14, r14, y14, st14, n14⟩ => ?_
          refine thnF (pg1.run _ s14 (wipe σ8 vs1) H14 x1 u1 _ (I14.pinned (still1 n14) (T1.obj _ _ st14)) r14 (step1 x1 H14 y14)) fun _ s15 ⟨σ15, H15, I15, w15, q15⟩ => ?_
          refine thnF (pk.run _ s15 σ15 H15 _ I15 q15) fun zk s16 ⟨yk, H16, I16, r16, q16⟩ => ?_
          refine thnF (pv.run _ s16 σ15 H16 _ I16 q16) fun zv s17 ⟨yv, H17, I17, r17, kvs, key, ek, hD17, hz17, nx⟩ => ?_
          subst ek
          refine d_dictSet (X := X.blk s3 H3 scope ce fp) I17 hD17 hz17 r16 r17 fun s18 I18 => ?_
          obtain ⟨m', lt', w'⟩ := hNx1 _ nx
          have held : ∀ y ∈ fp1, ∀ o, s14.heap.get? y = some o → s18.heap.get? y = some o ∧ upd H17 D (.dK (putK kvs key yv)) y = none := fun y hy o e => by
            have := I18.pin (y, o) (List.mem_append_right _ (List.mem_append_right _ (mem_pinsAt hy e)))
            exact ⟨this.1, this.2.1⟩
          exact ⟨m', lt', j + 1, _, I18.unpinned.weak ((congrArg List.length w15).symm.trans (wipe_length _ _)) (fun j v e => by rw [← w15] at e; exact (wipe_some e).1), T1.keep _ _ _ st14 (fun y hy o e => (held y hy o e).1), (fun y hy => (T1.obj _ _ st14 y hy).elim fun o e => (held y hy o e.1).2), w'⟩
      exact dc2_begin1 inner (T1.self X.A 0 _ _ _ st11 inner)
  have := codeAny_compStart_dict outer (TT.self X.A 0 _ _ _ st4 outer)
  rw [ece, ecl, es4] at this
  exact this
end
end Lh

namespace Lh
open PySem PySem.Spec PyProof.Rows L2
/-! ### dicts: update, != {}, walks of a comprehension of two clauses -/
section
variable {X : Cx}
def rDUpd : V → List V → Hp → VK → Prop := fun x xs H Q => ∃ (a b : Addr) (kvs more : List (Key × V)), x = .ref a ∧ xs = [.ref b] ∧ H a = some (.dK kvs) ∧ H b = some (.dK more) ∧ a ≠ b ∧ kvs.length + more.length ≤ sizeLine ∧ Q .non (upd H a (.dK (mergeK kvs more)))
theorem putK_len {κ : Type} [DecidableEq κ] (kvs : List (κ × V)) (k : κ) (v : V) : (putK kvs k v).length ≤ kvs.length + 1 := by
  unfold putK
  split
  · rw [List.length_map]; omega
  · rw [List.length_append]; exact Nat.le_refl _
theorem mergeK_len (kvs : List (Key × V)) : ∀ more : List (Key × V), (mergeK kvs more).length ≤ kvs.length + more.length := by
  intro more
  unfold mergeK
  induction more generalizing kvs with
  | nil => exact Nat.le_refl _
  | cons p r ih =>
    rw [List.foldl_cons, List.length_cons]
    have := ih (putK kvs p.1 p.2)
    have := putK_len kvs p.1 p.2
    omega
theorem mt_dupd : MtM X "dict.update" rDUpd := by
  intro pins s σ H x xs v us Q I rx rs h
  obtain ⟨a, b, kvs, more, rfl, rfl, ha, hb, ne, hz, q⟩ := h
  obtain rfl : v = Value.ref a := rx
  cases rs with
  | cons r0 r1 =>
    cases r1
    obtain rfl : _ = Value.ref b := r0
    obtain ⟨z, hd, vs, rel, dd⟩ := dk_of I.hok ha
    obtain ⟨z2, hd2, vs2, rel2, dd2⟩ := dk_of I.hok hb
    refine call_meetsIn PySem.F.slot_dict_update dd.typeIs PySem.F.entry_dict_update (PySem.F.args_dict_update_2 _ _) (meets_dict_update (mixKind X.prog X.w) a b ne hd2) ⟨vs, vs2, dd, dd2, by rw [← rel.length, ← rel2.length]; exact hz, fun h' dd' _ hs => ?_⟩
    have he : ∃ q, h'.get? a = some q := let ⟨q, _, _, hq, _⟩ := dd'; ⟨q, hq⟩
    exact ⟨.non, _, d_write (t' := s.toks) I (by rw [ha]; exact True.intro) hs he (dk_new (Nat.le_trans (mergeK_len _ _) hz) hd (rel2.merge rel) dd'), rfl, q⟩
def rNeE : R2 := fun x y H Q => ∃ a b ks, x = .ref a ∧ y = .ref b ∧ H a = some (.dK ks) ∧ H b = some (.dK []) ∧ Q (.bl (!ks.isEmpty)) H
theorem op_neE (hu : X.A.units < cLine) : OpR X (compareOp .NotEq) rNeE := by
  intro pins s σ H x y v u Q I rx ry h
  obtain ⟨a, b, ks, rfl, rfl, ea, eb, q⟩ := h
  obtain rfl : v = Value.ref a := rx
  obtain rfl : u = Value.ref b := ry
  obtain ⟨_, ya, va, ra, da⟩ := (show ObjOk X.prog X.w H s.heap a (.dK ks) from I.hok a _ ea)
  obtain ⟨_, yb, vb, rb, db⟩ := (show ObjOk X.prog X.w H s.heap b (.dK []) from I.hok b _ eb)
  cases rb
  refine PySem.W.keq_ne (knd := mixKind X.prog X.w) (r := true) ya yb da db hu (fun e => ?_) (fin_bl I q ?_)
  · cases va with
    | nil => exact .nil
    | cons p r => cases e
  · have := ra.length
    cases ks with
    | nil => cases va with
      | nil => rfl
      | cons p r => cases this
    | cons p r => cases va with
      | nil => cases this
      | cons p' r' => rfl
theorem dc2_it {J : It} {n : Nat} {G : Hp → Prop} {Y : Nat → Hp → V → Hp → Prop} (w : Walk J n G Y) {S : V → Hp → (Hp → Prop) → Prop} {H1 : Hp} {Qd : Hp → Prop} (Pv : Nat → Hp → Prop) (h0 : Pv 0 H1) (hG : ∀ i H, i ≤ n → Pv i H → G H)
    (hs : ∀ i x H H', i < n → Pv i H → Y i H x H' → S x H' (Pv (i + 1))) (hd : ∀ H, Pv n H → Qd H) :
    ∃ W : Nat → Nat → Hp → Prop, (∃ m, W 0 m H1) ∧ ∀ i m H, W i m H → (J.stop i H ∧ Qd H) ∨ (J.go i H ∧ ∃ Nx : Hp → Prop, (∀ H', Nx H' → ∃ m', m' < m ∧ W (i + 1) m' H') ∧ ∀ x H', J.yld i H x H' → S x H' Nx) := by
  refine ⟨fun i m H => m = n - i ∧ i ≤ n ∧ Pv i H, ⟨n, by simp, Nat.zero_le _, h0⟩, ?_⟩
  rintro i m H ⟨rfl, hi, p⟩
  have q := hG i H hi p
  by_cases hlt : i < n
  · exact .inr ⟨w.goes i H hlt q, Pv (i + 1), fun H' p' => ⟨n - (i + 1), by omega, rfl, hlt, p'⟩, fun x H' y => hs i x H H' hlt p (w.yields i H x H' hlt q y)⟩
  · have e : i = n := by omega
    subst e
    exact .inl ⟨w.stops H q, hd H p⟩
end
end Lh

namespace Lh
open PySem PySem.Spec PyProof.Rows L2
theorem nopart_useX {σ : L2.St} {H : Hp} {R : Option Int → Hp → Prop} (h : R none H) : tNoPart σ H R := h
theorem wgt_of {k z : Int} : ∀ {ts : List (Int × Int)}, (ts.map (·.1)).Nodup → (k, z) ∈ ts → wgt ts k = z
  | q :: r, nd, h => by
    rw [List.map_cons, List.nodup_cons] at nd
    unfold wgt
    rw [List.find?_cons]
    rcases List.mem_cons.mp h with e | h
    · rw [← e, decide_eq_true rfl]
      rfl
    · have ne : q.1 ≠ k := fun e => nd.1 (by rw [e]; exact List.mem_map.mpr ⟨_, h, rfl⟩)
      rw [decide_eq_false ne]
      exact wgt_of nd.2 h
theorem wgt_in {k : Int} : ∀ {ts : List (Int × Int)}, k ∈ ts.map (·.1) → (k, wgt ts k) ∈ ts
  | q :: r, h => by
    unfold wgt
    rw [List.find?_cons]
    by_cases e : q.1 = k
    · rw [decide_eq_true e]
      have : (k, q.2) = q := by rw [← e]
      show (k, q.2) ∈ q :: r
      rw [this]
      exact List.mem_cons_self
    · rw [decide_eq_false e]
      rw [List.map_cons] at h
      rcases List.mem_cons.mp h with h | h
      · exact absurd h.symm e
      · exact List.mem_cons_of_mem _ (wgt_in h)
def keysT (o : Int) (ts : List (Int × Int)) : List Int := if o ∈ ts.map (·.1) then ts.map (·.1) else ts.map (·.1) ++ [o]
def valT (o wt : Int) (ts : List (Int × Int)) (k : Int) : Int := if k = o then wt else wgt ts k
theorem keysT_mem {o k : Int} {ts : List (Int × Int)} : k ∈ keysT o ts ↔ k = o ∨ k ∈ ts.map (·.1) := by
  unfold keysT
  split
  · rename_i h
    exact ⟨.inr, fun z => z.elim (fun e => by rw [e]; exact h) id⟩
  · rw [List.mem_append, List.mem_singleton]
    exact or_comm
theorem keysT_nodup {o : Int} {ts : List (Int × Int)} (nd : (ts.map (·.1)).Nodup) : (keysT o ts).Nodup := by
  unfold keysT
  split
  · exact nd
  · rename_i h
    refine List.nodup_append.mpr ⟨nd, by simp, fun a ha b hb => ?_⟩
    rw [List.mem_singleton.mp hb]
    exact fun e => h (by rw [← e]; exact ha)
theorem put_keys {o wt : Int} {ts : List (Int × Int)} : (putK (kvOf ts) (Sum.inl o : Key) (.int wt)).map (·.1) = (keysT o ts).map Sum.inl := by
  have ek : (kvOf ts).map (·.1) = (ts.map (·.1)).map Sum.inl := by unfold kvOf; rw [List.map_map, List.map_map]; rfl
  have ea : ((kvOf ts).any fun kv => decide (kv.1 = (Sum.inl o : Key))) = decide (o ∈ ts.map (·.1)) := by
    rw [Bool.eq_iff_iff, List.any_eq_true, decide_eq_true_iff]
    constructor
    · rintro ⟨kv, h, e⟩
      have e := of_decide_eq_true e
      have : (Sum.inl o : Key) ∈ (kvOf ts).map (·.1) := List.mem_map.mpr ⟨kv, h, e⟩
      rw [ek] at this
      obtain ⟨z, hz, e2⟩ := List.mem_map.mp this
      rw [← Sum.inl.inj e2]; exact hz
    · intro h
      have : (Sum.inl o : Key) ∈ (kvOf ts).map (·.1) := by rw [ek]; exact List.mem_map.mpr ⟨o, h, rfl⟩
      obtain ⟨kv, hk, e⟩ := List.mem_map.mp this
      exact ⟨kv, hk, decide_eq_true e⟩
  unfold putK keysT
  rw [ea]
  by_cases c : o ∈ ts.map (·.1)
  · rw [decide_eq_true c, if_pos rfl, if_pos c, List.map_map, ← ek]
    refine List.map_congr_left fun kv _ => ?_
    show (if kv.1 = _ then (kv.1, _) else kv).1 = kv.1
    split <;> rfl
  · rw [decide_eq_false c, if_neg Bool.false_ne_true, if_neg c, List.map_append, List.map_append, ek]
    rfl
theorem put_val {o wt k : Int} {ts : List (Int × Int)} (h : k ∈ keysT o ts) : valV (putK (kvOf ts) (Sum.inl o : Key) (.int wt)) (Sum.inl k : Key) = some (.int (valT o wt ts k)) := by
  rw [valV_put]
  unfold valT
  by_cases e : k = o
  · rw [if_pos (congrArg Sum.inl e), if_pos e]
  · rw [if_neg (fun z => e (Sum.inl.inj z)), if_neg e]
    exact kv_get ((keysT_mem.mp h).elim (fun z => absurd z e) id)
theorem made_tied {o wt : Int} {ts : List (Int × Int)} {ys : List Int} (nd : (ts.map (·.1)).Nodup) (w : ∀ q ∈ ts, 1 ≤ q.2) (pm : ys.Perm (keysT o ts)) (pw : ys.Pairwise (· ≤ ·)) :
    ((ys.filter fun k => decide (0 < valT o wt ts k)).map fun k => (k, valT o wt ts k)).Perm (tieL o wt ts) ∧ ((ys.filter fun k => decide (0 < valT o wt ts k)).map fun k => (k, valT o wt ts k)).Pairwise (fun a b => a.1 < b.1) := by
  have ndy : ys.Nodup := pm.nodup_iff.mpr (keysT_nodup nd)
  have st : ys.Pairwise (· < ·) := (pw.and (List.nodup_iff_pairwise_ne.mp ndy)).imp fun {a b} h => by omega
  have sp : ((ys.filter fun k => decide (0 < valT o wt ts k)).map fun k => (k, valT o wt ts k)).Pairwise (fun a b => a.1 < b.1) := List.pairwise_map.mpr ((st.sublist List.filter_sublist).imp fun h => h)
  have un : ∀ {l : List (Int × Int)}, (l.map (·.1)).Nodup → l.Nodup := fun {l} h => by
    rw [List.nodup_iff_pairwise_ne] at h ⊢
    exact (List.pairwise_map.mp h).imp fun {a b} z e => z (by rw [e])
  refine ⟨(List.perm_ext_iff_of_nodup (sp.imp fun {a b} h e => by rw [e] at h; exact absurd h (Int.lt_irrefl _)) (un (tieL_nodup nd))).mpr fun q => ?_, sp⟩
  obtain ⟨k, z⟩ := q
  unfold tieL
  rw [List.mem_append, List.mem_map]
  constructor
  · rintro ⟨k2, hk, e⟩
    obtain ⟨e1, e2⟩ := Prod.mk.inj e
    subst e1
    obtain ⟨m1, m2⟩ := List.mem_filter.mp hk
    have m2 := of_decide_eq_true m2
    have mk := keysT_mem.mp (pm.mem_iff.mp m1)
    by_cases c : k2 = o
    · have v : valT o wt ts k2 = wt := if_pos c
      rw [v] at m2 e2
      right
      rw [if_pos m2, List.mem_singleton, c, e2]
    · have v : valT o wt ts k2 = wgt ts k2 := if_neg c
      rw [v] at e2
      left
      exact List.mem_filter.mpr ⟨by rw [← e2]; exact wgt_in (mk.elim (fun x => absurd x c) id), decide_eq_true c⟩
  · rintro (h | h)
    · obtain ⟨h1, h2⟩ := List.mem_filter.mp h
      have ne : k ≠ o := of_decide_eq_true h2
      have v : valT o wt ts k = z := (if_neg ne).trans (wgt_of nd h1)
      refine ⟨k, List.mem_filter.mpr ⟨pm.mem_iff.mpr (keysT_mem.mpr (.inr (List.mem_map.mpr ⟨_, h1, rfl⟩))), ?_⟩, by rw [v]⟩
      rw [v]
      have : 1 ≤ z := w _ h1
      exact decide_eq_true (by omega)
    · by_cases c : 0 < wt
      · rw [if_pos c, List.mem_singleton] at h
        obtain ⟨e1, e2⟩ := Prod.mk.inj h
        subst e1 e2
        have v : valT k z ts k = z := if_pos rfl
        exact ⟨k, List.mem_filter.mpr ⟨pm.mem_iff.mpr (keysT_mem.mpr (.inl rfl)), by rw [v]; exact decide_eq_true c⟩, by rw [v]⟩
      · rw [if_neg c] at h
        exact absurd h (by simp)
section
variable {P : Program} {w : World} {K : PySem.W.Frag} {mg : Str → Option Value} {base : Heap}
def spTiedRule : Sp := fun vs H Q _ => ∃ (v : V) (r : Rule) (o wt m : Int), vs = [v, .int o, .int wt] ∧ RuleAt H v r ∧ TieR r ∧ r.Wf m ∧ r.persons.length ≤ 12 ∧ ∀ (u : V) (r2 : Rule) (H' : Hp), Same H H' → RuleAt H' u r2 → IsTied o wt r r2 → Q u H'
set_option maxHeartbeats 4000000 in
theorem ok_tied_rule (T : Txt K mg w) : FnOk P w K mg base CX0 1 T.f_tied_rule T.fd_tied_rule p_tied_rule spTiedRule := by
  refine T.F_tied_rule.ok sc_tied_rule (fun vs H Q E h => ?_) (fun cdv A outer s H vs Q E hr h => ?_)
  · obtain ⟨v, r, o, wt, m, rfl, _⟩ := h
    rfl
  · obtain ⟨v, r, o, wt, m, rfl, hv, ct, wf, lp, q⟩ := h
    refine ⟨_, (pss_cons (ps_set (i := 3) sc_tied_rule.nd rfl (.inr rfl) (pe_callTy (call_dictT rfl) (by rfl) T.m_dict (by decide +kernel) (pa_cons (pe_ix ix_tup (pv 0) pe_int (fun _ _ => rfl)) pa_nil)))
      (pss_cons (ps_expr (pe_bm PySem.F.plainAttrs_dict PySem.F.slot_dict_update PySem.F.type_dict_update mt_dupd (pv 3) (pa_cons (pe_disp (pps_cons (pv 1) (pv 2) pps_nil) rfl rfl (by decide) (by decide)) pa_nil)))
      (pss_cons (ps_setLc (i := 4) (own := [("_law_one", 5)]) (g := gName 5) (by rfl) sc_tied_rule.nd rfl rfl (sw_true rfl rfl rfl (by decide +kernel)) (pi_list (pe_callB (call_sortedDI rfl) (by rfl) T.m_sorted (by decide +kernel) (pa_cons (pv 3) pa_nil))) (blkOk_by (own := [("_law_one", 5)]) (N := n_tied_rule) (sc := defScope s_tied_rule) (by decide +kernel)) (fun _ _ _ _ _ => (pg_name (i := 5) sc_tied_rule.nd rfl (.inl rfl) (.inr rfl))) (fun _ _ _ _ _ => (pts_one (pt_cmpR op_gt (pe_dget (hu_of hr) (pv 3) (pv 5) (fun _ _ => rfl)) pe_int (nomark _)))) (fun _ _ _ _ _ => (pe_tup (pa_cons (pv 5) (pa_cons (pe_dget (hu_of hr) (pv 3) (pv 5) (fun _ _ => rfl)) pa_nil)))))
      (pss_one (ps_ret (pe_op op_catA (pe_op op_catA (pe_slice sl_tupA (pv 0) po_none (po_some pe_int)) (pe_tup (pa_cons (pe_callTy call_tupleF (by rfl) T.m_tuple (by decide +kernel) (pa_cons (pv 4) pa_nil)) pa_nil))) (pe_slice sl_tupA (pv 0) (po_some pe_int) po_none))))))), ?_⟩
    obtain ⟨a, wd, own, t, ts, rest, rfl, ha, ht, es, lr, lts, nd, wp, fin⟩ : ∃ (a : Addr) (wd : Str) (own : Int) (t : Addr) (ts : List (Int × Int)) (rest : List Int), v = .ref a ∧ H a = some (.tup ([.str wd, .int own, .ref t] ++ rest.map V.int)) ∧ TiesAt H t ts ∧ seenPairs r = ts ∧ rest.length ≤ 1 ∧ ts.length ≤ 12 ∧ (ts.map (·.1)).Nodup ∧ (∀ q ∈ ts, 1 ≤ q.2) ∧
        ∀ (z t' : Addr) (us : List (Int × Int)) (H' : Hp), TupAt H' z ([.str wd, .int own, .ref t'] ++ rest.map V.int) → H' z = some (.tup ([.str wd, .int own, .ref t'] ++ rest.map V.int)) → TiesAt H' t' us → RuleAt H' (.ref z) (tiedR r us) := by
      cases r with
      | sum own ts =>
        obtain ⟨a, t, rfl, ha, ht⟩ := hv
        exact ⟨a, _, own, t, ts, [], rfl, ha, ht, rfl, by decide, by simpa [Rule.persons] using lp, wf.2.1.nodup, fun q hq => (wf.2.2 q hq).1, fun z t' us H' _ hz ht' => ⟨z, t', rfl, hz, ht'⟩⟩
      | cap own ts c =>
        obtain ⟨a, t, rfl, ha, ht⟩ := hv
        exact ⟨a, _, own, t, ts, [c], rfl, ha, ht, rfl, by show 1 ≤ 1; decide, by simpa [Rule.persons] using lp, wf.2.1.nodup, fun q hq => (wf.2.2.1 q hq).1, fun z t' us H' _ hz ht' => ⟨z, t', rfl, hz, ht'⟩⟩
      | _ => exact ct.elim
    obtain ⟨o1, ps, od, htt, pr⟩ := id ht
    refine ⟨.ref a, rfl, a, _, 2, _, rfl, rfl, .inl (.inl ha), atI_nat (j := 2) rfl, t, o1, ps, kvOf ts, rfl, od, htt, pairs_sq pr, fun D hD => ?_⟩
    rw [merge_kv nd]
    have s1 := same_upd (o := .dK (kvOf ts)) hD
    have g1 := upd_same (H := H) (a := D) (o := HO.dK (kvOf ts))
    generalize upd H D (.dK (kvOf ts)) = H1 at s1 g1 ⊢
    refine ⟨.ref D, rfl, (.inr (.inr (.inl ⟨rfl, .inl ⟨_, g1⟩⟩))), fun p2 np2 => ?_⟩
    have e0 := upd_same (H := H1) (a := p2) (o := HO.dK [])
    have s2 : Same H1 (upd H1 p2 (.dK [])) := same_upd np2
    refine ⟨.int o, rfl, .int wt, rfl, e0, [(Sum.inl o, .int wt)], rfl, (show 1 ≤ 15 by decide), ?_⟩
    have s3 : Same H1 (upd (upd H1 p2 (.dK [])) p2 (.dK (mergeK [] [(Sum.inl o, .int wt)]))) := fun b u hb => by
      have n := ne_of_none hb np2
      rw [upd_ne n, upd_ne n]
      exact hb
    have g3 := upd_same (H := upd H1 p2 (.dK [])) (a := p2) (o := HO.dK (mergeK [] [((Sum.inl o : Key), V.int wt)]))
    generalize upd (upd H1 p2 (.dK [])) p2 (.dK (mergeK [] [(Sum.inl o, .int wt)])) = H2 at s3 g3 ⊢
    have nDp : D ≠ p2 := ne_of_none g1 np2
    refine ⟨D, p2, _, _, rfl, rfl, s3 _ _ g1, g3, nDp, ?_, ?_⟩
    · refine Nat.le_of_lt (small1000 ?_)
      have : (kvOf ts).length = ts.length := by unfold kvOf; rw [List.length_map]
      rw [this]
      show ts.length + 1 ≤ 1000
      omega
    have em : mergeK (kvOf ts) (mergeK [] [((Sum.inl o : Key), V.int wt)]) = putK (kvOf ts) (Sum.inl o : Key) (.int wt) := rfl
    rw [em]
    have s4 : Same H (upd H2 D (.dK (putK (kvOf ts) (Sum.inl o : Key) (.int wt)))) := same_mut (s1.trans s3) hD
    have g4 := upd_same (H := H2) (a := D) (o := HO.dK (putK (kvOf ts) (Sum.inl o : Key) (.int wt)))
    generalize upd H2 D (.dK (putK (kvOf ts) (Sum.inl o : Key) (.int wt))) = H3 at s4 g4 ⊢
    have lk : (keysT o ts).length ≤ 13 := by
      unfold keysT
      split
      · rw [List.length_map]; omega
      · rw [List.length_append, List.length_map]; show ts.length + 1 ≤ 13; omega
    refine ⟨.ref D, rfl, D, _, keysT o ts, rfl, .inl g4, put_keys, by omega, fun ys p5 pm pw np5 => ⟨p5, rfl, ?_⟩⟩
    have s5 := same_upd (o := .lst (ys.map V.int)) np5
    have g5 := upd_same (H := H3) (a := p5) (o := HO.lst (ys.map V.int))
    generalize upd H3 p5 (.lst (ys.map V.int)) = H4 at s5 g5 ⊢
    have g4' := s5 _ _ g4
    have ly : ys.length ≤ 13 := by rw [pm.length_eq]; exact lk
    obtain ⟨perm, srt⟩ := made_tied (o := o) (wt := wt) nd wp pm pw
    refine ⟨⟨_, .inl (.inl g5)⟩, fun E5 hE5 => ?_⟩
    have get : ∀ k ∈ ys, valV (putK (kvOf ts) (Sum.inl o : Key) (.int wt)) (Sum.inl k : Key) = some (.int (valT o wt ts k)) := fun k hk => put_val (pm.mem_iff.mp hk)
    generalize putK (kvOf ts) (Sum.inl o : Key) (.int wt) = KV at g4' get
    refine lc_it (walk_list (K := K) (xs := ys.map V.int)) (fun i H5 => ∃ qs : List Addr, Same H4 H5 ∧ H5 E5 = some (.lst (qs.map V.ref)) ∧ qs.length ≤ i ∧ Paired (PairAtH H5) qs (((ys.take i).filter fun k => decide (0 < valT o wt ts k)).map fun k => (k, valT o wt ts k))) ⟨[], same_upd hE5, upd_same, Nat.le_refl _, .nil⟩ (fun i H5 _ ⟨qs, s6, _⟩ => .inl (.inl (s6 _ _ g5))) ?_ ?_
    · rintro i y H5 H6 hi ⟨qs, s6, h6, lq, pq⟩ ⟨rfl, hy⟩
      rw [List.length_map] at hi
      rw [List.getElem?_map, List.getElem?_eq_getElem hi] at hy
      cases hy
      have mk : ys[i] ∈ ys := List.getElem_mem hi
      have dg : ∀ Hx : Hp, Same H4 Hx → DGet Hx D (.int ys[i]) (some (.int (valT o wt ts ys[i]))) := fun Hx sx => by
        have := DGet.k (k := (Sum.inl ys[i] : Key)) (sx _ _ g4')
        rw [get _ mk] at this
        exact this
      refine ⟨rfl, .ref D, rfl, .int ys[i], rfl, D, _, rfl, dg _ s6, _, 0, rfl, rfl, _, rfl, ?_⟩
      rw [List.take_add_one, List.getElem?_eq_getElem hi, List.filter_append, List.map_append]
      by_cases c : 0 < valT o wt ts ys[i]
      · refine iteP (decide_eq_true c) ⟨.int ys[i], rfl, .ref D, rfl, .int ys[i], rfl, D, _, rfl, dg _ s6, by show 2 ≤ sizeLine; decide, fun u nu => ?_⟩
        have su := same_upd (o := .tup [.int ys[i], .int (valT o wt ts ys[i])]) nu
        have h7 := su _ _ h6
        have kT := keep_lst (ys := qs.map V.ref ++ [V.ref u]) h7
        refine ⟨_, h7, by rw [List.length_map]; exact small1000 (by omega), qs ++ [u], same_mut (s6.trans su) hE5, by rw [upd_same, List.map_append]; rfl, by rw [List.length_append]; show qs.length + 1 ≤ i + 1; omega, ?_⟩
        have : (Option.some ys[i]).toList.filter (fun k => decide (0 < valT o wt ts k)) = [ys[i]] := by simp [c]
        rw [this]
        exact Paired.snoc (R := PairAtH _) (kT.tup _ _ upd_same) (pairs_keep ((Keep.same su).trans kT) pq)
      · refine iteN (decide_eq_false c) ⟨qs, s6, h6, by omega, ?_⟩
        have : (Option.some ys[i]).toList.filter (fun k => decide (0 < valT o wt ts k)) = [] := by simp [c]
        rw [this]
        simpa using pq
    rintro H5 ⟨qs, s6, h6, lq, pq⟩
    rw [List.length_map] at lq
    rw [List.length_map, List.take_length] at pq
    generalize (ys.filter fun k => decide (0 < valT o wt ts k)).map (fun k => (k, valT o wt ts k)) = us at pq perm srt
    have s05 := s4.trans (s5.trans s6)
    have ha5 := s05 _ _ ha
    refine ⟨.ref a, rfl, nopart_useX ⟨2, rfl, sl_tup_use (lo := none) (hi := some 2) (.inl ha5) fun c1 H6 s7 h7 => ?_⟩⟩
    have e2 : cutI ([V.str wd, .int own, .ref t] ++ rest.map V.int) none (some 2) = [V.str wd, .int own] := (cut_to ([V.str wd, .int own, .ref t] ++ rest.map V.int) 2 (by rw [List.length_append]; show 2 ≤ 3 + _; omega)).trans rfl
    rw [e2] at h7
    refine ⟨.ref E5, rfl, E5, _, rfl, .inl (.inl (s7 _ _ h6)), fun t2 o2 nt2 od2 => ?_⟩
    have s8 := same_upd (o := .frz o2 (.tup (qs.map V.ref))) nt2
    have h8 : TiesAt (upd H6 t2 (.frz o2 (.tup (qs.map V.ref)))) t2 us := ⟨o2, qs, od2, upd_same, pairs_keep (Keep.same (s7.trans s8)) pq⟩
    generalize upd H6 t2 (.frz o2 (.tup (qs.map V.ref))) = H7 at s8 h8 ⊢
    refine ⟨by show 1 ≤ sizeLine; decide, fun u nu => ?_⟩
    have s9 := same_upd (o := .tup [.ref t2]) nu
    have h9 := upd_same (H := H7) (a := u) (o := HO.tup [.ref t2])
    generalize upd H7 u (.tup [.ref t2]) = H8 at s9 h9 ⊢
    refine ⟨c1, u, [.str wd, .int own], [.ref t2], rfl, rfl, ((h7.keep (Keep.same s8)).keep (Keep.same s9)).sq, .inl (.inl h9), by show 3 ≤ sizeLine; decide, (fun e => by cases e), (fun _ e => by cases e), fun _ _ x nx => ?_⟩
    have s10 := same_upd (o := .tup ([.str wd, .int own] ++ [.ref t2])) nx
    have hx : (upd H8 x (.tup ([.str wd, .int own] ++ [.ref t2]))) x = some (.tup [.str wd, .int own, .ref t2]) := upd_same
    generalize upd H8 x (.tup ([.str wd, .int own] ++ [.ref t2])) = H9 at s10 hx ⊢
    have s59 := s7.trans (s8.trans (s9.trans s10))
    refine ⟨.ref a, rfl, 3, rfl, nopart_useX <| sl_tup_use (lo := some 3) (hi := none) (.inl (s59 _ _ ha5)) fun c3 HA sA hc3 => ?_⟩
    have e3 : cutI ([V.str wd, .int own, .ref t] ++ rest.map V.int) (some 3) none = rest.map V.int := (cut_from ([V.str wd, .int own, .ref t] ++ rest.map V.int) 3 (by rw [List.length_append]; show 3 ≤ 3 + _; omega)).trans rfl
    rw [e3] at hc3
    have s8A := s9.trans (s10.trans sA)
    have h8' := h8.keep (Keep.same s8A)
    have sAll := s05.trans (s59.trans sA)
    have done : ∀ (z : Addr) (HZ : Hp), Same HA HZ → HZ z = some (.tup ([.str wd, .int own, .ref t2] ++ rest.map V.int)) → Q (.ref z) HZ := fun z HZ sZ hz =>
      q (.ref z) _ HZ (sAll.trans sZ) (fin z t2 us HZ (.inl hz) hz (h8'.keep (Keep.same sZ))) ⟨us, by rw [es]; exact perm, srt, rfl⟩
    refine ⟨x, c3, [.str wd, .int own, .ref t2], rest.map V.int, rfl, rfl, .inl (.inl (sA _ _ hx)), hc3.sq, ?_, (fun e => by cases e), fun _ e => ?_, fun _ _ p np => done p _ (same_upd np) upd_same⟩
    · rw [List.length_map]
      exact Nat.le_trans (by show 3 + rest.length ≤ 4; omega) (by decide)
    · exact done x HA (Same.refl _) (by rw [e, List.append_nil]; exact sA _ _ hx)
end
end Lh

namespace Lh
open PySem PySem.Spec PyProof.Rows L2
section
variable {P : Program} {w : World} {K : PySem.W.Frag} {mg : Str → Option Value} {base : Heap}
def spDueX : Sp := fun vs H Q _ => ∃ (l : Addr) (us : List V) (p wt : Int) (tv : V) (rs : List Rule), vs = [.ref l, .int p, tv, .int wt] ∧ H l = some (.lst us) ∧ RulesAt H us rs ∧ Halls rs ∧ (tv = .non ∨ ∃ o, tv = .int o) ∧
  ∀ (out : Out) (v : V) (H' : Hp), Same H H' → Says rs p wt tv out → OutAt H' v out → Q v H'
set_option maxHeartbeats 4000000 in
theorem ok_dueX (T : Txt K mg w) : FnOk P w K mg base CX0 2 T.f_due T.fd_due p_due spDueX := by
  have G_tied_rule := ok_tied_rule (P := P) (w := w) (base := base) T
  refine T.F_due.ok sc_due (fun vs H Q E h => ?_) (fun cdv A outer s H vs Q E hr h => ?_)
  · obtain ⟨l, us, p, wt, tv, rs, rfl, _⟩ := h
    rfl
  · obtain ⟨l, us, p, wt, tv, rs, rfl, hl, ra, hh, htv, q⟩ := h
    have lu : us.length = rs.length := ra.length
    refine ⟨_, (pss_cons (ps_for PassesOwn.never rfl (pi_list (pe_op op_cat (pe_lst (pa_cons (pv 1) pa_nil)) (pe_op op_rep (pe_lst (pa_cons (pv 2) pa_nil)) (pe_callTy call_int1 (by rfl) T.m_int (by decide +kernel) (pa_cons (pe_cmpR op_notN (pv 2) pe_non (nomark _)) pa_nil))))) (pg_name (i := 4) sc_due.nd rfl (.inl rfl))
        (pss_one (ps_if (pt_not (pt_chain op_le op_lt pe_int (pv 4) (pe_callB call_len_seq (by rfl) T.m_len (by decide +kernel) (pa_cons (pv 0) pa_nil))))
          (pss_one (ps_ret (pe_tup (pa_cons pe_str (pa_cons (pv 4) pa_nil)))))
          pss_nil)))
      (pss_cons (ps_set (i := 5) sc_due.nd rfl (.inl rfl) (pe_callTy call_list_of (by rfl) T.m_list (by decide +kernel) (pa_cons (pv 0) pa_nil)))
      (pss_cons (ps_if (pt_cmpR op_isN (pv 2) pe_non (nomark _))
        (pss_one (ps_asg (pe_tup (pa_cons pe_str (pa_cons (pv 3) pa_nil))) (pg_sub (pv 5) (pv 1) set_list)))
        (pss_one (ps_if (pt_cmpR op_notIn_seq (pe_ix ix_tup (pe_ix ix_list (pv 0) (pv 1) (fun _ _ => rfl)) pe_int (fun _ _ => rfl)) (pe_tup (pa_cons pe_str (pa_cons pe_str pa_nil))) (by rfl))
          (pss_one (ps_ret (pe_tup (pa_cons pe_str (pa_cons (pv 1) pa_nil)))))
          (pss_one (ps_asg (pe_call G_tied_rule (hr.mono (by decide)) (by rfl) T.g_tied_rule T.F_tied_rule.kp T.b_tied_rule .nil pass0 (pa_cons (pe_ix ix_list (pv 0) (pv 1) (fun _ _ => rfl)) (pa_cons (pv 2) (pa_cons (pv 3) pa_nil)))) (pg_sub (pv 5) (pv 1) set_list))))))
      (pss_one (ps_ret (pv 5)))))), ?_⟩
    refine ⟨.int p, rfl, by show 1 ≤ sizeLine; decide, fun l1 nl1 => ?_⟩
    have t1 := same_upd (o := .lst [.int p]) nl1
    have g1 := upd_same (H := H) (a := l1) (o := HO.lst [.int p])
    generalize upd H l1 (.lst [.int p]) = H1 at t1 g1 ⊢
    refine ⟨tv, rfl, by show 1 ≤ sizeLine; decide, fun l2 nl2 => ?_⟩
    have t2 := same_upd (o := .lst [tv]) nl2
    have g2 := upd_same (H := H1) (a := l2) (o := HO.lst [tv])
    generalize upd H1 l2 (.lst [tv]) = H2 at t2 g2 ⊢
    refine ⟨tv, rfl, rfl, ?_⟩
    obtain ⟨whos, ew, hw⟩ : ∃ whos : List Int, (∀ (Q' : VK), (∀ (c : Addr) (H' : Hp), Same H2 H' → H' c = some (.lst (whos.map V.int)) → Q' (.ref c) H') → rRep (.ref l2) (.int (if (!decide (tv = .non)) = true then 1 else 0)) H2 fun y H3 => rCat (.ref l1) y H3 Q') ∧ (tv = .non ∧ whos = [p] ∨ ∃ o, tv = .int o ∧ whos = [p, o]) := by
      rcases htv with rfl | ⟨o, rfl⟩
      · refine ⟨[p], fun Q' hQ' => ?_, .inl ⟨rfl, rfl⟩⟩
        rw [if_neg (by decide)]
        refine ⟨l2, 0, [V.non], rfl, rfl, g2, by decide, by decide, by show 1 * 0 ≤ sizeLine; decide, fun l3 nl3 => ?_⟩
        have t3 := same_upd (o := .lst ([] : List V)) nl3
        have g3 := upd_same (H := H2) (a := l3) (o := HO.lst ([] : List V))
        have ef : (List.replicate ((0 : Int)).toNat [V.non]).flatten = [] := rfl
        rw [ef]
        generalize upd H2 l3 (.lst ([] : List V)) = H3 at t3 g3 ⊢
        refine ⟨l1, l3, [.int p], [], rfl, rfl, t3 _ _ (t2 _ _ g1), g3, by show 1 ≤ sizeLine; decide, fun c nc => ?_⟩
        exact hQ' c _ (t3.trans (same_upd nc)) upd_same
      · refine ⟨[p, o], fun Q' hQ' => ?_, .inr ⟨o, rfl, rfl⟩⟩
        rw [if_pos (by rw [decide_eq_false (by intro z; cases z)]; rfl)]
        refine ⟨l2, 1, [V.int o], rfl, rfl, g2, by decide, by decide, by show 1 * 1 ≤ sizeLine; decide, fun l3 nl3 => ?_⟩
        have t3 := same_upd (o := .lst [V.int o]) nl3
        have g3 := upd_same (H := H2) (a := l3) (o := HO.lst [V.int o])
        have ef : (List.replicate ((1 : Int)).toNat [V.int o]).flatten = [V.int o] := rfl
        rw [ef]
        generalize upd H2 l3 (.lst [V.int o]) = H3 at t3 g3 ⊢
        refine ⟨l1, l3, [.int p], [.int o], rfl, rfl, t3 _ _ (t2 _ _ g1), g3, by show 2 ≤ sizeLine; decide, fun c nc => ?_⟩
        exact hQ' c _ (t3.trans (same_upd nc)) upd_same
    have lw : whos.length ≤ 2 := by rcases hw with ⟨_, rfl⟩ | ⟨o, _, rfl⟩ <;> simp
    refine .inr ⟨_, rfl, ew _ fun c H3 s3 hc => ⟨c, rfl, ⟨_, .inl (.inl hc)⟩, ?_⟩⟩
    have s03 := (t1.trans t2).trans s3
    have hl3 := s03 _ _ hl
    have ra3 := ra.keep (Keep.same s03)
    have first : ∀ i : Nat, whos[i]? = some p → i = 0 ∨ True := fun i _ => .inr trivial
    refine for_it (walk_list (K := K) (xs := whos.map V.int)) (fun i σ H4 => ∃ y4 y5 : Option V, σ = [some (.ref l), some (.int p), some tv, some (.int wt), y4, y5] ∧ Same H3 H4 ∧ ∀ z ∈ whos.take i, 0 ≤ z ∧ z < rs.length) ⟨_, _, rfl, Same.refl _, fun z h => absurd h (by simp)⟩ ?_ ?_ ?_
    · rintro i σ H4 _ ⟨y4, y5, rfl, s4, _⟩
      exact .inl (.inl (s4 _ _ hc))
    · rintro i v σ H4 H5 hi ⟨y4, y5, rfl, s4, al⟩ ⟨rfl, hv⟩
      rw [List.length_map] at hi
      rw [List.getElem?_map, List.getElem?_eq_getElem hi] at hv
      cases hv
      have out : ¬ (0 ≤ whos[i] ∧ whos[i] < rs.length) → Says rs p wt tv (.nobody whos[i]) := fun no => by
        rcases hw with ⟨rfl, rfl⟩ | ⟨o, rfl, rfl⟩
        · have e : i = 0 := by have : i < 1 := hi; omega
          subst e
          exact .none1 _ no
        · have : i < 2 := hi
          rcases (by omega : i = 0 ∨ i = 1) with rfl | rfl
          · exact .none1 _ no
          · exact .none2 o (al p (by simp)) no
      have fine : (0 ≤ whos[i] ∧ whos[i] < rs.length) → ∀ z ∈ whos.take (i + 1), 0 ≤ z ∧ z < rs.length := fun ok z hz => by
        rw [List.take_add_one, List.getElem?_eq_getElem hi] at hz
        rcases List.mem_append.mp hz with h | h
        · exact al z h
        · have : z = whos[i] := by simpa using h
          rw [this]; exact ok
      generalize whos[i] = z at out fine ⊢
      have tell : ¬ (0 ≤ z ∧ z < rs.length) → ∀ (t : Addr), H5 t = none → Q (.ref t) (upd H5 t (.tup [.str "nobody", .int z])) := fun no t nt => q _ _ _ ((s03.trans s4).trans (same_upd nt)) (out no) ⟨t, rfl, upd_same⟩
      refine ⟨.int z, rfl, 0, z, rfl, rfl, _, rfl, ite2 (fun c0 => ?_) (fun c0 => ?_)⟩
      · have z0 : 0 ≤ z := of_decide_eq_true c0
        refine ⟨.ref l, rfl, l, _, rfl, .inl (.inl (.inl (s4 _ _ hl3))), z, _, rfl, rfl, _, rfl, ?_⟩
        by_cases c1 : z < rs.length
        · exact iteN (by rw [decide_eq_true (by rw [lu]; exact c1)]; rfl) ⟨_, _, rfl, s4, fine ⟨z0, c1⟩⟩
        · refine iteP (by rw [decide_eq_false (by rw [lu]; exact c1)]; rfl) ⟨.int z, rfl, by show 2 ≤ sizeLine; decide, fun t nt => tell (fun x => c1 x.2) t nt⟩
      · exact ⟨_, rfl, iteP rfl ⟨.int z, rfl, by show 2 ≤ sizeLine; decide, fun t nt => tell (fun x => c0 (decide_eq_true x.1)) t nt⟩⟩
    · rintro σ H4 ⟨y4, y5, rfl, s4, al⟩
      rw [List.length_map, List.take_length] at al
      have s04 := s03.trans s4
      have hl4 := s04 _ _ hl
      have ra4 := ra.keep (Keep.same s04)
      have pp : 0 ≤ p ∧ p < rs.length := al p (by rcases hw with ⟨_, rfl⟩ | ⟨o, _, rfl⟩ <;> simp)
      obtain ⟨k, rfl⟩ : ∃ k : Nat, p = (k : Int) := ⟨p.toNat, by omega⟩
      have hk : k < rs.length := by omega
      refine ⟨.ref l, rfl, l, us, rfl, .inl (.inl (.inl hl4)), fun d nd => ?_⟩
      have sd := same_upd (o := .lst us) nd
      have hd := upd_same (H := H4) (a := d) (o := HO.lst us)
      generalize upd H4 d (.lst us) = H5 at sd hd ⊢
      have s05 := s04.trans sd
      have n0 : H d = none := s04.free nd
      have ra5 := ra.keep (Keep.same s05)
      obtain ⟨v, ev, hv⟩ := ra5.get k hk
      have fin : ∀ (u : V) (r2 : Rule) (H6 : Hp), Same H5 H6 → RuleAt H6 u r2 → Says rs (k : Int) wt tv (.rules (rs.set k r2)) → Q (.ref d) (upd H6 d (.lst (us.set k u))) := fun u r2 H6 s6 hu sy => by
        have hd6 := s6 _ _ hd
        have kT := keep_lst (ys := us.set k u) hd6
        exact q _ _ _ (same_mut (s05.trans s6) n0) sy ⟨d, _, rfl, upd_same, paired_set ((ra5.keep (Keep.same s6)).keep kT) k (hu.keep kT)⟩
      rcases hw with ⟨rfl, _⟩ | ⟨o, rfl, rfl⟩
      · refine ⟨.non, rfl, rfl, _, rfl, iteP (decide_eq_true rfl) ?_⟩
        refine ⟨.int wt, rfl, by show 2 ≤ sizeLine; decide, fun t nt => ?_⟩
        have st := same_upd (o := .tup [.str (Str.ofString "held"), .int wt]) nt
        refine ⟨.ref d, rfl, .int (k : Int), rfl, d, _, _, k, rfl, rfl, st _ _ hd, ixN_at (by omega), ?_⟩
        exact ⟨_, rfl, fin (.ref t) (.held wt) _ st ⟨t, rfl, upd_same⟩ (.held k hk rfl)⟩
      · have oo : 0 ≤ o ∧ o < rs.length := al o (by simp)
        refine ⟨.int o, rfl, rfl, _, rfl, iteN (decide_eq_false (by intro z; cases z)) ?_⟩
        obtain ⟨a, xs, rfl, ha, h0⟩ := hv.firstX
        have at_k : atI us (k : Int) = some (.ref a) := atI_nat ev
        refine ⟨.ref l, rfl, .int (k : Int), rfl, l, us, _, _, rfl, rfl, .inl (.inl (sd _ _ hl4)), at_k, a, xs, 0, _, rfl, rfl, .inl (.inl ha), h0, by show 2 ≤ sizeLine; decide, fun u nu => ?_⟩
        have su := same_upd (o := .tup [.str "sum", .str "cap"]) nu
        refine ⟨u, _, rfl, .inr (.inl (.inl upd_same)), rfl, rfl, _, rfl, ?_⟩
        generalize upd H5 u (.tup [.str "sum", .str "cap"]) = H6 at su ⊢
        have ew2 := word_ties rs[k]
        by_cases ct : TieR rs[k]
        · refine iteN (by rw [if_pos rfl]; rw [show inV (V.str (wordX rs[k])) [.str "sum", .str "cap"] = true from ew2.trans (decide_eq_true ct)]; rfl) ?_
          refine ⟨.ref l, rfl, .int (k : Int), rfl, l, us, _, _, rfl, rfl, .inl (.inl ((sd.trans su) _ _ hl4)), at_k, .int o, rfl, .int wt, rfl, .ref a, rs[k], o, wt, rs.length, rfl, hv.keep (Keep.same su), ct, hh.2.2 _ (List.getElem_mem hk), by have := hh.few hk; omega, fun u2 r2 H7 s7 hu ti => ?_⟩
          refine ⟨.ref d, rfl, .int (k : Int), rfl, d, _, _, k, rfl, rfl, (su.trans s7) _ _ hd, ixN_at (by omega), ?_⟩
          exact ⟨_, rfl, fin u2 r2 H7 (su.trans s7) hu (.tied k hk rfl o oo ct r2 ti)⟩
        · refine iteP (by rw [if_pos rfl]; rw [show inV (V.str (wordX rs[k])) [.str "sum", .str "cap"] = false from ew2.trans (decide_eq_false ct)]; rfl) ?_
          refine ⟨.int (k : Int), rfl, by show 2 ≤ sizeLine; decide, fun t nt => ?_⟩
          exact q _ _ _ ((s05.trans su).trans (same_upd nt)) (.noSum k hk rfl o oo ct) ⟨t, rfl, upd_same⟩
end
end Lh

namespace Lh
open PySem PySem.Spec PyProof.Rows L2
section
variable {P : Program} {w : World} {K : PySem.W.Frag} {mg : Str → Option Value} {base : Heap}
def spShownB : Sp := fun vs H Q _ => ∃ (bx l : Addr) (c : Int) (us : List V), vs = [.ref bx, .ref l] ∧ c + 100 ≤ 1000000000 ∧ us.length ≤ 12 ∧ Box bx c H ∧ H l = some (.lst us) ∧ l ≠ bx ∧
  ∀ (t : Addr) (ns : List Int) (H' : Hp), Ext bx H H' → Box bx (c + 100) H' → H t = none → TupAt H' t (ns.map V.int) → ns.length = us.length → (∀ n ∈ ns, 0 ≤ n ∧ n ≤ 1000000) → Q (.ref t) H'
set_option maxHeartbeats 2000000 in
theorem ok_shownB (T : Txt K mg w) : FnOk P w K mg base CX0 2 T.f_shown T.fd_shown p_shown spShownB := by
  have G_take := ok_take (P := P) (w := w) (base := base) T
  refine T.F_shown.ok sc_shown (fun vs H Q E h => ?_) (fun cdv A outer s H vs Q E hr h => ?_)
  · obtain ⟨bx, l, c, us, rfl, _⟩ := h
    rfl
  · obtain ⟨bx, l, c, us, rfl, c1, l1, hB, hl, nlb, q⟩ := h
    refine ⟨_, (pss_cons (ps_par (i := 2) (j := 3) (by rfl) sc_shown.nd rfl rfl (by decide) rfl rfl (pa_cons (pe_call G_take (hr.mono (by decide)) (by rfl) T.g_take T.F_take.kp T.b_take .nil pass0 (pa_cons (pv 0) (pa_cons pe_int pa_nil))) (pa_cons (pe_lst pa_nil) pa_nil)) (by rfl))
      (pss_cons (ps_for PassesOwn.never rfl (pi_list (pv 1)) (pg_name (i := 4) sc_shown.nd rfl (.inl rfl))
        (pss_one (ps_expr (pe_bm PySem.F.plainAttrs_list PySem.F.slot_list_append PySem.F.type_list_append mt_append (pv 3) (pa_cons (pe_ix ix_list (pe_lst (pa_cons (pe_call G_take (hr.mono (by decide)) (by rfl) T.g_take T.F_take.kp T.b_take .nil pass0 (pa_cons (pv 0) (pa_cons pe_int pa_nil))) (pa_cons (pe_call G_take (hr.mono (by decide)) (by rfl) T.g_take T.F_take.kp T.b_take .nil pass0 (pa_cons (pv 0) (pa_cons pe_int pa_nil))) (pa_cons pe_int (pa_cons (pe_call G_take (hr.mono (by decide)) (by rfl) T.g_take T.F_take.kp T.b_take .nil pass0 (pa_cons (pv 0) (pa_cons (pe_op op_pow pe_int pe_int) pa_nil))) (pa_cons (pe_call G_take (hr.mono (by decide)) (by rfl) T.g_take T.F_take.kp T.b_take .nil pass0 (pa_cons (pv 0) (pa_cons pe_int pa_nil))) pa_nil)))))) (pv 2) (fun _ _ => rfl)) pa_nil)))))
      (pss_one (ps_ret (pe_callTy call_tupleF (by rfl) T.m_tuple (by decide +kernel) (pa_cons (pv 3) pa_nil)))))), ?_⟩
    refine ⟨.ref bx, rfl, bx, _, 5, rfl, by decide, by decide, by omega, hB, fun r1 H1 r10 r11 e1 b1 => ⟨by show 0 ≤ sizeLine; decide, fun d nd => ⟨_, _, rfl, ?_⟩⟩⟩
    have ndb := b1.ne nd
    have ndH : H d = none := e1.free ndb nd
    have hl1 := same_upd (o := .lst []) nd _ _ (e1 _ _ nlb hl)
    refine ⟨.ref l, rfl, l, rfl, ⟨_, .inl (.inl hl1)⟩, ?_⟩
    refine for_it (walk_list (xs := us)) (fun i σ H3 => ∃ (y : Option V) (ns : List Int), σ = [some (.ref bx), some (.ref l), some (.int r1), some (.ref d), y] ∧ Ext bx H H3 ∧ Box bx (c + 1 + 4 * i) H3 ∧ H3 d = some (.lst (ns.map V.int)) ∧ ns.length = i ∧ ∀ n ∈ ns, 0 ≤ n ∧ n ≤ 1000000) ⟨none, [], rfl, e1.trans ((Ext.refl _).new nd), by simpa using b1.new nd, upd_same, rfl, fun n h => absurd h (by simp)⟩ ?_ ?_ ?_
    · rintro i σ H3 _ ⟨y, ns, rfl, e3, _⟩
      exact .inl (.inl (e3 _ _ nlb hl))
    · rintro i v σ H3 H4 hi ⟨y, ns, rfl, e3, b3, h3, n3, p3⟩ ⟨rfl, hv⟩
      refine ⟨.ref d, rfl, .inl ⟨rfl, _, .inl (.inl h3)⟩, ?_⟩
      refine ⟨.ref bx, rfl, bx, _, 4, rfl, by decide, by decide, by omega, b3, fun a1 H5 a10 a11 e5 b5 => ?_⟩
      refine ⟨.ref bx, rfl, bx, _, 20, rfl, by decide, by decide, by omega, b5, fun a2 H6 a20 a21 e6 b6 => ?_⟩
      refine ⟨.ref bx, rfl, 10, 6, rfl, rfl, ⟨by decide, by decide, by decide⟩, bx, _, _, rfl, by decide, by decide, by omega, b6, fun a3 H7 a30 a31 e7 b7 => ?_⟩
      refine ⟨.ref bx, rfl, bx, _, 3, rfl, by decide, by decide, by omega, b7, fun a4 H8 a40 a41 e8 b8 => ⟨by show 5 ≤ sizeLine; decide, fun z nz => ?_⟩⟩
      have nzb := b8.ne nz
      obtain ⟨x, mx, ax⟩ := pick (xs := [V.int a1, .int a2, .int 7, .int a3, .int a4]) r10 (by simpa using r11)
      have eX : Ext bx H4 H8 := ((e5.trans e6).trans e7).trans e8
      refine ⟨.int r1, rfl, z, _, r1, x, rfl, rfl, .inl (.inl upd_same), ax, ?_⟩
      have a31c : a3 ≤ 1000000 := Int.le_of_lt (Int.lt_of_lt_of_le a31 (by decide))
      obtain ⟨n, rfl, n0⟩ : ∃ n : Int, x = .int n ∧ 0 ≤ n ∧ n ≤ 1000000 := by
        simp only [List.mem_cons, List.not_mem_nil, or_false] at mx
        rcases mx with rfl | rfl | rfl | rfl | rfl
        · exact ⟨_, rfl, a10, by omega⟩
        · exact ⟨_, rfl, a20, by omega⟩
        · exact ⟨_, rfl, by decide, by decide⟩
        · exact ⟨_, rfl, a30, a31c⟩
        · exact ⟨_, rfl, a40, by omega⟩
      have hd8 := same_upd (o := .lst [V.int a1, .int a2, .int 7, .int a3, .int a4]) nz _ _ (eX _ _ ndb h3)
      refine ⟨d, _, .int n, rfl, rfl, hd8, by rw [List.length_map]; exact small1000 (by omega), ?_⟩
      refine ⟨_, ns ++ [n], rfl, ((e3.trans eX).trans ((Ext.refl _).new nz)).new ndH, ((b8.new nz).at ndb).mono (by omega), by rw [upd_same, List.map_append]; rfl, by rw [List.length_append, n3]; rfl, fun n' hn' => ?_⟩
      rcases List.mem_append.mp hn' with h | h
      · exact p3 n' h
      · rw [List.mem_singleton.mp h]; exact n0
    · rintro σ H3 ⟨y, ns, rfl, e3, b3, h3, n3, p3⟩
      refine ⟨.ref d, rfl, d, _, rfl, .inl (.inl h3), fun t o nt od => ?_⟩
      exact q t ns _ (e3.trans ((Ext.refl _).new nt)) ((b3.new nt).mono (by omega)) (e3.free (b3.ne nt) nt) (.inr ⟨o, od, upd_same⟩) n3 p3
end
end Lh

namespace Lh
open PySem PySem.Spec PyProof.Rows L2
section
variable {P : Program} {w : World} {K : PySem.W.Frag} {mg : Str → Option Value} {base : Heap}
def spSame : Nat → Sp
  | 0 => fun _ _ _ _ => False
  | n + 1 => fun vs H Q _ => ∃ (bx : Addr) (v u : V) (d : PyData), vs = [v, u] ∧ Rp bx H v d ∧ Rp bx H u d ∧ okD n d ∧ ∀ H', Same H H' → Q (.bl true) H'
theorem ok_same (T : Txt K mg w) : ∀ n, FnOk P w K mg base CX0 n T.f_same T.fd_same p_same (spSame n)
  | 0 => ⟨fun _ _ _ _ h => h.elim, fun _ _ _ _ _ _ _ _ _ _ _ _ _ h => h.elim⟩
  | n + 1 => by
    have G_same : FnOk P w K mg base CX0 n T.f_same T.fd_same p_same (spSame n) := ok_same T n
    refine T.F_same.ok sc_same (fun vs H Q E h => ?_) (fun cdv A outer s H vs Q E hr h => ?_)
    · obtain ⟨bx, v, u, d, rfl, _⟩ := h
      rfl
    · obtain ⟨bx, v, u, d, rfl, hv, hu, hd, q⟩ := h
      refine ⟨_, (pss_cons (ps_if (pt_val (pe_callB call_isiT (by rfl) T.m_isinstance (by decide +kernel) (pa_cons (pv 1) (pa_cons (pe_tup (pa_cons (pe_bltn (v := .ty "list") (by rfl) T.m_list (by decide +kernel) rfl) (pa_cons (pe_bltn (v := .ty "tuple") (by rfl) T.m_tuple (by decide +kernel) rfl) pa_nil))) pa_nil))))
        (pss_cons (ps_if (PW.pt (pw_or (pt_cmpR op_ne (pe_callB call_isi (by rfl) T.m_isinstance (by decide +kernel) (pa_cons (pv 0) (pa_cons (pe_bltn (v := .ty "list") (by rfl) T.m_list (by decide +kernel) rfl) pa_nil))) (pe_callB call_isi (by rfl) T.m_isinstance (by decide +kernel) (pa_cons (pv 1) (pa_cons (pe_bltn (v := .ty "list") (by rfl) T.m_list (by decide +kernel) rfl) pa_nil))) (nomark _)) (pw_or1 (pt_cmpR op_ne (pe_callB call_isi (by rfl) T.m_isinstance (by decide +kernel) (pa_cons (pv 0) (pa_cons (pe_bltn (v := .ty "tuple") (by rfl) T.m_tuple (by decide +kernel) rfl) pa_nil))) (pe_callB call_isi (by rfl) T.m_isinstance (by decide +kernel) (pa_cons (pv 1) (pa_cons (pe_bltn (v := .ty "tuple") (by rfl) T.m_tuple (by decide +kernel) rfl) pa_nil))) (nomark _)))))
          (pss_one (ps_ret pe_bl))
          pss_nil)
        (pss_one (ps_ret (pe_and (pe_cmpR op_eq (pe_callB call_len_seq (by rfl) T.m_len (by decide +kernel) (pa_cons (pv 0) pa_nil)) (pe_callB call_len_seq (by rfl) T.m_len (by decide +kernel) (pa_cons (pv 1) pa_nil)) (nomark _)) (pe_one (pe_callB (cr_all rfl) (by rfl) T.m_all (by decide +kernel) (pa_cons (pe_lc (own := [("_law_one", 2), ("_law_two", 3)]) (g := gTup K 2 (gCons (gName 2) (gCons (gName 3) gNil))) (by rfl) sc_same.nd (RZ.pi_zipA (by rfl) T.m_zip (pa_cons (pv 0) (pa_cons (pv 1) pa_nil))) (blkOk_by (own := [("_law_one", 2), ("_law_two", 3)]) (N := n_same) (sc := defScope s_same) (by decide +kernel)) (fun _ _ _ _ _ => (pg_tup rfl (pgs_cons (pg_name (i := 2) sc_same.nd rfl (.inl rfl) (.inr rfl)) (pgs_cons (pg_name (i := 3) sc_same.nd rfl (.inl rfl) (.inr rfl)) pgs_nil)))) (fun _ _ _ _ _ => pts_nil) (fun _ _ _ _ _ => (pe_call G_same hr (by rfl) T.g_same T.F_same.kp T.b_same .nil pass0 (pa_cons (pv 2) (pa_cons (pv 3) pa_nil))))) pa_nil)))))))
        pss_nil)
      (pss_cons (ps_if (PW.pt (pw_or (pt_cmpR op_isN (pv 1) pe_non (nomark _)) (pw_or1 (pt_cmpR op_isN (pv 0) pe_non (nomark _)))))
        (pss_one (ps_ret (pe_and (pe_cmpR op_isN (pv 1) pe_non (nomark _)) (pe_one (pe_cmpR op_isN (pv 0) pe_non (nomark _))))))
        pss_nil)
      (pss_cons (ps_if (PW.pt (pw_or (pt_val (pe_callB call_isi (by rfl) T.m_isinstance (by decide +kernel) (pa_cons (pv 1) (pa_cons (pe_bltn (v := .ty "bool") (by rfl) T.m_bool (by decide +kernel) rfl) pa_nil)))) (pw_or1 (pt_val (pe_callB call_isi (by rfl) T.m_isinstance (by decide +kernel) (pa_cons (pv 1) (pa_cons (pe_bltn (v := .ty "str") (by rfl) T.m_str (by decide +kernel) rfl) pa_nil)))))))
        (pss_one (ps_ret (pe_and (pe_cmpR op_eq (pe_callB call_isi (by rfl) T.m_isinstance (by decide +kernel) (pa_cons (pv 0) (pa_cons (pe_bltn (v := .ty "bool") (by rfl) T.m_bool (by decide +kernel) rfl) pa_nil))) (pe_callB call_isi (by rfl) T.m_isinstance (by decide +kernel) (pa_cons (pv 1) (pa_cons (pe_bltn (v := .ty "bool") (by rfl) T.m_bool (by decide +kernel) rfl) pa_nil))) (nomark _)) (pe_one (pe_cmpR op_eq (pv 0) (pv 1) (nomark _))))))
        pss_nil)
      (pss_one (ps_ret (pe_and (pe_callB call_isi (by rfl) T.m_isinstance (by decide +kernel) (pa_cons (pv 0) (pa_cons (pe_bltn (v := .ty "int") (by rfl) T.m_int (by decide +kernel) rfl) pa_nil))) (pe_and (pe_not (pe_callB call_isi (by rfl) T.m_isinstance (by decide +kernel) (pa_cons (pv 0) (pa_cons (pe_bltn (v := .ty "bool") (by rfl) T.m_bool (by decide +kernel) rfl) pa_nil)))) (pe_one (pe_cmpR op_eq (pv 0) (pv 1) (nomark _)))))))))), ?_⟩
      have ty : ∀ {H' : Hp} {x : V}, Same H H' → Rp bx H x d → TyX K H' x (.type (tyD d)) := fun s h => (h.ext (Ext.of s)).ty
      have sz : ∀ {m : Nat}, m ≤ 8388608 → m < sizeLine := fun h => Nat.lt_of_le_of_lt h (by decide)
      cases d with
      | none =>
        cases hv
        cases hu
        refine rd_isi2 (x := .non) (T := "NoneType") rfl (.base .non) (by decide +kernel : kitB "NoneType" "list" = some false) (by decide +kernel : kitB "NoneType" "tuple" = some false) (fun p hp => ?_) (fun p hp => .base .non)
        refine ⟨_, rfl, iteN rfl ?_⟩
        refine ⟨.non, rfl, rfl, _, rfl, iteP (decide_eq_true rfl) (iteP rfl ?_)⟩
        refine ⟨.non, rfl, rfl, _, rfl, iteP (decide_eq_true rfl) ?_⟩
        exact ⟨.non, rfl, rfl, blT (decide_eq_true rfl) (q _ (same_upd hp))⟩
      | bool b =>
        cases hv
        cases hu
        refine rd_isi2 (x := .bl b) (T := "bool") rfl (.base (.bl b)) (by decide +kernel : kitB "bool" "list" = some false) (by decide +kernel : kitB "bool" "tuple" = some false) (fun p hp => ?_) (fun p hp => .base (.bl b))
        refine ⟨_, rfl, iteN rfl ?_⟩
        refine ⟨.bl b, rfl, rfl, _, rfl, iteN (decide_eq_false (by intro z; cases z)) ⟨.bl b, rfl, rfl, _, rfl, iteN (decide_eq_false (by intro z; cases z)) ?_⟩⟩
        refine rd_isi (x := .bl b) (T := "bool") rfl (.base (.bl b)) (by decide +kernel : kitB "bool" "bool" = some true) ⟨_, rfl, iteP rfl (iteP rfl ?_)⟩
        refine rd_isi (x := .bl b) (T := "bool") rfl (.base (.bl b)) (by decide +kernel : kitB "bool" "bool" = some true) ?_
        refine rd_isi (x := .bl b) (T := "bool") rfl (.base (.bl b)) (by decide +kernel : kitB "bool" "bool" = some true) ⟨rfl, _, rfl, iteP (decide_eq_true rfl) ?_⟩
        exact ⟨.bl b, rfl, .bl b, rfl, rfl, blT (decide_eq_true rfl) (q _ (same_upd hp))⟩
      | int i =>
        cases hv
        cases hu
        refine rd_isi2 (x := .int i) (T := "int") rfl (.base (.int i)) (by decide +kernel : kitB "int" "list" = some false) (by decide +kernel : kitB "int" "tuple" = some false) (fun p hp => ?_) (fun p hp => .base (.int i))
        refine ⟨_, rfl, iteN rfl ?_⟩
        refine ⟨.int i, rfl, rfl, _, rfl, iteN (decide_eq_false (by intro z; cases z)) ⟨.int i, rfl, rfl, _, rfl, iteN (decide_eq_false (by intro z; cases z)) ?_⟩⟩
        refine rd_isi (x := .int i) (T := "int") rfl (.base (.int i)) (by decide +kernel : kitB "int" "bool" = some false) ⟨_, rfl, iteN rfl ?_⟩
        refine rd_isi (x := .int i) (T := "int") rfl (.base (.int i)) (by decide +kernel : kitB "int" "str" = some false) ⟨_, rfl, iteN rfl ?_⟩
        refine rd_isi (x := .int i) (T := "int") rfl (.base (.int i)) (by decide +kernel : kitB "int" "int" = some true) ⟨_, rfl, iteP rfl ?_⟩
        refine rd_isi (x := .int i) (T := "int") rfl (.base (.int i)) (by decide +kernel : kitB "int" "bool" = some false) ⟨_, rfl, _, rfl, iteP rfl ?_⟩
        exact ⟨.int i, rfl, .int i, rfl, rfl, blT (decide_eq_true rfl) (q _ (same_upd hp))⟩
      | str x =>
        cases hv
        cases hu
        refine rd_isi2 (x := .str x) (T := "str") rfl (.base (.str x)) (by decide +kernel : kitB "str" "list" = some false) (by decide +kernel : kitB "str" "tuple" = some false) (fun p hp => ?_) (fun p hp => .base (.str x))
        refine ⟨_, rfl, iteN rfl ?_⟩
        refine ⟨.str x, rfl, rfl, _, rfl, iteN (decide_eq_false (by intro z; cases z)) ⟨.str x, rfl, rfl, _, rfl, iteN (decide_eq_false (by intro z; cases z)) ?_⟩⟩
        refine rd_isi (x := .str x) (T := "str") rfl (.base (.str x)) (by decide +kernel : kitB "str" "bool" = some false) ⟨_, rfl, iteN rfl ?_⟩
        refine rd_isi (x := .str x) (T := "str") rfl (.base (.str x)) (by decide +kernel : kitB "str" "str" = some true) ⟨_, rfl, iteP rfl ?_⟩
        refine rd_isi (x := .str x) (T := "str") rfl (.base (.str x)) (by decide +kernel : kitB "str" "bool" = some false) ?_
        refine rd_isi (x := .str x) (T := "str") rfl (.base (.str x)) (by decide +kernel : kitB "str" "bool" = some false) ⟨rfl, _, rfl, iteP (decide_eq_true rfl) ?_⟩
        exact ⟨.str x, rfl, .str x, rfl, rfl, blT (decide_eq_true rfl) (q _ (same_upd hp))⟩
      | list ds =>
        cases n with
        | zero => exact hd.elim
        | succ n =>
        obtain ⟨hlen, hds⟩ := hd
        refine rd_isi2 (x := u) (T := "list") rfl hu.ty (by decide +kernel : kitB "list" "list" = some true) (by decide +kernel : kitB "list" "tuple" = some false) (fun p hp => ?_) (fun p hp => ty (same_upd hp) hu)
        have s1 := same_upd (o := .tup [.ty "list", .ty "tuple"]) hp
        refine ⟨_, rfl, iteP rfl ?_⟩
        refine rd_isi (x := v) (T := "list") rfl (ty s1 hv) (by decide +kernel : kitB "list" "list" = some true) ?_
        refine rd_isi (x := u) (T := "list") rfl (ty s1 hu) (by decide +kernel : kitB "list" "list" = some true) ⟨rfl, _, rfl, iteN rfl ?_⟩
        refine rd_isi (x := v) (T := "list") rfl (ty s1 hv) (by decide +kernel : kitB "list" "tuple" = some false) ?_
        refine rd_isi (x := u) (T := "list") rfl (ty s1 hu) (by decide +kernel : kitB "list" "tuple" = some false) ⟨rfl, _, rfl, iteN rfl ?_⟩
        have hv1 := hv.ext (Ext.of s1)
        have hu1 := hu.ext (Ext.of s1)
        generalize hH1 : upd H p (.tup [.ty "list", .ty "tuple"]) = H1 at *
        cases hv1 with
        | @lst a xs _ ha na rx =>
        cases hu1 with
        | @lst b ys _ hb nb ry =>
        have ex : xs.length = ds.length := rx.length
        have ey : ys.length = ds.length := ry.length
        refine ⟨.ref a, rfl, a, _, rfl, .inl (.inl (.inl ha)), .ref b, rfl, b, _, rfl, .inl (.inl (.inl hb)), rfl, _, rfl, iteP (decide_eq_true (by rw [ex, ey])) ?_⟩
        refine ⟨.ref a, rfl, .ref b, rfl, a, b, xs, ys, rfl, .inl ⟨.inl (.inl ha), .inl (.inl hb), fun D hD => ?_⟩⟩
        refine lc_it (walk_zip (xs := xs) (ys := ys) (n := ds.length) (by rw [ex, ey, Nat.min_self])) (fun i H3 => Same H1 H3 ∧ H3 D = some (.lst (List.replicate i (.bl true)))) ⟨same_upd hD, upd_same⟩ ?_ ?_ ?_
        · rintro i H3 _ ⟨sm, _⟩
          exact ⟨.inl (.inl (sm _ _ ha)), .inl (.inl (sm _ _ hb))⟩
        · rintro i x H3 H4 hi ⟨sm, hD3⟩ ⟨t, x1, x2, rfl, nt, rfl, e1, e2⟩
          have sT := same_upd (o := .tup [x1, x2]) nt
          refine ⟨t, _, rfl, .inl (.inl upd_same), rfl, _, _, rfl, _, _, rfl, rfl, rfl, yes (iteT ?_)⟩
          obtain ⟨z1, f1, r1⟩ := rx.get (List.getElem?_eq_getElem hi)
          obtain ⟨z2, f2, r2⟩ := ry.get (List.getElem?_eq_getElem hi)
          have g1 : x1 = z1 := Option.some.inj (e1.symm.trans f1)
          have g2 : x2 = z2 := Option.some.inj (e2.symm.trans f2)
          subst g1 g2
          refine ⟨x1, rfl, x2, rfl, bx, x1, x2, ds[i], rfl, r1.ext (Ext.of (sm.trans sT)), r2.ext (Ext.of (sm.trans sT)), hds _ (List.getElem_mem hi), fun H5 s5 => ?_⟩
          refine ⟨_, s5 _ _ (sT _ _ hD3), by rw [List.length_replicate]; exact sz (by omega), same_mut (sm.trans (sT.trans s5)) hD, ?_⟩
          rw [upd_same, List.replicate_succ']
        · rintro H3 ⟨sm, hD3⟩
          refine ⟨D, List.replicate ds.length true, rfl, .inl (.inl (by rw [hD3, List.map_replicate])), blT ?_ (q _ (s1.trans sm))⟩
          rw [List.all_eq_true]
          intro z hz
          rw [List.eq_of_mem_replicate hz]
          rfl
      | tuple ds =>
        cases n with
        | zero => exact hd.elim
        | succ n =>
        obtain ⟨hlen, hds⟩ := hd
        refine rd_isi2 (x := u) (T := "tuple") rfl hu.ty (by decide +kernel : kitB "tuple" "list" = some false) (by decide +kernel : kitB "tuple" "tuple" = some true) (fun p hp => ?_) (fun p hp => ty (same_upd hp) hu)
        have s1 := same_upd (o := .tup [.ty "list", .ty "tuple"]) hp
        refine ⟨_, rfl, iteP rfl ?_⟩
        refine rd_isi (x := v) (T := "tuple") rfl (ty s1 hv) (by decide +kernel : kitB "tuple" "list" = some false) ?_
        refine rd_isi (x := u) (T := "tuple") rfl (ty s1 hu) (by decide +kernel : kitB "tuple" "list" = some false) ⟨rfl, _, rfl, iteN rfl ?_⟩
        refine rd_isi (x := v) (T := "tuple") rfl (ty s1 hv) (by decide +kernel : kitB "tuple" "tuple" = some true) ?_
        refine rd_isi (x := u) (T := "tuple") rfl (ty s1 hu) (by decide +kernel : kitB "tuple" "tuple" = some true) ⟨rfl, _, rfl, iteN rfl ?_⟩
        have hv1 := hv.ext (Ext.of s1)
        have hu1 := hu.ext (Ext.of s1)
        generalize hH1 : upd H p (.tup [.ty "list", .ty "tuple"]) = H1 at *
        cases hv1 with
        | @tup a xs _ ha na rx =>
        cases hu1 with
        | @tup b ys _ hb nb ry =>
        have ex : xs.length = ds.length := rx.length
        have ey : ys.length = ds.length := ry.length
        refine ⟨.ref a, rfl, a, _, rfl, .inr ha.sq, .ref b, rfl, b, _, rfl, .inr hb.sq, rfl, _, rfl, iteP (decide_eq_true (by rw [ex, ey])) ?_⟩
        refine ⟨.ref a, rfl, .ref b, rfl, a, b, xs, ys, rfl, .inr ⟨ha.sq, hb.sq, fun D hD => ?_⟩⟩
        refine lc_it (walk_zipT (xs := xs) (ys := ys) (n := ds.length) ex ey) (fun i H3 => Same H1 H3 ∧ H3 D = some (.lst (List.replicate i (.bl true)))) ⟨same_upd hD, upd_same⟩ ?_ ?_ ?_
        · rintro i H3 _ ⟨sm, _⟩
          exact ⟨(ha.ext (Ext.of (bx := bx) sm) na).sq, (hb.ext (Ext.of (bx := bx) sm) nb).sq⟩
        · rintro i x H3 H4 hi ⟨sm, hD3⟩ ⟨t, x1, x2, rfl, nt, rfl, e1, e2⟩
          have sT := same_upd (o := .tup [x1, x2]) nt
          refine ⟨t, _, rfl, .inl (.inl upd_same), rfl, _, _, rfl, _, _, rfl, rfl, rfl, yes (iteT ?_)⟩
          obtain ⟨z1, f1, r1⟩ := rx.get (List.getElem?_eq_getElem hi)
          obtain ⟨z2, f2, r2⟩ := ry.get (List.getElem?_eq_getElem hi)
          have g1 : x1 = z1 := Option.some.inj (e1.symm.trans f1)
          have g2 : x2 = z2 := Option.some.inj (e2.symm.trans f2)
          subst g1 g2
          refine ⟨x1, rfl, x2, rfl, bx, x1, x2, ds[i], rfl, r1.ext (Ext.of (sm.trans sT)), r2.ext (Ext.of (sm.trans sT)), hds _ (List.getElem_mem hi), fun H5 s5 => ?_⟩
          refine ⟨_, s5 _ _ (sT _ _ hD3), by rw [List.length_replicate]; exact sz (by omega), same_mut (sm.trans (sT.trans s5)) hD, ?_⟩
          rw [upd_same, List.replicate_succ']
        · rintro H3 ⟨sm, hD3⟩
          refine ⟨D, List.replicate ds.length true, rfl, .inl (.inl (by rw [hD3, List.map_replicate])), blT ?_ (q _ (s1.trans sm))⟩
          rw [List.all_eq_true]
          intro z hz
          rw [List.eq_of_mem_replicate hz]
          rfl
      | dict kvs => cases hv
end
end Lh

namespace Lh
open PySem PySem.Spec PyProof.Rows L2
theorem okD_ints {n : Nat} {ns : List Int} (h : ns.length ≤ 8388608) : okD (n + 1) (.tuple (ns.map PyData.int)) := by
  refine ⟨by rw [List.length_map]; exact h, fun d hd => ?_⟩
  obtain ⟨x, _, rfl⟩ := List.mem_map.mp hd
  cases n <;> trivial
def wayD (nss : List (List Int)) : PyData := .list (nss.map fun ms => .tuple (ms.map PyData.int))
theorem okD_way {n : Nat} {nss : List (List Int)} (h : nss.length ≤ 8388608) (h2 : ∀ ms ∈ nss, ms.length ≤ 8388608) : okD (n + 2) (wayD nss) := by
  refine ⟨by rw [List.length_map]; exact h, fun d hd => ?_⟩
  obtain ⟨x, hx, rfl⟩ := List.mem_map.mp hd
  exact okD_ints (h2 x hx)
theorem tup_nb {bx : Addr} {c : Int} {H : Hp} {t : Addr} {xs : List V} (b : Box bx c H) (h : TupAt H t xs) : t ≠ bx := by
  obtain ⟨_, _, _, hb, _⟩ := b
  rcases h with h | ⟨o, _, h⟩
  · exact ne_of h hb (by intro z; cases z)
  · exact ne_of h hb (by intro z; cases z)
theorem StandsAt.rp {bx : Addr} {c : Int} {H : Hp} (b : Box bx c H) : ∀ {vs : List V} {nss : List (List Int)}, StandsAt H vs nss → RpAll bx H vs (nss.map fun ms => .tuple (ms.map PyData.int))
  | _, _, .nil => .nil
  | _, _, .cons ⟨t, e, h⟩ r => by
    subst e
    exact .cons (.tup h (tup_nb b h) (RpAll.ints _)) (StandsAt.rp b r)
theorem StandsAt.drop {H : Hp} : ∀ {vs : List V} {nss : List (List Int)} (k : Nat), StandsAt H vs nss → StandsAt H (vs.drop k) (nss.drop k)
  | _, _, 0, h => h
  | _, _, k + 1, .nil => .nil
  | _, _, k + 1, .cons _ r => StandsAt.drop k r
theorem StandsAt.take {H : Hp} : ∀ {vs : List V} {nss : List (List Int)} (k : Nat), StandsAt H vs nss → StandsAt H (vs.take k) (nss.take k)
  | _, _, 0, h => .nil
  | _, _, k + 1, .nil => .nil
  | _, _, k + 1, .cons h r => .cons h (StandsAt.take k r)
/-- what stands while a hall is asked -/
structure F7 (C bx : Addr) (c : Int) (H0 : Hp) (l x t : Addr) (us : List V) (rs : List Rule) (ns : List Int) (Hk : Hp) : Prop where
  e : Ext bx H0 Hk
  b : Box bx c Hk
  hl : Hk l = some (.lst us)
  ra : RulesAt Hk us rs
  hA : HallAt C Hk x rs
  hS : TupAt Hk t (ns.map V.int)
theorem F7.same {C bx : Addr} {c : Int} {H0 : Hp} {l x t : Addr} {us : List V} {rs : List Rule} {ns : List Int} {Hk H' : Hp} (f : F7 C bx c H0 l x t us rs ns Hk) (s : Same Hk H') : F7 C bx c H0 l x t us rs ns H' :=
  ⟨f.e.trans (Ext.of s), f.b.same s, s _ _ f.hl, f.ra.keep (Keep.same s), f.hA.keep s, f.hS.keep (Keep.same s)⟩
theorem F7.draw {C bx : Addr} {c c' : Int} {H0 : Hp} {l x t : Addr} {us : List V} {rs : List Rule} {ns : List Int} {Hk H' : Hp} (f : F7 C bx c H0 l x t us rs ns Hk) (nl : l ≠ bx) (e : Ext bx Hk H') (b : Box bx c' H') : F7 C bx c' H0 l x t us rs ns H' :=
  ⟨f.e.trans e, b, e _ _ nl f.hl, f.ra.keep (Keep.ext e f.b), f.hA.ext e f.b, f.hS.keep (Keep.ext e f.b)⟩
theorem F7.lst {C bx : Addr} {c : Int} {H0 : Hp} {l x t d : Addr} {us ys zs : List V} {rs : List Rule} {ns : List Int} {Hk : Hp} (f : F7 C bx c H0 l x t us rs ns Hk) (hd : Hk d = some (.lst ys)) (n1 : d ≠ bx) (n2 : l ≠ d) (n0 : H0 d = none) : F7 C bx c H0 l x t us rs ns (upd Hk d (.lst zs)) := by
  have kT := keep_lst (ys := zs) hd
  refine ⟨f.e.new n0, f.b.at n1, by rw [upd_ne n2]; exact f.hl, f.ra.keep kT, ?_, f.hS.keep kT⟩
  obtain ⟨dx, t', vs, h1, h2, h3⟩ := f.hA
  refine ⟨dx, t', vs, ?_, h2.keep kT, h3.keep kT⟩
  rw [upd_ne (ne_of h1 hd (by intro z; cases z))]
  exact h1
def tupD (ms : List Int) : PyData := .tuple (ms.map PyData.int)
theorem TupAt.rpI {bx : Addr} {c : Int} {H : Hp} (b : Box bx c H) {t : Addr} {ms : List Int} (h : TupAt H t (ms.map V.int)) : Rp bx H (.ref t) (tupD ms) := .tup h (tup_nb b h) (RpAll.ints _)
theorem okD_tups {n : Nat} {ds : List (List Int)} (h : ds.length ≤ 8388608) (h2 : ∀ ms ∈ ds, ms.length ≤ 8388608) : okD (n + 2) (.list (ds.map tupD)) := okD_way h h2
theorem okD_intsL {n : Nat} {ns : List Int} (h : ns.length ≤ 8388608) : okD (n + 1) (.list (ns.map PyData.int)) := by
  refine ⟨by rw [List.length_map]; exact h, fun d hd => ?_⟩
  obtain ⟨x, _, rfl⟩ := List.mem_map.mp hd
  cases n <;> trivial
def spRight : Sp := fun vs H Q _ => ∃ bx : Addr, vs = [.ref bx] ∧ Box bx 0 H ∧ ∀ H', Ext bx H H' → Q (.bl true) H'
end Lh

namespace Lh
open PySem PySem.Spec PyProof.Rows L2
section
variable {P : Program} {w : World} {K : PySem.W.Frag} {mg : Str → Option Value} {base : Heap}
def spTells : Sp := fun vs H Q _ => ∃ (v l : V) (r : Rule) (many : Int) (lot : List (Int × Int)), vs = [v, l] ∧ RuleAt H v r ∧ r.Wf many ∧ r.persons.length ≤ 1000 ∧ (∃ (a : Addr) (ps : List Addr), l = .ref a ∧ H a = some (.lst (ps.map V.ref)) ∧ Paired (PairAtH H) ps lot ∧ ps.length ≤ 60) ∧
  (∀ q ∈ lot, q.1 ∈ r.persons) ∧ ∀ (x : Int) (H' : Hp), Same H H' → Tell r lot x → Q (.int x) H'
theorem ok_tells (T : Txt K mg w) : FnOk P w K mg base CX0 2 T.f_tells T.fd_tells p_tells spTells := by
  have G_seen := ok_seen (P := P) (w := w) (base := base) T
  refine T.F_tells.ok sc_tells (fun vs H Q E h => ?_) (fun cdv A outer s H vs Q E hr h => ?_)
  · obtain ⟨v, l, r, many, lot, rfl, _⟩ := h
    rfl
  · obtain ⟨v, l, r, many, lot, rfl, hv, wf, hl, ⟨b, qs, rfl, hb, pq, lq⟩, sub, q⟩ := h
    refine ⟨_, (pss_cons (ps_asg (pe_tup (pa_cons (pe_ix ix_tup (pv 0) pe_int (fun _ _ => rfl)) (pa_cons (pe_callB (r := rSortedSet w) (cr_sortedSet rfl) (by rfl) T.m_sorted (by decide +kernel) (pa_cons (pe_callTy (r := rSetL K w) (cr_setL rfl) (by rfl) T.m_set (by decide +kernel) (pa_cons (pe_lc (own := [("_law_other", 4), ("_law_number", 5)]) (g := gTup K 2 (gCons (gName 4) (gCons (gName 5) gNil))) (by rfl) sc_tells.nd (pi_list (pv 1)) (blkOk_by (own := [("_law_other", 4), ("_law_number", 5)]) (N := n_tells) (sc := defScope s_tells) (by decide +kernel)) (fun _ _ _ _ _ => (pg_tup rfl (pgs_cons (pg_name (i := 4) sc_tells.nd rfl (.inl rfl) (.inr rfl)) (pgs_cons (pg_name (i := 5) sc_tells.nd rfl (.inl rfl) (.inr rfl)) pgs_nil)))) (fun _ _ _ _ _ => pts_nil) (fun _ _ _ _ _ => (pv 5))) pa_nil)) pa_nil)) pa_nil))) (pg_tup rfl (pgs_cons (pg_name (i := 2) sc_tells.nd rfl (.inl rfl)) (pgs_cons (pg_name (i := 3) sc_tells.nd rfl (.inr rfl)) pgs_nil))))
      (pss_cons (ps_if (pt_cmpR op_eq (pv 2) pe_str (nomark _))
        (pss_one (ps_ret (pe_ix ix_tup (pv 0) pe_int (fun _ _ => rfl))))
        pss_nil)
      (pss_cons (ps_if (pt_cmpR op_eq (pv 2) pe_str (nomark _))
        (pss_one (ps_ret (pe_op op_add (pe_ix ix_tup (pv 0) pe_int (fun _ _ => rfl)) (pe_callB call_len_seq (by rfl) T.m_len (by decide +kernel) (pa_cons (pv 3) pa_nil)))))
        pss_nil)
      (pss_cons (ps_if (pt_cmpR op_eq (pv 2) pe_str (nomark _))
        (pss_one (ps_ret (pe_ifExp (pt_cmpR (op_neD hr.units) (pv 3) (pe_lst pa_nil) (nomark _)) (pe_op op_add (pe_ix ix_list (pv 3) (pe_un un_neg pe_int) (fun _ _ => rfl)) pe_int) pe_int)))
        pss_nil)
      (pss_cons (ps_if (pt_cmpR op_eq (pv 2) pe_str (nomark _))
        (pss_one (ps_ret (pe_ix ix_list (pe_lc (own := [("_law_k", 6)]) (g := gName 6) (by rfl) sc_tells.nd (pi_range1 (by rfl) T.m_range (pa_cons (pe_op op_add (pe_callB call_len_seq (by rfl) T.m_len (by decide +kernel) (pa_cons (pv 3) pa_nil)) pe_int) pa_nil)) (blkOk_by (own := [("_law_k", 6)]) (N := n_tells) (sc := defScope s_tells) (by decide +kernel)) (fun _ _ _ _ _ => (pg_name (i := 6) sc_tells.nd rfl (.inl rfl) (.inr rfl))) (fun _ _ _ _ _ => (pts_one (pt_cmpR (r := rIn K true) op_notIn_seq (pv 6) (pv 3) (by rfl)))) (fun _ _ _ _ _ => (pv 6))) pe_int (fun _ _ => rfl))))
        pss_nil)
      (pss_cons (ps_asg (pe_tup (pa_cons (pe_callTy (call_dictP rfl) (by rfl) T.m_dict (by decide +kernel) (pa_cons (pe_call G_seen (hr.mono (by decide)) (by rfl) T.g_seen T.F_seen.kp T.b_seen .nil pass0 (pa_cons (pv 0) pa_nil)) pa_nil)) (pa_cons (pe_lc (own := [("_law_other", 4), ("_law_number", 5)]) (g := gTup K 2 (gCons (gName 4) (gCons (gName 5) gNil))) (by rfl) sc_tells.nd (pi_list (pv 1)) (blkOk_by (own := [("_law_other", 4), ("_law_number", 5)]) (N := n_tells) (sc := defScope s_tells) (by decide +kernel)) (fun _ _ _ _ _ => (pg_tup rfl (pgs_cons (pg_name (i := 4) sc_tells.nd rfl (.inl rfl) (.inr rfl)) (pgs_cons (pg_name (i := 5) sc_tells.nd rfl (.inl rfl) (.inr rfl)) pgs_nil)))) (fun _ _ _ _ _ => pts_nil) (fun _ _ _ _ _ => (pv 4))) pa_nil))) (pg_tup rfl (pgs_cons (pg_name (i := 7) sc_tells.nd rfl (.inr rfl)) (pgs_cons (pg_name (i := 8) sc_tells.nd rfl (.inl rfl)) pgs_nil))))
      (pss_cons (ps_set (i := 9) sc_tells.nd rfl (.inl rfl) (pe_op op_add (pe_ix ix_tup (pv 0) pe_int (fun _ _ => rfl)) (pe_callB (cr_sum rfl) (by rfl) T.m_sum (by decide +kernel) (pa_cons (pe_lc (own := [("_law_other", 4)]) (g := gName 4) (by rfl) sc_tells.nd (pi_list (pv 8)) (blkOk_by (own := [("_law_other", 4)]) (N := n_tells) (sc := defScope s_tells) (by decide +kernel)) (fun _ _ _ _ _ => (pg_name (i := 4) sc_tells.nd rfl (.inl rfl) (.inr rfl))) (fun _ _ _ _ _ => pts_nil) (fun _ _ _ _ _ => (pe_dget (hu_of hr) (pv 7) (pv 4) (fun _ _ => rfl)))) pa_nil))))
      (pss_one (ps_ret (pe_ifExp (pt_cmpR op_eq (pv 2) pe_str (nomark _)) (pv 9) (pe_callB (call_min2 rfl) (by rfl) T.m_min (by decide +kernel) (pa_cons (pv 9) (pa_cons (pe_ix ix_tup (pv 0) pe_int (fun _ _ => rfl)) pa_nil))))))))))))), ?_⟩
    obtain ⟨a, xs, rfl, ha⟩ := hv.word
    have hl3 : (lot.map (·.2)).length ≤ 60 := by rw [List.length_map, ← pq.length]; exact lq
    refine ⟨.ref a, rfl, a, _, 0, _, rfl, rfl, .inl (.inl ha), atI_nat (j := 0) rfl, .ref b, rfl, b, rfl, ⟨_, .inl (.inl hb)⟩, fun D hD => ?_⟩
    refine lc_pairs (·.2) (walk_listR qs) pq hD (by omega) (fun H3 s3 => .inl (.inl (s3 _ _ hb))) (fun _ _ => rfl) (fun q _ H3 _ Q h => ⟨_, rfl, h⟩) (fun H3 s3 h3 => ?_)
    refine ⟨D, _, rfl, .inl (.inl h3), by omega, fun p c ks np nd kl cl mem => ⟨p, _, c, rfl, upd_same, by omega, fun ms z pw mm0 ml nz => ⟨by show 2 ≤ sizeLine; decide, fun t nt => ⟨t, _, rfl, .inl (.inl upd_same), rfl, _, _, rfl, _, _, rfl, rfl, ?_⟩⟩⟩⟩
    have s4 : Same H (upd (upd (upd H3 p (SetO w p (fun j => decide (j ∈ lot.map (·.2))) c)) z (.lst (ms.map V.int))) t (.tup [.str (wordOf r), .ref z])) := s3.trans ((same_upd np).trans ((same_upd nz).trans (same_upd nt)))
    have hz : (upd (upd (upd H3 p (SetO w p (fun j => decide (j ∈ lot.map (·.2))) c)) z (.lst (ms.map V.int))) t (.tup [.str (wordOf r), .ref z])) z = some (.lst (ms.map V.int)) := by rw [upd_ne (ne_of_none upd_same nt)]; exact upd_same
    have mm : ∀ k, k ∈ ms ↔ k ∈ lot.map (·.2) := fun k => (mm0 k).trans decide_eq_true_iff
    have mlen : ms.length ≤ 60 := by omega
    have mnd : ms.Nodup := List.nodup_iff_pairwise_ne.mpr (pw.imp fun z => by omega)
    generalize hH4 : upd (upd (upd H3 p (SetO w p (fun j => decide (j ∈ lot.map (·.2))) c)) z (.lst (ms.map V.int))) t (.tup [.str (wordOf r), .ref z]) = H4 at *
    have hv4 := hv.keep (Keep.same s4)
    have hb4 := s4 _ _ hb
    have pq4 := pairs_keep (Keep.same s4) pq
    cases r with
    | held n =>
      obtain ⟨a', e, ha'⟩ := hv4
      cases e
      refine ⟨_, rfl, rfl, _, rfl, iteP (show decide (V.str (Str.ofString "held") = V.str (Str.ofString "held")) = true by decide +kernel) ?_⟩
      exact ⟨.ref a, rfl, a, _, 1, _, rfl, rfl, .inl (.inl ha'), rfl, q n H4 s4 rfl⟩
    | kinds own seen =>
      obtain ⟨a', t', e, ha', hs⟩ := hv4
      cases e
      refine ⟨_, rfl, rfl, _, rfl, iteN (show decide (V.str (Str.ofString "kinds") = V.str (Str.ofString "held")) = false by decide +kernel) ?_⟩
      refine ⟨_, rfl, rfl, _, rfl, iteP (show decide (V.str (Str.ofString "kinds") = V.str (Str.ofString "kinds")) = true by decide +kernel) ?_⟩
      refine ⟨.ref a, rfl, a, _, 1, _, rfl, rfl, .inl (.inl ha'), rfl, .ref z, rfl, z, _, rfl, .inl (.inl (.inl hz)), own, _, rfl, rfl, q _ H4 s4 ⟨ms, mnd, mm, ?_⟩⟩
      rw [List.length_map]
    | next seen =>
      refine ⟨_, rfl, rfl, _, rfl, iteN (show decide (V.str (Str.ofString "next") = V.str (Str.ofString "held")) = false by decide +kernel) ?_⟩
      refine ⟨_, rfl, rfl, _, rfl, iteN (show decide (V.str (Str.ofString "next") = V.str (Str.ofString "kinds")) = false by decide +kernel) ?_⟩
      refine ⟨_, rfl, rfl, _, rfl, iteP (show decide (V.str (Str.ofString "next") = V.str (Str.ofString "next")) = true by decide +kernel) ?_⟩
      refine ⟨.ref z, rfl, Nat.zero_le _, fun e he => ?_⟩
      have hz5 : upd H4 e (.lst []) z = some (.lst (ms.map V.int)) := by rw [upd_ne (ne_of_none hz he)]; exact hz
      refine ⟨.list (ms.map PyData.int), .list [], .lst (.inl (.inl hz5)) (RpAll.dp (bx := 0) (RpAll.ints ms)), .lst (.inl (.inl upd_same)) .nil, shaped_ints ms, by decide +kernel, _, rfl, ?_⟩
      cases ms with
      | nil =>
        refine iteN (by decide +kernel) ?_
        refine q 0 _ (s4.trans (same_upd he)) (.inl ⟨?_, rfl⟩)
        cases lot with
        | nil => rfl
        | cons x r => exact absurd ((mm x.2).mpr (by simp)) (by simp)
      | cons m r =>
        refine iteP (by rfl) ?_
        have gl : atI ((m :: r).map V.int) (-1) = some (.int ((m :: r).getLast (List.cons_ne_nil _ _))) := by
          have hd : (m :: r).map V.int = ((m :: r).dropLast.map V.int) ++ [.int ((m :: r).getLast (List.cons_ne_nil _ _))] := by
            rw [← List.map_singleton, ← List.map_append, List.dropLast_concat_getLast]
          rw [hd]
          exact atI_last _ _
        refine ⟨.ref z, rfl, 1, rfl, z, _, -1, _, rfl, rfl, .inl (.inl hz5), gl, _, 1, rfl, rfl, q _ _ (s4.trans (same_upd he)) (.inr ⟨?_, fun y hy => ?_⟩)⟩
        · rw [show (m :: r).getLast (List.cons_ne_nil _ _) + 1 - 1 = (m :: r).getLast (List.cons_ne_nil _ _) by omega]
          exact (mm _).mp (List.getLast_mem _)
        · have := last_max (m :: r) (List.cons_ne_nil _ _) pw y ((mm y).mpr hy)
          omega
    | free seen =>
      refine ⟨_, rfl, rfl, _, rfl, iteN (show decide (V.str (Str.ofString "free") = V.str (Str.ofString "held")) = false by decide +kernel) ?_⟩
      refine ⟨_, rfl, rfl, _, rfl, iteN (show decide (V.str (Str.ofString "free") = V.str (Str.ofString "kinds")) = false by decide +kernel) ?_⟩
      refine ⟨_, rfl, rfl, _, rfl, iteN (show decide (V.str (Str.ofString "free") = V.str (Str.ofString "next")) = false by decide +kernel) ?_⟩
      refine ⟨_, rfl, rfl, _, rfl, iteP (show decide (V.str (Str.ofString "free") = V.str (Str.ofString "free")) = true by decide +kernel) ?_⟩
      refine ⟨.ref z, rfl, z, _, rfl, .inl (.inl (.inl hz)), _, 1, rfl, rfl, _, rfl, ?_, ?_, fun D2 hD2 => ?_⟩
      · rw [List.length_map]; omega
      · rw [List.length_map]; omega
      have en : (((ms.map V.int).length : Int) + 1).toNat = ms.length + 1 := by rw [List.length_map]; omega
      rw [en]
      refine lc_it walk_range (fun i H5 => Same H4 H5 ∧ H5 D2 = some (.lst ((((List.range i).filter fun k : Nat => decide ((k : Int) ∉ ms)).map fun k : Nat => V.int k)))) ⟨same_upd hD2, upd_same⟩ (fun _ _ _ _ => trivial) ?_ ?_
      · rintro i x H5 H6 hi ⟨s5, h5⟩ ⟨rfl, rfl⟩
        refine ⟨rfl, ?_⟩
        refine ⟨.int (0 + i), rfl, .ref z, rfl, z, _, rfl, .inl (.inl (.inl (s5 _ _ hz))), rfl, flat_ints ms, _, rfl, ?_⟩
        rw [if_pos rfl, in_ints, Int.zero_add]
        have fl : ((List.range (i + 1)).filter fun k : Nat => decide ((k : Int) ∉ ms)) = ((List.range i).filter fun k : Nat => decide ((k : Int) ∉ ms)) ++ (if (i : Int) ∈ ms then [] else [i]) := by
          rw [List.range_succ, List.filter_append]
          congr 1
          by_cases c : (i : Int) ∈ ms
          · rw [if_pos c, List.filter_cons, if_neg (by simpa using c)]; rfl
          · rw [if_neg c, List.filter_cons, if_pos (by simpa using c)]; rfl
        refine ite2 (fun e => ?_) (fun e => ?_)
        · have c : (i : Int) ∉ ms := by simpa using e
          refine ⟨.int (0 + i), rfl, _, h5, ?_, same_mut s5 hD2, ?_⟩
          · rw [List.length_map]
            refine small1000 ?_
            have := List.length_filter_le (fun k : Nat => decide ((k : Int) ∉ ms)) (List.range i)
            rw [List.length_range] at this
            omega
          · rw [upd_same, fl, if_neg c, List.map_append, Int.zero_add]; rfl
        · have c : (i : Int) ∈ ms := by simpa using e
          refine ⟨s5, ?_⟩
          rw [fl, if_pos c, List.append_nil]; exact h5
      · rintro H5 ⟨s5, h5⟩
        obtain ⟨h, tl, el⟩ : ∃ h tl, ((List.range (ms.length + 1)).filter fun k : Nat => decide ((k : Int) ∉ ms)) = h :: tl := by
          cases q : ((List.range (ms.length + 1)).filter fun k : Nat => decide ((k : Int) ∉ ms)) with
          | cons h tl => exact ⟨h, tl, rfl⟩
          | nil =>
            exfalso
            have hh := nodup_len ((List.range (ms.length + 1)).map fun n : Nat => (n : Int)) ms (by
              rw [List.nodup_iff_pairwise_ne]
              exact List.Pairwise.map _ (fun a b z q => z (by omega)) (List.nodup_iff_pairwise_ne.mp List.nodup_range)) (fun x hx => by
                obtain ⟨n, hn, rfl⟩ := List.mem_map.mp hx
                have := List.filter_eq_nil_iff.mp q n hn
                simpa using this)
            rw [List.length_map, List.length_range] at hh
            omega
        rw [el] at h5
        refine ⟨D2, _, 0, .int h, rfl, rfl, .inl (.inl h5), atI_nat (j := 0) rfl, q h _ (s4.trans s5) ?_⟩
        have mh : h ∈ ((List.range (ms.length + 1)).filter fun k : Nat => decide ((k : Int) ∉ ms)) := by rw [el]; exact List.mem_cons_self
        obtain ⟨mh1, mh2⟩ := List.mem_filter.mp mh
        have srt : ((List.range (ms.length + 1)).filter fun k : Nat => decide ((k : Int) ∉ ms)).Pairwise (· < ·) := List.Pairwise.sublist List.filter_sublist List.pairwise_lt_range
        refine ⟨fun z => ?_, by omega, fun j j0 j1 => ?_⟩
        · exact of_decide_eq_true mh2 ((mm _).mpr z)
        · refine (mm j).mp ?_
          by_cases c : j ∈ ms
          · exact c
          · exfalso
            have mj : j.toNat ∈ ((List.range (ms.length + 1)).filter fun k : Nat => decide ((k : Int) ∉ ms)) := by
              refine List.mem_filter.mpr ⟨List.mem_range.mpr (by have := List.mem_range.mp mh1; omega), decide_eq_true ?_⟩
              rw [show ((j.toNat : Nat) : Int) = j by omega]; exact c
            rw [el] at mj srt
            rcases List.mem_cons.mp mj with e | e
            · omega
            · have := (List.pairwise_cons.mp srt).1 _ e; omega
    | sum own ties =>
      obtain ⟨a', t', e, ha', hT⟩ := hv4
      cases e
      obtain ⟨_, rs, _⟩ := wf
      refine ⟨_, rfl, rfl, _, rfl, iteN (show decide (V.str (Str.ofString "sum") = V.str (Str.ofString "held")) = false by decide +kernel) ?_⟩
      refine ⟨_, rfl, rfl, _, rfl, iteN (show decide (V.str (Str.ofString "sum") = V.str (Str.ofString "kinds")) = false by decide +kernel) ?_⟩
      refine ⟨_, rfl, rfl, _, rfl, iteN (show decide (V.str (Str.ofString "sum") = V.str (Str.ofString "next")) = false by decide +kernel) ?_⟩
      refine ⟨_, rfl, rfl, _, rfl, iteN (show decide (V.str (Str.ofString "sum") = V.str (Str.ofString "free")) = false by decide +kernel) ?_⟩
      refine ⟨.ref a, rfl, .ref a, .sum own ties, rfl, ⟨a, t', rfl, ha', hT⟩, hl, fun p5 ps5 H5 s5 n5 h5 pr5 => ?_⟩
      refine ⟨p5, ps5, kvOf ties, rfl, .inl (.inl h5), pairs_sq pr5, fun d hd => ?_⟩
      rw [merge_kv rs.nodup]
      have s6 := s5.trans (same_upd (o := .dK (kvOf ties)) hd)
      refine ⟨.ref b, rfl, b, rfl, ⟨_, .inl (.inl (s6 _ _ hb4))⟩, fun D6 hD6 => ?_⟩
      refine lc_pairs (·.1) (walk_listR qs) (pairs_keep (Keep.same s6) pq4) hD6 (by omega) (fun H3 s3 => .inl (.inl (s3 _ _ (s6 _ _ hb4)))) (fun _ _ => rfl) (fun q _ H3 _ Q h => ⟨_, rfl, h⟩) (fun H7 s7 h7 => ?_)
      refine ⟨by show 2 ≤ sizeLine; decide, fun t8 nt8 => ⟨t8, _, rfl, .inl (.inl upd_same), rfl, _, _, rfl, _, _, rfl, rfl, ?_⟩⟩
      have s8 := s7.trans (same_upd (o := .tup [.ref d, .ref D6]) nt8)
      have h8 := same_upd (o := .tup [.ref d, .ref D6]) nt8 _ _ h7
      have hd8 := s8 _ _ (upd_same (H := H5) (a := d) (o := .dK (kvOf ties)))
      refine ⟨.ref a, rfl, a, _, 1, _, rfl, rfl, .inl (.inl (s8 _ _ (s6 _ _ ha'))), rfl, .ref D6, rfl, D6, rfl, ⟨_, .inl (.inl h8)⟩, fun D9 hD9 => ?_⟩
      refine lc_ints (fun n => wgt ties n) h8 hD9 (by rw [List.length_map, ← pq.length]; omega) (fun _ => rfl) (fun n hn H9 s9 Q h => ?_) (fun H9 s9 h9 => ?_)
      · refine ⟨.ref d, rfl, .int n, rfl, d, _, rfl, ?_, h⟩
        obtain ⟨q0, hq0, rfl⟩ := List.mem_map.mp hn
        rw [← kv_get (sub q0 hq0)]
        exact DGet.k (k := Sum.inl q0.1) (s9 _ _ hd8)
      · refine ⟨D9, _, rfl, .inl (.inl h9), own, _, rfl, rfl, ?_⟩
        rw [List.map_map]
        refine ⟨_, rfl, rfl, _, rfl, iteP (show decide (V.str (Str.ofString "sum") = V.str (Str.ofString "sum")) = true by decide +kernel) ?_⟩
        exact ⟨_, rfl, q _ _ (s4.trans (s6.trans (s8.trans s9))) rfl⟩
    | cap own ties most =>
      obtain ⟨a', t', e, ha', hT⟩ := hv4
      cases e
      obtain ⟨_, rs, _⟩ := wf
      refine ⟨_, rfl, rfl, _, rfl, iteN (show decide (V.str (Str.ofString "cap") = V.str (Str.ofString "held")) = false by decide +kernel) ?_⟩
      refine ⟨_, rfl, rfl, _, rfl, iteN (show decide (V.str (Str.ofString "cap") = V.str (Str.ofString "kinds")) = false by decide +kernel) ?_⟩
      refine ⟨_, rfl, rfl, _, rfl, iteN (show decide (V.str (Str.ofString "cap") = V.str (Str.ofString "next")) = false by decide +kernel) ?_⟩
      refine ⟨_, rfl, rfl, _, rfl, iteN (show decide (V.str (Str.ofString "cap") = V.str (Str.ofString "free")) = false by decide +kernel) ?_⟩
      refine ⟨.ref a, rfl, .ref a, .cap own ties most, rfl, ⟨a, t', rfl, ha', hT⟩, hl, fun p5 ps5 H5 s5 n5 h5 pr5 => ?_⟩
      refine ⟨p5, ps5, kvOf ties, rfl, .inl (.inl h5), pairs_sq pr5, fun d hd => ?_⟩
      rw [merge_kv rs.nodup]
      have s6 := s5.trans (same_upd (o := .dK (kvOf ties)) hd)
      refine ⟨.ref b, rfl, b, rfl, ⟨_, .inl (.inl (s6 _ _ hb4))⟩, fun D6 hD6 => ?_⟩
      refine lc_pairs (·.1) (walk_listR qs) (pairs_keep (Keep.same s6) pq4) hD6 (by omega) (fun H3 s3 => .inl (.inl (s3 _ _ (s6 _ _ hb4)))) (fun _ _ => rfl) (fun q _ H3 _ Q h => ⟨_, rfl, h⟩) (fun H7 s7 h7 => ?_)
      refine ⟨by show 2 ≤ sizeLine; decide, fun t8 nt8 => ⟨t8, _, rfl, .inl (.inl upd_same), rfl, _, _, rfl, _, _, rfl, rfl, ?_⟩⟩
      have s8 := s7.trans (same_upd (o := .tup [.ref d, .ref D6]) nt8)
      have h8 := same_upd (o := .tup [.ref d, .ref D6]) nt8 _ _ h7
      have hd8 := s8 _ _ (upd_same (H := H5) (a := d) (o := .dK (kvOf ties)))
      refine ⟨.ref a, rfl, a, _, 1, _, rfl, rfl, .inl (.inl (s8 _ _ (s6 _ _ ha'))), rfl, .ref D6, rfl, D6, rfl, ⟨_, .inl (.inl h8)⟩, fun D9 hD9 => ?_⟩
      refine lc_ints (fun n => wgt ties n) h8 hD9 (by rw [List.length_map, ← pq.length]; omega) (fun _ => rfl) (fun n hn H9 s9 Q h => ?_) (fun H9 s9 h9 => ?_)
      · refine ⟨.ref d, rfl, .int n, rfl, d, _, rfl, ?_, h⟩
        obtain ⟨q0, hq0, rfl⟩ := List.mem_map.mp hn
        rw [← kv_get (sub q0 hq0)]
        exact DGet.k (k := Sum.inl q0.1) (s9 _ _ hd8)
      · refine ⟨D9, _, rfl, .inl (.inl h9), own, _, rfl, rfl, ?_⟩
        rw [List.map_map]
        refine ⟨_, rfl, rfl, _, rfl, iteN (show decide (V.str (Str.ofString "cap") = V.str (Str.ofString "sum")) = false by decide +kernel) ?_⟩
        refine ⟨_, rfl, .ref a, rfl, a, _, 3, _, rfl, rfl, .inl (.inl (s9 _ _ (s8 _ _ (s6 _ _ ha')))), rfl, _, _, rfl, q _ _ (s4.trans (s6.trans (s8.trans s9))) ?_⟩
        show (if most < own + (lot.map fun q => wgt ties q.1).sum then most else own + (lot.map fun q => wgt ties q.1).sum) = min (own + (lot.map fun q => wgt ties q.1).sum) most
        split <;> omega
end
end Lh

namespace Lh
open PySem PySem.Spec PyProof.Rows L2
section
variable {P : Program} {w : World} {K : PySem.W.Frag} {mg : Str → Option Value} {base : Heap}
def spLot : Sp := fun vs H Q _ => ∃ (l st : Addr) (p : Nat) (us : List V) (rs : List Rule) (ns : List Int) (h : p < rs.length), vs = [.ref l, .ref st, .int p] ∧ H l = some (.lst us) ∧ RulesAt H us rs ∧ Halls rs ∧ TupAt H st (ns.map V.int) ∧ ns.length = rs.length ∧
  ∀ (z : Addr) (ps : List Addr) (H' : Hp), Same H H' → H z = none → H' z = some (.lst (ps.map V.ref)) → Paired (PairAtH H') ps (lotI rs[p] ns p) → Q (.ref z) H'
set_option maxHeartbeats 1000000 in
theorem ok_lot (T : Txt K mg w) : FnOk P w K mg base CX0 2 T.f_lot T.fd_lot p_lot spLot := by
  have G_seen := ok_seen (P := P) (w := w) (base := base) T
  refine T.F_lot.ok sc_lot (fun vs H Q E h => ?_) (fun cdv A outer s H vs Q E hr h => ?_)
  · obtain ⟨l, st, p, us, rs, ns, hp, rfl, _⟩ := h
    rfl
  · obtain ⟨l, st, p, us, rs, ns, hp, rfl, hl, ra, hh, hS, hn, q⟩ := h
    have few := hh.few hp
    have inr := per_in hh hp
    obtain ⟨v, hv, rv⟩ := ra.get p hp
    refine ⟨_, (pss_one (ps_ret (pe_lc (own := [("_law_other", 3), ("_law_weight", 4)]) (g := gTup K 2 (gCons (gName 3) (gCons (gName 4) gNil))) (by rfl) sc_lot.nd (pi_list (pe_call G_seen (hr.mono (by decide)) (by rfl) T.g_seen T.F_seen.kp T.b_seen .nil pass0 (pa_cons (pe_ix ix_list (pv 0) (pv 2) (fun _ _ => rfl)) pa_nil))) (blkOk_by (own := [("_law_other", 3), ("_law_weight", 4)]) (N := n_lot) (sc := defScope s_lot) (by decide +kernel)) (fun _ _ _ _ _ => (pg_tup rfl (pgs_cons (pg_name (i := 3) sc_lot.nd rfl (.inl rfl) (.inr rfl)) (pgs_cons (pg_name (i := 4) sc_lot.nd rfl (.inl rfl) (.inr rfl)) pgs_nil)))) (fun _ _ _ _ _ => (pts_one (pt_cmpR op_lt (pe_ix (r := rIxT K) ix_tup (pv 1) (pv 3) (fun _ _ => rfl)) (pe_ix (r := rIxT K) ix_tup (pv 1) (pv 2) (fun _ _ => rfl)) (nomark _)))) (fun _ _ _ _ _ => (pe_tup (pa_cons (pv 3) (pa_cons (pe_ix (r := rIxT K) ix_tup (pv 1) (pv 3) (fun _ _ => rfl)) pa_nil))))))), ?_⟩
    refine ⟨.ref l, rfl, .int p, rfl, l, us, p, v, rfl, rfl, .inl (.inl hl), atI_nat hv, ?_⟩
    refine ⟨v, rs[p], rfl, rv, by omega, fun z6 ps6 H1 s1 n6 h6 pr6 => ?_⟩
    have hS1 := hS.keep (Keep.same s1)
    have ll : ps6.length = (seenPairs rs[p]).length := pr6.length
    have lp : (seenPairs rs[p]).length = rs[p].persons.length := by rw [← seen_persons rs[p], List.length_map]
    refine ⟨z6, rfl, ⟨_, .inl (.inl h6)⟩, fun D hD => ?_⟩
    refine lc_it (walk_listR ps6) (fun n H3 => ∃ ps : List Addr, Same H1 H3 ∧ H3 D = some (.lst (ps.map V.ref)) ∧ Paired (PairAtH H3) ps ((((seenPairs rs[p]).take n).filter fun q => decide (nth ns q.1 < nth ns p)).map fun q => (q.1, nth ns q.1))) ⟨[], same_upd hD, upd_same, .nil⟩ ?_ ?_ ?_
    · rintro n H3 _ ⟨ps, s3, _⟩
      exact .inl (.inl (s3 _ _ h6))
    · rintro n y H3 H4 hi ⟨ps, s3, h3, pr⟩ ⟨rfl, hy⟩
      rw [List.getElem?_map, List.getElem?_eq_getElem hi] at hy
      cases hy
      have hn2 : n < (seenPairs rs[p]).length := by omega
      have pa := pairs_at pr6 n hi hn2
      have io := inr (seenPairs rs[p])[n].1 (by
        have h : (seenPairs rs[p])[n].1 ∈ (seenPairs rs[p]).map (·.1) := List.mem_map_of_mem (List.getElem_mem hn2)
        rw [seen_persons] at h
        exact h)
      have hS3 := hS1.keep (Keep.same s3)
      have tk : (seenPairs rs[p]).take (n + 1) = (seenPairs rs[p]).take n ++ [(seenPairs rs[p])[n]] := by rw [List.take_add_one, List.getElem?_eq_getElem hn2]; rfl
      have pl : ps.length ≤ n := by
        rw [pr.length, List.length_map]
        refine Nat.le_trans (List.length_filter_le _ _) ?_
        rw [List.length_take]; omega
      refine ⟨ps6[n], _, rfl, .inl (.inl (s3 _ _ pa)), rfl, _, _, rfl, _, _, rfl, rfl, rfl, ?_⟩
      generalize (seenPairs rs[p])[n] = a at *
      refine ⟨.ref st, rfl, .int a.1, rfl, st, _, _, _, rfl, rfl, hS3.sq, nth_at io.1 (by omega), .ref st, rfl, .int p, rfl, st, _, _, _, rfl, rfl, hS3.sq, nth_at (by omega) (by omega), _, _, rfl, rfl, _, rfl, ite2 (fun z => ?_) (fun z => ?_)⟩
      · refine ⟨.int a.1, rfl, .ref st, rfl, .int a.1, rfl, st, _, _, _, rfl, rfl, hS3.sq, nth_at io.1 (by omega), by show 2 ≤ sizeLine; decide, fun u nu => ?_⟩
        have sU := same_upd (o := .tup [.int a.1, .int (nth ns a.1)]) nu
        have h5 := sU _ _ h3
        have kT := keep_lst (ys := ps.map V.ref ++ [.ref u]) h5
        refine ⟨_, h5, by rw [List.length_map]; exact small1000 (by omega), ps ++ [u], same_mut (s3.trans sU) hD, ?_, ?_⟩
        · rw [upd_same, List.map_append]; rfl
        · rw [tk, List.filter_append, List.map_append, List.filter_cons, if_pos z]
          exact Paired.snoc (R := PairAtH _) (show PairAtH _ _ _ from kT.tup _ _ upd_same) (pairs_keep ((Keep.same sU).trans kT) pr)
      · refine ⟨ps, s3, h3, ?_⟩
        rw [tk, List.filter_append, List.filter_cons, if_neg z, List.filter_nil, List.append_nil]
        exact pr
    · rintro H3 ⟨ps, s3, h3, pr⟩
      rw [ll, List.take_length, lotI_pairs] at pr
      exact q D ps H3 (s1.trans s3) (s1.free hD) h3 pr
def spLawTurned : Sp := fun vs H Q _ => ∃ (l st pl : Addr) (us : List V) (rs : List Rule) (ns qs : List Int), vs = [.ref l, .ref st, .ref pl] ∧ H l = some (.lst us) ∧ RulesAt H us rs ∧ Halls rs ∧ TupAt H st (ns.map V.int) ∧ ns.length = rs.length ∧ H pl = some (.lst (qs.map V.int)) ∧ (∀ q ∈ qs, 0 ≤ q ∧ q < rs.length) ∧ qs.length ≤ 900 ∧
  ∀ (t : Addr) (ms : List Int) (H' : Hp), Same H H' → H t = none → TupAt H' t (ms.map V.int) → Turned rs ns (fun i => i ∈ qs) ms → Q (.ref t) H'
set_option maxHeartbeats 2000000 in
theorem ok_law_turned (T : Txt K mg w) : FnOk P w K mg base CX0 3 T.f_law_turned T.fd_law_turned p_law_turned spLawTurned := by
  have G_lot := ok_lot (P := P) (w := w) (base := base) T
  have G_tells := ok_tells (P := P) (w := w) (base := base) T
  refine T.F_law_turned.ok sc_law_turned (fun vs H Q E h => ?_) (fun cdv A outer s H vs Q E hr h => ?_)
  · obtain ⟨l, st, pl, us, rs, ns, qs, rfl, _⟩ := h
    rfl
  · obtain ⟨l, st, pl, us, rs, ns, qs, rfl, hl, ra, hh, hS, hn, hpl, hq, ql, q⟩ := h
    have r1 := hh.2.1
    refine ⟨_, (pss_cons (ps_set (i := 3) sc_law_turned.nd rfl (.inr rfl) (pe_callTy (call_dictP rfl) (by rfl) T.m_dict (by decide +kernel) (pa_cons (pe_lc (own := [("_law_one", 4)]) (g := gName 4) (by rfl) sc_law_turned.nd (pi_list (pv 2)) (blkOk_by (own := [("_law_one", 4)]) (N := n_law_turned) (sc := defScope s_law_turned) (by decide +kernel)) (fun _ _ _ _ _ => (pg_name (i := 4) sc_law_turned.nd rfl (.inl rfl) (.inr rfl))) (fun _ _ _ _ _ => pts_nil) (fun _ _ _ _ _ => (pe_tup (pa_cons (pv 4) (pa_cons (pe_call G_tells (hr.mono (by decide)) (by rfl) T.g_tells T.F_tells.kp T.b_tells .nil pass0 (pa_cons (pe_ix (r := rIxL K) ix_list (pv 0) (pv 4) (fun _ _ => rfl)) (pa_cons (pe_call G_lot (hr.mono (by decide)) (by rfl) T.g_lot T.F_lot.kp T.b_lot .nil pass0 (pa_cons (pv 0) (pa_cons (pv 1) (pa_cons (pv 4) pa_nil)))) pa_nil))) pa_nil))))) pa_nil)))
      (pss_one (ps_ret (pe_callTy call_tupleF (by rfl) T.m_tuple (by decide +kernel) (pa_cons (pe_lc (own := [("_law_one", 4), ("_law_number", 5)]) (g := gTup K 2 (gCons (gName 4) (gCons (gName 5) gNil))) (by rfl) sc_law_turned.nd (pi_enumT (by rfl) T.m_enumerate (pa_cons (pv 1) pa_nil)) (blkOk_by (own := [("_law_one", 4), ("_law_number", 5)]) (N := n_law_turned) (sc := defScope s_law_turned) (by decide +kernel)) (fun _ _ _ _ _ => (pg_tup rfl (pgs_cons (pg_name (i := 4) sc_law_turned.nd rfl (.inl rfl) (.inr rfl)) (pgs_cons (pg_name (i := 5) sc_law_turned.nd rfl (.inl rfl) (.inr rfl)) pgs_nil)))) (fun _ _ _ _ _ => pts_nil) (fun _ _ _ _ _ => (pe_dget2 (hu_of hr) (pv 3) (pv 4) (pv 5) ⟨rfl, rfl, rfl, rfl⟩))) pa_nil))))), ?_⟩
    refine ⟨.ref pl, rfl, pl, rfl, ⟨_, .inl (.inl hpl)⟩, fun D hD => ?_⟩
    refine lc_it (walk_list (xs := qs.map V.int)) (fun n H3 => ∃ (ps : List Addr) (kv : List (Int × Int)), Same H H3 ∧ H3 D = some (.lst (ps.map V.ref)) ∧ Paired (PairAtH H3) ps kv ∧ kv.map (·.1) = qs.take n ∧ ∀ x ∈ kv, ∃ (i : Nat) (h : i < rs.length), x.1 = i ∧ Tell rs[i] (lotI rs[i] ns i) x.2) ⟨[], [], same_upd hD, upd_same, .nil, rfl, fun x h => absurd h (by simp)⟩ ?_ ?_ ?_
    · rintro n H3 _ ⟨ps, kv, s3, _⟩
      exact .inl (.inl (s3 _ _ hpl))
    · rintro n y H3 H4 hi ⟨ps, kv, s3, h3, pr, fs, tl⟩ ⟨rfl, hy⟩
      rw [List.length_map] at hi
      rw [List.getElem?_map, List.getElem?_eq_getElem hi] at hy
      cases hy
      have io := hq _ (List.getElem_mem hi)
      obtain ⟨p, ep⟩ : ∃ p : Nat, qs[n] = (p : Int) := ⟨qs[n].toNat, by omega⟩
      have hp : p < rs.length := by omega
      have lk : ps.length = n := by
        rw [pr.length, ← List.length_map (f := (·.1)), fs, List.length_take]; omega
      obtain ⟨v, hv, rv⟩ := ra.get p hp
      refine ⟨rfl, yes (iteT ?_)⟩
      rw [ep]
      refine ⟨.int p, rfl, .ref l, rfl, .int p, rfl, l, us, p, v, rfl, rfl, .inl (.inl (s3 _ _ hl)), atI_nat hv, .ref l, rfl, .ref st, rfl, .int p, rfl, l, st, p, us, rs, ns, hp, rfl, s3 _ _ hl, ra.keep (Keep.same s3), hh, hS.keep (Keep.same s3), hn, fun z ps5 H5 s5 n5 h5 pr5 => ?_⟩
      have few := hh.few hp
      have l5 : ps5.length ≤ 12 := by
        rw [pr5.length]
        unfold lotI
        rw [List.length_map]
        exact Nat.le_trans (List.length_filter_le _ _) few
      refine ⟨v, .ref z, rs[p], rs.length, _, rfl, rv.keep (Keep.same (s3.trans s5)), hh.2.2 _ (List.getElem_mem hp), by omega, ⟨z, ps5, rfl, h5, pr5, by omega⟩, lotI_in, fun x H6 s6 tx => ⟨by show 2 ≤ sizeLine; decide, fun u nu => ?_⟩⟩
      have sU := (s5.trans s6).trans (same_upd (o := .tup [.int p, .int x]) nu)
      have h7 := sU _ _ h3
      have kT := keep_lst (ys := ps.map V.ref ++ [.ref u]) h7
      refine ⟨_, h7, by rw [List.length_map]; exact small1000 (by omega), ps ++ [u], kv ++ [((p : Int), x)], same_mut (s3.trans sU) hD, ?_, ?_, ?_, ?_⟩
      · rw [upd_same, List.map_append]; rfl
      · exact Paired.snoc (R := PairAtH _) (show PairAtH _ _ _ from kT.tup _ _ upd_same) (pairs_keep ((Keep.same sU).trans kT) pr)
      · rw [List.map_append, fs, List.take_add_one, List.getElem?_eq_getElem hi, ep]; rfl
      · intro x' hx'
        rcases List.mem_append.mp hx' with h | h
        · exact tl x' h
        · rw [List.mem_singleton.mp h]; exact ⟨p, hp, rfl, tx⟩
    · rintro H3 ⟨ps, kv, s3, h3, pr, fs, tl⟩
      rw [List.length_map, List.take_length] at fs
      refine ⟨D, ps, kvOf kv, rfl, .inl (.inl h3), pairs_sq pr, fun d nd => ?_⟩
      have s4 := s3.trans (same_upd (o := .dK (mergeK [] (kvOf kv))) nd)
      have hd4 := upd_same (H := H3) (a := d) (o := HO.dK (mergeK [] (kvOf kv)))
      have hS4 := hS.keep (Keep.same s4)
      refine ⟨.ref st, rfl, st, _, rfl, hS4.sq, fun D2 hD2 => ?_⟩
      refine lc_it (walk_enumT (xs := ns.map V.int)) (fun n H5 => ∃ ms : List Int, Same (upd H3 d (.dK (mergeK [] (kvOf kv)))) H5 ∧ H5 D2 = some (.lst (ms.map V.int)) ∧ ms.length = n ∧ ∀ (i : Nat) (h : i < rs.length), i < n → ((i : Int) ∈ qs → Tell rs[i] (lotI rs[i] ns i) (nth ms i)) ∧ (¬ (i : Int) ∈ qs → nth ms i = nth ns i)) ⟨[], same_upd hD2, upd_same, rfl, fun i _ h => absurd h (by omega)⟩ ?_ ?_ ?_
      · rintro n H5 _ ⟨ms, s5, _⟩
        exact (hS4.keep (Keep.same s5)).sq
      · rintro n y H5 H6 hi ⟨ms, s5, h5, m5, t5⟩ ⟨t, x1, x2, rfl, nt, rfl, e1', e2'⟩
        rw [List.length_map] at hi
        have e2'' : (ns.map V.int)[n]? = some x2 := e2'
        have gn := nth_get (ns := ns) (p := (n : Int)) (by omega) (by omega)
        rw [Int.toNat_natCast, e2''] at gn
        cases gn
        cases e1'
        have sT := s5.trans (same_upd (o := .tup [V.int ((n : Nat) : Int), V.int (nth ns n)]) nt)
        have hdT := sT _ _ hd4
        have h5T := same_upd (o := .tup [V.int ((n : Nat) : Int), V.int (nth ns n)]) nt _ _ h5
        refine ⟨t, _, rfl, .inl (.inl upd_same), rfl, _, _, rfl, _, _, rfl, rfl, rfl, yes (iteT ?_)⟩
        refine ⟨.ref d, rfl, d, rfl, .inl ⟨_, .inl hdT⟩, .int n, rfl, .int (nth ns n), rfl, _, DGet.k (k := Sum.inl (n : Int)) hdT, ?_⟩
        have fin : ∀ z : Int, (((n : Int) ∈ qs → ∀ h : n < rs.length, Tell rs[n] (lotI rs[n] ns n) z) ∧ (¬ (n : Int) ∈ qs → z = nth ns n)) → (valV (mergeK [] (kvOf kv)) (Sum.inl (n : Int))).getD (.int (nth ns n)) = .int z → ∃ acc, (upd H5 t (.tup [V.int ((n : Nat) : Int), V.int (nth ns n)])) D2 = some (.lst acc) ∧ acc.length < sizeLine ∧ ∃ ms : List Int, Same (upd H3 d (.dK (mergeK [] (kvOf kv)))) (upd (upd H5 t (.tup [V.int ((n : Nat) : Int), V.int (nth ns n)])) D2 (.lst (acc ++ [(valV (mergeK [] (kvOf kv)) (Sum.inl (n : Int))).getD (.int (nth ns n))]))) ∧ (upd (upd H5 t (.tup [V.int ((n : Nat) : Int), V.int (nth ns n)])) D2 (.lst (acc ++ [(valV (mergeK [] (kvOf kv)) (Sum.inl (n : Int))).getD (.int (nth ns n))]))) D2 = some (.lst (ms.map V.int)) ∧ ms.length = n + 1 ∧ ∀ (i : Nat) (h : i < rs.length), i < n + 1 → ((i : Int) ∈ qs → Tell rs[i] (lotI rs[i] ns i) (nth ms i)) ∧ (¬ (i : Int) ∈ qs → nth ms i = nth ns i) := by
          intro z hz ez
          rw [ez]
          refine ⟨_, h5T, by rw [List.length_map]; exact small1000 (by omega), ms ++ [z], same_mut sT hD2, by rw [upd_same, List.map_append]; rfl, by rw [List.length_append, m5]; rfl, fun i h hi' => ?_⟩
          by_cases c : i = n
          · subst c
            have e : nth (ms ++ [z]) (i : Int) = z := by
              unfold nth
              rw [Int.toNat_natCast, List.getD_eq_getElem?_getD, List.getElem?_append_right (by omega), m5, Nat.sub_self]; rfl
            rw [e]
            exact ⟨fun hq' => hz.1 hq' h, hz.2⟩
          · have e : nth (ms ++ [z]) (i : Int) = nth ms i := by
              unfold nth
              rw [Int.toNat_natCast, List.getD_eq_getElem?_getD, List.getD_eq_getElem?_getD, List.getElem?_append_left (by omega)]
            rw [e]
            exact t5 i h (by omega)
        rcases merge_get kv [] (n : Int) with ⟨y, g1, g2⟩ | ⟨g1, g2⟩
        · refine fin y ⟨fun _ h => ?_, fun z => ?_⟩ (by rw [g1]; rfl)
          · obtain ⟨i, hi2, e, ty⟩ := tl _ g2
            have e' : i = n := by have : (n : Int) = (i : Int) := e; omega
            subst e'
            exact ty
          · exact absurd (by rw [← fs]; exact List.mem_map.mpr ⟨_, g2, rfl⟩) z
        · refine fin (nth ns n) ⟨fun z => ?_, fun _ => rfl⟩ (by rw [g2]; rfl)
          exact absurd z (by rw [← fs]; exact g1)
      · rintro H5 ⟨ms, s5, h5, m5, t5⟩
        rw [List.length_map] at m5 t5
        refine ⟨D2, _, rfl, .inl (.inl h5), fun t o nt od => ?_⟩
        exact q t ms _ ((s4.trans s5).trans (same_upd nt)) ((s4.trans s5).free nt) (.inr ⟨o, od, upd_same⟩) ⟨m5, fun i h => t5 i h (by omega)⟩
end
end Lh

namespace Lh
open PySem PySem.Spec PyProof.Rows L2
section
variable {P : Program} {w : World} {K : PySem.W.Frag} {mg : Str → Option Value} {base : Heap}
def spLawBeaten : Sp := fun vs H Q _ => ∃ (l st : Addr) (us : List V) (rs : List Rule) (ns : List Int), vs = [.ref l, .ref st] ∧ H l = some (.lst us) ∧ RulesAt H us rs ∧ Halls rs ∧ TupAt H st (ns.map V.int) ∧ ns.length = rs.length ∧
  ∀ (t : Addr) (ms : List Int) (H' : Hp), Same H H' → H t = none → TupAt H' t (ms.map V.int) → Beat rs ns ms → Q (.ref t) H'
theorem ok_law_beaten (T : Txt K mg w) : FnOk P w K mg base CX0 4 T.f_law_beaten T.fd_law_beaten p_law_beaten spLawBeaten := by
  have G_law_turned := ok_law_turned (P := P) (w := w) (base := base) T
  refine T.F_law_beaten.ok sc_law_beaten (fun vs H Q E h => ?_) (fun cdv A outer s H vs Q E hr h => ?_)
  · obtain ⟨l, st, us, rs, ns, rfl, _⟩ := h
    rfl
  · obtain ⟨l, st, us, rs, ns, rfl, hl, ra, hh, hS, hn, q⟩ := h
    have r1 := hh.2.1
    have lu : us.length = rs.length := ra.length
    refine ⟨_, (pss_one (ps_ret (pe_call G_law_turned (hr.mono (by decide)) (by rfl) T.g_law_turned T.F_law_turned.kp T.b_law_turned .nil pass0 (pa_cons (pv 0) (pa_cons (pv 1) (pa_cons (pe_listRg (by rfl) (by rfl) T.m_list (prg_1 (by rfl) T.m_range (pe_callB call_len_seq (by rfl) T.m_len (by decide +kernel) (pa_cons (pv 0) pa_nil)))) pa_nil)))))), ?_⟩
    refine ⟨.ref l, rfl, .ref st, rfl, .ref l, rfl, l, _, rfl, .inl (.inl (.inl hl)), _, rfl, RgOk.of_le (by omega) (by omega) (by omega) (by omega), fun pl np => ?_⟩
    rw [lu]
    have s0 := same_upd (o := .lst (rgV 0 (rs.length : Int))) np
    refine ⟨l, st, pl, us, rs, ns, (List.range ((rs.length : Int)).toNat).map (fun k : Nat => (k : Int)), rfl, s0 _ _ hl, ra.keep (Keep.same s0), hh, hS.keep (Keep.same s0), hn, by rw [upd_same, rg_ints], (rg_rising _ (by omega)).2, by rw [List.length_map, List.length_range]; omega, fun t ms H' s' nt ht tu => ?_⟩
    refine q t ms H' (s0.trans s') (s0.free nt) ht ⟨tu.1, fun i hi => ⟨fun _ => (tu.2 i hi).1 ?_, fun z => absurd trivial z⟩⟩
    exact List.mem_map.mpr ⟨i, List.mem_range.mpr (by omega), rfl⟩
end
end Lh

namespace Lh
open PySem PySem.Spec PyProof.Rows L2
section
variable {P : Program} {w : World} {K : PySem.W.Frag} {mg : Str → Option Value} {base : Heap}
def spTurned (C : Addr) : Sp := fun vs H Q _ => ∃ (x st l : Addr) (rs : List Rule) (ns qs : List Int), vs = [.ref x, .ref st, .ref l] ∧ HallAt C H x rs ∧ Halls rs ∧ TupAt H st (ns.map V.int) ∧ ns.length = rs.length ∧ (H l = some (.lst (qs.map V.int)) ∨ TupAt H l (qs.map V.int)) ∧ (∀ q ∈ qs, 0 ≤ q ∧ q < rs.length) ∧
  ∀ (t : Addr) (ms : List Int) (H' : Hp), Same H H' → H t = none → TupAt H' t (ms.map V.int) → Turned rs ns (fun i => i ∈ qs) ms → Q (.ref t) H'
set_option maxHeartbeats 2000000 in
theorem ok_turned (T : Txt K mg w) : FnOk P w K mg base CX0 7 T.f_turned T.fd_turned p_turned (spTurned T.C_Hall) := by
  have G_told_at := ok_told_at (P := P) (w := w) (base := base) T
  refine T.F_turned.ok sc_turned (fun vs H Q E h => ?_) (fun cdv A outer s H vs Q E hr h => ?_)
  · obtain ⟨x, st, l, rs, ns, qs, rfl, _⟩ := h
    rfl
  · obtain ⟨x, st, l, rs, ns, qs, rfl, hA, hh, hS, hn, hl, hq, q⟩ := h
    rcases hl with hl | hl
    · refine ⟨_, (pss_cons (ps_set (i := 3) sc_turned.nd rfl (.inl rfl) (pe_callTy call_list_of (by rfl) T.m_list (by decide +kernel) (pa_cons (pv 1) pa_nil)))
      (pss_cons (ps_for PassesOwn.never rfl (pi_list (pv 2)) (pg_name (i := 4) sc_turned.nd rfl (.inl rfl))
        (pss_one (ps_asg (pe_call G_told_at (hr.mono (by decide)) (by rfl) T.g_told_at T.F_told_at.kp T.b_told_at .nil pass0 (pa_cons (pv 0) (pa_cons (pv 1) (pa_cons (pv 4) pa_nil)))) (pg_sub (pv 3) (pv 4) set_list))))
      (pss_one (ps_ret (pe_callTy call_tupleF (by rfl) T.m_tuple (by decide +kernel) (pa_cons (pv 3) pa_nil)))))), ?_⟩
      refine ⟨.ref st, rfl, st, _, rfl, .inr hS.sq, fun d nd => ?_⟩
      have s0 := same_upd (o := .lst (ns.map V.int)) nd
      refine ⟨.ref l, rfl, l, rfl, ⟨_, .inl (.inl (s0 _ _ hl))⟩, ?_⟩
      refine for_it (walk_list (xs := qs.map V.int)) (fun i σ H3 => ∃ (y : Option V) (ms : List Int), σ = [some (.ref x), some (.ref st), some (.ref l), some (.ref d), y] ∧ Same H H3 ∧ H3 d = some (.lst (ms.map V.int)) ∧ Turned rs ns (fun j => j ∈ qs.take i) ms) ⟨Option.none, ns, rfl, s0, upd_same, Turned.none fun i z => by simp at z⟩ ?_ ?_ ?_
      · rintro i σ H3 _ ⟨y, ms, rfl, s3, _⟩
        exact .inl (.inl (s3 _ _ hl))
      · rintro i v σ H3 H4 hi ⟨y, ms, rfl, s3, h3, t3⟩ ⟨rfl, hv⟩
        rw [List.length_map] at hi
        rw [List.getElem?_map, List.getElem?_eq_getElem hi] at hv
        cases hv
        have io := hq _ (List.getElem_mem hi)
        obtain ⟨p, ep⟩ : ∃ p : Nat, qs[i] = (p : Int) := ⟨qs[i].toNat, by omega⟩
        have hp : p < rs.length := by omega
        rw [ep]
        refine ⟨.ref x, rfl, .ref st, rfl, .int p, rfl, x, st, p, rs, ns, hp, rfl, hA.keep s3, hh, hS.keep (Keep.same s3), hn, fun z H5 s5 tl => ?_⟩
        refine ⟨.ref d, rfl, .int p, rfl, d, _, _, p, rfl, rfl, s5 _ _ h3, ixN_at (by rw [List.length_map, t3.1]; omega), ?_⟩
        refine ⟨_, ms.set p z, rfl, same_mut (s3.trans s5) nd, by rw [upd_same, List.map_set], t3.step hn hp tl fun j => ?_⟩
        rw [List.take_add_one, List.getElem?_eq_getElem hi, ep]
        simp
        exact ⟨fun h => h.imp_right fun e => by omega, fun h => h.imp_right fun e => by omega⟩
      · rintro σ H3 ⟨y, ms, rfl, s3, h3, t3⟩
        rw [List.length_map, List.take_length] at t3
        refine ⟨.ref d, rfl, d, _, rfl, .inl (.inl h3), fun t o nt od => ?_⟩
        exact q t ms _ (s3.trans (same_upd nt)) (s3.free nt) (.inr ⟨o, od, upd_same⟩) t3
    · refine ⟨_, (pss_cons (ps_set (i := 3) sc_turned.nd rfl (.inl rfl) (pe_callTy call_list_of (by rfl) T.m_list (by decide +kernel) (pa_cons (pv 1) pa_nil)))
      (pss_cons (ps_for PassesOwn.never rfl (pi_tup (pv 2)) (pg_name (i := 4) sc_turned.nd rfl (.inl rfl))
        (pss_one (ps_asg (pe_call G_told_at (hr.mono (by decide)) (by rfl) T.g_told_at T.F_told_at.kp T.b_told_at .nil pass0 (pa_cons (pv 0) (pa_cons (pv 1) (pa_cons (pv 4) pa_nil)))) (pg_sub (pv 3) (pv 4) set_list))))
      (pss_one (ps_ret (pe_callTy call_tupleF (by rfl) T.m_tuple (by decide +kernel) (pa_cons (pv 3) pa_nil)))))), ?_⟩
      refine ⟨.ref st, rfl, st, _, rfl, .inr hS.sq, fun d nd => ?_⟩
      have s0 := same_upd (o := .lst (ns.map V.int)) nd
      refine ⟨.ref l, rfl, l, rfl, ⟨_, (hl.keep (Keep.same s0)).sq⟩, ?_⟩
      refine for_it (walk_tup (xs := qs.map V.int)) (fun i σ H3 => ∃ (y : Option V) (ms : List Int), σ = [some (.ref x), some (.ref st), some (.ref l), some (.ref d), y] ∧ Same H H3 ∧ H3 d = some (.lst (ms.map V.int)) ∧ Turned rs ns (fun j => j ∈ qs.take i) ms) ⟨Option.none, ns, rfl, s0, upd_same, Turned.none fun i z => by simp at z⟩ ?_ ?_ ?_
      · rintro i σ H3 _ ⟨y, ms, rfl, s3, _⟩
        exact (hl.keep (Keep.same s3)).sq
      · rintro i v σ H3 H4 hi ⟨y, ms, rfl, s3, h3, t3⟩ ⟨rfl, hv⟩
        rw [List.length_map] at hi
        rw [List.getElem?_map, List.getElem?_eq_getElem hi] at hv
        cases hv
        have io := hq _ (List.getElem_mem hi)
        obtain ⟨p, ep⟩ : ∃ p : Nat, qs[i] = (p : Int) := ⟨qs[i].toNat, by omega⟩
        have hp : p < rs.length := by omega
        rw [ep]
        refine ⟨.ref x, rfl, .ref st, rfl, .int p, rfl, x, st, p, rs, ns, hp, rfl, hA.keep s3, hh, hS.keep (Keep.same s3), hn, fun z H5 s5 tl => ?_⟩
        refine ⟨.ref d, rfl, .int p, rfl, d, _, _, p, rfl, rfl, s5 _ _ h3, ixN_at (by rw [List.length_map, t3.1]; omega), ?_⟩
        refine ⟨_, ms.set p z, rfl, same_mut (s3.trans s5) nd, by rw [upd_same, List.map_set], t3.step hn hp tl fun j => ?_⟩
        rw [List.take_add_one, List.getElem?_eq_getElem hi, ep]
        simp
        exact ⟨fun h => h.imp_right fun e => by omega, fun h => h.imp_right fun e => by omega⟩
      · rintro σ H3 ⟨y, ms, rfl, s3, h3, t3⟩
        rw [List.length_map, List.take_length] at t3
        refine ⟨.ref d, rfl, d, _, rfl, .inl (.inl h3), fun t o nt od => ?_⟩
        exact q t ms _ (s3.trans (same_upd nt)) (s3.free nt) (.inr ⟨o, od, upd_same⟩) t3
end
end Lh

namespace Lh
open PySem PySem.Spec PyProof.Rows L2
section
variable {P : Program} {w : World} {K : PySem.W.Frag} {mg : Str → Option Value} {base : Heap}
def spBeaten (C : Addr) : Sp := fun vs H Q _ => ∃ (x st : Addr) (rs : List Rule) (ns : List Int), vs = [.ref x, .ref st] ∧ HallAt C H x rs ∧ Halls rs ∧ TupAt H st (ns.map V.int) ∧ ns.length = rs.length ∧
  ∀ (t : Addr) (ms : List Int) (H' : Hp), Same H H' → H t = none → TupAt H' t (ms.map V.int) → Beat rs ns ms → Q (.ref t) H'
theorem ok_beaten (T : Txt K mg w) : FnOk P w K mg base CX0 8 T.f_beaten T.fd_beaten p_beaten (spBeaten T.C_Hall) := by
  have G_turned := ok_turned (P := P) (w := w) (base := base) T
  have G_Hall_len := ok_Hall_len (P := P) (w := w) (base := base) T
  refine T.F_beaten.ok sc_beaten (fun vs H Q E h => ?_) (fun cdv A outer s H vs Q E hr h => ?_)
  · obtain ⟨x, st, rs, ns, rfl, _⟩ := h
    rfl
  · obtain ⟨x, st, rs, ns, rfl, hA, hh, hS, hn, q⟩ := h
    obtain ⟨dx, t0, vs0, hx, ht0, hv0⟩ := id hA
    have r1 := hh.2.1
    refine ⟨_, (pss_one (ps_ret (pe_call G_turned (hr.mono (by decide)) (by rfl) T.g_turned T.F_turned.kp T.b_turned .nil pass0 (pa_cons (pv 0) (pa_cons (pv 1) (pa_cons (pe_listRg (by rfl) (by rfl) T.m_list (prg_1 (by rfl) T.m_range (pe_callB (run_len T.me_Hall_len G_Hall_len T.b_Hall_len (hr.mono (by decide))) (by rfl) T.m_len (by decide +kernel) (pa_cons (pv 0) pa_nil)))) pa_nil)))))), ?_⟩
    refine ⟨.ref x, rfl, .ref st, rfl, .ref x, rfl, x, dx, _, rfl, hx, x, rs, rfl, hA, (rs.length : Int), rfl, by omega, Int.lt_of_le_of_lt (by omega : (rs.length : Int) ≤ 12) (by decide), (rs.length : Int), rfl, RgOk.of_le (by omega) (by omega) (by omega) (by omega), fun l nl => ?_⟩
    have s0 := same_upd (o := .lst (rgV 0 (rs.length : Int))) nl
    refine ⟨x, st, l, rs, ns, (List.range ((rs.length : Int)).toNat).map (fun k : Nat => (k : Int)), rfl, hA.keep s0, hh, hS.keep (Keep.same s0), hn, .inl (by rw [upd_same, rg_ints]), (rg_rising _ (by omega)).2, fun t ms H' s' nt ht tu => ?_⟩
    refine q t ms H' (s0.trans s') (s0.free nt) ht ⟨tu.1, fun i hi => ⟨fun _ => (tu.2 i hi).1 ?_, fun z => absurd trivial z⟩⟩
    exact List.mem_map.mpr ⟨i, List.mem_range.mpr (by omega), rfl⟩
end
end Lh

namespace Lh
open PySem PySem.Spec PyProof.Rows L2
section
variable {P : Program} {w : World} {K : PySem.W.Frag} {mg : Str → Option Value} {base : Heap}
def spHistory (C : Addr) : Sp := fun vs H Q _ => ∃ (x st : Addr) (m : Nat) (rs : List Rule) (ns : List Int), vs = [.ref x, .ref st, .int m] ∧ HallAt C H x rs ∧ Halls rs ∧ TupAt H st (ns.map V.int) ∧ ns.length = rs.length ∧ m ≤ 1000000 ∧
  ∀ (l : Addr) (us : List V) (nss : List (List Int)) (H' : Hp), Same H H' → H l = none → H' l = some (.lst us) → StandsAt H' us nss → Way rs ns nss → nss.length = m + 1 → Q (.ref l) H'
set_option maxHeartbeats 1000000 in
theorem ok_history (T : Txt K mg w) : FnOk P w K mg base CX0 9 T.f_history T.fd_history p_history (spHistory T.C_Hall) := by
  have G_beaten := ok_beaten (P := P) (w := w) (base := base) T
  refine T.F_history.ok sc_history (fun vs H Q E h => ?_) (fun cdv A outer s H vs Q E hr h => ?_)
  · obtain ⟨x, st, m, rs, ns, rfl, _⟩ := h
    rfl
  · obtain ⟨x, st, m, rs, ns, rfl, hA, hh, hS, hn, m1, q⟩ := h
    refine ⟨_, (pss_cons (ps_set (i := 3) sc_history.nd rfl (.inl rfl) (pe_lst (pa_cons (pv 1) pa_nil)))
      (pss_cons (ps_while PassesOwn.never (pt_cmpR op_le (pe_callB call_len_seq (by rfl) T.m_len (by decide +kernel) (pa_cons (pv 3) pa_nil)) (pv 2) (nomark _))
        (pss_one (ps_expr (pe_bm PySem.F.plainAttrs_list PySem.F.slot_list_append PySem.F.type_list_append mt_append (pv 3) (pa_cons (pe_call G_beaten (hr.mono (by decide)) (by rfl) T.g_beaten T.F_beaten.kp T.b_beaten .nil pass0 (pa_cons (pv 0) (pa_cons (pe_ix ix_list (pv 3) (pe_un un_neg pe_int) (fun _ _ => rfl)) pa_nil))) pa_nil)))))
      (pss_one (ps_ret (pv 3))))), ?_⟩
    refine ⟨.ref st, rfl, by show 1 ≤ sizeLine; decide, fun l nl => ?_⟩
    have s0 := same_upd (o := .lst [.ref st]) nl
    refine while_by (fun σ H3 => σ = [some (.ref x), some (.ref st), some (.int m), some (.ref l)] ∧ ∃ (us : List V) (nss : List (List Int)), Same H H3 ∧ H3 l = some (.lst us) ∧ StandsAt H3 us nss ∧ Way rs ns nss ∧ nss.length ≤ m + 1)
      (fun _ H3 => match H3 l with | some (.lst us) => m + 1 - us.length | _ => 0) ⟨rfl, _, [ns], s0, upd_same, .cons ⟨st, rfl, hS.keep (Keep.same s0)⟩ .nil, Way.one hn, by show 1 ≤ m + 1; omega⟩ ?_ ?_
    · rintro σ H3 ⟨rfl, us, nss, s3, h3, st3, w3, n3⟩
      have lu : us.length = nss.length := st3.length
      refine ⟨.ref l, rfl, l, _, rfl, .inl (.inl (.inl h3)), .int m, rfl, _, _, rfl, rfl, _, rfl, ite2 (fun z => ?_) (fun z => ?_)⟩
      · have z' : (us.length : Int) ≤ m := of_decide_eq_true z
        have n0 : 0 < nss.length := List.length_pos_of_mem (List.mem_of_getElem? w3.1)
        obtain ⟨a, ha⟩ : ∃ a, nss[nss.length - 1]? = some a := ⟨_, List.getElem?_eq_getElem (by omega)⟩
        obtain ⟨t, ut, ht⟩ := st3.get _ _ ha
        have la : a.length = rs.length := w3.2.1 _ (List.mem_of_getElem? ha)
        refine ⟨.ref l, rfl, .inl ⟨rfl, _, .inl (.inl h3)⟩, .ref x, rfl, .ref l, rfl, 1, rfl, l, us, -1, .ref t, rfl, rfl, .inl (.inl h3), ?_, ?_⟩
        · rw [← lu] at ut
          exact at_end ut
        refine ⟨x, t, rs, a, rfl, hA.keep s3, hh, ht, la, fun t2 ms H5 s5 n5 h5 b5 => ?_⟩
        have hl5 := s5 _ _ h3
        refine ⟨l, us, .ref t2, rfl, rfl, hl5, Nat.lt_of_le_of_lt (by omega : us.length ≤ 1000000) (by decide), ?_⟩
        have kT : Keep H5 (upd H5 l (.lst (us ++ [.ref t2]))) := by
          refine ⟨fun a xs h => ?_, fun a o u h => ?_⟩
          · rw [upd_ne (ne_of h hl5 (by intro z; cases z))]; exact h
          · rw [upd_ne (ne_of h hl5 (by intro z; cases z))]; exact h
        refine ⟨⟨rfl, us ++ [V.ref t2], nss ++ [ms], same_mut (s3.trans s5) nl, upd_same, Paired.snoc (R := StandAt _) ⟨t2, rfl, h5.keep kT⟩ ((st3.keep (Keep.same s5)).keep kT), w3.snoc (by rw [List.getLast?_eq_getElem?]; exact ha) b5, by rw [List.length_append]; show nss.length + 1 ≤ m + 1; omega⟩, ?_⟩
        simp only [upd_same, h3]
        rw [List.length_append]
        show m + 1 - (us.length + 1) < m + 1 - us.length
        omega
      · have z' : ¬ (us.length : Int) ≤ m := of_decide_eq_false (by simpa using z)
        exact ⟨.ref l, rfl, q l us nss H3 s3 nl h3 st3 w3 (by omega)⟩
    · intro σ H3 Q1 Q2 hQ h
      obtain ⟨v, h1, a, xs, e, hs, u, h2, i, j, e1, e2, k, e3, h3⟩ := h
      exact ⟨v, h1, a, xs, e, hs, u, h2, i, j, e1, e2, k, e3, hQ _ _ h3⟩
end
end Lh

namespace Lh
open PySem PySem.Spec PyProof.Rows L2
theorem okD_rule {n : Nat} {m : Int} {r : Rule} (h : r.Wf m) (hm : m ≤ 1000) (m0 : 0 ≤ m) : okD (n + 3) r.data := by
  have lp := (wf_len h hm m0).1
  have pr : ∀ ties : List (Int × Int), ties.length ≤ 1000 → okD (n + 2) (.tuple (ties.map pairD)) := fun ties ht => by
    refine ⟨by rw [List.length_map]; omega, fun d hd => ?_⟩
    obtain ⟨q, _, rfl⟩ := List.mem_map.mp hd
    refine ⟨by show 2 ≤ 8388608; decide, fun d hd => ?_⟩
    rcases List.mem_cons.mp hd with rfl | hd
    · cases n <;> trivial
    · rw [List.mem_singleton.mp hd]; cases n <;> trivial
  have sn : ∀ seen : List Int, seen.length ≤ 1000 → okD (n + 2) (.tuple (seen.map PyData.int)) := fun seen hs => by
    refine ⟨by rw [List.length_map]; omega, fun d hd => ?_⟩
    obtain ⟨q, _, rfl⟩ := List.mem_map.mp hd
    trivial
  cases r with
  | held n => exact ⟨by show 2 ≤ 8388608; decide, fun d hd => by
      simp only [List.mem_cons, List.not_mem_nil, or_false] at hd
      rcases hd with rfl | rfl <;> trivial⟩
  | sum own ties => exact ⟨by show 3 ≤ 8388608; decide, fun d hd => by
      simp only [List.mem_cons, List.not_mem_nil, or_false] at hd
      rcases hd with rfl | rfl | rfl
      · trivial
      · trivial
      · exact pr _ (by simpa [Rule.persons] using lp)⟩
  | cap own ties most => exact ⟨by show 4 ≤ 8388608; decide, fun d hd => by
      simp only [List.mem_cons, List.not_mem_nil, or_false] at hd
      rcases hd with rfl | rfl | rfl | rfl
      · trivial
      · trivial
      · exact pr _ (by simpa [Rule.persons] using lp)
      · trivial⟩
  | kinds own seen => exact ⟨by show 3 ≤ 8388608; decide, fun d hd => by
      simp only [List.mem_cons, List.not_mem_nil, or_false] at hd
      rcases hd with rfl | rfl | rfl
      · trivial
      · trivial
      · exact sn _ lp⟩
  | next seen => exact ⟨by show 2 ≤ 8388608; decide, fun d hd => by
      simp only [List.mem_cons, List.not_mem_nil, or_false] at hd
      rcases hd with rfl | rfl
      · trivial
      · exact sn _ lp⟩
  | free seen => exact ⟨by show 2 ≤ 8388608; decide, fun d hd => by
      simp only [List.mem_cons, List.not_mem_nil, or_false] at hd
      rcases hd with rfl | rfl
      · trivial
      · exact sn _ lp⟩
def rulesD (rs : List Rule) : PyData := .tuple (rs.map Rule.data)
theorem okD_rules {n : Nat} {rs : List Rule} (h : Halls rs) : okD (n + 4) (rulesD rs) := by
  have := h.2.1
  refine ⟨by rw [List.length_map]; omega, fun d hd => ?_⟩
  obtain ⟨r, hr, rfl⟩ := List.mem_map.mp hd
  exact okD_rule (h.2.2 r hr) (by omega) (by omega)
theorem RulesAt.rp {bx : Addr} {c : Int} {H : Hp} (b : Box bx c H) {us : List V} {rs : List Rule} (h : RulesAt H us rs) : RpAll bx H us (rs.map Rule.data) := RulesAt.rpN b h
end Lh

namespace Lh
open PySem PySem.Spec PyProof.Rows L2
theorem tieR_tied : ∀ {r : Rule}, TieR r → ∀ ts : List (Int × Int), TieR (tiedR r ts) ∧ seenPairs (tiedR r ts) = ts ∧ tiedR (tiedR r ts) (seenPairs r) = r
  | .sum _ _, _, _ => ⟨trivial, rfl, rfl⟩
  | .cap _ _ _, _, _ => ⟨trivial, rfl, rfl⟩
/-- tied back -/
theorem tied_back {o wt m : Int} {r r2 : Rule} {old : Int} (ct : TieR r) (wf : r.Wf m) (h : IsTied o wt r r2) (hold : (∃ z, (o, z) ∈ seenPairs r ∧ old = z) ∨ o ∉ (seenPairs r).map (·.1) ∧ old = 0) (wp : ∀ q ∈ seenPairs r, 1 ≤ q.2) (st : (seenPairs r).Pairwise (fun a b => a.1 < b.1)) : TieR r2 ∧ IsTied o old r2 r := by
  obtain ⟨ts, pm, pw, rfl⟩ := h
  obtain ⟨t1, t2, t3⟩ := tieR_tied ct ts
  refine ⟨t1, seenPairs r, ?_, st, t3.symm⟩
  rw [t2]
  have nd : ((seenPairs r).map (·.1)).Nodup := seen_tie ct wf
  have un : ∀ {l : List (Int × Int)}, (l.map (·.1)).Nodup → l.Nodup := fun {l} h => by
    rw [List.nodup_iff_pairwise_ne] at h ⊢
    exact (List.pairwise_map.mp h).imp fun {a b} z e => z (by rw [e])
  have ndt : (ts.map (·.1)).Nodup := by
    rw [List.nodup_iff_pairwise_ne]
    exact List.pairwise_map.mpr (pw.imp fun {a b} h e => by omega)
  refine (List.perm_ext_iff_of_nodup (un nd) (un (tieL_nodup ndt))).mpr fun q => ?_
  have inl : q ∈ ts ∧ q.1 ≠ o ↔ q ∈ seenPairs r ∧ q.1 ≠ o := by
    rw [pm.mem_iff]
    unfold tieL
    rw [List.mem_append, List.mem_filter]
    constructor
    · rintro ⟨h | h, ne⟩
      · exact ⟨h.1, ne⟩
      · by_cases c : 0 < wt
        · rw [if_pos c, List.mem_singleton] at h
          exact absurd (by rw [h]) ne
        · rw [if_neg c] at h
          exact absurd h (by simp)
    · rintro ⟨h, ne⟩
      exact ⟨.inl ⟨h, decide_eq_true ne⟩, ne⟩
  unfold tieL
  rw [List.mem_append, List.mem_filter]
  constructor
  · intro h
    by_cases e : q.1 = o
    · right
      rcases hold with ⟨z, hz, rfl⟩ | ⟨no, _⟩
      · have e2 : q.2 = old := (wgt_of nd (show (q.1, q.2) ∈ seenPairs r from h)).symm.trans (by rw [e]; exact wgt_of nd hz)
        have p : 0 < old := by have := wp _ hz; exact this
        rw [if_pos p, List.mem_singleton, ← e, ← e2]
      · exact absurd (List.mem_map.mpr ⟨q, h, e⟩) no
    · have := inl.mpr ⟨h, e⟩
      exact .inl ⟨this.1, decide_eq_true e⟩
  · rintro (h | h)
    · exact (inl.mp ⟨h.1, of_decide_eq_true h.2⟩).1
    · rcases hold with ⟨z, hz, rfl⟩ | ⟨_, rfl⟩
      · by_cases c : 0 < old
        · rw [if_pos c, List.mem_singleton] at h
          rw [h]; exact hz
        · rw [if_neg c] at h
          exact absurd h (by simp)
      · rw [if_neg (by decide)] at h
        exact absurd h (by simp)
theorem out_same {bx : Addr} {c : Int} {H : Hp} (b : Box bx c H) {v u : V} {out : Out} (hv : OutAt H v out) (hu : OutAt H u out) (hh : ∀ rs, out = .rules rs → rs.length ≤ 12 ∧ ∀ r ∈ rs, r.Wf rs.length) : ∃ d, Rp bx H v d ∧ Rp bx H u d ∧ okD 5 d := by
  cases out with
  | rules rs =>
    obtain ⟨l, us, rfl, hl, ra⟩ := hv
    obtain ⟨l2, us2, rfl, hl2, ra2⟩ := hu
    obtain ⟨h1, h2⟩ := hh rs rfl
    have nl : ∀ {a : Addr} {xs : List V}, H a = some (.lst xs) → RulesAt H xs rs → a ≠ bx := fun {a xs} ha ra e => by
      subst e
      obtain ⟨x, y, n, hb, _⟩ := b
      have e1 := HO.lst.inj (Option.some.inj (ha.symm.trans hb))
      subst e1
      cases ra with
      | cons h _ =>
        obtain ⟨_, _, e, _⟩ := h.firstX
        cases e
    refine ⟨.list (rs.map Rule.data), .lst hl (nl hl ra) (ra.rp b), .lst hl2 (nl hl2 ra2) (ra2.rp b), by rw [List.length_map]; omega, fun d hd => ?_⟩
    obtain ⟨r, hr, rfl⟩ := List.mem_map.mp hd
    exact okD_rule (h2 r hr) (by omega) (by omega)
  | nobody p =>
    obtain ⟨t, rfl, ht⟩ := hv
    obtain ⟨t2, rfl, ht2⟩ := hu
    exact ⟨.tuple [.str "nobody", .int p], .tup (.inl ht) (b.neT ht) (.cons (.str _) (.cons (.int _) .nil)), .tup (.inl ht2) (b.neT ht2) (.cons (.str _) (.cons (.int _) .nil)), by show 2 ≤ 8388608; decide, fun d hd => by
      simp only [List.mem_cons, List.not_mem_nil, or_false] at hd
      rcases hd with rfl | rfl <;> trivial⟩
  | sum p =>
    obtain ⟨t, rfl, ht⟩ := hv
    obtain ⟨t2, rfl, ht2⟩ := hu
    exact ⟨.tuple [.str "sum", .int p], .tup (.inl ht) (b.neT ht) (.cons (.str _) (.cons (.int _) .nil)), .tup (.inl ht2) (b.neT ht2) (.cons (.str _) (.cons (.int _) .nil)), by show 2 ≤ 8388608; decide, fun d hd => by
      simp only [List.mem_cons, List.not_mem_nil, or_false] at hd
      rcases hd with rfl | rfl <;> trivial⟩
section
variable {P : Program} {w : World} {K : PySem.W.Frag} {mg : Str → Option Value} {base : Heap}
theorem says_ok {rs : List Rule} {p wt : Int} {tv : V} {out : Out} (hh : Halls rs) (w0 : 0 ≤ wt) (w1 : wt ≤ 1000) (s : Says rs p wt tv out) : ∀ rs2, out = .rules rs2 → rs2.length ≤ 12 ∧ ∀ r ∈ rs2, r.Wf rs2.length := fun rs2 e => by
  have key : ∀ (k : Nat) (r : Rule), r.Wf rs.length → rs.set k r = rs2 → rs2.length ≤ 12 ∧ ∀ r ∈ rs2, r.Wf rs2.length := fun k r wf e => by
    have h := halls_set hh (i := k) wf
    rw [e] at h
    exact ⟨h.2.1, h.2.2⟩
  cases s with
  | held k hk _ => exact key k (.held wt) ⟨w0, w1⟩ (Out.rules.inj e)
  | none1 _ _ => cases e
  | none2 _ _ _ => cases e
  | noSum _ _ _ _ _ _ => cases e
  | tied k hk _ o ho ct r2 t => exact key k r2 (tied_wf ct (hh.2.2 _ (List.getElem_mem hk)) ho.1 ho.2 w1 t) (Out.rules.inj e)
theorem OutAt.keep {H H' : Hp} (s : Same H H') : ∀ {v : V} {out : Out}, OutAt H v out → OutAt H' v out
  | _, .rules _, ⟨l, us, e, h, r⟩ => ⟨l, us, e, s _ _ h, r.keep (Keep.same s)⟩
  | _, .nobody _, ⟨t, e, h⟩ => ⟨t, e, s _ _ h⟩
  | _, .sum _, ⟨t, e, h⟩ => ⟨t, e, s _ _ h⟩
theorem HallAt.keepD {C : Addr} {H : Hp} {x : Addr} {rs : List Rule} (h : HallAt C H x rs) {D : Addr} {xs ys : List V} (hD : H D = some (.lst xs)) (_ : True) : HallAt C (upd H D (.lst ys)) x rs := by
  obtain ⟨dx, t, vs, hx, ht, hv⟩ := h
  have kT := keep_lst (ys := ys) hD
  refine ⟨dx, t, vs, ?_, ht.keep kT, hv.keep kT⟩
  rw [upd_ne (ne_of hx hD (by intro z; cases z))]
  exact hx
/-- what stands: the list of rules and the hall of them -/
structure F49 (C bx l x : Addr) (us : List V) (rs : List Rule) (H0 : Hp) (c : Int) (Hk : Hp) : Prop where
  e : Ext bx H0 Hk
  b : Box bx c Hk
  hl : Hk l = some (.lst us)
  ra : RulesAt Hk us rs
  hA : HallAt C Hk x rs
theorem F49.same {C bx l x : Addr} {us : List V} {rs : List Rule} {H0 : Hp} {c : Int} {Hk H' : Hp} (f : F49 C bx l x us rs H0 c Hk) (s : Same Hk H') : F49 C bx l x us rs H0 c H' := ⟨f.e.trans (Ext.of s), f.b.same s, s _ _ f.hl, f.ra.keep (Keep.same s), f.hA.keep s⟩
theorem F49.draw {C bx l x : Addr} {us : List V} {rs : List Rule} {H0 : Hp} {c c' : Int} {Hk H' : Hp} (f : F49 C bx l x us rs H0 c Hk) (n : l ≠ bx) (e : Ext bx Hk H') (b : Box bx c' H') : F49 C bx l x us rs H0 c' H' := ⟨f.e.trans e, b, e _ _ n f.hl, f.ra.keep (Keep.ext e f.b), f.hA.ext e f.b⟩
theorem tie_parts {H : Hp} {v : V} {r : Rule} (hv : RuleAt H v r) (ct : TieR r) : ∃ (a t : Addr) (xs : List V), v = .ref a ∧ H a = some (.tup xs) ∧ atI xs 2 = some (.ref t) ∧ TiesAt H t (seenPairs r) := by
  cases r with
  | sum own ts =>
    obtain ⟨a, t, e, h, ht⟩ := hv
    exact ⟨a, t, [.str "sum", .int own, .ref t], e, h, atI_nat (j := 2) rfl, ht⟩
  | cap own ts m =>
    obtain ⟨a, t, e, h, ht⟩ := hv
    exact ⟨a, t, [.str "cap", .int own, .ref t, .int m], e, h, atI_nat (j := 2) rfl, ht⟩
  | _ => exact ct.elim
theorem tie_wts {m : Int} : ∀ {r : Rule}, TieR r → r.Wf m → (∀ q ∈ seenPairs r, 1 ≤ q.2 ∧ q.2 ≤ 1000) ∧ (seenPairs r).Pairwise (fun a b => a.1 < b.1)
  | .sum _ _, _, wf => ⟨wf.2.2, List.pairwise_map.mp wf.2.1.1⟩
  | .cap _ _ _, _, wf => ⟨wf.2.2.1, List.pairwise_map.mp wf.2.1.1⟩
theorem old_of {o : Int} {ts : List (Int × Int)} (nd : (ts.map (·.1)).Nodup) (w : ∀ q ∈ ts, 1 ≤ q.2 ∧ q.2 ≤ 1000) : ∃ old : Int, (valV (kvOf ts) (Sum.inl o : Key)).getD (.int 0) = .int old ∧ old ≤ 1000 ∧ ((∃ z, (o, z) ∈ ts ∧ old = z) ∨ o ∉ ts.map (·.1) ∧ old = 0) := by
  by_cases c : o ∈ ts.map (·.1)
  · have h := wgt_in c
    exact ⟨wgt ts o, by rw [kv_get c]; rfl, (w _ h).2, .inl ⟨_, h, rfl⟩⟩
  · refine ⟨0, ?_, by decide, .inr ⟨c, rfl⟩⟩
    have : valV (kvOf ts) (Sum.inl o : Key) = none := by
      unfold valV
      rw [List.find?_eq_none.mpr fun kv hkv e => c ?_]
      · rfl
      · unfold kvOf at hkv
        obtain ⟨q, hq, rfl⟩ := List.mem_map.mp hkv
        have := Sum.inl.inj (of_decide_eq_true e)
        exact List.mem_map.mpr ⟨q, hq, this⟩
    rw [this]
    rfl
theorem set_back {rs : List Rule} {k : Nat} (hk : k < rs.length) (r : Rule) : (rs.set k r).set k rs[k] = rs := by
  rw [List.set_set]
  exact List.set_getElem_self hk
theorem start49 (bx : Addr) : L2.start n_right [V.ref bx] = [some (V.ref bx), none, none, none, none, none, none, none, none, none, none, none, none, none, none, none, none] := rfl
set_option maxHeartbeats 16000000 in
theorem ok_right (T : Txt K mg w) : FnG P w K mg base 13 T.f_right T.fd_right p_right spRight := by
  have G_take := ok_take (P := P) (w := w) (base := base) T
  have G_hall := ok_hall (P := P) (w := w) (base := base) T
  have G_flat := ok_flat (P := P) (w := w) (base := base) T
  have G_Hall_init := ok_Hall_init (P := P) (w := w) (base := base) T
  have G_Hall_rules := ok_Hall_rules (P := P) (w := w) (base := base) T
  have G_Hall_eq := ok_Hall_eq (P := P) (w := w) (base := base) T
  have G_told := ok_told (P := P) (w := w) (base := base) T
  have G_due := ok_dueX (P := P) (w := w) (base := base) T
  have G_tied := fn_calm (ok_tiedX (P := P) (w := w) (base := base) T)
  have G_tied_rule := ok_tied_rule (P := P) (w := w) (base := base) T
  have G_shown := ok_shownB (P := P) (w := w) (base := base) T
  have G_law_beaten := ok_law_beaten (P := P) (w := w) (base := base) T
  have G_history := ok_history (P := P) (w := w) (base := base) T
  have G_same := ok_same (P := P) (w := w) (base := base) T 6
  refine okG T.F_right sc_right (fun vs H Q E h => ?_) (fun cdv A outer s H vs Q E hr hG h => ?_)
  · obtain ⟨bx, rfl, _⟩ := h
    rfl
  · obtain ⟨bx, rfl, hB0, q⟩ := h
    refine ⟨_, (pss_cons (ps_set (i := 1) sc_right.nd rfl (.inl rfl) (pe_ix ix_list (pe_lst (pa_cons (pe_call G_hall (hr.mono (by decide)) (by rfl) T.g_hall T.F_hall.kp T.b_hall .nil pass0 (pa_cons (pv 0) pa_nil)) (pa_cons (pe_call G_flat (hr.mono (by decide)) (by rfl) T.g_flat T.F_flat.kp T.b_flat .nil pass0 (pa_cons (pv 0) (pa_cons pe_int pa_nil))) pa_nil))) (pe_call G_take (hr.mono (by decide)) (by rfl) T.g_take T.F_take.kp T.b_take .nil pass0 (pa_cons (pv 0) (pa_cons pe_int pa_nil))) (fun _ _ => rfl)))
      (pss_cons (ps_par (i := 2) (j := 3) (by rfl) sc_right.nd rfl rfl (by decide) rfl rfl (pa_cons (pe_make T.mk_Hall G_Hall_init (hr.mono (by decide)) (by rfl) T.g_Hall T.b_Hall_init .nil pass0 (pa_cons (pv 1) pa_nil)) (pa_cons (pe_callB call_len_seq (by rfl) T.m_len (by decide +kernel) (pa_cons (pv 1) pa_nil)) pa_nil)) (by rfl))
      (pss_cons (ps_for PassesOwn.never rfl (pi_range1 (by rfl) T.m_range (pa_cons pe_int pa_nil)) (pg_name (i := 4) sc_right.nd rfl (.inl rfl))
        (pss_cons (ps_set (i := 5) sc_right.nd rfl (.inl rfl) (pe_lst pa_nil))
        (pss_cons (ps_for PassesOwn.never rfl (pi_range1 (by rfl) T.m_range (pa_cons pe_int pa_nil)) (pg_name (i := 6) sc_right.nd rfl (.inl rfl))
          (pss_cons (ps_set (i := 7) sc_right.nd rfl (.inl rfl) (pe_ix ix_list (pe_lst (pa_cons (pe_un un_neg pe_int) (pa_cons (pv 3) (pa_cons (pe_op op_add (pv 3) (pe_call G_take (hr.mono (by decide)) (by rfl) T.g_take T.F_take.kp T.b_take .nil pass0 (pa_cons (pv 0) (pa_cons pe_int pa_nil)))) pa_nil)))) (pe_call G_take (hr.mono (by decide)) (by rfl) T.g_take T.F_take.kp T.b_take .nil pass0 (pa_cons (pv 0) (pa_cons pe_int pa_nil))) (fun _ _ => rfl)))
          (pss_one (ps_expr (pe_bm PySem.F.plainAttrs_list PySem.F.slot_list_append PySem.F.type_list_append mt_append (pv 5) (pa_cons (pe_ifExp (pt_cmpR op_eq (pe_call G_take (hr.mono (by decide)) (by rfl) T.g_take T.F_take.kp T.b_take .nil pass0 (pa_cons (pv 0) (pa_cons pe_int pa_nil))) pe_int (nomark _)) (pv 7) (pe_call G_take (hr.mono (by decide)) (by rfl) T.g_take T.F_take.kp T.b_take .nil pass0 (pa_cons (pv 0) (pa_cons (pv 3) pa_nil)))) pa_nil))))))
        (pss_cons (ps_par (i := 8) (j := 9) (by rfl) sc_right.nd rfl rfl (by decide) rfl rfl (pa_cons (pe_ix ix_list (pv 5) pe_int (fun _ _ => rfl)) (pa_cons (pe_ix ix_list (pe_lst (pa_cons pe_non (pa_cons (pe_ix ix_list (pv 5) pe_int (fun _ _ => rfl)) (pa_cons (pe_ix ix_list (pv 5) pe_int (fun _ _ => rfl)) (pa_cons (pe_ix ix_list (pv 5) pe_int (fun _ _ => rfl)) pa_nil))))) (pe_call G_take (hr.mono (by decide)) (by rfl) T.g_take T.F_take.kp T.b_take .nil pass0 (pa_cons (pv 0) (pa_cons pe_int pa_nil))) (fun _ _ => rfl)) pa_nil)) (by rfl))
        (pss_cons (ps_set (i := 10) sc_right.nd rfl (.inl rfl) (pe_ix ix_list (pe_lst (pa_cons pe_int (pa_cons (pe_op op_add pe_int (pe_call G_take (hr.mono (by decide)) (by rfl) T.g_take T.F_take.kp T.b_take .nil pass0 (pa_cons (pv 0) (pa_cons pe_int pa_nil)))) pa_nil))) (pe_call G_take (hr.mono (by decide)) (by rfl) T.g_take T.F_take.kp T.b_take .nil pass0 (pa_cons (pv 0) (pa_cons pe_int pa_nil))) (fun _ _ => rfl)))
        (pss_one (ps_if (pt_not (pt_val (pe_call G_same (hr.mono (by decide)) (by rfl) T.g_same T.F_same.kp T.b_same .nil pass0 (pa_cons (pe_call G_told (hr.mono (by decide)) (by rfl) T.g_told T.F_told.kp T.b_told .nil pass0 (pa_cons (pv 2) (pa_cons (pv 8) (pa_cons (pv 9) (pa_cons (pv 10) pa_nil))))) (pa_cons (pe_call G_due (hr.mono (by decide)) (by rfl) T.g_due T.F_due.kp T.b_due .nil pass0 (pa_cons (pv 1) (pa_cons (pv 8) (pa_cons (pv 9) (pa_cons (pv 10) pa_nil))))) pa_nil)))))
          (pss_one (ps_ret pe_bl))
          pss_nil)))))))
      (pss_cons (ps_for PassesOwn.never rfl (pi_enum (by rfl) T.m_enumerate (pa_cons (pv 1) pa_nil)) (pg_tup rfl (pgs_cons (pg_name (i := 8) sc_right.nd rfl (.inl rfl)) (pgs_cons (pg_name (i := 11) sc_right.nd rfl (.inl rfl)) pgs_nil)))
        (pss_one (ps_if (pt_cmpR op_in_seq (pe_ix ix_tup (pv 11) pe_int (fun _ _ => rfl)) (pe_tup (pa_cons pe_str (pa_cons pe_str pa_nil))) (by rfl))
          (pss_cons (ps_set (i := 9) sc_right.nd rfl (.inl rfl) (pe_call G_take (hr.mono (by decide)) (by rfl) T.g_take T.F_take.kp T.b_take .nil pass0 (pa_cons (pv 0) (pa_cons (pv 3) pa_nil))))
          (pss_cons (ps_set (i := 12) sc_right.nd rfl (.inl rfl) (pe_dget2 (hu_of hr) (pe_callTy (call_dictT rfl) (by rfl) T.m_dict (by decide +kernel) (pa_cons (pe_ix ix_tup (pv 11) pe_int (fun _ _ => rfl)) pa_nil)) (pv 9) pe_int ⟨rfl, rfl, rfl, rfl⟩))
          (pss_cons (ps_par (i := 13) (j := 14) (by rfl) sc_right.nd rfl rfl (by decide) rfl rfl (pa_cons (pe_call G_tied (hr.mono (by decide)) (by rfl) T.g_tied T.F_tied.kp T.b_tied .nil pass0 (pa_cons (pv 2) (pa_cons (pv 8) (pa_cons (pv 9) (pa_cons pe_int pa_nil))))) (pa_cons (pe_callTy call_list_of (by rfl) T.m_list (by decide +kernel) (pa_cons (pv 1) pa_nil)) pa_nil)) (by rfl))
          (pss_cons (ps_asg (pe_call G_tied_rule (hr.mono (by decide)) (by rfl) T.g_tied_rule T.F_tied_rule.kp T.b_tied_rule .nil pass0 (pa_cons (pv 11) (pa_cons (pv 9) (pa_cons pe_int pa_nil)))) (pg_sub (pv 14) (pv 8) set_list))
          (pss_cons (ps_set (i := 15) sc_right.nd rfl (.inl rfl) (pe_call G_shown (hr.mono (by decide)) (by rfl) T.g_shown T.F_shown.kp T.b_shown .nil pass0 (pa_cons (pv 0) (pa_cons (pv 1) pa_nil))))
          (pss_cons (ps_set (i := 16) sc_right.nd rfl (.inl rfl) (pe_lst (pa_cons (pv 15) (pa_cons (pe_call G_law_beaten (hr.mono (by decide)) (by rfl) T.g_law_beaten T.F_law_beaten.kp T.b_law_beaten .nil pass0 (pa_cons (pv 14) (pa_cons (pv 15) pa_nil))) (pa_cons (pe_call G_law_beaten (hr.mono (by decide)) (by rfl) T.g_law_beaten T.F_law_beaten.kp T.b_law_beaten .nil pass0 (pa_cons (pv 14) (pa_cons (pe_call G_law_beaten (hr.mono (by decide)) (by rfl) T.g_law_beaten T.F_law_beaten.kp T.b_law_beaten .nil pass0 (pa_cons (pv 14) (pa_cons (pv 15) pa_nil))) pa_nil))) pa_nil)))))
          (pss_one (ps_if (PW.pt (pw_or (pt_cmpR (op_neIns T.ne_Hall T.is_Hall.hm T.me_Hall_eq G_Hall_eq T.b_Hall_eq (hr.mono (by decide))) (pe_call G_tied (hr.mono (by decide)) (by rfl) T.g_tied T.F_tied.kp T.b_tied .nil pass0 (pa_cons (pv 13) (pa_cons (pv 8) (pa_cons (pv 9) (pa_cons (pv 12) pa_nil))))) (pv 2) (nomark _)) (pw_or1 (pt_not (pt_val (pe_call G_same (hr.mono (by decide)) (by rfl) T.g_same T.F_same.kp T.b_same .nil pass0 (pa_cons (pe_call G_history (hr.mono (by decide)) (by rfl) T.g_history T.F_history.kp T.b_history .nil pass0 (pa_cons (pv 13) (pa_cons (pv 15) (pa_cons pe_int pa_nil)))) (pa_cons (pv 16) pa_nil))))))))
            (pss_one (ps_ret pe_bl))
            pss_nil))))))))
          pss_nil)))
      (pss_one (ps_ret (pe_cmpR (op_eqD hr.units) (pe_meth0 (pv 2) T.cl_Hall T.me_Hall_rules G_Hall_rules (hr.mono (by decide)) T.b_Hall_rules .nil pass0) (pe_callTy call_tupleF (by rfl) T.m_tuple (by decide +kernel) (pa_cons (pv 1) pa_nil)) (nomark _)))))))), ?_⟩
    refine ⟨.ref bx, rfl, bx, _, rfl, by decide, hB0, fun l1 us1 rs1 H1 e1 b1 nl1 hl1 ra1 hh1 => ?_⟩
    refine ⟨.ref bx, rfl, bx, _, 8, rfl, by decide, by decide, by decide, b1, fun l2 us2 rs2 H2 e2 b2 nl2 hl2 ra2 hh2 => ⟨by show 2 ≤ sizeLine; decide, fun pl npl => ?_⟩⟩
    have nl1b := hB0.ne nl1
    have nl2b := b1.ne nl2
    have s3 := same_upd (o := .lst [V.ref l1, .ref l2]) npl
    have hpl := upd_same (H := H2) (a := pl) (o := HO.lst [V.ref l1, .ref l2])
    have npb := b2.ne npl
    have b3 := b2.same s3
    generalize upd H2 pl (.lst [V.ref l1, .ref l2]) = H3 at s3 hpl b3 ⊢
    refine ⟨.ref bx, rfl, bx, _, 2, rfl, by decide, by decide, by decide, b3, fun r0 H4 r00 r01 e4 b4 => ?_⟩
    obtain ⟨l, us, rs, al, hl, ra, hh, nlb⟩ : ∃ (l : Addr) (us : List V) (rs : List Rule), atI [V.ref l1, V.ref l2] r0 = some (.ref l) ∧ H4 l = some (.lst us) ∧ RulesAt H4 us rs ∧ Halls rs ∧ l ≠ bx := by
      have k1 : Keep H1 H4 := (Keep.ext e2 b1).trans ((Keep.same s3).trans (Keep.ext e4 b3))
      have k2 : Keep H2 H4 := (Keep.same s3).trans (Keep.ext e4 b3)
      rcases (by omega : r0 = 0 ∨ r0 = 1) with rfl | rfl
      · exact ⟨l1, us1, rs1, rfl, e4 _ _ nl1b (s3 _ _ (e2 _ _ nl1b hl1)), ra1.keep k1, hh1, nl1b⟩
      · exact ⟨l2, us2, rs2, rfl, e4 _ _ nl2b (s3 _ _ hl2), ra2.keep k2, hh2, nl2b⟩
    refine ⟨pl, _, r0, .ref l, rfl, rfl, .inl (.inl (e4 _ _ npb hpl)), al, ?_⟩
    have eH4 : Ext bx H H4 := ((e1.trans e2).trans (Ext.of s3)).trans e4
    have lus : us.length = rs.length := ra.length
    have r12 := hh.2.1
    have r1 := hh.1
    clear hl1 ra1 hh1 hl2 ra2 hh2 e1 e2 e4 b1 b2 b3 s3 hpl npl al
    refine ⟨.ref l, rfl, fun x dx nx ndx nxd => ?_⟩
    have sx : Same H4 (upd (upd H4 dx (.own x)) x (.ins T.C_Hall dx [])) := fun b o hb => by
      rw [upd_ne (ne_of_none hb nx), upd_ne (ne_of_none hb ndx)]
      exact hb
    refine ⟨x, dx, l, us, rs, rfl, upd_same, sx _ _ hl, ra.keep (Keep.same sx), hh, fun H5 k5 hA => ⟨rfl, ?_⟩⟩
    have s5 : Same H4 H5 := fun b o hb => k5 b o (ne_of_none hb nx) (sx b o hb)
    refine ⟨.ref l, rfl, l, us, rfl, .inl (.inl (.inl (s5 _ _ hl))), _, _, rfl, ?_⟩
    rw [lus]
    have b5 := b4.same s5
    have hl5 := s5 _ _ hl
    have ra5 := ra.keep (Keep.same s5)
    have eH5 := eH4.trans (Ext.of s5)
    clear sx k5 s5 hl ra b4 eH4 nx ndx nxd
    refine ⟨10, rfl, by decide, by decide, ?_⟩
    have F5 : F49 T.C_Hall bx l x us rs H _ H5 := ⟨eH5, b5, hl5, ra5, hA⟩
    clear eH5 b5 hl5 ra5 hA
    refine for_it walk_range (fun i σ H6 => ∃ y4 y5 y6 y7 y8 y9 y10 : Option V, σ = [some (.ref bx), some (.ref l), some (.ref x), some (.int rs.length), y4, y5, y6, y7, y8, y9, y10, none, none, none, none, none, none] ∧ F49 T.C_Hall bx l x us rs H (1200 + 20 * i) H6) ⟨_, _, _, _, _, _, _, rfl, F5.e, F5.b.mono (by omega), F5.hl, F5.ra, F5.hA⟩ (fun _ _ _ _ _ => trivial) ?_ ?_
    · rintro i x0 σ H6 H6' hi ⟨y4, y5, y6, y7, y8, y9, y10, rfl, F6⟩ ⟨rfl, rfl⟩
      have hi' : i < 10 := hi
      refine ⟨by show 0 ≤ sizeLine; decide, fun D nD => ⟨2, rfl, by decide, by decide, ?_⟩⟩
      have nDb := F6.b.ne nD
      have sD := same_upd (o := .lst []) nD
      have hD0 := upd_same (H := H6') (a := D) (o := HO.lst [])
      have F7' := F6.same sD
      have eD : Ext bx H6' (upd H6' D (.lst [])) := Ext.of sD
      generalize upd H6' D (.lst []) = H7 at sD hD0 F7' eD ⊢
      refine for_it walk_range (fun j σ H8 => ∃ (y6 y7 : Option V) (es : List Int), σ = [some (.ref bx), some (.ref l), some (.ref x), some (.int rs.length), some (.int (0 + (i : Nat))), some (.ref D), y6, y7, y8, y9, y10, none, none, none, none, none, none] ∧ F49 T.C_Hall bx l x us rs H (1200 + 20 * i + 4 * j) H8 ∧ Ext bx H6' H8 ∧ H8 D = some (.lst (es.map V.int)) ∧ es.length = j) ⟨_, _, [], rfl, ⟨F7'.e, F7'.b.mono (by omega), F7'.hl, F7'.ra, F7'.hA⟩, eD, hD0, rfl⟩ (fun _ _ _ _ _ => trivial) ?_ ?_
      · rintro j x1 σ H8 H8' hj ⟨y6, y7, es, rfl, F8, e8, hD8, les⟩ ⟨rfl, rfl⟩
        have hj' : j < 2 := hj
        refine ⟨1, rfl, _, rfl, _, rfl, .ref bx, rfl, bx, _, 9, rfl, by decide, by decide, by omega, F8.b, fun r1 H9 r10 r11 e9 b9 => ⟨_, r1, rfl, rfl, by show 3 ≤ sizeLine; decide, fun fl nfl => ?_⟩⟩
        have flb := b9.ne nfl
        have s10 := same_upd (o := .lst [.int (-1), .int rs.length, .int ((rs.length : Int) + r1)]) nfl
        have hfl := upd_same (H := H9) (a := fl) (o := HO.lst [.int (-1), .int rs.length, .int ((rs.length : Int) + r1)])
        have F9 := F8.draw nlb e9 b9
        have hD9 := e9 _ _ nDb hD8
        dsimp only
        generalize upd H9 fl (.lst [.int (-1), .int rs.length, .int ((rs.length : Int) + r1)]) = HA at s10 hfl ⊢
        have FA := F9.same s10
        refine ⟨.ref bx, rfl, bx, _, 3, rfl, by decide, by decide, by omega, FA.b, fun r2 HB r20 r21 eB bB => ?_⟩
        have FB := FA.draw nlb eB bB
        have hDB := eB _ _ nDb (s10 _ _ hD9)
        obtain ⟨far, mfar, afar⟩ : ∃ far : Int, True ∧ atI [V.int (-1), .int rs.length, .int ((rs.length : Int) + r1)] r2 = some (.int far) := by
          rcases (by omega : r2 = 0 ∨ r2 = 1 ∨ r2 = 2) with rfl | rfl | rfl
          · exact ⟨_, trivial, rfl⟩
          · exact ⟨_, trivial, rfl⟩
          · exact ⟨_, trivial, rfl⟩
        refine ⟨fl, _, r2, .int far, rfl, rfl, .inl (.inl (eB _ _ flb hfl)), afar, ?_⟩
        refine ⟨.ref D, rfl, .inl ⟨rfl, _, .inl (.inl hDB)⟩, .ref bx, rfl, bx, _, 9, rfl, by decide, by decide, by omega, bB, fun r3 HC r30 r31 eC bC => ⟨rfl, _, rfl, ite2 (fun _ => ?_) (fun _ => ?_)⟩⟩
        · have FC := FB.draw nlb eC bC
          have hDC := eC _ _ nDb hDB
          have eAll := e8.trans (e9.trans ((Ext.of s10).trans (eB.trans eC)))
          refine ⟨.int far, rfl, D, _, .int far, rfl, rfl, hDC, by rw [List.length_map]; exact small1000 (by omega), ?_⟩
          have kT := keep_lst (ys := es.map V.int ++ [V.int far]) hDC
          exact ⟨_, _, es ++ [far], rfl, ⟨FC.e.new (F6.e.free nDb nD), (FC.b.mono (by omega)).at nDb, by rw [upd_ne (ne_of_none F6.hl nD)]; exact FC.hl, FC.ra.keep kT, FC.hA.keepD hDC (by simp)⟩, eAll.new nD, by rw [upd_same, List.map_append]; rfl, by rw [List.length_append, les]; rfl⟩
        · have FC := FB.draw nlb eC bC
          refine ⟨.ref bx, rfl, .int rs.length, rfl, bx, _, _, rfl, by omega, by omega, by omega, bC, fun r4 HD r40 r41 eD' bD => ?_⟩
          have FD := FC.draw nlb eD' bD
          have hDD := eD' _ _ nDb (eC _ _ nDb hDB)
          have eAll := e8.trans (e9.trans ((Ext.of s10).trans (eB.trans (eC.trans eD'))))
          refine ⟨D, _, .int r4, rfl, rfl, hDD, by rw [List.length_map]; exact small1000 (by omega), ?_⟩
          have kT := keep_lst (ys := es.map V.int ++ [V.int r4]) hDD
          exact ⟨_, _, es ++ [r4], rfl, ⟨FD.e.new (F6.e.free nDb nD), (FD.b.mono (by omega)).at nDb, by rw [upd_ne (ne_of_none F6.hl nD)]; exact FD.hl, FD.ra.keep kT, FD.hA.keepD hDD (by simp)⟩, eAll.new nD, by rw [upd_same, List.map_append]; rfl, by rw [List.length_append, les]; rfl⟩
      · rintro σ H8 ⟨y6, y7, es, rfl, F8, e8, hD8, les⟩
        obtain ⟨z1, z2, rfl⟩ : ∃ z1 z2, es = [z1, z2] := by
          match es, les with
          | [a, b], _ => exact ⟨a, b, rfl⟩
        refine ⟨.ref D, rfl, D, _, 0, .int z1, rfl, rfl, .inl (.inl hD8), rfl, ?_⟩
        refine ⟨.ref D, rfl, D, _, 1, .int z2, rfl, rfl, .inl (.inl hD8), rfl, .ref D, rfl, D, _, 1, .int z2, rfl, rfl, .inl (.inl hD8), rfl, .ref D, rfl, D, _, 0, .int z1, rfl, rfl, .inl (.inl hD8), rfl, by show 4 ≤ sizeLine; decide, fun tl ntl => ?_⟩
        have s9 := same_upd (o := .lst [V.non, .int z2, .int z2, .int z1]) ntl
        have htl := upd_same (H := H8) (a := tl) (o := HO.lst [V.non, .int z2, .int z2, .int z1])
        have tlb := F8.b.ne ntl
        generalize upd H8 tl (.lst [V.non, .int z2, .int z2, .int z1]) = H9 at s9 htl ⊢
        have F9 := F8.same s9
        refine ⟨.ref bx, rfl, bx, _, 4, rfl, by decide, by decide, by omega, F9.b, fun r5 HA r50 r51 eA bA => ?_⟩
        have FA := F9.draw nlb eA bA
        obtain ⟨tv, htv, atv⟩ : ∃ tv : V, (tv = .non ∨ ∃ o, tv = .int o) ∧ atI [V.non, .int z2, .int z2, .int z1] r5 = some tv := by
          rcases (by omega : r5 = 0 ∨ r5 = 1 ∨ r5 = 2 ∨ r5 = 3) with rfl | rfl | rfl | rfl
          · exact ⟨_, .inl rfl, rfl⟩
          · exact ⟨_, .inr ⟨_, rfl⟩, rfl⟩
          · exact ⟨_, .inr ⟨_, rfl⟩, rfl⟩
          · exact ⟨_, .inr ⟨_, rfl⟩, rfl⟩
        refine ⟨tl, _, r5, tv, rfl, rfl, .inl (.inl (eA _ _ tlb htl)), atv, ?_⟩
        refine ⟨_, _, rfl, ?_⟩
        refine ⟨.ref bx, rfl, bx, _, 99, rfl, by decide, by decide, by omega, bA, fun r6 HB r60 r61 eB bB => ⟨1, r6, rfl, rfl, by show 2 ≤ sizeLine; decide, fun wl nwl => ?_⟩⟩
        have wlb := bB.ne nwl
        have FB := FA.draw nlb eB bB
        have s10 := same_upd (o := .lst [.int 0, .int (1 + r6)]) nwl
        have hwl := upd_same (H := HB) (a := wl) (o := HO.lst [.int 0, .int (1 + r6)])
        dsimp only
        generalize upd HB wl (.lst [.int 0, .int (1 + r6)]) = HC at s10 hwl ⊢
        have FC := FB.same s10
        refine ⟨.ref bx, rfl, bx, _, 2, rfl, by decide, by decide, by omega, FC.b, fun r7 HD r70 r71 eD' bD => ?_⟩
        have FD := FC.draw nlb eD' bD
        obtain ⟨wt, w0, w1, awt⟩ : ∃ wt : Int, 0 ≤ wt ∧ wt ≤ 1000 ∧ atI [V.int 0, .int (1 + r6)] r7 = some (.int wt) := by
          rcases (by omega : r7 = 0 ∨ r7 = 1) with rfl | rfl
          · exact ⟨0, by decide, by decide, rfl⟩
          · exact ⟨1 + r6, by omega, by omega, rfl⟩
        refine ⟨wl, _, r7, .int wt, rfl, rfl, .inl (.inl (eD' _ _ wlb hwl)), awt, ?_⟩
        simp only [List.set_cons_succ, List.set_cons_zero]
        refine ⟨.ref x, rfl, .int z1, rfl, tv, rfl, .int wt, rfl, x, z1, wt, tv, rs, rfl, FD.hA, hh, w0, w1, htv, fun out v HE sE sy ov => ?_⟩
        have FE := FD.same sE
        refine ⟨.ref l, rfl, .int z1, rfl, tv, rfl, .int wt, rfl, l, us, z1, wt, tv, rs, rfl, FE.hl, FE.ra, hh, htv, fun out2 v2 HF sF sy2 ov2 => ?_⟩
        have FF := FE.same sF
        have eo := sy.unique sy2
        subst eo
        obtain ⟨d, r1', r2', ok⟩ := out_same FF.b (ov.keep sF) ov2 (says_ok hh w0 w1 sy)
        refine ⟨bx, v, v2, d, rfl, r1', r2', ok, fun HG sG => ⟨_, rfl, iteN rfl ?_⟩⟩
        have FG := FF.same sG
        exact ⟨_, _, _, _, _, _, _, rfl, FG.e, FG.b.mono (by omega), FG.hl, FG.ra, FG.hA⟩
    · rintro σ H6 ⟨y4, y5, y6, y7, y8, y9, y10, rfl, F6⟩
      refine ⟨.ref l, rfl, l, us, rfl, .inl (.inl F6.hl), ?_⟩
      refine for_it (walk_enum (xs := us)) (fun i σ H7 => ∃ y4 y5 y6 y7 y8 y9 y10 y11 y12 y13 y14 y15 y16 : Option V, σ = [some (.ref bx), some (.ref l), some (.ref x), some (.int rs.length), y4, y5, y6, y7, y8, y9, y10, y11, y12, y13, y14, y15, y16] ∧ F49 T.C_Hall bx l x us rs H (1500 + 110 * i) H7) ⟨_, _, _, _, _, _, _, _, _, _, _, _, _, rfl, F6.e, F6.b.mono (by show (1200 : Int) + 20 * ((10 : Nat) : Int) ≤ 1500 + 110 * ((0 : Nat) : Int); omega), F6.hl, F6.ra, F6.hA⟩ ?_ ?_ ?_
      · rintro i σ H7 _ ⟨y4, y5, y6, y7, y8, y9, y10, y11, y12, y13, y14, y15, y16, rfl, F7⟩
        exact .inl (.inl F7.hl)
      · rintro k y σ H7 H8 hi ⟨y4, y5, y6, y7, y8, y9, y10, y11, y12, y13, y14, y15, y16, rfl, F7⟩ ⟨T0, x1, x2, rfl, nT, rfl, e1, e2⟩
        have hk : k < rs.length := by omega
        have e1 : V.int (k : Int) = x1 := by cases e1; rfl
        subst e1
        have sT := same_upd (o := .tup [.int (k : Int), x2]) nT
        have hT0 := upd_same (H := H7) (a := T0) (o := HO.tup [.int (k : Int), x2])
        have F8 := F7.same sT
        refine ⟨T0, _, rfl, .inl (.inl upd_same), rfl, _, _, rfl, _, _, rfl, rfl, ?_⟩
        generalize upd H7 T0 (.tup [.int (k : Int), x2]) = H8 at F8 ⊢
        obtain ⟨v, ev, hv⟩ := F8.ra.get k hk
        have ex := Option.some.inj (e2.symm.trans ev)
        subst ex
        obtain ⟨a, xs, rfl, ha, h0⟩ := hv.firstX
        refine ⟨.ref a, rfl, a, xs, 0, _, rfl, rfl, .inl (.inl ha), h0, by show 2 ≤ sizeLine; decide, fun u nu => ?_⟩
        have su := same_upd (o := .tup [.str "sum", .str "cap"]) nu
        refine ⟨u, _, rfl, .inr (.inl (.inl upd_same)), rfl, rfl, _, rfl, ?_⟩
        generalize upd H8 u (.tup [.str "sum", .str "cap"]) = H9 at su ⊢
        have F9 := F8.same su
        have ew2 := word_ties rs[k]
        have wfk := hh.2.2 _ (List.getElem_mem hk)
        by_cases ct : TieR rs[k]
        · refine iteP (by rw [if_neg Bool.false_ne_true]; exact ew2.trans (decide_eq_true ct)) ?_
          simp only [List.set_cons_succ, List.set_cons_zero]
          refine ⟨.ref bx, rfl, .int rs.length, rfl, bx, _, _, rfl, by omega, by omega, by omega, F9.b, fun to HA to0 to1 eA bA => ?_⟩
          have FA := F9.draw nlb eA bA
          have hvA := (hv.keep (Keep.same su)).keep (Keep.ext eA F9.b)
          obtain ⟨a', t, xs2, ea', ha2, h2, htA⟩ := tie_parts hvA ct
          cases ea'
          obtain ⟨o1, ps, od, htt, pr⟩ := id htA
          obtain ⟨wts, strict⟩ := tie_wts ct wfk
          have ndk := seen_tie ct wfk
          refine ⟨.ref a, rfl, a, xs2, 2, _, rfl, rfl, .inl (.inl ha2), h2, t, o1, ps, kvOf (seenPairs rs[k]), rfl, od, htt, pairs_sq pr, fun D nD => ?_⟩
          rw [merge_kv ndk]
          have sD := same_upd (o := .dK (kvOf (seenPairs rs[k]))) nD
          have gD := upd_same (H := HA) (a := D) (o := HO.dK (kvOf (seenPairs rs[k])))
          generalize upd HA D (.dK (kvOf (seenPairs rs[k]))) = HB at sD gD ⊢
          have FB := FA.same sD
          obtain ⟨old, eold, old1, hold⟩ := old_of (o := to) ndk wts
          refine ⟨D, rfl, .inl ⟨_, .inl gD⟩, .int to, rfl, _, DGet.k (k := (Sum.inl to : Key)) gD, ?_⟩
          rw [eold]
          have oo : 0 ≤ to ∧ to < rs.length := ⟨to0, to1⟩
          refine ⟨.ref x, rfl, .int (k : Int), rfl, .int to, rfl, x, k, to, 7, rs, rfl, FB.hA, hh, by decide, fun c => absurd ⟨by omega, by omega⟩ c, fun _ c => absurd oo c, fun k2 hk2 e _ nt => ?_, fun k2 hk2 e _ _ r2 z HC ti sC hZ => ?_⟩
          · have : k = k2 := by omega
            subst this; exact absurd ct nt
          have ek : k = k2 := by omega
          subst ek
          have FC := FB.same sC
          have wf2 := tied_wf ct wfk to0 to1 (by decide) ti
          have hh2 := halls_set hh (i := k) wf2
          have lset : (rs.set k r2).length = rs.length := List.length_set
          refine ⟨.ref l, rfl, l, us, rfl, .inl (.inl (.inl FC.hl)), fun d nd => ?_⟩
          have ndb := FC.b.ne nd
          have nd0 := FC.e.free ndb nd
          have sd := same_upd (o := .lst us) nd
          have hd := upd_same (H := HC) (a := d) (o := HO.lst us)
          have FD := FC.same sd
          have hZ1 := hZ.keep sd
          generalize upd HC d (.lst us) = HD at sd hd FD hZ1 ⊢
          refine ⟨_, _, rfl, ?_⟩
          simp only [List.set_cons_succ, List.set_cons_zero]
          have hvD := ((hvA.keep (Keep.same sD)).keep (Keep.same sC)).keep (Keep.same sd)
          refine ⟨.ref a, rfl, .int to, rfl, .ref a, rs[k], to, 7, rs.length, rfl, hvD, ct, wfk, by have := hh.few hk; omega, fun u3 r3 HE sE hu ti3 => ?_⟩
          have er := ti3.unique ti
          subst er
          have hdE := sE _ _ hd
          refine ⟨.ref d, rfl, .int (k : Int), rfl, d, _, _, k, rfl, rfl, hdE, ixN_at (by omega), ?_⟩
          have FE := FD.same sE
          have kT := keep_lst (ys := us.set k u3) hdE
          have hdF := upd_same (H := HE) (a := d) (o := HO.lst (us.set k u3))
          have raF : RulesAt (upd HE d (.lst (us.set k u3))) (us.set k u3) (rs.set k r3) := paired_set (FE.ra.keep kT) k (hu.keep kT)
          have nld : l ≠ d := ne_of_none FC.hl nd
          have FF : F49 T.C_Hall bx l x us rs H _ (upd HE d (.lst (us.set k u3))) := ⟨FE.e.new nd0, FE.b.at ndb, by rw [upd_ne nld]; exact FE.hl, FE.ra.keep kT, FE.hA.keepD hdE trivial⟩
          have hZF := (hZ1.keep sE).keepD (ys := us.set k u3) hdE trivial
          generalize upd HE d (.lst (us.set k u3)) = HF at hdF raF FF hZF ⊢
          clear hZ hZ1 FA FB FC FD FE gD hvA hvD hdE hd kT htA htt pr ha2 h2 sC sD sd sE hu nD nd
          refine ⟨.ref bx, rfl, .ref l, rfl, bx, l, _, us, rfl, by omega, by omega, FF.b, FF.hl, nlb, fun st ns HG eG bG nst hst lns bns => ?_⟩
          have FG := FF.draw nlb eG bG
          have hdG := eG _ _ ndb hdF
          have raG := raF.keep (Keep.ext eG FF.b)
          have hZG := hZF.ext eG FF.b
          have lns2 : ns.length = (rs.set k r3).length := by rw [lset]; omega
          simp only [List.set_cons_succ, List.set_cons_zero]
          refine ⟨.ref st, rfl, .ref d, rfl, .ref st, rfl, d, st, _, _, ns, rfl, hdG, raG, hh2, hst, lns2, fun t1 ms1 HI sI nt1 ht1 be1 => ?_⟩
          refine ⟨.ref d, rfl, .ref d, rfl, .ref st, rfl, d, st, _, _, ns, rfl, sI _ _ hdG, raG.keep (Keep.same sI), hh2, hst.keep (Keep.same sI), lns2, fun t2 ms1' HJ sJ nt2 ht2 be1' => ?_⟩
          have e11 := be1'.unique lns2 be1
          subst e11
          have s2 := sI.trans sJ
          have l1 : ms1'.length = (rs.set k r3).length := by rw [be1'.1, lns2]
          refine ⟨d, t2, _, _, ms1', rfl, s2 _ _ hdG, raG.keep (Keep.same s2), hh2, ht2, l1, fun t3 ms2 HK sK nt3 ht3 be2 => ⟨by show 3 ≤ sizeLine; decide, fun rl nrl => ?_⟩⟩
          have s3 := s2.trans sK
          have FK := FG.same s3
          have rlb := FK.b.ne nrl
          have s4 := same_upd (o := .lst [.ref st, .ref t1, .ref t3]) nrl
          have hrl := upd_same (H := HK) (a := rl) (o := HO.lst [.ref st, .ref t1, .ref t3])
          generalize upd HK rl (.lst [.ref st, .ref t1, .ref t3]) = HL at s4 hrl ⊢
          have sGL := s3.trans s4
          have FL := FK.same s4
          have hZL := hZG.keep sGL
          have r1' : TupAt HL t1 (ms1'.map V.int) := (ht1.keep (Keep.same (sJ.trans sK))).keep (Keep.same s4)
          have r3' := ht3.keep (Keep.same s4)
          have hstL := hst.keep (Keep.same sGL)
          simp only [List.set_cons_succ, List.set_cons_zero]
          refine ⟨.ref z, rfl, .int (k : Int), rfl, .int to, rfl, .int old, rfl, z, k, to, old, rs.set k r3, rfl, hZL, hh2, old1, fun c => absurd ⟨by omega, by rw [lset]; omega⟩ c, fun _ c => absurd ⟨to0, by rw [lset]; exact to1⟩ c, fun k3 hk3 e _ nt => ?_, fun k3 hk3 e _ _ r4 z2 HM ti4 sM hZ2 => ?_⟩
          · have : k = k3 := by omega
            subst this
            rw [List.getElem_set_self] at nt
            exact absurd (tied_back ct wfk ti hold (fun q hq => (wts q hq).1) strict).1 nt
          have ek3 : k = k3 := by omega
          subst ek3
          rw [List.getElem_set_self] at ti4
          have e4 := ti4.unique (tied_back ct wfk ti hold (fun q hq => (wts q hq).1) strict).2
          subst e4
          rw [set_back hk] at hZ2
          have FM := FL.same sM
          obtain ⟨d2, _, _, hz2, _, _⟩ := id hZ2
          obtain ⟨dx, _, _, hx, _, _⟩ := id FM.hA
          refine ⟨.ref x, rfl, z2, x, _, _, _, _, rfl, rfl, hz2, hx, bx, z2, x, _, rs, rfl, FM.b, hZ2, FM.hA, true, rfl, _, rfl, iteN rfl ?_⟩
          refine ⟨.ref z, rfl, .ref st, rfl, z, st, 2, rs.set k r3, ns, rfl, hZL.keep sM, hh2, hstL.keep (Keep.same sM), lns2, by decide, fun hl2 us2 nss HN sN nhl hhl sa way lnss => ?_⟩
          have FN := FM.same sN
          have w3 : Way (rs.set k r3) ns [ns, ms1', ms2] := by
            refine ⟨rfl, fun ms hms => ?_, fun i a b ha hb => ?_⟩
            · simp only [List.mem_cons, List.not_mem_nil, or_false] at hms
              rcases hms with rfl | rfl | rfl
              · exact lns2
              · exact l1
              · rw [be2.1, l1]
            · match i with
              | 0 => cases ha; cases hb; exact be1'
              | 1 => cases ha; cases hb; exact be2
              | n + 2 => cases n <;> cases hb
          have en := way.unique w3 lnss
          subst en
          have sMN := sM.trans sN
          refine ⟨.ref rl, rfl, bx, .ref hl2, .ref rl, .list ([ns, ms1', ms2].map fun ms : List Int => PyData.tuple (ms.map PyData.int)), rfl, .lst hhl (FM.b.ne nhl) (StandsAt.rp FN.b sa), .lst (sMN _ _ hrl) rlb (.cons ((hstL.keep (Keep.same sMN)).rpI FN.b) (.cons ((r1'.keep (Keep.same sMN)).rpI FN.b) (.cons ((r3'.keep (Keep.same sMN)).rpI FN.b) .nil))), ⟨by show 3 ≤ 8388608; decide, fun dd hdd => ?_⟩, fun HO' sO => ⟨_, rfl, iteN rfl ?_⟩⟩
          · obtain ⟨ms, hms, rfl⟩ := List.mem_map.mp hdd
            have := w3.2.1 ms hms
            exact okD_ints (by omega)
          have FO := FN.same sO
          exact ⟨_, _, _, _, _, _, _, _, _, _, _, _, _, rfl, FO.e, FO.b.mono (by omega), FO.hl, FO.ra, FO.hA⟩
        · refine iteN (by rw [if_neg Bool.false_ne_true]; exact ew2.trans (decide_eq_false ct)) ?_
          exact ⟨_, _, _, _, _, _, _, _, _, _, _, _, _, rfl, F9.e, F9.b.mono (by omega), F9.hl, F9.ra, F9.hA⟩
      · rintro σ H7 ⟨y4, y5, y6, y7, y8, y9, y10, y11, y12, y13, y14, y15, y16, rfl, F7⟩
        obtain ⟨dx5, _, _, hx5, _, _⟩ := id F7.hA
        refine ⟨.ref x, rfl, x, dx5, _, rfl, hx5, kept_no _ (by decide +kernel), x, rs, rfl, F7.hA, fun t1 us1 ht1 ra1 => ?_⟩
        refine ⟨.ref l, rfl, l, _, rfl, .inl (.inl F7.hl), fun t2 o2 nt2 od2 => ?_⟩
        have k5 := same_upd (o := .frz o2 (.tup us)) nt2
        have ht2 : TupAt (upd H7 t2 (.frz o2 (.tup us))) t2 us := .inr ⟨o2, od2, upd_same⟩
        generalize upd H7 t2 (.frz o2 (.tup us)) = H8 at k5 ht2 ⊢
        have F8 := F7.same k5
        refine ⟨.tuple (rs.map Rule.data), .tuple (rs.map Rule.data), .tup (ht1.keep (Keep.same k5)).sq (RpAll.dp (bx := bx) ((ra1.keep (Keep.same k5)).rp F8.b)), .tup ht2.sq (RpAll.dp (bx := bx) (F8.ra.rp F8.b)), shaped_rules rs, shaped_rules rs, ?_⟩
        rw [eqv_rules]
        exact q _ F8.e
end
end Lh

namespace Lh
open PySem PySem.Spec PyProof.Rows L2
section
variable {P : Program} {w : World} {K : PySem.W.Frag} {mg : Str → Option Value} {base : Heap}
def spLaw (K : PySem.W.Frag) : Sp := fun vs H Q _ => ∃ (a : Addr) (ns : List Int), vs = [.ref a] ∧ SqL K H a (ns.map V.int) ∧ ns.length ≤ 63 ∧ ∀ H', Q (.bl true) H'
theorem ok_law (T : Txt K mg w) : FnG P w K mg base 14 T.f_law T.fd_law ["_law_script"] (spLaw K) := by
  have G_folded := ok_folded (P := P) (w := w) (base := base) T
  have G_dip := ok_dip (P := P) (w := w) (base := base) T
  have G_right := ok_right (P := P) (w := w) (base := base) T
  refine okG T.F_law sc_law (fun vs H Q E h => ?_) (fun cdv A outer s H vs Q E hr hG h => ?_)
  · obtain ⟨a, ns, rfl, _⟩ := h
    rfl
  · obtain ⟨a, ns, rfl, hS, hl, q⟩ := h
    refine ⟨_, (pss_cons (ps_set (i := 1) sc_law.nd rfl (.inr rfl) (pe_call G_folded (hr.mono (by decide)) (by rfl) T.g_folded T.F_folded.kp T.b_folded .nil pass0 (pa_cons (pv 0) (pa_cons pe_int pa_nil))))
      (pss_one (ps_ret (pe_callB (cr_all rfl) (by rfl) T.m_all (by decide +kernel) (pa_cons (pe_lc (own := [("_law_k", 2)]) (g := gName 2) (by rfl) sc_law.nd (pi_range1 (by rfl) T.m_range (pa_cons (pe_callB (call_max2 rfl) (by rfl) T.m_max (by decide +kernel) (pa_cons pe_int (pa_cons (pe_callB call_len_seq (by rfl) T.m_len (by decide +kernel) (pa_cons (pv 1) pa_nil)) pa_nil))) pa_nil)) (blkOk_by (own := [("_law_k", 2)]) (N := n_law) (sc := defScope s_law) (by decide +kernel)) (fun _ _ _ _ _ => (pg_name (i := 2) sc_law.nd rfl (.inl rfl) (.inr rfl))) (fun _ _ _ _ _ => pts_nil) (fun _ _ _ _ _ => (pe_callG G_right (hr.mono (by decide)) hG (by rfl) T.g_right T.F_right.kp T.b_right (pa_cons (pe_call G_dip (hr.mono (by decide)) (by rfl) T.g_dip T.F_dip.kp T.b_dip .nil pass0 (pa_cons (pv 1) (pa_cons (pv 2) pa_nil))) pa_nil)))) pa_nil))))), ?_⟩
    refine ⟨.ref a, rfl, a, ns, rfl, hS, hl, fun p ms H1 s1 np hp ml => ?_⟩
    refine ⟨.ref p, rfl, p, _, rfl, .inl (.inl (.inl hp)), 1, _, rfl, _, rfl, ?_, ?_, fun D hD => ?_⟩
    · rw [List.length_map]; split <;> omega
    · rw [List.length_map]; split <;> omega
    generalize hn : (if ((ms.map V.int).length : Int) > 1 then ((ms.map V.int).length : Int) else 1).toNat = n
    have hn3 : n ≤ 3 := by
      rw [← hn, List.length_map]
      split <;> omega
    refine lc_it walk_range (fun i H3 => H3 p = some (.lst (ms.map V.int)) ∧ H3 D = some (.lst (List.replicate i (.bl true)))) ⟨same_upd hD _ _ hp, upd_same⟩ (fun _ _ _ _ => trivial) ?_ ?_
    · rintro i x H3 H4 hi ⟨h1, h2⟩ ⟨rfl, rfl⟩
      refine ⟨rfl, yes (iteT ?_)⟩
      refine ⟨.ref p, rfl, .int (0 + i), rfl, p, ms, i, by show [V.ref p, V.int (0 + (i : Int))] = _; rw [Int.zero_add], .inl (.inl h1), by omega, fun bx H5 s5 nb bB => ?_⟩
      refine ⟨bx, rfl, bB, fun H6 e6 => ?_⟩
      have nD : D ≠ bx := ne_of_none h2 nb
      have nP : p ≠ bx := ne_of_none h1 nb
      have nPD : p ≠ D := ne_of_none hp hD
      refine ⟨_, e6 _ _ nD (s5 _ _ h2), by rw [List.length_replicate]; exact small1000 (by omega), ?_, ?_⟩
      · rw [upd_ne nPD]; exact e6 _ _ nP (s5 _ _ h1)
      · rw [upd_same, List.replicate_succ']
    · rintro H3 ⟨h1, h2⟩
      refine ⟨D, List.replicate n true, rfl, .inl (.inl (by rw [h2, List.map_replicate])), blT ?_ (q _)⟩
      rw [List.all_eq_true]
      intro z hz
      rw [List.eq_of_mem_replicate hz]
      rfl
end

set_option maxHeartbeats 4000000 in
theorem all_mk {l : PySem.W.OpenLaw} {w : World} {K : PySem.W.Frag} {h : Heap} {mg : Str → Option Value} {fa : Addr} (X : K.In h) (G : h.Ns mainGlobals mg) (hfa : mg "law" = some (.ref fa))
    {CHall : Addr} (aCHall : PySem.W.nsIn K mainGlobals "Hall" = some (some (.ref CHall)))
    {CBadHall : Addr} (aCBadHall : PySem.W.nsIn K mainGlobals "BadHall" = some (some (.ref CBadHall)))
    {CNotSums : Addr} (aCNotSums : PySem.W.nsIn K mainGlobals "NotSums" = some (some (.ref CNotSums)))
    {CNoSum : Addr} (aCNoSum : PySem.W.nsIn K mainGlobals "NoSum" = some (some (.ref CNoSum)))
    {CNoPerson : Addr} (aCNoPerson : PySem.W.nsIn K mainGlobals "NoPerson" = some (some (.ref CNoPerson)))
    {f0 : Addr} {od0 an0 : Option Addr} {sl0 : Array (Option Value)} {oc0 kV0 dc0 pm0 cd0 ct0 : Value}
    (a0 : PySem.W.nsIn K mainGlobals "_wall" = some (some (.ref f0)))
    (l0 : K.lookup f0 = some ⟨oc0, od0, .func (PySem.W.fnOf "_wall" "_wall" (defArgs s__wall) (defBody s__wall) (defScope s__wall) .none kV0 dc0 pm0 an0 cd0 ct0), sl0⟩) (c0 : PySem.W.codeIn K cd0 "_wall" = true) (k0 : PySem.W.keepIn K (.ref f0) = true)
    {f1 : Addr} {od1 an1 : Option Addr} {sl1 : Array (Option Value)} {oc1 kV1 dc1 pm1 cd1 ct1 : Value}
    (a1 : PySem.W.findIn K (.ref CNoSum) "__init__" = some (some (.ref f1))) (i1 : PySem.W.isFn K (.ref f1) = true)
    (l1 : K.lookup f1 = some ⟨oc1, od1, .func (PySem.W.fnOf "__init__" "NoSum.__init__" (defArgs s_NoSum_init) (defBody s_NoSum_init) (defScope s_NoSum_init) .none kV1 dc1 pm1 an1 cd1 ct1), sl1⟩) (c1 : PySem.W.codeIn K cd1 "NoSum.__init__" = true) (k1 : PySem.W.keepIn K (.ref f1) = true)
    {f2 : Addr} {od2 an2 : Option Addr} {sl2 : Array (Option Value)} {oc2 kV2 dc2 pm2 cd2 ct2 : Value}
    (a2 : PySem.W.findIn K (.ref CNoPerson) "__init__" = some (some (.ref f2))) (i2 : PySem.W.isFn K (.ref f2) = true)
    (l2 : K.lookup f2 = some ⟨oc2, od2, .func (PySem.W.fnOf "__init__" "NoPerson.__init__" (defArgs s_NoPerson_init) (defBody s_NoPerson_init) (defScope s_NoPerson_init) .none kV2 dc2 pm2 an2 cd2 ct2), sl2⟩) (c2 : PySem.W.codeIn K cd2 "NoPerson.__init__" = true) (k2 : PySem.W.keepIn K (.ref f2) = true)
    {f3 : Addr} {od3 an3 : Option Addr} {sl3 : Array (Option Value)} {oc3 kV3 dc3 pm3 cd3 ct3 : Value}
    (a3 : PySem.W.nsIn K mainGlobals "is_number" = some (some (.ref f3)))
    (l3 : K.lookup f3 = some ⟨oc3, od3, .func (PySem.W.fnOf "is_number" "is_number" (defArgs s_is_number) (defBody s_is_number) (defScope s_is_number) .none kV3 dc3 pm3 an3 cd3 ct3), sl3⟩) (c3 : PySem.W.codeIn K cd3 "is_number" = true) (k3 : PySem.W.keepIn K (.ref f3) = true)
    {f4 : Addr} {od4 an4 : Option Addr} {sl4 : Array (Option Value)} {oc4 kV4 dc4 pm4 cd4 ct4 : Value}
    (a4 : PySem.W.nsIn K mainGlobals "is_person" = some (some (.ref f4)))
    (l4 : K.lookup f4 = some ⟨oc4, od4, .func (PySem.W.fnOf "is_person" "is_person" (defArgs s_is_person) (defBody s_is_person) (defScope s_is_person) .none kV4 dc4 pm4 an4 cd4 ct4), sl4⟩) (c4 : PySem.W.codeIn K cd4 "is_person" = true) (k4 : PySem.W.keepIn K (.ref f4) = true)
    {f5 : Addr} {od5 an5 : Option Addr} {sl5 : Array (Option Value)} {oc5 kV5 dc5 pm5 cd5 ct5 : Value}
    (a5 : PySem.W.nsIn K mainGlobals "are_persons" = some (some (.ref f5)))
    (l5 : K.lookup f5 = some ⟨oc5, od5, .func (PySem.W.fnOf "are_persons" "are_persons" (defArgs s_are_persons) (defBody s_are_persons) (defScope s_are_persons) .none kV5 dc5 pm5 an5 cd5 ct5), sl5⟩) (c5 : PySem.W.codeIn K cd5 "are_persons" = true) (k5 : PySem.W.keepIn K (.ref f5) = true)
    {f6 : Addr} {od6 an6 : Option Addr} {sl6 : Array (Option Value)} {oc6 kV6 dc6 pm6 cd6 ct6 : Value}
    (a6 : PySem.W.nsIn K mainGlobals "rises" = some (some (.ref f6)))
    (l6 : K.lookup f6 = some ⟨oc6, od6, .func (PySem.W.fnOf "rises" "rises" (defArgs s_rises) (defBody s_rises) (defScope s_rises) .none kV6 dc6 pm6 an6 cd6 ct6), sl6⟩) (c6 : PySem.W.codeIn K cd6 "rises" = true) (k6 : PySem.W.keepIn K (.ref f6) = true)
    {f7 : Addr} {od7 an7 : Option Addr} {sl7 : Array (Option Value)} {oc7 kV7 dc7 pm7 cd7 ct7 : Value}
    (a7 : PySem.W.nsIn K mainGlobals "is_rule" = some (some (.ref f7)))
    (l7 : K.lookup f7 = some ⟨oc7, od7, .func (PySem.W.fnOf "is_rule" "is_rule" (defArgs s_is_rule) (defBody s_is_rule) (defScope s_is_rule) .none kV7 dc7 pm7 an7 cd7 ct7), sl7⟩) (c7 : PySem.W.codeIn K cd7 "is_rule" = true) (k7 : PySem.W.keepIn K (.ref f7) = true)
    {f8 : Addr} {od8 an8 : Option Addr} {sl8 : Array (Option Value)} {oc8 kV8 dc8 pm8 cd8 ct8 : Value}
    (a8 : PySem.W.nsIn K mainGlobals "is_part" = some (some (.ref f8)))
    (l8 : K.lookup f8 = some ⟨oc8, od8, .func (PySem.W.fnOf "is_part" "is_part" (defArgs s_is_part) (defBody s_is_part) (defScope s_is_part) .none kV8 dc8 pm8 an8 cd8 ct8), sl8⟩) (c8 : PySem.W.codeIn K cd8 "is_part" = true) (k8 : PySem.W.keepIn K (.ref f8) = true)
    {f9 : Addr} {od9 an9 : Option Addr} {sl9 : Array (Option Value)} {oc9 kV9 dc9 pm9 cd9 ct9 : Value}
    (a9 : PySem.W.nsIn K mainGlobals "are_ties" = some (some (.ref f9)))
    (l9 : K.lookup f9 = some ⟨oc9, od9, .func (PySem.W.fnOf "are_ties" "are_ties" (defArgs s_are_ties) (defBody s_are_ties) (defScope s_are_ties) .none kV9 dc9 pm9 an9 cd9 ct9), sl9⟩) (c9 : PySem.W.codeIn K cd9 "are_ties" = true) (k9 : PySem.W.keepIn K (.ref f9) = true)
    {f10 : Addr} {od10 an10 : Option Addr} {sl10 : Array (Option Value)} {oc10 kV10 dc10 pm10 cd10 ct10 : Value}
    (a10 : PySem.W.nsIn K mainGlobals "is_tie" = some (some (.ref f10)))
    (l10 : K.lookup f10 = some ⟨oc10, od10, .func (PySem.W.fnOf "is_tie" "is_tie" (defArgs s_is_tie) (defBody s_is_tie) (defScope s_is_tie) .none kV10 dc10 pm10 an10 cd10 ct10), sl10⟩) (c10 : PySem.W.codeIn K cd10 "is_tie" = true) (k10 : PySem.W.keepIn K (.ref f10) = true)
    {f11 : Addr} {od11 an11 : Option Addr} {sl11 : Array (Option Value)} {oc11 kV11 dc11 pm11 cd11 ct11 : Value}
    (a11 : PySem.W.nsIn K mainGlobals "seen_by" = some (some (.ref f11)))
    (l11 : K.lookup f11 = some ⟨oc11, od11, .func (PySem.W.fnOf "seen_by" "seen_by" (defArgs s_seen_by) (defBody s_seen_by) (defScope s_seen_by) .none kV11 dc11 pm11 an11 cd11 ct11), sl11⟩) (c11 : PySem.W.codeIn K cd11 "seen_by" = true) (k11 : PySem.W.keepIn K (.ref f11) = true)
    {f12 : Addr} {od12 an12 : Option Addr} {sl12 : Array (Option Value)} {oc12 kV12 dc12 pm12 cd12 ct12 : Value}
    (a12 : PySem.W.nsIn K mainGlobals "ties_of" = some (some (.ref f12)))
    (l12 : K.lookup f12 = some ⟨oc12, od12, .func (PySem.W.fnOf "ties_of" "ties_of" (defArgs s_ties_of) (defBody s_ties_of) (defScope s_ties_of) .none kV12 dc12 pm12 an12 cd12 ct12), sl12⟩) (c12 : PySem.W.codeIn K cd12 "ties_of" = true) (k12 : PySem.W.keepIn K (.ref f12) = true)
    {f13 : Addr} {od13 an13 : Option Addr} {sl13 : Array (Option Value)} {oc13 kV13 dc13 pm13 cd13 ct13 : Value}
    (a13 : PySem.W.nsIn K mainGlobals "tied_so" = some (some (.ref f13)))
    (l13 : K.lookup f13 = some ⟨oc13, od13, .func (PySem.W.fnOf "tied_so" "tied_so" (defArgs s_tied_so) (defBody s_tied_so) (defScope s_tied_so) .none kV13 dc13 pm13 an13 cd13 ct13), sl13⟩) (c13 : PySem.W.codeIn K cd13 "tied_so" = true) (k13 : PySem.W.keepIn K (.ref f13) = true)
    {f14 : Addr} {od14 an14 : Option Addr} {sl14 : Array (Option Value)} {oc14 kV14 dc14 pm14 cd14 ct14 : Value}
    (a14 : PySem.W.nsIn K mainGlobals "told_of" = some (some (.ref f14)))
    (l14 : K.lookup f14 = some ⟨oc14, od14, .func (PySem.W.fnOf "told_of" "told_of" (defArgs s_told_of) (defBody s_told_of) (defScope s_told_of) .none kV14 dc14 pm14 an14 cd14 ct14), sl14⟩) (c14 : PySem.W.codeIn K cd14 "told_of" = true) (k14 : PySem.W.keepIn K (.ref f14) = true)
    {f15 : Addr} {od15 an15 : Option Addr} {sl15 : Array (Option Value)} {oc15 kV15 dc15 pm15 cd15 ct15 : Value}
    (a15 : PySem.W.nsIn K mainGlobals "weighed" = some (some (.ref f15)))
    (l15 : K.lookup f15 = some ⟨oc15, od15, .func (PySem.W.fnOf "weighed" "weighed" (defArgs s_weighed) (defBody s_weighed) (defScope s_weighed) .none kV15 dc15 pm15 an15 cd15 ct15), sl15⟩) (c15 : PySem.W.codeIn K cd15 "weighed" = true) (k15 : PySem.W.keepIn K (.ref f15) = true)
    {f16 : Addr} {od16 an16 : Option Addr} {sl16 : Array (Option Value)} {oc16 kV16 dc16 pm16 cd16 ct16 : Value}
    (a16 : PySem.W.nsIn K mainGlobals "least_free" = some (some (.ref f16)))
    (l16 : K.lookup f16 = some ⟨oc16, od16, .func (PySem.W.fnOf "least_free" "least_free" (defArgs s_least_free) (defBody s_least_free) (defScope s_least_free) .none kV16 dc16 pm16 an16 cd16 ct16), sl16⟩) (c16 : PySem.W.codeIn K cd16 "least_free" = true) (k16 : PySem.W.keepIn K (.ref f16) = true)
    {f17 : Addr} {od17 an17 : Option Addr} {sl17 : Array (Option Value)} {oc17 kV17 dc17 pm17 cd17 ct17 : Value}
    (a17 : PySem.W.findIn K (.ref CHall) "__init__" = some (some (.ref f17))) (i17 : PySem.W.isFn K (.ref f17) = true)
    (l17 : K.lookup f17 = some ⟨oc17, od17, .func (PySem.W.fnOf "__init__" "Hall.__init__" (defArgs s_Hall_init) (defBody s_Hall_init) (defScope s_Hall_init) .none kV17 dc17 pm17 an17 cd17 ct17), sl17⟩) (c17 : PySem.W.codeIn K cd17 "Hall.__init__" = true) (k17 : PySem.W.keepIn K (.ref f17) = true)
    {f18 : Addr} {od18 an18 : Option Addr} {sl18 : Array (Option Value)} {oc18 kV18 dc18 pm18 cd18 ct18 : Value}
    (a18 : PySem.W.findIn K (.ref CHall) "must_have" = some (some (.ref f18))) (i18 : PySem.W.isFn K (.ref f18) = true)
    (l18 : K.lookup f18 = some ⟨oc18, od18, .func (PySem.W.fnOf "must_have" "Hall.must_have" (defArgs s_Hall_must_have) (defBody s_Hall_must_have) (defScope s_Hall_must_have) .none kV18 dc18 pm18 an18 cd18 ct18), sl18⟩) (c18 : PySem.W.codeIn K cd18 "Hall.must_have" = true) (k18 : PySem.W.keepIn K (.ref f18) = true)
    {f19 : Addr} {od19 an19 : Option Addr} {sl19 : Array (Option Value)} {oc19 kV19 dc19 pm19 cd19 ct19 : Value}
    (a19 : PySem.W.findIn K (.ref CHall) "rules" = some (some (.ref f19))) (i19 : PySem.W.isFn K (.ref f19) = true)
    (l19 : K.lookup f19 = some ⟨oc19, od19, .func (PySem.W.fnOf "rules" "Hall.rules" (defArgs s_Hall_rules) (defBody s_Hall_rules) (defScope s_Hall_rules) .none kV19 dc19 pm19 an19 cd19 ct19), sl19⟩) (c19 : PySem.W.codeIn K cd19 "Hall.rules" = true) (k19 : PySem.W.keepIn K (.ref f19) = true)
    {f20 : Addr} {od20 an20 : Option Addr} {sl20 : Array (Option Value)} {oc20 kV20 dc20 pm20 cd20 ct20 : Value}
    (a20 : PySem.W.findIn K (.ref CHall) "rule" = some (some (.ref f20))) (i20 : PySem.W.isFn K (.ref f20) = true)
    (l20 : K.lookup f20 = some ⟨oc20, od20, .func (PySem.W.fnOf "rule" "Hall.rule" (defArgs s_Hall_rule) (defBody s_Hall_rule) (defScope s_Hall_rule) .none kV20 dc20 pm20 an20 cd20 ct20), sl20⟩) (c20 : PySem.W.codeIn K cd20 "Hall.rule" = true) (k20 : PySem.W.keepIn K (.ref f20) = true)
    {f21 : Addr} {od21 an21 : Option Addr} {sl21 : Array (Option Value)} {oc21 kV21 dc21 pm21 cd21 ct21 : Value}
    (a21 : PySem.W.findIn K (.ref CHall) "sees" = some (some (.ref f21))) (i21 : PySem.W.isFn K (.ref f21) = true)
    (l21 : K.lookup f21 = some ⟨oc21, od21, .func (PySem.W.fnOf "sees" "Hall.sees" (defArgs s_Hall_sees) (defBody s_Hall_sees) (defScope s_Hall_sees) .none kV21 dc21 pm21 an21 cd21 ct21), sl21⟩) (c21 : PySem.W.codeIn K cd21 "Hall.sees" = true) (k21 : PySem.W.keepIn K (.ref f21) = true)
    {f22 : Addr} {od22 an22 : Option Addr} {sl22 : Array (Option Value)} {oc22 kV22 dc22 pm22 cd22 ct22 : Value}
    (a22 : PySem.W.findIn K (.ref CHall) "seers" = some (some (.ref f22))) (i22 : PySem.W.isFn K (.ref f22) = true)
    (l22 : K.lookup f22 = some ⟨oc22, od22, .func (PySem.W.fnOf "seers" "Hall.seers" (defArgs s_Hall_seers) (defBody s_Hall_seers) (defScope s_Hall_seers) .none kV22 dc22 pm22 an22 cd22 ct22), sl22⟩) (c22 : PySem.W.codeIn K cd22 "Hall.seers" = true) (k22 : PySem.W.keepIn K (.ref f22) = true)
    {f23 : Addr} {od23 an23 : Option Addr} {sl23 : Array (Option Value)} {oc23 kV23 dc23 pm23 cd23 ct23 : Value}
    (a23 : PySem.W.findIn K (.ref CHall) "__eq__" = some (some (.ref f23))) (i23 : PySem.W.isFn K (.ref f23) = true)
    (l23 : K.lookup f23 = some ⟨oc23, od23, .func (PySem.W.fnOf "__eq__" "Hall.__eq__" (defArgs s_Hall_eq) (defBody s_Hall_eq) (defScope s_Hall_eq) .none kV23 dc23 pm23 an23 cd23 ct23), sl23⟩) (c23 : PySem.W.codeIn K cd23 "Hall.__eq__" = true) (k23 : PySem.W.keepIn K (.ref f23) = true)
    {f24 : Addr} {od24 an24 : Option Addr} {sl24 : Array (Option Value)} {oc24 kV24 dc24 pm24 cd24 ct24 : Value}
    (a24 : PySem.W.findIn K (.ref CHall) "__len__" = some (some (.ref f24))) (i24 : PySem.W.isFn K (.ref f24) = true)
    (l24 : K.lookup f24 = some ⟨oc24, od24, .func (PySem.W.fnOf "__len__" "Hall.__len__" (defArgs s_Hall_len) (defBody s_Hall_len) (defScope s_Hall_len) .none kV24 dc24 pm24 an24 cd24 ct24), sl24⟩) (c24 : PySem.W.codeIn K cd24 "Hall.__len__" = true) (k24 : PySem.W.keepIn K (.ref f24) = true)
    {f25 : Addr} {od25 an25 : Option Addr} {sl25 : Array (Option Value)} {oc25 kV25 dc25 pm25 cd25 ct25 : Value}
    (a25 : PySem.W.findIn K (.ref CHall) "__repr__" = some (some (.ref f25))) (i25 : PySem.W.isFn K (.ref f25) = true)
    (l25 : K.lookup f25 = some ⟨oc25, od25, .func (PySem.W.fnOf "__repr__" "Hall.__repr__" (defArgs s_Hall_repr) (defBody s_Hall_repr) (defScope s_Hall_repr) .none kV25 dc25 pm25 an25 cd25 ct25), sl25⟩) (c25 : PySem.W.codeIn K cd25 "Hall.__repr__" = true) (k25 : PySem.W.keepIn K (.ref f25) = true)
    {f26 : Addr} {od26 an26 : Option Addr} {sl26 : Array (Option Value)} {oc26 kV26 dc26 pm26 cd26 ct26 : Value}
    (a26 : PySem.W.nsIn K mainGlobals "with_rule" = some (some (.ref f26)))
    (l26 : K.lookup f26 = some ⟨oc26, od26, .func (PySem.W.fnOf "with_rule" "with_rule" (defArgs s_with_rule) (defBody s_with_rule) (defScope s_with_rule) .none kV26 dc26 pm26 an26 cd26 ct26), sl26⟩) (c26 : PySem.W.codeIn K cd26 "with_rule" = true) (k26 : PySem.W.keepIn K (.ref f26) = true)
    {f27 : Addr} {od27 an27 : Option Addr} {sl27 : Array (Option Value)} {oc27 kV27 dc27 pm27 cd27 ct27 : Value}
    (a27 : PySem.W.nsIn K mainGlobals "held_at" = some (some (.ref f27)))
    (l27 : K.lookup f27 = some ⟨oc27, od27, .func (PySem.W.fnOf "held_at" "held_at" (defArgs s_held_at) (defBody s_held_at) (defScope s_held_at) .none kV27 dc27 pm27 an27 cd27 ct27), sl27⟩) (c27 : PySem.W.codeIn K cd27 "held_at" = true) (k27 : PySem.W.keepIn K (.ref f27) = true)
    {f28 : Addr} {od28 an28 : Option Addr} {sl28 : Array (Option Value)} {oc28 kV28 dc28 pm28 cd28 ct28 : Value}
    (a28 : PySem.W.nsIn K mainGlobals "tied" = some (some (.ref f28)))
    (l28 : K.lookup f28 = some ⟨oc28, od28, .func (PySem.W.fnOf "tied" "tied" (defArgs s_tied) (defBody s_tied) (defScope s_tied) .none kV28 dc28 pm28 an28 cd28 ct28), sl28⟩) (c28 : PySem.W.codeIn K cd28 "tied" = true) (k28 : PySem.W.keepIn K (.ref f28) = true)
    {f29 : Addr} {od29 an29 : Option Addr} {sl29 : Array (Option Value)} {oc29 kV29 dc29 pm29 cd29 ct29 : Value}
    (a29 : PySem.W.nsIn K mainGlobals "lot_below" = some (some (.ref f29)))
    (l29 : K.lookup f29 = some ⟨oc29, od29, .func (PySem.W.fnOf "lot_below" "lot_below" (defArgs s_lot_below) (defBody s_lot_below) (defScope s_lot_below) .none kV29 dc29 pm29 an29 cd29 ct29), sl29⟩) (c29 : PySem.W.codeIn K cd29 "lot_below" = true) (k29 : PySem.W.keepIn K (.ref f29) = true)
    {f30 : Addr} {od30 an30 : Option Addr} {sl30 : Array (Option Value)} {oc30 kV30 dc30 pm30 cd30 ct30 : Value}
    (a30 : PySem.W.nsIn K mainGlobals "told_below" = some (some (.ref f30)))
    (l30 : K.lookup f30 = some ⟨oc30, od30, .func (PySem.W.fnOf "told_below" "told_below" (defArgs s_told_below) (defBody s_told_below) (defScope s_told_below) .none kV30 dc30 pm30 an30 cd30 ct30), sl30⟩) (c30 : PySem.W.codeIn K cd30 "told_below" = true) (k30 : PySem.W.keepIn K (.ref f30) = true)
    {f31 : Addr} {od31 an31 : Option Addr} {sl31 : Array (Option Value)} {oc31 kV31 dc31 pm31 cd31 ct31 : Value}
    (a31 : PySem.W.nsIn K mainGlobals "told_at" = some (some (.ref f31)))
    (l31 : K.lookup f31 = some ⟨oc31, od31, .func (PySem.W.fnOf "told_at" "told_at" (defArgs s_told_at) (defBody s_told_at) (defScope s_told_at) .none kV31 dc31 pm31 an31 cd31 ct31), sl31⟩) (c31 : PySem.W.codeIn K cd31 "told_at" = true) (k31 : PySem.W.keepIn K (.ref f31) = true)
    {f32 : Addr} {od32 an32 : Option Addr} {sl32 : Array (Option Value)} {oc32 kV32 dc32 pm32 cd32 ct32 : Value}
    (a32 : PySem.W.nsIn K mainGlobals "turned" = some (some (.ref f32)))
    (l32 : K.lookup f32 = some ⟨oc32, od32, .func (PySem.W.fnOf "turned" "turned" (defArgs s_turned) (defBody s_turned) (defScope s_turned) .none kV32 dc32 pm32 an32 cd32 ct32), sl32⟩) (c32 : PySem.W.codeIn K cd32 "turned" = true) (k32 : PySem.W.keepIn K (.ref f32) = true)
    {f33 : Addr} {od33 an33 : Option Addr} {sl33 : Array (Option Value)} {oc33 kV33 dc33 pm33 cd33 ct33 : Value}
    (a33 : PySem.W.nsIn K mainGlobals "beaten" = some (some (.ref f33)))
    (l33 : K.lookup f33 = some ⟨oc33, od33, .func (PySem.W.fnOf "beaten" "beaten" (defArgs s_beaten) (defBody s_beaten) (defScope s_beaten) .none kV33 dc33 pm33 an33 cd33 ct33), sl33⟩) (c33 : PySem.W.codeIn K cd33 "beaten" = true) (k33 : PySem.W.keepIn K (.ref f33) = true)
    {f34 : Addr} {od34 an34 : Option Addr} {sl34 : Array (Option Value)} {oc34 kV34 dc34 pm34 cd34 ct34 : Value}
    (a34 : PySem.W.nsIn K mainGlobals "history" = some (some (.ref f34)))
    (l34 : K.lookup f34 = some ⟨oc34, od34, .func (PySem.W.fnOf "history" "history" (defArgs s_history) (defBody s_history) (defScope s_history) .none kV34 dc34 pm34 an34 cd34 ct34), sl34⟩) (c34 : PySem.W.codeIn K cd34 "history" = true) (k34 : PySem.W.keepIn K (.ref f34) = true)
    {f35 : Addr} {od35 an35 : Option Addr} {sl35 : Array (Option Value)} {oc35 kV35 dc35 pm35 cd35 ct35 : Value}
    (a35 : PySem.W.nsIn K mainGlobals "_law_dip" = some (some (.ref f35)))
    (l35 : K.lookup f35 = some ⟨oc35, od35, .func (PySem.W.fnOf "_law_dip" "_law_dip" (defArgs s_dip) (defBody s_dip) (defScope s_dip) .none kV35 dc35 pm35 an35 cd35 ct35), sl35⟩) (c35 : PySem.W.codeIn K cd35 "_law_dip" = true) (k35 : PySem.W.keepIn K (.ref f35) = true)
    {f36 : Addr} {od36 an36 : Option Addr} {sl36 : Array (Option Value)} {oc36 kV36 dc36 pm36 cd36 ct36 : Value}
    (a36 : PySem.W.nsIn K mainGlobals "_law_take" = some (some (.ref f36)))
    (l36 : K.lookup f36 = some ⟨oc36, od36, .func (PySem.W.fnOf "_law_take" "_law_take" (defArgs s_take) (defBody s_take) (defScope s_take) .none kV36 dc36 pm36 an36 cd36 ct36), sl36⟩) (c36 : PySem.W.codeIn K cd36 "_law_take" = true) (k36 : PySem.W.keepIn K (.ref f36) = true)
    {f37 : Addr} {od37 an37 : Option Addr} {sl37 : Array (Option Value)} {oc37 kV37 dc37 pm37 cd37 ct37 : Value}
    (a37 : PySem.W.nsIn K mainGlobals "_law_folded" = some (some (.ref f37)))
    (l37 : K.lookup f37 = some ⟨oc37, od37, .func (PySem.W.fnOf "_law_folded" "_law_folded" (defArgs s_folded) (defBody s_folded) (defScope s_folded) .none kV37 dc37 pm37 an37 cd37 ct37), sl37⟩) (c37 : PySem.W.codeIn K cd37 "_law_folded" = true) (k37 : PySem.W.keepIn K (.ref f37) = true)
    {f38 : Addr} {od38 an38 : Option Addr} {sl38 : Array (Option Value)} {oc38 kV38 dc38 pm38 cd38 ct38 : Value}
    (a38 : PySem.W.nsIn K mainGlobals "_law_strewn" = some (some (.ref f38)))
    (l38 : K.lookup f38 = some ⟨oc38, od38, .func (PySem.W.fnOf "_law_strewn" "_law_strewn" (defArgs s_strewn) (defBody s_strewn) (defScope s_strewn) .none kV38 dc38 pm38 an38 cd38 ct38), sl38⟩) (c38 : PySem.W.codeIn K cd38 "_law_strewn" = true) (k38 : PySem.W.keepIn K (.ref f38) = true)
    {f39 : Addr} {od39 an39 : Option Addr} {sl39 : Array (Option Value)} {oc39 kV39 dc39 pm39 cd39 ct39 : Value}
    (a39 : PySem.W.nsIn K mainGlobals "_law_same" = some (some (.ref f39)))
    (l39 : K.lookup f39 = some ⟨oc39, od39, .func (PySem.W.fnOf "_law_same" "_law_same" (defArgs s_same) (defBody s_same) (defScope s_same) .none kV39 dc39 pm39 an39 cd39 ct39), sl39⟩) (c39 : PySem.W.codeIn K cd39 "_law_same" = true) (k39 : PySem.W.keepIn K (.ref f39) = true)
    {f40 : Addr} {od40 an40 : Option Addr} {sl40 : Array (Option Value)} {oc40 kV40 dc40 pm40 cd40 ct40 : Value}
    (a40 : PySem.W.nsIn K mainGlobals "_law_some" = some (some (.ref f40)))
    (l40 : K.lookup f40 = some ⟨oc40, od40, .func (PySem.W.fnOf "_law_some" "_law_some" (defArgs s_some) (defBody s_some) (defScope s_some) .none kV40 dc40 pm40 an40 cd40 ct40), sl40⟩) (c40 : PySem.W.codeIn K cd40 "_law_some" = true) (k40 : PySem.W.keepIn K (.ref f40) = true)
    {f41 : Addr} {od41 an41 : Option Addr} {sl41 : Array (Option Value)} {oc41 kV41 dc41 pm41 cd41 ct41 : Value}
    (a41 : PySem.W.nsIn K mainGlobals "_law_sum_rule" = some (some (.ref f41)))
    (l41 : K.lookup f41 = some ⟨oc41, od41, .func (PySem.W.fnOf "_law_sum_rule" "_law_sum_rule" (defArgs s_sum_rule) (defBody s_sum_rule) (defScope s_sum_rule) .none kV41 dc41 pm41 an41 cd41 ct41), sl41⟩) (c41 : PySem.W.codeIn K cd41 "_law_sum_rule" = true) (k41 : PySem.W.keepIn K (.ref f41) = true)
    {f42 : Addr} {od42 an42 : Option Addr} {sl42 : Array (Option Value)} {oc42 kV42 dc42 pm42 cd42 ct42 : Value}
    (a42 : PySem.W.nsIn K mainGlobals "_law_rule" = some (some (.ref f42)))
    (l42 : K.lookup f42 = some ⟨oc42, od42, .func (PySem.W.fnOf "_law_rule" "_law_rule" (defArgs s_rule) (defBody s_rule) (defScope s_rule) .none kV42 dc42 pm42 an42 cd42 ct42), sl42⟩) (c42 : PySem.W.codeIn K cd42 "_law_rule" = true) (k42 : PySem.W.keepIn K (.ref f42) = true)
    {f43 : Addr} {od43 an43 : Option Addr} {sl43 : Array (Option Value)} {oc43 kV43 dc43 pm43 cd43 ct43 : Value}
    (a43 : PySem.W.nsIn K mainGlobals "_law_hall" = some (some (.ref f43)))
    (l43 : K.lookup f43 = some ⟨oc43, od43, .func (PySem.W.fnOf "_law_hall" "_law_hall" (defArgs s_hall) (defBody s_hall) (defScope s_hall) .none kV43 dc43 pm43 an43 cd43 ct43), sl43⟩) (c43 : PySem.W.codeIn K cd43 "_law_hall" = true) (k43 : PySem.W.keepIn K (.ref f43) = true)
    {f44 : Addr} {od44 an44 : Option Addr} {sl44 : Array (Option Value)} {oc44 kV44 dc44 pm44 cd44 ct44 : Value}
    (a44 : PySem.W.nsIn K mainGlobals "_law_flat" = some (some (.ref f44)))
    (l44 : K.lookup f44 = some ⟨oc44, od44, .func (PySem.W.fnOf "_law_flat" "_law_flat" (defArgs s_flat) (defBody s_flat) (defScope s_flat) .none kV44 dc44 pm44 an44 cd44 ct44), sl44⟩) (c44 : PySem.W.codeIn K cd44 "_law_flat" = true) (k44 : PySem.W.keepIn K (.ref f44) = true)
    {f45 : Addr} {od45 an45 : Option Addr} {sl45 : Array (Option Value)} {oc45 kV45 dc45 pm45 cd45 ct45 : Value}
    (a45 : PySem.W.nsIn K mainGlobals "_law_shown" = some (some (.ref f45)))
    (l45 : K.lookup f45 = some ⟨oc45, od45, .func (PySem.W.fnOf "_law_shown" "_law_shown" (defArgs s_shown) (defBody s_shown) (defScope s_shown) .none kV45 dc45 pm45 an45 cd45 ct45), sl45⟩) (c45 : PySem.W.codeIn K cd45 "_law_shown" = true) (k45 : PySem.W.keepIn K (.ref f45) = true)
    {f46 : Addr} {od46 an46 : Option Addr} {sl46 : Array (Option Value)} {oc46 kV46 dc46 pm46 cd46 ct46 : Value}
    (a46 : PySem.W.nsIn K mainGlobals "_law_seen" = some (some (.ref f46)))
    (l46 : K.lookup f46 = some ⟨oc46, od46, .func (PySem.W.fnOf "_law_seen" "_law_seen" (defArgs s_seen) (defBody s_seen) (defScope s_seen) .none kV46 dc46 pm46 an46 cd46 ct46), sl46⟩) (c46 : PySem.W.codeIn K cd46 "_law_seen" = true) (k46 : PySem.W.keepIn K (.ref f46) = true)
    {f47 : Addr} {od47 an47 : Option Addr} {sl47 : Array (Option Value)} {oc47 kV47 dc47 pm47 cd47 ct47 : Value}
    (a47 : PySem.W.nsIn K mainGlobals "_law_lot" = some (some (.ref f47)))
    (l47 : K.lookup f47 = some ⟨oc47, od47, .func (PySem.W.fnOf "_law_lot" "_law_lot" (defArgs s_lot) (defBody s_lot) (defScope s_lot) .none kV47 dc47 pm47 an47 cd47 ct47), sl47⟩) (c47 : PySem.W.codeIn K cd47 "_law_lot" = true) (k47 : PySem.W.keepIn K (.ref f47) = true)
    {f48 : Addr} {od48 an48 : Option Addr} {sl48 : Array (Option Value)} {oc48 kV48 dc48 pm48 cd48 ct48 : Value}
    (a48 : PySem.W.nsIn K mainGlobals "_law_tells" = some (some (.ref f48)))
    (l48 : K.lookup f48 = some ⟨oc48, od48, .func (PySem.W.fnOf "_law_tells" "_law_tells" (defArgs s_tells) (defBody s_tells) (defScope s_tells) .none kV48 dc48 pm48 an48 cd48 ct48), sl48⟩) (c48 : PySem.W.codeIn K cd48 "_law_tells" = true) (k48 : PySem.W.keepIn K (.ref f48) = true)
    {f49 : Addr} {od49 an49 : Option Addr} {sl49 : Array (Option Value)} {oc49 kV49 dc49 pm49 cd49 ct49 : Value}
    (a49 : PySem.W.nsIn K mainGlobals "_law_turned" = some (some (.ref f49)))
    (l49 : K.lookup f49 = some ⟨oc49, od49, .func (PySem.W.fnOf "_law_turned" "_law_turned" (defArgs s_law_turned) (defBody s_law_turned) (defScope s_law_turned) .none kV49 dc49 pm49 an49 cd49 ct49), sl49⟩) (c49 : PySem.W.codeIn K cd49 "_law_turned" = true) (k49 : PySem.W.keepIn K (.ref f49) = true)
    {f50 : Addr} {od50 an50 : Option Addr} {sl50 : Array (Option Value)} {oc50 kV50 dc50 pm50 cd50 ct50 : Value}
    (a50 : PySem.W.nsIn K mainGlobals "_law_beaten" = some (some (.ref f50)))
    (l50 : K.lookup f50 = some ⟨oc50, od50, .func (PySem.W.fnOf "_law_beaten" "_law_beaten" (defArgs s_law_beaten) (defBody s_law_beaten) (defScope s_law_beaten) .none kV50 dc50 pm50 an50 cd50 ct50), sl50⟩) (c50 : PySem.W.codeIn K cd50 "_law_beaten" = true) (k50 : PySem.W.keepIn K (.ref f50) = true)
    {f51 : Addr} {od51 an51 : Option Addr} {sl51 : Array (Option Value)} {oc51 kV51 dc51 pm51 cd51 ct51 : Value}
    (a51 : PySem.W.nsIn K mainGlobals "_law_tied_rule" = some (some (.ref f51)))
    (l51 : K.lookup f51 = some ⟨oc51, od51, .func (PySem.W.fnOf "_law_tied_rule" "_law_tied_rule" (defArgs s_tied_rule) (defBody s_tied_rule) (defScope s_tied_rule) .none kV51 dc51 pm51 an51 cd51 ct51), sl51⟩) (c51 : PySem.W.codeIn K cd51 "_law_tied_rule" = true) (k51 : PySem.W.keepIn K (.ref f51) = true)
    {f52 : Addr} {od52 an52 : Option Addr} {sl52 : Array (Option Value)} {oc52 kV52 dc52 pm52 cd52 ct52 : Value}
    (a52 : PySem.W.nsIn K mainGlobals "_law_told" = some (some (.ref f52)))
    (l52 : K.lookup f52 = some ⟨oc52, od52, .func (PySem.W.fnOf "_law_told" "_law_told" (defArgs s_told) (defBody s_told) (defScope s_told) .none kV52 dc52 pm52 an52 cd52 ct52), sl52⟩) (c52 : PySem.W.codeIn K cd52 "_law_told" = true) (k52 : PySem.W.keepIn K (.ref f52) = true)
    {f53 : Addr} {od53 an53 : Option Addr} {sl53 : Array (Option Value)} {oc53 kV53 dc53 pm53 cd53 ct53 : Value}
    (a53 : PySem.W.nsIn K mainGlobals "_law_due" = some (some (.ref f53)))
    (l53 : K.lookup f53 = some ⟨oc53, od53, .func (PySem.W.fnOf "_law_due" "_law_due" (defArgs s_due) (defBody s_due) (defScope s_due) .none kV53 dc53 pm53 an53 cd53 ct53), sl53⟩) (c53 : PySem.W.codeIn K cd53 "_law_due" = true) (k53 : PySem.W.keepIn K (.ref f53) = true)
    {f54 : Addr} {od54 an54 : Option Addr} {sl54 : Array (Option Value)} {oc54 kV54 dc54 pm54 cd54 ct54 : Value}
    (a54 : PySem.W.nsIn K mainGlobals "_law_right" = some (some (.ref f54)))
    (l54 : K.lookup f54 = some ⟨oc54, od54, .func (PySem.W.fnOf "_law_right" "_law_right" (defArgs s_right) (defBody s_right) (defScope s_right) .none kV54 dc54 pm54 an54 cd54 ct54), sl54⟩) (c54 : PySem.W.codeIn K cd54 "_law_right" = true) (k54 : PySem.W.keepIn K (.ref f54) = true)
    {f55 : Addr} {od55 an55 : Option Addr} {sl55 : Array (Option Value)} {oc55 kV55 dc55 pm55 cd55 ct55 : Value}
    (a55 : PySem.W.nsIn K mainGlobals "law" = some (some (.ref f55)))
    (l55 : K.lookup f55 = some ⟨oc55, od55, .func (PySem.W.fnOf "law" "law" (defArgs s_law) (defBody s_law) (defScope s_law) .none kV55 dc55 pm55 an55 cd55 ct55), sl55⟩) (c55 : PySem.W.codeIn K cd55 "law" = true) (k55 : PySem.W.keepIn K (.ref f55) = true)
    (pgHall : PySem.W.plainGet K CHall Str.empty = true) (hdHall : PySem.W.hasDictIn K CHall = true) (poHall : PySem.W.plainOver K CHall = true) (saHall : PySem.W.findIn K (.ref CHall) "__setattr__" = some (some (.builtin "object.__setattr__"))) (mkHall : PySem.W.makesIn K CHall = true) (kcHall : PySem.W.keepIn K (.ref CHall) = true)
    (nHall_kept : PySem.W.findIn K (.ref CHall) "kept" = some none)
    (neHall : PySem.W.findIn K (.ref CHall) "__ne__" = some (some (.builtin "object.__ne__"))) (j1Hall : PySem.W.findIn K (.ref CHall) "__class__" = some (some (.builtin "object.__class__"))) (j2Hall : PySem.W.specialIn K (.builtin "object.__class__") "__get__" = some (some (.builtin "getset_descriptor.__get__"))) (j3Hall : PySem.W.takesIn K (.builtin "object.__class__") = some true) (j4Hall : PySem.W.mroIn K CHall (.type "object") = some true)
    (ebBadHall : PySem.W.subIn K (.ref CBadHall) (.type "BaseException") = some true) (hdBadHall : PySem.W.hasDictIn K CBadHall = true) (tyBadHall : PySem.W.typeIn K (.ref CBadHall) = some (.type "type"))
    (ebNotSums : PySem.W.subIn K (.ref CNotSums) (.type "BaseException") = some true) (hdNotSums : PySem.W.hasDictIn K CNotSums = true) (tyNotSums : PySem.W.typeIn K (.ref CNotSums) = some (.type "type"))
    (ebNoSum : PySem.W.subIn K (.ref CNoSum) (.type "BaseException") = some true) (hdNoSum : PySem.W.hasDictIn K CNoSum = true) (tyNoSum : PySem.W.typeIn K (.ref CNoSum) = some (.type "type"))
    {nmNoSum qqNoSum : Str} {NNoSum : Addr} {bsNoSum : List Value} {snNoSum : List Str} {sbNoSum : List Value} {abNoSum : Bool} {coNoSum : Option Bool} {ddNoSum : Option Addr} {m0NoSum m1NoSum m2NoSum m3NoSum m5NoSum : Option Value}
    (xLNoSum : K.lookup CNoSum = some (excClassObj nmNoSum qqNoSum CNoSum NNoSum bsNoSum [.type "ValueError", .type "Exception", .type "BaseException", .type "object"] true snNoSum sbNoSum abNoSum coNoSum ddNoSum m0NoSum m1NoSum m2NoSum m3NoSum m5NoSum "ValueError.__new__"))
    (saNoSum : PySem.W.findIn K (.ref CNoSum) "__setattr__" = some (some (.builtin "object.__setattr__"))) (kcNoSum : PySem.W.keepIn K (.ref CNoSum) = true) (tiNoSum : PySem.W.typeIn K (.ref f1) = some (.type "function"))
    (gaNoSum : PySem.W.findIn K (.ref CNoSum) "__getattribute__" = some (some (.builtin "BaseException.__getattribute__"))) (ggNoSum : PySem.W.findIn K (.ref CNoSum) "__getattr__" = some none)
    (j1NoSum : PySem.W.findIn K (.ref CNoSum) "__class__" = some (some (.builtin "object.__class__"))) (j2NoSum : PySem.W.specialIn K (.builtin "object.__class__") "__get__" = some (some (.builtin "getset_descriptor.__get__"))) (j3NoSum : PySem.W.takesIn K (.builtin "object.__class__") = some true) (j4NoSum : PySem.W.mroIn K CNoSum (.type "object") = some true)
    (nNoSum_person : PySem.W.findIn K (.ref CNoSum) "person" = some none)
    (sbNoSum_NoPerson : PySem.W.subIn K (.ref CNoSum) (.ref CNoPerson) = some false)
    (sbNoSum_NoSum : PySem.W.subIn K (.ref CNoSum) (.ref CNoSum) = some true)
    (sbNoSum_NotSums : PySem.W.subIn K (.ref CNoSum) (.ref CNotSums) = some false)
    (suNoSum_IndexError : PySem.W.subIn K (.ref CNoSum) (.type "IndexError") = some false)
    (suNoSum_ValueError : PySem.W.subIn K (.ref CNoSum) (.type "ValueError") = some true)
    (ebNoPerson : PySem.W.subIn K (.ref CNoPerson) (.type "BaseException") = some true) (hdNoPerson : PySem.W.hasDictIn K CNoPerson = true) (tyNoPerson : PySem.W.typeIn K (.ref CNoPerson) = some (.type "type"))
    {nmNoPerson qqNoPerson : Str} {NNoPerson : Addr} {bsNoPerson : List Value} {snNoPerson : List Str} {sbNoPerson : List Value} {abNoPerson : Bool} {coNoPerson : Option Bool} {ddNoPerson : Option Addr} {m0NoPerson m1NoPerson m2NoPerson m3NoPerson m5NoPerson : Option Value}
    (xLNoPerson : K.lookup CNoPerson = some (excClassObj nmNoPerson qqNoPerson CNoPerson NNoPerson bsNoPerson [.type "IndexError", .type "LookupError", .type "Exception", .type "BaseException", .type "object"] true snNoPerson sbNoPerson abNoPerson coNoPerson ddNoPerson m0NoPerson m1NoPerson m2NoPerson m3NoPerson m5NoPerson "IndexError.__new__"))
    (saNoPerson : PySem.W.findIn K (.ref CNoPerson) "__setattr__" = some (some (.builtin "object.__setattr__"))) (kcNoPerson : PySem.W.keepIn K (.ref CNoPerson) = true) (tiNoPerson : PySem.W.typeIn K (.ref f2) = some (.type "function"))
    (gaNoPerson : PySem.W.findIn K (.ref CNoPerson) "__getattribute__" = some (some (.builtin "BaseException.__getattribute__"))) (ggNoPerson : PySem.W.findIn K (.ref CNoPerson) "__getattr__" = some none)
    (j1NoPerson : PySem.W.findIn K (.ref CNoPerson) "__class__" = some (some (.builtin "object.__class__"))) (j2NoPerson : PySem.W.specialIn K (.builtin "object.__class__") "__get__" = some (some (.builtin "getset_descriptor.__get__"))) (j3NoPerson : PySem.W.takesIn K (.builtin "object.__class__") = some true) (j4NoPerson : PySem.W.mroIn K CNoPerson (.type "object") = some true)
    (nNoPerson_person : PySem.W.findIn K (.ref CNoPerson) "person" = some none)
    (sbNoPerson_NoPerson : PySem.W.subIn K (.ref CNoPerson) (.ref CNoPerson) = some true)
    (sbNoPerson_NoSum : PySem.W.subIn K (.ref CNoPerson) (.ref CNoSum) = some false)
    (sbNoPerson_NotSums : PySem.W.subIn K (.ref CNoPerson) (.ref CNotSums) = some false)
    (suNoPerson_IndexError : PySem.W.subIn K (.ref CNoPerson) (.type "IndexError") = some true)
    (suNoPerson_ValueError : PySem.W.subIn K (.ref CNoPerson) (.type "ValueError") = some false)
    (viIndexError : PySem.W.findCls K (.type "IndexError") (.type "type") "__init__" = some (.val (.builtin "IndexError.__init__")))
    (viValueError : PySem.W.findCls K (.type "ValueError") (.type "type") "__init__" = some (.val (.builtin "ValueError.__init__")))
    {DPARTS : Addr} {esPARTS : Array DictEntry} {enPARTS : Nat} (aDPARTS : PySem.W.nsIn K mainGlobals "PARTS" = some (some (.ref DPARTS))) (lDPARTS : K.lookup DPARTS = some ⟨.type "dict", none, .dict esPARTS enPARTS, #[]⟩) (kDPARTS : PySem.W.KeysLit w.params esPARTS.toList) (yDPARTS : (DPARTS == sysModules) = false)
    {tPARTS_held : Addr} {oPARTS_held : Option Addr} {itPARTS_held : Array Value} {inPARTS_held : Nat} {tsPARTS_held : Array (Option Value)} (ePARTS_held : PySem.W.nsIn K DPARTS "held" = some (some (.ref tPARTS_held))) (ltPARTS_held : K.lookup tPARTS_held = some ⟨.type "tuple", oPARTS_held, .seq itPARTS_held inPARTS_held, tsPARTS_held⟩) (ztPARTS_held : itPARTS_held.size ≤ sizeLine) (vtPARTS_held : Vals [V.str "number"] itPARTS_held.toList)
    {tPARTS_sum : Addr} {oPARTS_sum : Option Addr} {itPARTS_sum : Array Value} {inPARTS_sum : Nat} {tsPARTS_sum : Array (Option Value)} (ePARTS_sum : PySem.W.nsIn K DPARTS "sum" = some (some (.ref tPARTS_sum))) (ltPARTS_sum : K.lookup tPARTS_sum = some ⟨.type "tuple", oPARTS_sum, .seq itPARTS_sum inPARTS_sum, tsPARTS_sum⟩) (ztPARTS_sum : itPARTS_sum.size ≤ sizeLine) (vtPARTS_sum : Vals [V.str "number", V.str "ties"] itPARTS_sum.toList)
    {tPARTS_cap : Addr} {oPARTS_cap : Option Addr} {itPARTS_cap : Array Value} {inPARTS_cap : Nat} {tsPARTS_cap : Array (Option Value)} (ePARTS_cap : PySem.W.nsIn K DPARTS "cap" = some (some (.ref tPARTS_cap))) (ltPARTS_cap : K.lookup tPARTS_cap = some ⟨.type "tuple", oPARTS_cap, .seq itPARTS_cap inPARTS_cap, tsPARTS_cap⟩) (ztPARTS_cap : itPARTS_cap.size ≤ sizeLine) (vtPARTS_cap : Vals [V.str "number", V.str "ties", V.str "number"] itPARTS_cap.toList)
    {tPARTS_kinds : Addr} {oPARTS_kinds : Option Addr} {itPARTS_kinds : Array Value} {inPARTS_kinds : Nat} {tsPARTS_kinds : Array (Option Value)} (ePARTS_kinds : PySem.W.nsIn K DPARTS "kinds" = some (some (.ref tPARTS_kinds))) (ltPARTS_kinds : K.lookup tPARTS_kinds = some ⟨.type "tuple", oPARTS_kinds, .seq itPARTS_kinds inPARTS_kinds, tsPARTS_kinds⟩) (ztPARTS_kinds : itPARTS_kinds.size ≤ sizeLine) (vtPARTS_kinds : Vals [V.str "number", V.str "seen"] itPARTS_kinds.toList)
    {tPARTS_next : Addr} {oPARTS_next : Option Addr} {itPARTS_next : Array Value} {inPARTS_next : Nat} {tsPARTS_next : Array (Option Value)} (ePARTS_next : PySem.W.nsIn K DPARTS "next" = some (some (.ref tPARTS_next))) (ltPARTS_next : K.lookup tPARTS_next = some ⟨.type "tuple", oPARTS_next, .seq itPARTS_next inPARTS_next, tsPARTS_next⟩) (ztPARTS_next : itPARTS_next.size ≤ sizeLine) (vtPARTS_next : Vals [V.str "seen"] itPARTS_next.toList)
    {tPARTS_free : Addr} {oPARTS_free : Option Addr} {itPARTS_free : Array Value} {inPARTS_free : Nat} {tsPARTS_free : Array (Option Value)} (ePARTS_free : PySem.W.nsIn K DPARTS "free" = some (some (.ref tPARTS_free))) (ltPARTS_free : K.lookup tPARTS_free = some ⟨.type "tuple", oPARTS_free, .seq itPARTS_free inPARTS_free, tsPARTS_free⟩) (ztPARTS_free : itPARTS_free.size ≤ sizeLine) (vtPARTS_free : Vals [V.str "seen"] itPARTS_free.toList)
    (z0 : PySem.W.nsIn K mainGlobals "IndexError" = some none)
    (z1 : PySem.W.nsIn K mainGlobals "ValueError" = some none)
    (z2 : PySem.W.nsIn K mainGlobals "abs" = some none)
    (z3 : PySem.W.nsIn K mainGlobals "all" = some none)
    (z4 : PySem.W.nsIn K mainGlobals "bool" = some none)
    (z5 : PySem.W.nsIn K mainGlobals "dict" = some none)
    (z6 : PySem.W.nsIn K mainGlobals "enumerate" = some none)
    (z7 : PySem.W.nsIn K mainGlobals "int" = some none)
    (z8 : PySem.W.nsIn K mainGlobals "isinstance" = some none)
    (z9 : PySem.W.nsIn K mainGlobals "len" = some none)
    (z10 : PySem.W.nsIn K mainGlobals "list" = some none)
    (z11 : PySem.W.nsIn K mainGlobals "max" = some none)
    (z12 : PySem.W.nsIn K mainGlobals "min" = some none)
    (z13 : PySem.W.nsIn K mainGlobals "range" = some none)
    (z14 : PySem.W.nsIn K mainGlobals "set" = some none)
    (z15 : PySem.W.nsIn K mainGlobals "sorted" = some none)
    (z16 : PySem.W.nsIn K mainGlobals "str" = some none)
    (z17 : PySem.W.nsIn K mainGlobals "sum" = some none)
    (z18 : PySem.W.nsIn K mainGlobals "tuple" = some none)
    (z19 : PySem.W.nsIn K mainGlobals "zip" = some none) :
    ∃ fd : FuncData, (∀ (t : Shared) (v : Value), BindsTo t fd ⟨[v], []⟩ [("_law_script", v)]) ∧ ∀ base : Heap, K.In base → base.Ns mainGlobals mg → FnG l.prog w K mg base 14 fa fd ["_law_script"] (spLaw K) := by
  have e := hfa.symm.trans (PySem.W.mg_of X G a55)
  cases e
  refine ⟨PySem.W.fnOf "law" "law" (defArgs s_law) (defBody s_law) (defScope s_law) .none kV55 dc55 pm55 an55 cd55 ct55, fun t v => .of_eq rfl, fun base _ _ => ?_⟩
  exact ok_law (w := w) {
    t__wall := ⟨_, _, fun_mk (st := s__wall) l0 c0 k0, (fun_mk (st := s__wall) l0 c0 k0).binds (ps := p__wall) fun _ _ _ _ _ _ us hl => match us, hl with | [_], _ => rfl⟩,
    g__wall := PySem.W.mg_of X G a0,
    t_NoSum_init := ⟨_, _, fun_mk (st := s_NoSum_init) l1 c1 k1, (fun_mk (st := s_NoSum_init) l1 c1 k1).binds (ps := p_NoSum_init) fun _ _ _ _ _ _ us hl => match us, hl with | [_, _], _ => rfl⟩,
    t_NoPerson_init := ⟨_, _, fun_mk (st := s_NoPerson_init) l2 c2 k2, (fun_mk (st := s_NoPerson_init) l2 c2 k2).binds (ps := p_NoPerson_init) fun _ _ _ _ _ _ us hl => match us, hl with | [_, _], _ => rfl⟩,
    t_is_number := ⟨_, _, fun_mk (st := s_is_number) l3 c3 k3, (fun_mk (st := s_is_number) l3 c3 k3).binds (ps := p_is_number) fun _ _ _ _ _ _ us hl => match us, hl with | [_], _ => rfl⟩,
    g_is_number := PySem.W.mg_of X G a3,
    t_is_person := ⟨_, _, fun_mk (st := s_is_person) l4 c4 k4, (fun_mk (st := s_is_person) l4 c4 k4).binds (ps := p_is_person) fun _ _ _ _ _ _ us hl => match us, hl with | [_, _], _ => rfl⟩,
    g_is_person := PySem.W.mg_of X G a4,
    t_are_persons := ⟨_, _, fun_mk (st := s_are_persons) l5 c5 k5, (fun_mk (st := s_are_persons) l5 c5 k5).binds (ps := p_are_persons) fun _ _ _ _ _ _ us hl => match us, hl with | [_, _], _ => rfl⟩,
    g_are_persons := PySem.W.mg_of X G a5,
    t_rises := ⟨_, _, fun_mk (st := s_rises) l6 c6 k6, (fun_mk (st := s_rises) l6 c6 k6).binds (ps := p_rises) fun _ _ _ _ _ _ us hl => match us, hl with | [_], _ => rfl⟩,
    g_rises := PySem.W.mg_of X G a6,
    t_is_rule := ⟨_, _, fun_mk (st := s_is_rule) l7 c7 k7, (fun_mk (st := s_is_rule) l7 c7 k7).binds (ps := p_is_rule) fun _ _ _ _ _ _ us hl => match us, hl with | [_, _], _ => rfl⟩,
    g_is_rule := PySem.W.mg_of X G a7,
    t_is_part := ⟨_, _, fun_mk (st := s_is_part) l8 c8 k8, (fun_mk (st := s_is_part) l8 c8 k8).binds (ps := p_is_part) fun _ _ _ _ _ _ us hl => match us, hl with | [_, _, _], _ => rfl⟩,
    g_is_part := PySem.W.mg_of X G a8,
    t_are_ties := ⟨_, _, fun_mk (st := s_are_ties) l9 c9 k9, (fun_mk (st := s_are_ties) l9 c9 k9).binds (ps := p_are_ties) fun _ _ _ _ _ _ us hl => match us, hl with | [_, _], _ => rfl⟩,
    g_are_ties := PySem.W.mg_of X G a9,
    t_is_tie := ⟨_, _, fun_mk (st := s_is_tie) l10 c10 k10, (fun_mk (st := s_is_tie) l10 c10 k10).binds (ps := p_is_tie) fun _ _ _ _ _ _ us hl => match us, hl with | [_, _], _ => rfl⟩,
    g_is_tie := PySem.W.mg_of X G a10,
    t_seen_by := ⟨_, _, fun_mk (st := s_seen_by) l11 c11 k11, (fun_mk (st := s_seen_by) l11 c11 k11).binds (ps := p_seen_by) fun _ _ _ _ _ _ us hl => match us, hl with | [_], _ => rfl⟩,
    g_seen_by := PySem.W.mg_of X G a11,
    t_ties_of := ⟨_, _, fun_mk (st := s_ties_of) l12 c12 k12, (fun_mk (st := s_ties_of) l12 c12 k12).binds (ps := p_ties_of) fun _ _ _ _ _ _ us hl => match us, hl with | [_], _ => rfl⟩,
    g_ties_of := PySem.W.mg_of X G a12,
    t_tied_so := ⟨_, _, fun_mk (st := s_tied_so) l13 c13 k13, (fun_mk (st := s_tied_so) l13 c13 k13).binds (ps := p_tied_so) fun _ _ _ _ _ _ us hl => match us, hl with | [_, _], _ => rfl⟩,
    g_tied_so := PySem.W.mg_of X G a13,
    t_told_of := ⟨_, _, fun_mk (st := s_told_of) l14 c14 k14, (fun_mk (st := s_told_of) l14 c14 k14).binds (ps := p_told_of) fun _ _ _ _ _ _ us hl => match us, hl with | [_, _], _ => rfl⟩,
    g_told_of := PySem.W.mg_of X G a14,
    t_weighed := ⟨_, _, fun_mk (st := s_weighed) l15 c15 k15, (fun_mk (st := s_weighed) l15 c15 k15).binds (ps := p_weighed) fun _ _ _ _ _ _ us hl => match us, hl with | [_, _], _ => rfl⟩,
    g_weighed := PySem.W.mg_of X G a15,
    t_least_free := ⟨_, _, fun_mk (st := s_least_free) l16 c16 k16, (fun_mk (st := s_least_free) l16 c16 k16).binds (ps := p_least_free) fun _ _ _ _ _ _ us hl => match us, hl with | [_], _ => rfl⟩,
    g_least_free := PySem.W.mg_of X G a16,
    t_Hall_init := ⟨_, _, fun_mk (st := s_Hall_init) l17 c17 k17, (fun_mk (st := s_Hall_init) l17 c17 k17).binds (ps := p_Hall_init) fun _ _ _ _ _ _ us hl => match us, hl with | [_, _], _ => rfl⟩,
    t_Hall_must_have := ⟨_, _, fun_mk (st := s_Hall_must_have) l18 c18 k18, (fun_mk (st := s_Hall_must_have) l18 c18 k18).binds (ps := p_Hall_must_have) fun _ _ _ _ _ _ us hl => match us, hl with | [_, _], _ => rfl⟩,
    t_Hall_rules := ⟨_, _, fun_mk (st := s_Hall_rules) l19 c19 k19, (fun_mk (st := s_Hall_rules) l19 c19 k19).binds (ps := p_Hall_rules) fun _ _ _ _ _ _ us hl => match us, hl with | [_], _ => rfl⟩,
    t_Hall_rule := ⟨_, _, fun_mk (st := s_Hall_rule) l20 c20 k20, (fun_mk (st := s_Hall_rule) l20 c20 k20).binds (ps := p_Hall_rule) fun _ _ _ _ _ _ us hl => match us, hl with | [_, _], _ => rfl⟩,
    t_Hall_sees := ⟨_, _, fun_mk (st := s_Hall_sees) l21 c21 k21, (fun_mk (st := s_Hall_sees) l21 c21 k21).binds (ps := p_Hall_sees) fun _ _ _ _ _ _ us hl => match us, hl with | [_, _], _ => rfl⟩,
    t_Hall_seers := ⟨_, _, fun_mk (st := s_Hall_seers) l22 c22 k22, (fun_mk (st := s_Hall_seers) l22 c22 k22).binds (ps := p_Hall_seers) fun _ _ _ _ _ _ us hl => match us, hl with | [_, _], _ => rfl⟩,
    t_Hall_eq := ⟨_, _, fun_mk (st := s_Hall_eq) l23 c23 k23, (fun_mk (st := s_Hall_eq) l23 c23 k23).binds (ps := p_Hall_eq) fun _ _ _ _ _ _ us hl => match us, hl with | [_, _], _ => rfl⟩,
    t_Hall_len := ⟨_, _, fun_mk (st := s_Hall_len) l24 c24 k24, (fun_mk (st := s_Hall_len) l24 c24 k24).binds (ps := p_Hall_len) fun _ _ _ _ _ _ us hl => match us, hl with | [_], _ => rfl⟩,
    t_Hall_repr := ⟨_, _, fun_mk (st := s_Hall_repr) l25 c25 k25, (fun_mk (st := s_Hall_repr) l25 c25 k25).binds (ps := p_Hall_repr) fun _ _ _ _ _ _ us hl => match us, hl with | [_], _ => rfl⟩,
    t_with_rule := ⟨_, _, fun_mk (st := s_with_rule) l26 c26 k26, (fun_mk (st := s_with_rule) l26 c26 k26).binds (ps := p_with_rule) fun _ _ _ _ _ _ us hl => match us, hl with | [_, _, _], _ => rfl⟩,
    g_with_rule := PySem.W.mg_of X G a26,
    t_held_at := ⟨_, _, fun_mk (st := s_held_at) l27 c27 k27, (fun_mk (st := s_held_at) l27 c27 k27).binds (ps := p_held_at) fun _ _ _ _ _ _ us hl => match us, hl with | [_, _, _], _ => rfl⟩,
    g_held_at := PySem.W.mg_of X G a27,
    t_tied := ⟨_, _, fun_mk (st := s_tied) l28 c28 k28, (fun_mk (st := s_tied) l28 c28 k28).binds (ps := p_tied) fun _ _ _ _ _ _ us hl => match us, hl with | [_, _, _, _], _ => rfl⟩,
    g_tied := PySem.W.mg_of X G a28,
    t_lot_below := ⟨_, _, fun_mk (st := s_lot_below) l29 c29 k29, (fun_mk (st := s_lot_below) l29 c29 k29).binds (ps := p_lot_below) fun _ _ _ _ _ _ us hl => match us, hl with | [_, _, _, _], _ => rfl⟩,
    g_lot_below := PySem.W.mg_of X G a29,
    t_told_below := ⟨_, _, fun_mk (st := s_told_below) l30 c30 k30, (fun_mk (st := s_told_below) l30 c30 k30).binds (ps := p_told_below) fun _ _ _ _ _ _ us hl => match us, hl with | [_, _, _, _], _ => rfl⟩,
    g_told_below := PySem.W.mg_of X G a30,
    t_told_at := ⟨_, _, fun_mk (st := s_told_at) l31 c31 k31, (fun_mk (st := s_told_at) l31 c31 k31).binds (ps := p_told_at) fun _ _ _ _ _ _ us hl => match us, hl with | [_, _, _], _ => rfl⟩,
    g_told_at := PySem.W.mg_of X G a31,
    t_turned := ⟨_, _, fun_mk (st := s_turned) l32 c32 k32, (fun_mk (st := s_turned) l32 c32 k32).binds (ps := p_turned) fun _ _ _ _ _ _ us hl => match us, hl with | [_, _, _], _ => rfl⟩,
    g_turned := PySem.W.mg_of X G a32,
    t_beaten := ⟨_, _, fun_mk (st := s_beaten) l33 c33 k33, (fun_mk (st := s_beaten) l33 c33 k33).binds (ps := p_beaten) fun _ _ _ _ _ _ us hl => match us, hl with | [_, _], _ => rfl⟩,
    g_beaten := PySem.W.mg_of X G a33,
    t_history := ⟨_, _, fun_mk (st := s_history) l34 c34 k34, (fun_mk (st := s_history) l34 c34 k34).binds (ps := p_history) fun _ _ _ _ _ _ us hl => match us, hl with | [_, _, _], _ => rfl⟩,
    g_history := PySem.W.mg_of X G a34,
    t_dip := ⟨_, _, fun_mk (st := s_dip) l35 c35 k35, (fun_mk (st := s_dip) l35 c35 k35).binds (ps := p_dip) fun _ _ _ _ _ _ us hl => match us, hl with | [_, _], _ => rfl⟩,
    g_dip := PySem.W.mg_of X G a35,
    t_take := ⟨_, _, fun_mk (st := s_take) l36 c36 k36, (fun_mk (st := s_take) l36 c36 k36).binds (ps := p_take) fun _ _ _ _ _ _ us hl => match us, hl with | [_, _], _ => rfl⟩,
    g_take := PySem.W.mg_of X G a36,
    t_folded := ⟨_, _, fun_mk (st := s_folded) l37 c37 k37, (fun_mk (st := s_folded) l37 c37 k37).binds (ps := p_folded) fun _ _ _ _ _ _ us hl => match us, hl with | [_, _], _ => rfl⟩,
    g_folded := PySem.W.mg_of X G a37,
    t_strewn := ⟨_, _, fun_mk (st := s_strewn) l38 c38 k38, (fun_mk (st := s_strewn) l38 c38 k38).binds (ps := p_strewn) fun _ _ _ _ _ _ us hl => match us, hl with | [_, _], _ => rfl⟩,
    g_strewn := PySem.W.mg_of X G a38,
    t_same := ⟨_, _, fun_mk (st := s_same) l39 c39 k39, (fun_mk (st := s_same) l39 c39 k39).binds (ps := p_same) fun _ _ _ _ _ _ us hl => match us, hl with | [_, _], _ => rfl⟩,
    g_same := PySem.W.mg_of X G a39,
    t_some := ⟨_, _, fun_mk (st := s_some) l40 c40 k40, (fun_mk (st := s_some) l40 c40 k40).binds (ps := p_some) fun _ _ _ _ _ _ us hl => match us, hl with | [_, _, _], _ => rfl⟩,
    g_some := PySem.W.mg_of X G a40,
    t_sum_rule := ⟨_, _, fun_mk (st := s_sum_rule) l41 c41 k41, (fun_mk (st := s_sum_rule) l41 c41 k41).binds (ps := p_sum_rule) fun _ _ _ _ _ _ us hl => match us, hl with | [_, _, _], _ => rfl⟩,
    g_sum_rule := PySem.W.mg_of X G a41,
    t_rule := ⟨_, _, fun_mk (st := s_rule) l42 c42 k42, (fun_mk (st := s_rule) l42 c42 k42).binds (ps := p_rule) fun _ _ _ _ _ _ us hl => match us, hl with | [_, _, _, _], _ => rfl⟩,
    g_rule := PySem.W.mg_of X G a42,
    t_hall := ⟨_, _, fun_mk (st := s_hall) l43 c43 k43, (fun_mk (st := s_hall) l43 c43 k43).binds (ps := p_hall) fun _ _ _ _ _ _ us hl => match us, hl with | [_], _ => rfl⟩,
    g_hall := PySem.W.mg_of X G a43,
    t_flat := ⟨_, _, fun_mk (st := s_flat) l44 c44 k44, (fun_mk (st := s_flat) l44 c44 k44).binds (ps := p_flat) fun _ _ _ _ _ _ us hl => match us, hl with | [_, _], _ => rfl⟩,
    g_flat := PySem.W.mg_of X G a44,
    t_shown := ⟨_, _, fun_mk (st := s_shown) l45 c45 k45, (fun_mk (st := s_shown) l45 c45 k45).binds (ps := p_shown) fun _ _ _ _ _ _ us hl => match us, hl with | [_, _], _ => rfl⟩,
    g_shown := PySem.W.mg_of X G a45,
    t_seen := ⟨_, _, fun_mk (st := s_seen) l46 c46 k46, (fun_mk (st := s_seen) l46 c46 k46).binds (ps := p_seen) fun _ _ _ _ _ _ us hl => match us, hl with | [_], _ => rfl⟩,
    g_seen := PySem.W.mg_of X G a46,
    t_lot := ⟨_, _, fun_mk (st := s_lot) l47 c47 k47, (fun_mk (st := s_lot) l47 c47 k47).binds (ps := p_lot) fun _ _ _ _ _ _ us hl => match us, hl with | [_, _, _], _ => rfl⟩,
    g_lot := PySem.W.mg_of X G a47,
    t_tells := ⟨_, _, fun_mk (st := s_tells) l48 c48 k48, (fun_mk (st := s_tells) l48 c48 k48).binds (ps := p_tells) fun _ _ _ _ _ _ us hl => match us, hl with | [_, _], _ => rfl⟩,
    g_tells := PySem.W.mg_of X G a48,
    t_law_turned := ⟨_, _, fun_mk (st := s_law_turned) l49 c49 k49, (fun_mk (st := s_law_turned) l49 c49 k49).binds (ps := p_law_turned) fun _ _ _ _ _ _ us hl => match us, hl with | [_, _, _], _ => rfl⟩,
    g_law_turned := PySem.W.mg_of X G a49,
    t_law_beaten := ⟨_, _, fun_mk (st := s_law_beaten) l50 c50 k50, (fun_mk (st := s_law_beaten) l50 c50 k50).binds (ps := p_law_beaten) fun _ _ _ _ _ _ us hl => match us, hl with | [_, _], _ => rfl⟩,
    g_law_beaten := PySem.W.mg_of X G a50,
    t_tied_rule := ⟨_, _, fun_mk (st := s_tied_rule) l51 c51 k51, (fun_mk (st := s_tied_rule) l51 c51 k51).binds (ps := p_tied_rule) fun _ _ _ _ _ _ us hl => match us, hl with | [_, _, _], _ => rfl⟩,
    g_tied_rule := PySem.W.mg_of X G a51,
    t_told := ⟨_, _, fun_mk (st := s_told) l52 c52 k52, (fun_mk (st := s_told) l52 c52 k52).binds (ps := p_told) fun _ _ _ _ _ _ us hl => match us, hl with | [_, _, _, _], _ => rfl⟩,
    g_told := PySem.W.mg_of X G a52,
    t_due := ⟨_, _, fun_mk (st := s_due) l53 c53 k53, (fun_mk (st := s_due) l53 c53 k53).binds (ps := p_due) fun _ _ _ _ _ _ us hl => match us, hl with | [_, _, _, _], _ => rfl⟩,
    g_due := PySem.W.mg_of X G a53,
    t_right := ⟨_, _, fun_mk (st := s_right) l54 c54 k54, (fun_mk (st := s_right) l54 c54 k54).binds (ps := p_right) fun _ _ _ _ _ _ us hl => match us, hl with | [_], _ => rfl⟩,
    g_right := PySem.W.mg_of X G a54,
    t_law := ⟨_, _, fun_mk (st := s_law) l55 c55 k55, (fun_mk (st := s_law) l55 c55 k55).binds (ps := p_law) fun _ _ _ _ _ _ us hl => match us, hl with | [_], _ => rfl⟩,
    g_law := PySem.W.mg_of X G a55,
    C_Hall := CHall,
    g_Hall := PySem.W.mg_of X G aCHall,
    cl_Hall := ⟨pgHall, hdHall, poHall, saHall⟩,
    mk_Hall := ⟨mkHall, a17, i17, kcHall⟩,
    me_Hall_init := ⟨a17, i17, k17⟩,
    me_Hall_must_have := ⟨a18, i18, k18⟩,
    me_Hall_rules := ⟨a19, i19, k19⟩,
    me_Hall_rule := ⟨a20, i20, k20⟩,
    me_Hall_sees := ⟨a21, i21, k21⟩,
    me_Hall_seers := ⟨a22, i22, k22⟩,
    me_Hall_eq := ⟨a23, i23, k23⟩,
    me_Hall_len := ⟨a24, i24, k24⟩,
    me_Hall_repr := ⟨a25, i25, k25⟩,
    na_Hall_kept := nHall_kept,
    ne_Hall := neHall,
    is_Hall := ⟨⟨pgHall, hdHall, poHall, saHall⟩, j1Hall, j2Hall, j3Hall, j4Hall, if_pos (beq_self_eq_true _)⟩,
    C_BadHall := CBadHall,
    g_BadHall := PySem.W.mg_of X G aCBadHall,
    C_NotSums := CNotSums,
    g_NotSums := PySem.W.mg_of X G aCNotSums,
    C_NoSum := CNoSum,
    g_NoSum := PySem.W.mg_of X G aCNoSum,
    ox_NoSum := ⟨⟨nmNoSum, qqNoSum, NNoSum, bsNoSum, _, snNoSum, sbNoSum, abNoSum, coNoSum, ddNoSum, m0NoSum, m1NoSum, m2NoSum, m3NoSum, m5NoSum, xLNoSum, by decide +kernel⟩, saNoSum, ebNoSum, tyNoSum, kcNoSum⟩,
    me_NoSum_init := ⟨a1, i1, k1⟩,
    ti_NoSum := tiNoSum,
    na_NoSum_person := nNoSum_person,
    xf_NoSum := ⟨gaNoSum, ggNoSum, ebNoSum, hdNoSum⟩,
    xc_NoSum := ⟨gaNoSum, ggNoSum, ebNoSum, hdNoSum, j1NoSum, j2NoSum, j3NoSum, j4NoSum⟩,
    em_NoSum_NoPerson := PySem.W.exm_ref ebNoPerson hdNoPerson tyNoPerson sbNoSum_NoPerson,
    em_NoSum_NoSum := PySem.W.exm_ref ebNoSum hdNoSum tyNoSum sbNoSum_NoSum,
    em_NoSum_NotSums := PySem.W.exm_ref ebNotSums hdNotSums tyNotSums sbNoSum_NotSums,
    ki_NoSum_NoPerson := kit_not hdNoPerson tyNoPerson sbNoSum_NoPerson sbNoSum_NoSum,
    ki_NoSum_NoSum := if_pos (beq_self_eq_true _),
    ki_NoSum_NotSums := kit_not hdNotSums tyNotSums sbNoSum_NotSums sbNoSum_NoSum,
    ki_NoSum_IndexError := kit_type (by decide +kernel) suNoSum_IndexError,
    ki_NoSum_ValueError := kit_type (by decide +kernel) suNoSum_ValueError,
    C_NoPerson := CNoPerson,
    g_NoPerson := PySem.W.mg_of X G aCNoPerson,
    ox_NoPerson := ⟨PySem.F.excBase_IndexError, by decide +kernel, ⟨nmNoPerson, qqNoPerson, NNoPerson, bsNoPerson, _, snNoPerson, sbNoPerson, abNoPerson, coNoPerson, ddNoPerson, m0NoPerson, m1NoPerson, m2NoPerson, m3NoPerson, m5NoPerson, xLNoPerson, fun _ => rfl, LhX.over_one PySem.F.store_IndexError.passes⟩, saNoPerson, ebNoPerson, tyNoPerson, kcNoPerson⟩,
    me_NoPerson_init := ⟨a2, i2, k2⟩,
    ti_NoPerson := tiNoPerson,
    na_NoPerson_person := nNoPerson_person,
    xf_NoPerson := ⟨gaNoPerson, ggNoPerson, ebNoPerson, hdNoPerson⟩,
    xc_NoPerson := ⟨gaNoPerson, ggNoPerson, ebNoPerson, hdNoPerson, j1NoPerson, j2NoPerson, j3NoPerson, j4NoPerson⟩,
    em_NoPerson_NoPerson := PySem.W.exm_ref ebNoPerson hdNoPerson tyNoPerson sbNoPerson_NoPerson,
    em_NoPerson_NoSum := PySem.W.exm_ref ebNoSum hdNoSum tyNoSum sbNoPerson_NoSum,
    em_NoPerson_NotSums := PySem.W.exm_ref ebNotSums hdNotSums tyNotSums sbNoPerson_NotSums,
    ki_NoPerson_NoPerson := if_pos (beq_self_eq_true _),
    ki_NoPerson_NoSum := kit_not hdNoSum tyNoSum sbNoPerson_NoSum sbNoPerson_NoPerson,
    ki_NoPerson_NotSums := kit_not hdNotSums tyNotSums sbNoPerson_NotSums sbNoPerson_NoPerson,
    ki_NoPerson_IndexError := kit_type (by decide +kernel) suNoPerson_IndexError,
    ki_NoPerson_ValueError := kit_type (by decide +kernel) suNoPerson_ValueError,
    vi_IndexError := viIndexError,
    vi_ValueError := viValueError,
    D_PARTS := DPARTS,
    g_PARTS := PySem.W.mg_of X G aDPARTS,
    es_PARTS := esPARTS,
    en_PARTS := enPARTS,
    kd_PARTS := ⟨lDPARTS, kDPARTS, yDPARTS⟩,
    t_PARTS_held := tPARTS_held,
    dk_PARTS_held := ePARTS_held,
    sq_PARTS_held := fun _ => .inr ⟨_, itPARTS_held, inPARTS_held, ltPARTS_held, rfl, rfl, ztPARTS_held, vtPARTS_held⟩,
    t_PARTS_sum := tPARTS_sum,
    dk_PARTS_sum := ePARTS_sum,
    sq_PARTS_sum := fun _ => .inr ⟨_, itPARTS_sum, inPARTS_sum, ltPARTS_sum, rfl, rfl, ztPARTS_sum, vtPARTS_sum⟩,
    t_PARTS_cap := tPARTS_cap,
    dk_PARTS_cap := ePARTS_cap,
    sq_PARTS_cap := fun _ => .inr ⟨_, itPARTS_cap, inPARTS_cap, ltPARTS_cap, rfl, rfl, ztPARTS_cap, vtPARTS_cap⟩,
    t_PARTS_kinds := tPARTS_kinds,
    dk_PARTS_kinds := ePARTS_kinds,
    sq_PARTS_kinds := fun _ => .inr ⟨_, itPARTS_kinds, inPARTS_kinds, ltPARTS_kinds, rfl, rfl, ztPARTS_kinds, vtPARTS_kinds⟩,
    t_PARTS_next := tPARTS_next,
    dk_PARTS_next := ePARTS_next,
    sq_PARTS_next := fun _ => .inr ⟨_, itPARTS_next, inPARTS_next, ltPARTS_next, rfl, rfl, ztPARTS_next, vtPARTS_next⟩,
    t_PARTS_free := tPARTS_free,
    dk_PARTS_free := ePARTS_free,
    sq_PARTS_free := fun _ => .inr ⟨_, itPARTS_free, inPARTS_free, ltPARTS_free, rfl, rfl, ztPARTS_free, vtPARTS_free⟩,
    m_IndexError := PySem.W.mg_none_of X G z0,
    m_ValueError := PySem.W.mg_none_of X G z1,
    m_abs := PySem.W.mg_none_of X G z2,
    m_all := PySem.W.mg_none_of X G z3,
    m_bool := PySem.W.mg_none_of X G z4,
    m_dict := PySem.W.mg_none_of X G z5,
    m_enumerate := PySem.W.mg_none_of X G z6,
    m_int := PySem.W.mg_none_of X G z7,
    m_isinstance := PySem.W.mg_none_of X G z8,
    m_len := PySem.W.mg_none_of X G z9,
    m_list := PySem.W.mg_none_of X G z10,
    m_max := PySem.W.mg_none_of X G z11,
    m_min := PySem.W.mg_none_of X G z12,
    m_range := PySem.W.mg_none_of X G z13,
    m_set := PySem.W.mg_none_of X G z14,
    m_sorted := PySem.W.mg_none_of X G z15,
    m_str := PySem.W.mg_none_of X G z16,
    m_sum := PySem.W.mg_none_of X G z17,
    m_tuple := PySem.W.mg_none_of X G z18,
    m_zip := PySem.W.mg_none_of X G z19 }
end Lh
open PySem PySem.W PyProof.Rows
set_option maxHeartbeats 0 in
theorem PySem.Challenge.cw_lesserhall_k49_held_and_tied_holds : PySem.Challenge.rw_lesserhall_k49_held_and_tied.Holds := by
  w_on; o_law; k_head; (case hw => w_witness2)
  k_fill
  refine Lh.walk_G (l := PySem.Challenge.rw_lesserhall_k49_held_and_tied) (n := 63) (k := 14) (x := "_law_script") (sp := fun w => Lh.spLaw _) rfl (by decide) rfl ⟨rfl, by decide, by decide⟩ (fun w h Y => PySem.W.kIn_of Y) ?F (fun _ _ a ns hl _ hS => ⟨a, ns, rfl, hS, hl, fun _ => rfl⟩)
  case F =>
    intro w mg fa h KX G hmg
    refine' Lh.all_mk KX G hmg ?aCHall ?aCBadHall ?aCNotSums ?aCNoSum ?aCNoPerson ?a0 ?l0 ?c0 ?k0 ?a1 ?i1 ?l1 ?c1 ?k1 ?a2 ?i2 ?l2 ?c2 ?k2 ?a3 ?l3 ?c3 ?k3 ?a4 ?l4 ?c4 ?k4 ?a5 ?l5 ?c5 ?k5 ?a6 ?l6 ?c6 ?k6 ?a7 ?l7 ?c7 ?k7 ?a8 ?l8 ?c8 ?k8 ?a9 ?l9 ?c9 ?k9 ?a10 ?l10 ?c10 ?k10 ?a11 ?l11 ?c11 ?k11 ?a12 ?l12 ?c12 ?k12 ?a13 ?l13 ?c13 ?k13 ?a14 ?l14 ?c14 ?k14 ?a15 ?l15 ?c15 ?k15 ?a16 ?l16 ?c16 ?k16 ?a17 ?i17 ?l17 ?c17 ?k17 ?a18 ?i18 ?l18 ?c18 ?k18 ?a19 ?i19 ?l19 ?c19 ?k19 ?a20 ?i20 ?l20 ?c20 ?k20 ?a21 ?i21 ?l21 ?c21 ?k21 ?a22 ?i22 ?l22 ?c22 ?k22 ?a23 ?i23 ?l23 ?c23 ?k23 ?a24 ?i24 ?l24 ?c24 ?k24 ?a25 ?i25 ?l25 ?c25 ?k25 ?a26 ?l26 ?c26 ?k26 ?a27 ?l27 ?c27 ?k27 ?a28 ?l28 ?c28 ?k28 ?a29 ?l29 ?c29 ?k29 ?a30 ?l30 ?c30 ?k30 ?a31 ?l31 ?c31 ?k31 ?a32 ?l32 ?c32 ?k32 ?a33 ?l33 ?c33 ?k33 ?a34 ?l34 ?c34 ?k34 ?a35 ?l35 ?c35 ?k35 ?a36 ?l36 ?c36 ?k36 ?a37 ?l37 ?c37 ?k37 ?a38 ?l38 ?c38 ?k38 ?a39 ?l39 ?c39 ?k39 ?a40 ?l40 ?c40 ?k40 ?a41 ?l41 ?c41 ?k41 ?a42 ?l42 ?c42 ?k42 ?a43 ?l43 ?c43 ?k43 ?a44 ?l44 ?c44 ?k44 ?a45 ?l45 ?c45 ?k45 ?a46 ?l46 ?c46 ?k46 ?a47 ?l47 ?c47 ?k47 ?a48 ?l48 ?c48 ?k48 ?a49 ?l49 ?c49 ?k49 ?a50 ?l50 ?c50 ?k50 ?a51 ?l51 ?c51 ?k51 ?a52 ?l52 ?c52 ?k52 ?a53 ?l53 ?c53 ?k53 ?a54 ?l54 ?c54 ?k54 ?a55 ?l55 ?c55 ?k55 ?pgHall ?hdHall ?poHall ?saHall ?mkHall ?kcHall ?nHall_kept ?neHall ?j1Hall ?j2Hall ?j3Hall ?j4Hall ?ebBadHall ?hdBadHall ?tyBadHall ?ebNotSums ?hdNotSums ?tyNotSums ?ebNoSum ?hdNoSum ?tyNoSum ?xLNoSum ?saNoSum ?kcNoSum ?tiNoSum ?gaNoSum ?ggNoSum ?j1NoSum ?j2NoSum ?j3NoSum ?j4NoSum ?nNoSum_person ?sbNoSum_NoPerson ?sbNoSum_NoSum ?sbNoSum_NotSums ?suNoSum_IndexError ?suNoSum_ValueError ?ebNoPerson ?hdNoPerson ?tyNoPerson ?xLNoPerson ?saNoPerson ?kcNoPerson ?tiNoPerson ?gaNoPerson ?ggNoPerson ?j1NoPerson ?j2NoPerson ?j3NoPerson ?j4NoPerson ?nNoPerson_person ?sbNoPerson_NoPerson ?sbNoPerson_NoSum ?sbNoPerson_NotSums ?suNoPerson_IndexError ?suNoPerson_ValueError ?viIndexError ?viValueError ?aDPARTS ?lDPARTS ?kDPARTS ?yDPARTS ?ePARTS_held ?ltPARTS_held ?ztPARTS_held ?vtPARTS_held ?ePARTS_sum ?ltPARTS_sum ?ztPARTS_sum ?vtPARTS_sum ?ePARTS_cap ?ltPARTS_cap ?ztPARTS_cap ?vtPARTS_cap ?ePARTS_kinds ?ltPARTS_kinds ?ztPARTS_kinds ?vtPARTS_kinds ?ePARTS_next ?ltPARTS_next ?ztPARTS_next ?vtPARTS_next ?ePARTS_free ?ltPARTS_free ?ztPARTS_free ?vtPARTS_free ?z0 ?z1 ?z2 ?z3 ?z4 ?z5 ?z6 ?z7 ?z8 ?z9 ?z10 ?z11 ?z12 ?z13 ?z14 ?z15 ?z16 ?z17 ?z18 ?z19
    (case aCHall => k_is); (case aCBadHall => k_is); (case aCNotSums => k_is); (case aCNoSum => k_is); (case aCNoPerson => k_is); (case a0 => k_is); (case l0 => k_is); (case c0 => k_is); (case k0 => k_is); (case a1 => k_is); (case i1 => k_is); (case l1 => k_is); (case c1 => k_is); (case k1 => k_is); (case a2 => k_is); (case i2 => k_is); (case l2 => k_is); (case c2 => k_is); (case k2 => k_is); (case a3 => k_is); (case l3 => k_is); (case c3 => k_is); (case k3 => k_is); (case a4 => k_is); (case l4 => k_is); (case c4 => k_is); (case k4 => k_is); (case a5 => k_is); (case l5 => k_is); (case c5 => k_is); (case k5 => k_is); (case a6 => k_is); (case l6 => k_is); (case c6 => k_is); (case k6 => k_is); (case a7 => k_is); (case l7 => k_is); (case c7 => k_is); (case k7 => k_is); (case a8 => k_is); (case l8 => k_is); (case c8 => k_is); (case k8 => k_is); (case a9 => k_is); (case l9 => k_is); (case c9 => k_is); (case k9 => k_is); (case a10 => k_is); (case l10 => k_is); (case c10 => k_is); (case k10 => k_is); (case a11 => k_is); (case l11 => k_is); (case c11 => k_is); (case k11 => k_is); (case a12 => k_is); (case l12 => k_is); (case c12 => k_is); (case k12 => k_is); (case a13 => k_is); (case l13 => k_is); (case c13 => k_is); (case k13 => k_is); (case a14 => k_is); (case l14 => k_is); (case c14 => k_is); (case k14 => k_is); (case a15 => k_is); (case l15 => k_is); (case c15 => k_is); (case k15 => k_is); (case a16 => k_is); (case l16 => k_is); (case c16 => k_is); (case k16 => k_is); (case a17 => k_is); (case i17 => k_is); (case l17 => k_is); (case c17 => k_is); (case k17 => k_is); (case a18 => k_is); (case i18 => k_is); (case l18 => k_is); (case c18 => k_is); (case k18 => k_is); (case a19 => k_is); (case i19 => k_is); (case l19 => k_is); (case c19 => k_is); (case k19 => k_is); (case a20 => k_is); (case i20 => k_is); (case l20 => k_is); (case c20 => k_is); (case k20 => k_is); (case a21 => k_is); (case i21 => k_is); (case l21 => k_is); (case c21 => k_is); (case k21 => k_is); (case a22 => k_is); (case i22 => k_is); (case l22 => k_is); (case c22 => k_is); (case k22 => k_is); (case a23 => k_is); (case i23 => k_is); (case l23 => k_is); (case c23 => k_is); (case k23 => k_is); (case a24 => k_is); (case i24 => k_is); (case l24 => k_is); (case c24 => k_is); (case k24 => k_is); (case a25 => k_is); (case i25 => k_is); (case l25 => k_is); (case c25 => k_is); (case k25 => k_is); (case a26 => k_is); (case l26 => k_is); (case c26 => k_is); (case k26 => k_is); (case a27 => k_is); (case l27 => k_is); (case c27 => k_is); (case k27 => k_is); (case a28 => k_is); (case l28 => k_is); (case c28 => k_is); (case k28 => k_is); (case a29 => k_is); (case l29 => k_is); (case c29 => k_is); (case k29 => k_is); (case a30 => k_is); (case l30 => k_is); (case c30 => k_is); (case k30 => k_is); (case a31 => k_is); (case l31 => k_is); (case c31 => k_is); (case k31 => k_is); (case a32 => k_is); (case l32 => k_is); (case c32 => k_is); (case k32 => k_is); (case a33 => k_is); (case l33 => k_is); (case c33 => k_is); (case k33 => k_is); (case a34 => k_is); (case l34 => k_is); (case c34 => k_is); (case k34 => k_is); (case a35 => k_is); (case l35 => k_is); (case c35 => k_is); (case k35 => k_is); (case a36 => k_is); (case l36 => k_is); (case c36 => k_is); (case k36 => k_is); (case a37 => k_is); (case l37 => k_is); (case c37 => k_is); (case k37 => k_is); (case a38 => k_is); (case l38 => k_is); (case c38 => k_is); (case k38 => k_is); (case a39 => k_is); (case l39 => k_is); (case c39 => k_is); (case k39 => k_is); (case a40 => k_is); (case l40 => k_is); (case c40 => k_is); (case k40 => k_is); (case a41 => k_is); (case l41 => k_is); (case c41 => k_is); (case k41 => k_is); (case a42 => k_is); (case l42 => k_is); (case c42 => k_is); (case k42 => k_is); (case a43 => k_is); (case l43 => k_is); (case c43 => k_is); (case k43 => k_is); (case a44 => k_is); (case l44 => k_is); (case c44 => k_is); (case k44 => k_is); (case a45 => k_is); (case l45 => k_is); (case c45 => k_is); (case k45 => k_is); (case a46 => k_is); (case l46 => k_is); (case c46 => k_is); (case k46 => k_is); (case a47 => k_is); (case l47 => k_is); (case c47 => k_is); (case k47 => k_is); (case a48 => k_is); (case l48 => k_is); (case c48 => k_is); (case k48 => k_is); (case a49 => k_is); (case l49 => k_is); (case c49 => k_is); (case k49 => k_is); (case a50 => k_is); (case l50 => k_is); (case c50 => k_is); (case k50 => k_is); (case a51 => k_is); (case l51 => k_is); (case c51 => k_is); (case k51 => k_is); (case a52 => k_is); (case l52 => k_is); (case c52 => k_is); (case k52 => k_is); (case a53 => k_is); (case l53 => k_is); (case c53 => k_is); (case k53 => k_is); (case a54 => k_is); (case l54 => k_is); (case c54 => k_is); (case k54 => k_is); (case a55 => k_is); (case l55 => k_is); (case c55 => k_is); (case k55 => k_is); (case pgHall => k_is); (case hdHall => k_is); (case poHall => k_is); (case saHall => k_is); (case mkHall => k_is); (case kcHall => k_is); (case nHall_kept => k_is); (case neHall => k_is); (case j1Hall => k_is); (case j2Hall => k_is); (case j3Hall => k_is); (case j4Hall => k_is); (case ebBadHall => k_is); (case hdBadHall => k_is); (case tyBadHall => k_is); (case ebNotSums => k_is); (case hdNotSums => k_is); (case tyNotSums => k_is); (case ebNoSum => k_is); (case hdNoSum => k_is); (case tyNoSum => k_is); (case xLNoSum => k_is); (case saNoSum => k_is); (case kcNoSum => k_is); (case tiNoSum => k_is); (case gaNoSum => k_is); (case ggNoSum => k_is); (case j1NoSum => k_is); (case j2NoSum => k_is); (case j3NoSum => k_is); (case j4NoSum => k_is); (case nNoSum_person => k_is); (case sbNoSum_NoPerson => first | rfl | k_is); (case sbNoSum_NoSum => first | rfl | k_is); (case sbNoSum_NotSums => first | rfl | k_is); (case suNoSum_IndexError => k_is); (case suNoSum_ValueError => k_is); (case ebNoPerson => k_is); (case hdNoPerson => k_is); (case tyNoPerson => k_is); (case xLNoPerson => k_is); (case saNoPerson => k_is); (case kcNoPerson => k_is); (case tiNoPerson => k_is); (case gaNoPerson => k_is); (case ggNoPerson => k_is); (case j1NoPerson => k_is); (case j2NoPerson => k_is); (case j3NoPerson => k_is); (case j4NoPerson => k_is); (case nNoPerson_person => k_is); (case sbNoPerson_NoPerson => first | rfl | k_is); (case sbNoPerson_NoSum => first | rfl | k_is); (case sbNoPerson_NotSums => first | rfl | k_is); (case suNoPerson_IndexError => k_is); (case suNoPerson_ValueError => k_is); (case viIndexError => k_is); (case viValueError => k_is); (case aDPARTS => k_is); (case lDPARTS => k_is); (case kDPARTS => exact ⟨⟨_, _, rfl, rfl⟩, ⟨_, _, rfl, rfl⟩, ⟨_, _, rfl, rfl⟩, ⟨_, _, rfl, rfl⟩, ⟨_, _, rfl, rfl⟩, ⟨_, _, rfl, rfl⟩, trivial⟩); (case yDPARTS => decide +kernel); (case ePARTS_held => k_is); (case ltPARTS_held => k_is); (case ztPARTS_held => decide +kernel); (case vtPARTS_held => exact .cons ⟨_, rfl⟩ (.nil)); (case ePARTS_sum => k_is); (case ltPARTS_sum => k_is); (case ztPARTS_sum => decide +kernel); (case vtPARTS_sum => exact .cons ⟨_, rfl⟩ (.cons ⟨_, rfl⟩ (.nil))); (case ePARTS_cap => k_is); (case ltPARTS_cap => k_is); (case ztPARTS_cap => decide +kernel); (case vtPARTS_cap => exact .cons ⟨_, rfl⟩ (.cons ⟨_, rfl⟩ (.cons ⟨_, rfl⟩ (.nil)))); (case ePARTS_kinds => k_is); (case ltPARTS_kinds => k_is); (case ztPARTS_kinds => decide +kernel); (case vtPARTS_kinds => exact .cons ⟨_, rfl⟩ (.cons ⟨_, rfl⟩ (.nil))); (case ePARTS_next => k_is); (case ltPARTS_next => k_is); (case ztPARTS_next => decide +kernel); (case vtPARTS_next => exact .cons ⟨_, rfl⟩ (.nil)); (case ePARTS_free => k_is); (case ltPARTS_free => k_is); (case ztPARTS_free => decide +kernel); (case vtPARTS_free => exact .cons ⟨_, rfl⟩ (.nil)); (case z0 => k_is); (case z1 => k_is); (case z2 => k_is); (case z3 => k_is); (case z4 => k_is); (case z5 => k_is); (case z6 => k_is); (case z7 => k_is); (case z8 => k_is); (case z9 => k_is); (case z10 => k_is); (case z11 => k_is); (case z12 => k_is); (case z13 => k_is); (case z14 => k_is); (case z15 => k_is); (case z16 => k_is); (case z17 => k_is); (case z18 => k_is); (case z19 => k_is)
