import PyProof.Rows.All
import Wide.All
import OpenK.AllK
import Wide.FinOn
import HandS.ForMost
import HandS.Flow
import HandS.IsInst
import HandS.Zip
import HandS.SortInts
import HandS.Defaults
import HandS.Conv
import HandS.Strs
import HandS.MakeKwOnly
import PyProof.ReprRoads
import HandS.SetFor
import HandS.SortKw
import KE.DataMinMax
import KE.KDictPairs
import PyProof.ReprLen
import HandS.Walk
import HandS.TupAny
import HandS.More
import KE.GoesMore
import HandS.Iter
import HandS.Exc
import HandS.WordsExc
import HandS.ExcOwn
import HandS.ExcInit
import KE.KExcIs
import HandS.ExcIs
import HandS.ExcField
import KE.KTryMore
import HandS.Deep
import HandS.Style
import HandS.Star
import PySem.Challenge.RW_lesserhall_k66_whole_slow_rows_and_told
set_option Elab.async false
set_option linter.all false
set_option maxRecDepth 100000

namespace Lh
open PySem PySem.Spec PyProof.Rows L2

/-! ### heaps -/
/-- all that was tracked is as it was, but for the box -/
def Ext (bx : Addr) (H H' : Hp) : Prop := ∀ a o, a ≠ bx → H a = some o → H' a = some o
theorem Ext.refl {bx : Addr} (H : Hp) : Ext bx H H := fun _ _ _ h => h
theorem Ext.trans {bx : Addr} {H H1 H2 : Hp} (a : Ext bx H H1) (b : Ext bx H1 H2) : Ext bx H H2 := fun x o n h => b x o n (a x o n h)
theorem Ext.of {bx : Addr} {H H' : Hp} (a : Same H H') : Ext bx H H' := fun x o _ h => a x o h
theorem Ext.new {bx : Addr} {H H' : Hp} {p : Addr} {o : HO} (e : Ext bx H H') (h : H p = none) : Ext bx H (upd H' p o) := fun x u n hx => by
  rw [upd_ne (ne_of_none hx h)]
  exact e x u n hx
theorem Ext.box {bx : Addr} {H H' : Hp} {o : HO} (e : Ext bx H H') : Ext bx H (upd H' bx o) := fun x u n hx => by
  rw [upd_ne n]
  exact e x u n hx
theorem Ext.free {bx : Addr} {H H' : Hp} (e : Ext bx H H') {l : Addr} (n : l ≠ bx) (h : H' l = Option.none) : H l = Option.none := by
  cases q : H l with
  | none => rfl
  | some o =>
    rw [e l o n q] at h
    cases h
theorem same_upd {H : Hp} {p : Addr} {o : HO} (h : H p = none) : Same H (upd H p o) := fun b x e => by
  rw [upd_ne (ne_of_none e h)]
  exact e
theorem same_mut {H H' : Hp} {p : Addr} {o : HO} (e : Same H H') (h : H p = none) : Same H (upd H' p o) := fun a u ha => by
  rw [upd_ne (ne_of_none ha h)]
  exact e a u ha

/-- the box: three ints, the last a count -/
def Box (bx : Addr) (c : Int) (H : Hp) : Prop := ∃ a b n : Int, H bx = some (.lst [.int a, .int b, .int n]) ∧ 0 ≤ a ∧ 0 ≤ b ∧ b < 2 ^ 62 ∧ 0 ≤ n ∧ n ≤ c
theorem Box.has {bx : Addr} {c : Int} {H : Hp} (h : Box bx c H) : ∃ o, H bx = some o := by
  obtain ⟨a, b, n, h, _⟩ := h
  exact ⟨_, h⟩
theorem Box.ne {bx : Addr} {c : Int} {H : Hp} (h : Box bx c H) {p : Addr} (n : H p = none) : p ≠ bx := by
  obtain ⟨o, h⟩ := h.has
  exact (ne_of_none h n).symm
theorem Box.neT {bx : Addr} {c : Int} {H : Hp} (h : Box bx c H) {p : Addr} {xs : List V} (n : H p = some (.tup xs)) : p ≠ bx := by
  obtain ⟨a, b, n', h, _⟩ := h
  exact ne_of n h (by intro z; cases z)
theorem Box.mono {bx : Addr} {c d : Int} {H : Hp} (h : Box bx c H) (e : c ≤ d) : Box bx d H := by
  obtain ⟨a, b, n, h, h1, h2, h3, h4, h5⟩ := h
  exact ⟨a, b, n, h, h1, h2, h3, h4, by omega⟩
theorem Box.same {bx : Addr} {c : Int} {H H' : Hp} (h : Box bx c H) (e : Same H H') : Box bx c H' := by
  obtain ⟨a, b, n, h, r⟩ := h
  exact ⟨a, b, n, e _ _ h, r⟩
theorem Box.new {bx : Addr} {c : Int} {H : Hp} (h : Box bx c H) {p : Addr} {o : HO} (n : H p = none) : Box bx c (upd H p o) := h.same (same_upd n)
theorem Box.at {bx : Addr} {c : Int} {H : Hp} (h : Box bx c H) {p : Addr} {o : HO} (n : p ≠ bx) : Box bx c (upd H p o) := by
  obtain ⟨a, b, m, h, r⟩ := h
  exact ⟨a, b, m, by rw [upd_ne n.symm]; exact h, r⟩

/-- a tuple, one whose object is known to bear no names among them -/
def TupAt (H : Hp) (a : Addr) (xs : List V) : Prop := H a = some (.tup xs) ∨ ∃ o : Obj, o.dict = none ∧ H a = some (.frz o (.tup xs))
theorem TupAt.sq {K : PySem.W.Frag} {H : Hp} {a : Addr} {xs : List V} (h : TupAt H a xs) : SqT K H a xs := by
  rcases h with h | ⟨o, _, h⟩
  · exact .inl (.inl h)
  · exact .inl (.inr ⟨o, h⟩)
theorem TupAt.ext {bx : Addr} {H H' : Hp} {a : Addr} {xs : List V} (e : Ext bx H H') (n : a ≠ bx) (h : TupAt H a xs) : TupAt H' a xs := by
  rcases h with h | ⟨o, d, h⟩
  · exact .inl (e _ _ n h)
  · exact .inr ⟨o, d, e _ _ n h⟩
theorem TupAt.ty {K : PySem.W.Frag} {H : Hp} {a : Addr} {xs : List V} (h : TupAt H a xs) : TyX K H (.ref a) (.type "tuple") := by
  rcases h with h | ⟨o, d, h⟩
  · exact .base (.tup h)
  · exact .fTuple h
/-! data in the heap, the box not among it -/
mutual
inductive Rp (bx : Addr) (H : Hp) : V → PyData → Prop
  | non : Rp bx H .non .none
  | bl (b : Bool) : Rp bx H (.bl b) (.bool b)
  | int (i : Int) : Rp bx H (.int i) (.int i)
  | str (x : Str) : Rp bx H (.str x) (.str x)
  | lst {a : Addr} {xs : List V} {ds : List PyData} : H a = some (.lst xs) → a ≠ bx → RpAll bx H xs ds → Rp bx H (.ref a) (.list ds)
  | tup {a : Addr} {xs : List V} {ds : List PyData} : TupAt H a xs → a ≠ bx → RpAll bx H xs ds → Rp bx H (.ref a) (.tuple ds)
inductive RpAll (bx : Addr) (H : Hp) : List V → List PyData → Prop
  | nil : RpAll bx H [] []
  | cons {v : V} {vs : List V} {d : PyData} {ds : List PyData} : Rp bx H v d → RpAll bx H vs ds → RpAll bx H (v :: vs) (d :: ds)
end
mutual
theorem Rp.ext {bx : Addr} {H H' : Hp} (e : Ext bx H H') : ∀ {v : V} {d : PyData}, Rp bx H v d → Rp bx H' v d
  | _, _, .non => .non
  | _, _, .bl b => .bl b
  | _, _, .int i => .int i
  | _, _, .str x => .str x
  | _, _, .lst h n r => .lst (e _ _ n h) n (RpAll.ext e r)
  | _, _, .tup h n r => .tup (h.ext e n) n (RpAll.ext e r)
theorem RpAll.ext {bx : Addr} {H H' : Hp} (e : Ext bx H H') : ∀ {vs : List V} {ds : List PyData}, RpAll bx H vs ds → RpAll bx H' vs ds
  | _, _, .nil => .nil
  | _, _, .cons h r => .cons (Rp.ext e h) (RpAll.ext e r)
end
mutual
theorem Rp.dp {bx : Addr} {K : PySem.W.Frag} {H : Hp} : ∀ {v : V} {d : PyData}, Rp bx H v d → Dp K H v d
  | _, _, .non => .non
  | _, _, .bl b => .bl b
  | _, _, .int i => .int i
  | _, _, .str x => .str x
  | _, _, .lst h n r => .lst (.inl (.inl h)) (RpAll.dp r)
  | _, _, .tup h n r => .tup h.sq (RpAll.dp r)
theorem RpAll.dp {bx : Addr} {K : PySem.W.Frag} {H : Hp} : ∀ {vs : List V} {ds : List PyData}, RpAll bx H vs ds → DpAll K H vs ds
  | _, _, .nil => .nil
  | _, _, .cons h r => .cons (Rp.dp h) (RpAll.dp r)
end
theorem RpAll.length {bx : Addr} {H : Hp} : ∀ {vs : List V} {ds : List PyData}, RpAll bx H vs ds → vs.length = ds.length
  | _, _, .nil => rfl
  | _, _, .cons _ r => by rw [List.length_cons, List.length_cons, r.length]
theorem RpAll.get {bx : Addr} {H : Hp} : ∀ {vs : List V} {ds : List PyData} {i : Nat} {d : PyData}, RpAll bx H vs ds → ds[i]? = some d → ∃ v, vs[i]? = some v ∧ Rp bx H v d
  | _, _, _, _, .nil, e => by simp at e
  | _, _, 0, _, .cons r _, e => by simp at e; subst e; exact ⟨_, rfl, r⟩
  | _, _, i + 1, d, .cons _ t, e => by
    obtain ⟨u, h1, h2⟩ := RpAll.get (i := i) (d := d) t (by simpa using e)
    exact ⟨u, by simpa using h1, h2⟩
theorem RpAll.append {bx : Addr} {H : Hp} : ∀ {vs ws : List V} {ds es : List PyData}, RpAll bx H vs ds → RpAll bx H ws es → RpAll bx H (vs ++ ws) (ds ++ es)
  | _, _, _, _, .nil, s => s
  | _, _, _, _, .cons r t, s => .cons r (RpAll.append t s)
theorem RpAll.ints {bx : Addr} {H : Hp} : ∀ (ns : List Int), RpAll bx H (ns.map V.int) (ns.map PyData.int)
  | [] => .nil
  | n :: r => .cons (.int n) (RpAll.ints r)
theorem RpAll.ofInts {bx : Addr} {H : Hp} : ∀ {ns : List Int} {vs : List V}, RpAll bx H vs (ns.map PyData.int) → vs = ns.map V.int
  | [], _, .nil => rfl
  | n :: r, _, .cons (.int _) t => by rw [RpAll.ofInts t]; rfl
end Lh

namespace Lh
open PySem PySem.Spec PyProof.Rows L2

/-! ### defs that want to know that no repr is under way around them -/
structure FnG (P : Program) (w : World) (K : PySem.W.Frag) (mg : Str → Option Value) (base : Heap) (k : Nat) (f : Addr) (fd : FuncData) (ps : List Str) (sp : Sp) : Prop where
  len : ∀ vs H Q E, sp vs H Q E → vs.length = ps.length
  run : ∀ (B : Around) (out : List Env) (t : Shared) (H : Hp) (args : Args) (us : List Value) (vs : List V) (Q : VK) (E : XK), Room k B → B.guards = some [] →
    Env0 P w K mg base B out t H → BindsTo t fd args (ps.zip us) → Vals vs us → sp vs H Q E → codeAny (model P w) B (.call (.ref f) args) (CR CX0 out P w H t Q E) t
section
variable {P : Program} {w : World} {K : PySem.W.Frag} {mg : Str → Option Value} {base : Heap}
theorem okG {x qual : Str} {st : Stmt} {f : Addr} {fd : FuncData} {N ps : List Str} {k : Nat} {sp : Sp} (F : Fun K x qual st f fd) (S : FnScope N ps (defScope st)) (len : ∀ vs H Q E, sp vs H Q E → vs.length = ps.length)
    (body : ∀ (cd : Value) (B : Around) (out : List Env) (t : Shared) (H : Hp) (vs : List V) (Q : VK) (E : XK), Room k (B.deeper (envOfC qual (defScope st) t.heap.objs.size f cd)) →
      (B.deeper (envOfC qual (defScope st) t.heap.objs.size f cd)).guards = some [] → sp vs H Q E →
      ∃ r, PSs (cxOf CX0 P w K mg base N qual (defScope st) f cd B out t H E).nox (defBody st) r ∧ r { nx := fun _ H' => Q .non H', rt := Q } (start N vs) H) : FnG P w K mg base (k + 1) f fd ps sp := by
  obtain ⟨oc, od, kV, doc, pm, an, cd, ct, osl, rfl, lk, hcd⟩ := F.ex
  refine ⟨len, fun B out t H args us vs Q E hr hG e0 hb r hsp => ?_⟩
  have hl := len _ _ _ _ hsp
  have kx : K.In t.heap := e0.mod.kin.keeps fun b o e => (e0.bs b o e).1
  have li : t.heap.NoLimit := e0.mod.nolimit.keeps fun b o e => (e0.bs b o e).1
  have kind : ∀ y ∈ ps.zip us, (defScope st).names.lookup y.1 = some .local ∨ ((defScope st).names.lookup y.1 = some .cell ∧ ((cellsFrom (t.heap.objs.size + 1) (defScope st).names []).lookup y.1).isSome = true) := by
    rintro ⟨n, v⟩ hy
    rcases S.par n (List.of_mem_zip hy).1 with q | q
    · exact .inl q
    · exact .inr ⟨q, PySem.W.cellsFrom_some _ _ _ (.inl q)⟩
  refine codeAny_call_function hr.depth (kx _ _ lk) rfl S.co S.gen rfl (PySem.W.codeRec_of kx hcd) (hb _ _ _ _ ?_)
  refine wpAny_newFunctionEnv_cells S.kind kind fun env he t1 x => ?_
  subst he
  refine ⟨li.keeps x.toInCall.keep, codeAny_func ?_⟩
  obtain ⟨rd, h0, hq⟩ := body cd B out t H vs Q E (hr.deeper _) hG hsp
  have hrd := h0.nox
  have I : Inv (cxOf CX0 P w K mg base N qual (defScope st) f cd B out t H E) [] (start N vs) H t1 := inv_start S hr.hd e0 hl r x
  refine wpAny_mono (hrd.run [] t1 (start N vs) H _ I hq) (fun fl t' hs => ?_) fun e t' hs => hs
  have fin : ∀ {σ' : L2.St} {H' : Hp} {v : V} {u : Value}, Inv (cxOf CX0 P w K mg base N qual (defScope st) f cd B out t H E) [] σ' H' t' → RelV v u → Q v H' → CE out P w H t Q u t' := by
    intro σ' H' v u J rv q
    exact ⟨v, H', J.os, J.bare, J.base, J.hok, rv, q⟩
  cases fl with
  | ret u =>
    obtain ⟨v, σ', H', J, rv, q⟩ := hs
    exact fin J rv q
  | next =>
    obtain ⟨σ', H', J, q⟩ := hs
    exact fin (v := V.non) (u := Value.none) J rfl q
  | brk => obtain ⟨_, _, _, q⟩ := hs; exact False.elim q
  | cont => obtain ⟨_, _, _, q⟩ := hs; exact False.elim q
end
section
variable {X : Cx} {k n : Nat} {f : Addr} {fd : FuncData} {ps ks : List Str} {sp : Sp} {x : Str} {p pos : Pos} {e : Expr} {es : List Expr} {kws : List Keyword} {t tk : TA} {g : List Value → List Value → List Value} {gV : List V → List V → List V}
theorem pe_callG (F : FnG X.prog X.w X.K X.mg X.base k f fd ps sp) (hr : Room k X.A) (hG : X.A.guards = some []) (hg : Gl X x) (hm : X.mg x = some (.ref f)) (hk : PySem.W.keepIn X.K (.ref f) = true) (hb : Binds X.K fd ps [])
    (ha : PA X (e :: es) t) (hdb : (x == ("__debug__" : Str)) = false := by decide) (he : starEach (e :: es) X.env = (false, eval e X.env) :: starEach es X.env := by rfl) (hpl : (backTo pos (starEach es X.env)).any (·.1) = false := by rfl) :
    PE X (.Call (.Name x p) (e :: es) [] pos) (tCall sp [] E0 t) := by
  refine ⟨fun pins s σ H Q I h => ?_⟩
  refine wpAny_Call_Name_kw (ld_glob I hg hm ?_ hdb)
  refine PySem.W.callWith_K (h₀ := X.base) I.ok.mod.kin hk (thn (ha.run pos pins s σ H _ I h) fun us s1 ⟨vs, H1, I1, r, q⟩ => ⟨I1.kIn, ?_⟩) he hpl
  have r2 : Vals (vs ++ []) (us ++ []) := r.append .nil
  have hl : (us ++ []).length = ps.length := by rw [← r2.length]; exact F.len _ _ _ _ q
  refine wpAny_call (codeAny_mono (F.run X.A X.stack s1 H1 ⟨us, []⟩ (us ++ []) (vs ++ []) Q E0 hr hG I1.env0 (hb s1 us I1.kIn hl) r2 q) fun r s' hq => ?_)
  cases r with
  | error e => exact False.elim hq
  | ok fl =>
    cases fl with
    | ret u => exact I1.after hq
    | next => exact False.elim hq
    | brk => exact False.elim hq
    | cont => exact False.elim hq
/-- f(k = v, ..): keywords alone -/
theorem pe_callN0 (F : FnOk X.prog X.w X.K X.mg X.base CX0 k f fd ps sp) (hr : Room k X.A) (hg : Gl X x) (hm : X.mg x = some (.ref f)) (hk : PySem.W.keepIn X.K (.ref f) = true) (hb : KBn X.K fd ps 0 ks g gV)
    (hkw : PK X kws tk) (hall : (backToKw pos (keywordEach kws X.env)).all (·.1.isSome) = true := by rfl) (hks : (backToKw pos (keywordEach kws X.env)).filterMap (·.1) = ks := by rfl)
    (hdb : (x == ("__debug__" : Str)) = false := by decide)
    (hpl : ((backTo pos (starEach [] X.env)).any (·.1) || (backToKw pos (keywordEach kws X.env)).any (·.1.isNone)) = false := by rfl) :
    PE X (.Call (.Name x p) [] kws pos) (tCallN 0 ks.length sp gV E0 tNil tk) := by
  refine ⟨fun pins s σ H Q I h => ?_⟩
  refine wpAny_Call_Name_kw (ld_glob I hg hm ?_ hdb)
  refine PySem.W.callWith_KW0 (h₀ := X.base) I.ok.mod.kin hk hall ?_ hpl
  refine thn (hkw.run pos pins s σ H _ I h) fun ws s2 ⟨zs, H2, I2, rz, l1, l2, q2⟩ => ⟨I2.kIn, ?_⟩
  rw [hks]
  exact run_fnN (us := []) (vs := []) F hr hb pass0 I2 .nil rz rfl l2 q2
end
/-- values put in another order -/
def permV {α : Type} (js : List Nat) (xs : List α) : List α := js.filterMap fun j => xs[j]?
theorem permV_rel (js : List Nat) : ∀ {vs : List V} {us : List Value}, Vals vs us → Vals (permV js vs) (permV js us) := by
  intro vs us r
  induction js with
  | nil => exact .nil
  | cons j js ih =>
    unfold permV
    rw [List.filterMap_cons, List.filterMap_cons]
    cases e : vs[j]? with
    | none =>
      rw [r.none_of e]
      exact ih
    | some v =>
      obtain ⟨u, e1, e2⟩ := r.get e
      rw [e1]
      exact .cons e2 ih

/-! ### the law's call -/
theorem law_callG {P : Program} {w : World} {K : PySem.W.Frag} {mg mb : Str → Option Value} {k : Nat} {fa a : Addr} {fd : FuncData} {x : Str} {sp : Sp} {t : Shared} {vs : List Value} {ns : List Int}
    (kx : K.In t.heap) (hns : t.heap.Ns mainGlobals mg) (hb : t.heap.Ns builtinsNs mb) (hbb : ∀ x : Str, x ≠ "__name__" → mb x = bootBuiltins x) (li : t.heap.NoLimit) (hg : t.gens = #[])
    (ha : t.heap.get? a = some { cls := .type "list", data := .seq vs.toArray }) (hi : IntsAre vs ns) (hl : ns.length ≤ sizeLine) (hr : Room k callerA)
    (F : ∀ base : Heap, K.In base → base.Ns mainGlobals mg → FnG P w K mg base k fa fd [x] sp) (bd : ∀ (s : Shared) (u : Value), BindsTo s fd ⟨[u], []⟩ [(x, u)])
    (hsp : ∀ H : Hp, Only H → SqL K H a (ns.map V.int) → sp [.ref a] H (fun v _ => v = .bl true) fun _ _ _ => False) :
    codeAny (model P w) callerA (.call (.ref fa) ⟨[.ref a], []⟩) (fun r t' => r = .ok (.ret (.bool true)) ∧ OldK t.heap t'.heap ∧ t'.os = t.os ∧ AllBare t'.gens) t := by
  have rv := vals_ints hi
  have lenV := hi.length
  have core : ∀ H : Hp, Only H → SqL K H a (ns.map V.int) → HOk P w H t.heap → (∀ b, H b ≠ none → b = a) → (H a ≠ none → K.lookup a = none) →
      codeAny (model P w) callerA (.call (.ref fa) ⟨[.ref a], []⟩) (fun r t' => r = .ok (.ret (.bool true)) ∧ OldK t.heap t'.heap ∧ t'.os = t.os ∧ AllBare t'.gens) t := by
    intro H hO hS ok hA hK
    have bo : ∀ {b : Addr} {o : Obj}, t.heap.get? b = some o → H b = none → (hidT t.heap H).get? b = some o := fun e n => hidT_get e n
    have nd : ∀ {b : Addr} {o : Obj} {es : Array DictEntry} {ep : Nat}, t.heap.get? b = some o → o.data = .dict es ep → H b = none := by
      intro b o es ep e d
      cases q : H b with
      | none => rfl
      | some u =>
        have e' : b = a := hA b (by rw [q]; simp)
        subst e'
        rw [ha] at e; cases e
        have d2 : Data.seq vs.toArray _ = Data.dict es ep := d
        cases d2
    have nk : ∀ {b : Addr} {m : Str → Option Value}, t.heap.Ns b m → (hidT t.heap H).Ns b m := by
      rintro b m ⟨o, es, ep, e, d, r⟩
      exact ⟨o, es, ep, bo e (nd e d), d, r⟩
    have kb : K.In (hidT t.heap H) := by
      intro b o e
      refine bo (kx b o e) ?_
      cases q : H b with
      | none => rfl
      | some u =>
        have e' : b = a := hA b (by rw [q]; simp)
        subst e'
        rw [hK (by rw [q]; simp)] at e; cases e
    have hM : Mod K mg (hidT t.heap H) := by
      obtain ⟨mc, h1, h2⟩ := li
      exact ⟨kb, nk hns, ⟨mb, nk hb, hbb⟩, ⟨mc, nk h1, h2⟩⟩
    have e0 : Env0 P w K mg (hidT t.heap H) callerA [] t H := by
      refine ⟨rfl, hM, fun b o e => of_hidT e, Nat.le_of_eq (hidT_size _ _), trivial, ?_, ok, .of_eq hg⟩
      intro b hb
      exact absurd (show b ∈ ([] : List Addr) from hb) (by simp)
    refine codeAny_mono ((F _ kb (nk hns)).run callerA [] t H ⟨[.ref a], []⟩ [.ref a] [.ref a] _ _ hr rfl e0 (bd t (.ref a)) (.cons rfl .nil) (hsp H hO hS)) ?_
    intro r t' h
    cases r with
    | error e => exact False.elim h
    | ok fl =>
      cases fl with
      | next => exact False.elim h
      | brk => exact False.elim h
      | cont => exact False.elim h
      | ret u =>
        obtain ⟨v, H', os, bare, un, ok', r', q⟩ := h
        have q2 : v = .bl true := q
        subst q2
        obtain rfl : u = Value.bool true := r'
        refine ⟨rfl, OldK.of_keep fun b o e => ?_, os, bare⟩
        cases q : H b with
        | none =>
          refine un.keep b o e q ?_ (by simp)
          intro z
          exact absurd (show b ∈ ([] : List Addr) from z) (by simp)
        | some u =>
          rcases hO b with z | ⟨ob, xs, z⟩
          · rw [q] at z; cases z
          · have z2 := un.frzs b ob _ z
            obtain ⟨e1, _⟩ := ok b _ z
            obtain ⟨e2, _⟩ := ok' b _ z2
            rw [e] at e1; cases e1
            exact e2
  cases hk : K.lookup a with
  | some o =>
    have e := kx a o hk
    rw [ha] at e
    cases e
    refine core (fun _ => none) (fun _ => .inl rfl) (.inr ⟨_, vs.toArray, _, hk, rfl, rfl, rfl, by rw [List.size_toArray, lenV]; exact hl, by simpa using rv⟩) ?_ (fun b z => absurd rfl z) fun z => absurd rfl z
    intro b u z
    have z2 : (none : Option HO) = some u := z
    cases z2
  | none =>
    refine core (fun b => if b = a then some (.frz { cls := .type "list", data := .seq vs.toArray } (.lst (ns.map V.int))) else none) (fun b => ?_) (.inl (.inr ⟨_, if_pos rfl⟩)) (fun b u z => ?_) (fun b z => ?_) fun _ => hk
    · by_cases hb : b = a
      · exact .inr ⟨_, _, if_pos hb⟩
      · exact .inl (if_neg hb)
    · by_cases hb : b = a
      · have z2 := (if_pos hb).symm.trans z
        cases z2
        subst hb
        exact ⟨ha, by rw [List.length_map]; exact hl, vs, _, rv, ha⟩
      · have z2 := (if_neg hb).symm.trans z
        cases z2
    · by_cases hb : b = a
      · exact hb
      · exact absurd (if_neg hb) z
theorem walk_G {l : PySem.W.OpenLaw} {n k : Nat} {q : Program} {loose : List Str} {XP : (Str → Option Value) → Heap → Prop} {YP : World → Heap → Prop} {d : DefRec} {K : Params → PySem.W.Frag} {sp : World → Sp} {x : Str}
    (hn : l.most = some n) (hn2 : n ≤ sizeLine) (hdf : d.params.defaults = []) (hr : Room k callerA)
    (hY : ∀ (w : World) (h : Heap), YP w h → (K w.params).In h)
    (F : ∀ (w : World) (mg : Str → Option Value) (fa : Addr) (h : Heap), (K w.params).In h → h.Ns mainGlobals mg → mg d.name = some (.ref fa) →
      ∃ fd : FuncData, (∀ (s : Shared) (u : Value), BindsTo s fd ⟨[u], []⟩ [(x, u)]) ∧
        ∀ base : Heap, (K w.params).In base → base.Ns mainGlobals mg → FnG l.prog w (K w.params) mg base k fa fd [x] (sp w))
    (hsp : ∀ (w : World) (H : Hp) (a : Addr) (ns : List Int), ns.length ≤ n → Only H → SqL (K w.params) H a (ns.map V.int) → sp w [.ref a] H (fun v _ => v = .bl true) fun _ _ _ => False) :
    PySem.W.WalkO q loose XP YP l.row.toRowW d [] (fun f vs => PySem.call f vs) := by
  refine Att.attach_call hn hdf ?_
  intro w s₀ t mg mb fa o pm cd doc a vs ns G Y ho hd hcd hmg hobj hints hlen hg
  obtain ⟨fd, hb, hF⟩ := F w mg fa _ (hY w _ Y) G.T.g hmg
  exact law_callG (hY w _ Y) G.T.g G.T.b G.T.builtins G.T.nolimit hg hobj hints (Nat.le_trans hlen hn2) hr hF hb (fun H hO hS => hsp w H a ns hlen hO hS)
end Lh

namespace Lh
open PySem PySem.Spec PyProof.Rows L2
/-! ### set(numbers), numbers a list -/
/-- a set as it is first laid -/
abbrev bareSet (w : World) : Obj := { cls := .type "set", dict := none, data := .set #[] 0 (.fresh 0 0 (!w.params.followText "set-order")) }
/-- the set at the heap's end holds just ns, all else is kept -/
def Filled (w : World) (s t : Shared) (ns : List Int) : Prop := ∃ (g : Heap) (tk c : Nat), t = { s with heap := g, toks := tk } ∧ SetR w g s.heap.objs.size (fun j => decide (j ∈ ns)) c ∧ c ≤ ns.length ∧ ∀ b o, s.heap.get? b = some o → g.get? b = some o
theorem ints_at : ∀ {us : List Value} {ns : List Int}, IntsAre us ns → us.length = ns.length ∧ ∀ (i : Nat) (v : Value), us[i]? = some v → ∃ k t, ns[i]? = some k ∧ v = .int k t
  | _, _, .nil => ⟨rfl, fun i v e => absurd e (by simp)⟩
  | _, _, .cons n t r => by
    obtain ⟨h1, h2⟩ := ints_at r
    refine ⟨congrArg (· + 1) h1, fun i v e => ?_⟩
    cases i with
    | zero => exact ⟨n, t, rfl, (Option.some.inj e).symm⟩
    | succ i => exact h2 i v e
section
variable {P : Program} {w : World} {A : Around} {E : Value → Shared → Prop} {s : Shared} {l : Addr} {items : Array Value} {ns : List Int}
set_option maxHeartbeats 3200000 in
theorem set_init (hh : A.handled = none) (hl : s.heap.IsList l items) (hi : IntsAre items.toList ns) (hb : ns.length + 1 < scanBound) :
    codeAny (model P w) A (.call (.builtin "set.__init__") ⟨[.ref s.heap.objs.size, .ref l], []⟩) (wants (fun r t => r = .none ∧ Filled w s t ns) E) { s with heap := s.heap.push (bareSet w) } := by
  obtain ⟨hsz, hat⟩ := ints_at hi
  rw [Array.length_toList] at hsz
  have top : (s.heap.push (bareSet w)).get? s.heap.objs.size = some (bareSet w) := Heap.get?_push_size _ rfl
  refine codeAny_call_builtin F.called_set.init.plain F.entry_set_init (check_set_init_1 ⟨_, top, rfl⟩ ?_)
  have hl0 := hl
  obtain ⟨⟨k, dc, da, sl⟩, ho, ek, n, ed⟩ := hl
  dsimp only at ek ed
  subst ek ed
  have lt := Heap.lt_size ho
  have ho2 : (s.heap.push (bareSet w)).get? l = _ := Heap.get?_push_of_some _ ho
  have f1 := F.sub_list_set
  have f2 := F.sub_list_frozenset
  have f3 : (Value.type "list" == Value.type "dict") = false := by decide
  unfold Builtin.«set.__init__»
  unfold noKeywords
  unfold Builtin.Frozenset.updateFrom
  generalize ei : pyIter = it
  wp_walk
  subst ei
  have sz : (s.heap.push (bareSet w)).objs.size = s.heap.objs.size + 1 := Heap.size_push ..
  refine wpAny_pyIter_list (hl0.push _) (wpAny_bind (wpAny_runValue ?_))
  have wk := fun (B : Around) (hB : B.handled = none) => (Walks.list (prog := P) (w := w) (A := B) hB (s.heap.push (bareSet w)).objs.size l (by rw [sz]; exact Nat.ne_of_lt (Nat.lt_succ_of_lt lt)) items).toS
  refine set_update_ints (wk _ (by simp [hh])) s.heap.objs.size (by rw [sz]; exact fun z => (List.mem_cons.mp z).elim (Nat.ne_of_lt (Nat.lt_succ_self _)) fun z => Nat.ne_of_gt lt (List.mem_singleton.mp z)) ns hsz hb (fun i v e => hat i v (by rw [Array.getElem?_toList]; exact e)) items.size 0 _ (by omega) (Nat.zero_le _) ⟨⟨_, Heap.get?_push_size _ rfl, rfl, rfl⟩, (hl0.push _).push _⟩ ⟨0, Nat.le_refl 0, setR_new_at (Heap.get?_push_of_some _ top)⟩ ?_
  rintro ⟨g, g2, d2, tk, o2⟩ c mv hc R
  cases (show g2 = s.gens from mv.gens)
  cases (show d2 = s.drawn from mv.drawn)
  cases (show o2 = s.os from mv.os)
  refine wpAny_pure (show wpAny _ _ (ret Value.none) _ _ _ from wpAny_pure ⟨rfl, g, tk, c, rfl, R, by omega, fun b o e => ?_⟩)
  have lb := Heap.lt_size e
  exact mv.heap b o (by rw [sz]; exact fun z => (List.mem_cons.mp z).elim (Nat.ne_of_lt lb) fun z => Nat.ne_of_lt (Nat.lt_succ_of_lt lb) (List.mem_singleton.mp z)) (Heap.get?_push_of_some _ (Heap.get?_push_of_some _ e))
set_option maxHeartbeats 3200000 in
theorem set_of_list (ns : List Int) {Q : Value → Shared → Prop} (hh : A.handled = none) (hl : s.heap.IsList l items) (hi : IntsAre items.toList ns) (hb : ns.length + 1 < scanBound) (q : ∀ t, Filled w s t ns → Q (.ref s.heap.objs.size) t) :
    wpAny (model P w) A (call (.type "set") [.ref l]) Q E s := by
  have c1 := F.called_set.made
  have c2 := F.called_set.sub
  have c3 := F.called_set.notType
  have c4 := F.called_set.canCreate
  have c5 := F.typeCall_set_1 (.ref l)
  have c6 := F.called_set.init.lookup
  have c7 := F.called_set.init.bind (.ref s.heap.objs.size)
  obtain ⟨m1, m2, c8⟩ := F.called_set.mro
  refine wpAny_call (codeAny_of_tree (show wpAny _ _ (callAny (.type "set") _) _ _ _ from wpAny_pure ⟨Code.quiet_builtin _ (by decide +kernel), codeAny_builtin F.entry_type_call ?_⟩))
  rw [Around.under_plain (weight_type_call_type "set" [.ref l] []) rfl]
  repeat any_goals first | assumption | wp_step
  refine codeAny_mono (code_set_led1 (.ref l) (E := E) (Q₁ := fun x t => x = .ref s.heap.objs.size ∧ t = { s with heap := s.heap.push (bareSet w) }) ⟨rfl, rfl⟩) ?_
  rintro (e | fl) t ht
  · exact ht
  cases fl with
  | next => exact ht.elim
  | brk => exact ht.elim
  | cont => exact ht.elim
  | ret x =>
    obtain ⟨rfl, rfl⟩ := ht
    have ty : Shared.TypeIs { s with heap := s.heap.push (bareSet w) } (.ref s.heap.objs.size) "set" := ⟨_, Heap.get?_push_size _ rfl, rfl⟩
    repeat any_goals first | assumption | wp_step
    refine codeAny_mono (set_init (E := E) (by simp [hh]) hl hi hb) ?_
    rintro (e | fl) t2 ht2
    · exact ht2
    cases fl with
    | next => exact ht2.elim
    | brk => exact ht2.elim
    | cont => exact ht2.elim
    | ret y =>
      obtain ⟨rfl, f⟩ := ht2
      repeat any_goals first | assumption | wp_step
      exact q _ f
end
end Lh

namespace Lh
open PySem PySem.Spec PyProof.Rows L2
section
variable {X : Cx}
/-- repr of data -/
def rRepr (K : PySem.W.Frag) : List V → Hp → VK → Prop := fun xs H Q => ∃ (a : Addr) (d : PyData), xs = [.ref a] ∧ Dp K H (.ref a) d ∧ d.showable = true ∧ d.hasDict = false ∧ d.depth ≤ 60 ∧ d.shown.length ≤ sizeLine ∧ Q (.str d.shown) H
theorem call_reprD (hG : X.A.guards = some []) (hu : X.A.units + 64 < cLine) : CallR X (.builtin "repr") (rRepr X.K) := by
  intro pins s σ H xs us Q I r h
  obtain ⟨a, d, rfl, hd, h1, h2, h3, h4, q⟩ := h
  have e := Vals.ref1 r
  subst e
  obtain ⟨as, rd⟩ := Dp.reads I d (.ref a) (.ref a) hd rfl
  exact repr_of_reads' rd h1 (fun z => by rw [h2] at z; cases z) hG (by omega) (fun b o e => e) (fun h' u tk hk => ⟨.str d.shown, H, I.kept hk, ⟨u, rfl⟩, q⟩) h4
/-- max(numbers, default=d) of a list of ints -/
def rMaxD (K : PySem.W.Frag) : List V → List V → Hp → VK → Prop := fun xs zs H Q => ∃ (a : Addr) (ns : List Int) (d : Int), xs = [.ref a] ∧ zs = [.int d] ∧ SqL K H a (ns.map V.int) ∧
  ∀ m, (ns = [] → m = d) → (ns ≠ [] → m ∈ ns ∧ ∀ y ∈ ns, y ≤ m) → Q (.int m) H
theorem foldl_max (ns : List Int) : ∀ n : Int, (ns.foldl max n = n ∨ ns.foldl max n ∈ ns) ∧ n ≤ ns.foldl max n ∧ ∀ y ∈ ns, y ≤ ns.foldl max n := by
  induction ns with
  | nil => intro n; exact ⟨.inl rfl, Int.le_refl _, fun y h => absurd h (by simp)⟩
  | cons m r ih =>
    intro n
    obtain ⟨h1, h2, h3⟩ := ih (max n m)
    rw [List.foldl_cons]
    refine ⟨?_, by omega, fun y hy => ?_⟩
    · rcases h1 with h1 | h1
      · by_cases c : n ≤ m
        · right; rw [h1]; rw [Int.max_eq_right c]; exact List.mem_cons_self
        · left; rw [h1]; omega
      · right; exact List.mem_cons_of_mem _ h1
    · rcases List.mem_cons.mp hy with rfl | hy
      · omega
      · exact h3 y hy
theorem cr_maxD (hc : X.calm = true) (hu : X.A.units + 64 < cLine) : CallRK X (.builtin "max") [Str.ofString "default"] (rMaxD X.K) := by
  intro pins s σ H xs zs us ws Q I r rz h
  obtain ⟨a, ns, d, rfl, rfl, hs, q⟩ := h
  obtain ⟨its, rv, hl, _⟩ := I.list hs
  rw [Vals.ref1 r]
  cases rz with
  | cons rd rt =>
    cases rt
    obtain ⟨td, rfl⟩ := rd
    obtain ⟨as, ra⟩ := Dp.readsAll I (ns.map PyData.int) _ its (RpAll.dp (bx := 0) (RpAll.ints ns)) rv
    have dpt : ∀ l : List Int, PyData.depthAll (l.map PyData.int) = 0 := fun l => by
      induction l with
      | nil => rfl
      | cons x r ih => rw [List.map_cons]; show max 0 (PyData.depthAll (r.map PyData.int)) = 0; rw [ih]; rfl
    refine PySem.W.max_list_default (I.ok.hd hc) hl.isList (vs := its.toArray) (xs := ns.map PyData.int) (by simpa using ra) ⟨fun x hx y hy => ?_, fun x hx => ?_⟩ (by rw [dpt]; omega) (fun e h' tk hk => ?_) (fun y ys i v h' tk bs e hv rd hk => ?_)
    · obtain ⟨i, _, rfl⟩ := List.mem_map.mp hx
      obtain ⟨j, _, rfl⟩ := List.mem_map.mp hy
      rfl
    · obtain ⟨i, _, rfl⟩ := List.mem_map.mp hx
      intro z; cases z
    · have e0 : ns = [] := List.map_eq_nil_iff.mp e
      exact ⟨.int d, H, I.kept hk, ⟨_, rfl⟩, q d (fun _ => rfl) (fun z => absurd e0 z)⟩
    · cases ns with
      | nil => cases e
      | cons n r =>
        rw [List.map_cons] at e
        cases e
        rw [PySem.W.maxD_ints] at rd
        cases rd
        obtain ⟨h1, h2, h3⟩ := foldl_max r n
        refine ⟨.int (r.foldl max n), H, I.kept hk, ⟨_, rfl⟩, q _ (fun z => by cases z) (fun _ => ⟨?_, fun y hy => ?_⟩)⟩
        · rcases h1 with h1 | h1
          · rw [h1]; exact List.mem_cons_self
          · exact List.mem_cons_of_mem _ h1
        · rcases List.mem_cons.mp hy with rfl | hy
          · exact h2
          · exact h3 y hy
/-- set(numbers) of a list of ints -/
def rSetL (K : PySem.W.Frag) (w : World) : List V → Hp → VK → Prop := fun xs H Q => ∃ (a : Addr) (ns : List Int), xs = [.ref a] ∧ SqL K H a (ns.map V.int) ∧ ns.length ≤ 1000 ∧
  ∀ (p : Addr) (c : Nat) (ks : List Int), H p = none → ks.Nodup → ks.length = c → c ≤ ns.length → (∀ k, k ∈ ks ↔ k ∈ ns) → Q (.ref p) (upd H p (SetO w p (fun j => decide (j ∈ ns)) c))
theorem cr_setL (hc : X.calm = true) : CallR X (.type "set") (rSetL X.K X.w) := by
  intro pins s σ H xs us Q I r h
  obtain ⟨a, ns, rfl, hs, hl, q⟩ := h
  obtain ⟨its, rv, pl, _⟩ := I.list hs
  rw [Vals.ref1 r]
  refine set_of_list ns (I.ok.hd hc) pl.isList (by simpa using RZ.intsAre_vals rv) (by unfold scanBound; omega) ?_
  rintro t ⟨h', tk, c, rfl, R, hle, hk⟩
  have R' := R
  obtain ⟨o, es, ep, t, ho, _, _, _, nd, hm, _, _, hn, _⟩ := R'
  refine ⟨.ref s.heap.objs.size, upd H s.heap.objs.size (SetO X.w s.heap.objs.size (fun j => decide (j ∈ ns)) c), I.laid (t' := tk) hk (Nat.le_refl _) (setO_new R), rfl, ?_⟩
  refine q _ c (es.toList.map keyOf) (I.hok.fresh (Nat.le_refl _)) nd (by rw [List.length_map, Array.length_toList]; exact hn) hle fun k => ?_
  rw [← hm k]
  exact decide_eq_true_iff
/-- len of such a set -/
def rLenSet (w : World) : List V → Hp → VK → Prop := fun xs H Q => ∃ (a : Addr) (S : Int → Bool) (c : Nat), xs = [.ref a] ∧ H a = some (SetO w a S c) ∧ c ≤ 1000 ∧ Q (.int (c : Int)) H
theorem cr_lenSet : CallR X (.builtin "len") (rLenSet X.w) := by
  intro pins s σ H xs us Q I r h
  obtain ⟨a, S, c, rfl, ha, hl, q⟩ := h
  rw [Vals.ref1 r]
  obtain ⟨o, es, ep, t, ho, hx, hd, _, _, _, _, hf, hn, _⟩ := setO_get I ha
  refine call_len_set ho hx hd hf (by rw [hn]; omega) ⟨.int (c : Int), H, I.tok _, ⟨_, by rw [hn]⟩, q⟩
/-- tuple(numbers) of a list: a new tuple, whose object bears no names -/
theorem call_tupleF : CallR X (.type "tuple") (fun xs H Q => ∃ p ys, xs = [.ref p] ∧ SqL X.K H p ys ∧ ∀ l (o : Obj), H l = none → o.dict = none → Q (.ref l) (upd H l (.frz o (.tup ys)))) := by
  intro pins s σ H xs us Q I r h
  obtain ⟨p, ys, rfl, hq, q⟩ := h
  rw [Vals.ref1 r]
  obtain ⟨its, rv, pl, hz⟩ := I.list hq
  have hlen := rv.length
  refine call_tuple_list pl.isList (fun h' kp => ?_) (by simp only [List.size_toArray]; omega)
  have J : Inv X pins σ H { s with heap := h' } := I.kept (t' := s.toks) kp
  have J2 := J.laid (t' := s.toks) (o := .frz { cls := .type "tuple", data := .seq its.toArray } (.tup ys)) (h' := h'.push { cls := .type "tuple", data := .seq its.toArray })
    (fun b o e => Heap.get?_push_of_some _ e) (Nat.le_refl _) ⟨Heap.get?_push_size _ rfl, hz, its, rv, IsTup.new _ _⟩
  exact ⟨.ref h'.objs.size, _, J2, rfl, q _ _ (J.hok.fresh (Nat.le_refl _)) rfl⟩
/-- dict(pairs) of such a tuple of pairs -/
theorem call_dictT (hc : X.calm = true) : CallR X (.type "dict") (fun xs H Q => ∃ (a : Addr) (o : Obj) (ps : List Addr) (kvs : List (Key × V)), xs = [.ref a] ∧ o.dict = none ∧ H a = some (.frz o (.tup (ps.map V.ref))) ∧ Paired (fun p kv => SqT X.K H p [kV kv.1, kv.2]) ps kvs ∧
    ∀ p, H p = none → Q (.ref p) (upd H p (.dK (mergeK [] kvs)))) := by
  intro pins s σ H xs us Q I r h
  obtain ⟨a, o, ps, kvs, rfl, hod, ha, hp, q⟩ := h
  rw [Vals.ref1 r]
  obtain ⟨hget, hz, its, rv, o', ho', hcls, n, hdat⟩ := I.hok a _ ha
  rw [hget] at ho'
  cases ho'
  have ei := refs_at rv
  subst ei
  rw [List.length_map] at hz
  obtain ⟨prs, rel, hl, hpr⟩ := pairs_of I hp
  have ch : ∀ j : Fin prs.length, ∃ u b, ps[j.val]? = some b ∧ IsTup s.heap b #[u, prs[j].2] ∧ keyIs prs[j].1 u = true := fun j => by
    obtain ⟨b, u, e1, e2, e3⟩ := hpr j.val prs[j] (List.getElem?_eq_getElem j.isLt)
    exact ⟨u, b, e1, e2, e3⟩
  let us : Fin prs.length → Value := fun j => Classical.choose (ch j)
  have hus : ∀ j, ∃ b, ps[j.val]? = some b ∧ IsTup s.heap b #[us j, prs[j].2] ∧ keyIs prs[j].1 (us j) = true := fun j => Classical.choose_spec (ch j)
  let qs : List (Value × Value) := List.ofFn fun j : Fin prs.length => (us j, prs[j].2)
  have qlen : qs.length = prs.length := List.length_ofFn
  have qat : ∀ i k v, qs[i]? = some (k, v) → ∃ h : i < prs.length, k = us ⟨i, h⟩ ∧ v = prs[i].2 := fun i k v e => by
    have hi : i < prs.length := by
      have := (List.getElem?_eq_some_iff.mp e).1
      rw [qlen] at this
      exact this
    refine ⟨hi, ?_⟩
    rw [List.getElem?_ofFn, dif_pos hi] at e
    cases e
    exact ⟨rfl, rfl⟩
  refine PySem.call_dict_pairs (knd := mixKind X.prog X.w) (kvs := prs) (PairArg.tuple (prog := X.prog) (w := X.w) a (ps.map Value.ref).toArray (fun j => ps.getD j 0) qs) (I.ok.hd hc) ⟨⟨o, n, hget, hcls, hod, hdat⟩, ?_, fun j k v e => ?_⟩ ⟨qlen.symm, fun i k v e => ?_⟩ (by rw [qlen, hl]; exact hz) (fun h' tk hd' hk => ?_)
  · rw [qlen, hl]; simp
  · obtain ⟨hj, rfl, rfl⟩ := qat j k v e
    obtain ⟨b, e1, e2, _⟩ := hus ⟨j, hj⟩
    have eb : ps.getD j 0 = b := by rw [List.getD_eq_getElem?_getD, e1]; rfl
    dsimp only
    rw [eb]
    refine ⟨?_, .inl e2⟩
    simp only [List.getElem?_toArray, List.getElem?_map]
    rw [e1]; rfl
  · obtain ⟨hj, rfl, rfl⟩ := qat i k v e
    obtain ⟨b, e1, e2, e3⟩ := hus ⟨i, hj⟩
    exact ⟨prs[i].1, List.getElem?_eq_getElem hj, e3⟩
  · have hm : (s.heap.objs.size == sysModules) = false := beq_eq_false_iff_ne.mpr (Nat.ne_of_gt I.big)
    have hlen : (mergeK [] kvs).length ≤ sizeLine := by
      refine Nat.le_trans (length_mergeK kvs []) ?_
      rw [List.length_nil, Nat.zero_add, rel.length, hl]
      exact hz
    exact ⟨.ref s.heap.objs.size, upd H s.heap.objs.size (.dK (mergeK [] kvs)), I.laid (t' := tk) (fun b o e => hk b o (by simp) e) (Nat.le_refl _) (show ObjOk X.prog X.w _ _ _ (.dK (mergeK [] kvs)) from ⟨hlen, hm, merged [] prs, KV.merge rel .nil, hd'⟩), rfl, q _ (I.hok.fresh (Nat.le_refl _))⟩
end
end Lh

namespace Lh
open PySem PySem.Spec PyProof.Rows L2
def topS (i : Nat) : Stmt := PySem.Challenge.pw_lesserhall_k66_whole_slow_rows_and_told.main.body.getD i (.Pass ⟨0, 0, 0, 0⟩)
abbrev s__wall : Stmt := topS 0
abbrev n__wall : List Str := ["k"]
abbrev p__wall : List Str := ["k"]
theorem sc__wall : FnScope n__wall p__wall (defScope s__wall) := ⟨rfl, rfl, rfl, by decide +kernel, rfl, by decide +kernel, by decide +kernel⟩
abbrev s_is_number : Stmt := topS 2
abbrev n_is_number : List Str := ["thing"]
abbrev p_is_number : List Str := ["thing"]
theorem sc_is_number : FnScope n_is_number p_is_number (defScope s_is_number) := ⟨rfl, rfl, rfl, by decide +kernel, rfl, by decide +kernel, by decide +kernel⟩
abbrev s_is_person : Stmt := topS 3
abbrev n_is_person : List Str := ["many", "thing"]
abbrev p_is_person : List Str := ["many", "thing"]
theorem sc_is_person : FnScope n_is_person p_is_person (defScope s_is_person) := ⟨rfl, rfl, rfl, by decide +kernel, rfl, by decide +kernel, by decide +kernel⟩
abbrev s_are_persons : Stmt := topS 4
abbrev n_are_persons : List Str := ["many", "thing", "one"]
abbrev p_are_persons : List Str := ["many", "thing"]
theorem sc_are_persons : FnScope n_are_persons p_are_persons (defScope s_are_persons) := ⟨rfl, rfl, rfl, by decide +kernel, rfl, by decide +kernel, by decide +kernel⟩
abbrev s_rises : Stmt := topS 5
abbrev n_rises : List Str := ["things", "one", "other"]
abbrev p_rises : List Str := ["things"]
theorem sc_rises : FnScope n_rises p_rises (defScope s_rises) := ⟨rfl, rfl, rfl, by decide +kernel, rfl, by decide +kernel, by decide +kernel⟩
abbrev s_is_rule : Stmt := topS 8
abbrev n_is_rule : List Str := ["many", "thing", "parts", "part", "piece"]
abbrev p_is_rule : List Str := ["many", "thing"]
theorem sc_is_rule : FnScope n_is_rule p_is_rule (defScope s_is_rule) := ⟨rfl, rfl, rfl, by decide +kernel, rfl, by decide +kernel, by decide +kernel⟩
abbrev s_is_part : Stmt := topS 9
abbrev n_is_part : List Str := ["many", "part", "thing"]
abbrev p_is_part : List Str := ["many", "part", "thing"]
theorem sc_is_part : FnScope n_is_part p_is_part (defScope s_is_part) := ⟨rfl, rfl, rfl, by decide +kernel, rfl, by decide +kernel, by decide +kernel⟩
abbrev s_are_ties : Stmt := topS 10
abbrev n_are_ties : List Str := ["many", "thing", "one", "person", "weight"]
abbrev p_are_ties : List Str := ["many", "thing"]
theorem sc_are_ties : FnScope n_are_ties p_are_ties (defScope s_are_ties) := ⟨rfl, rfl, rfl, by decide +kernel, rfl, by decide +kernel, by decide +kernel⟩
abbrev s_is_tie : Stmt := topS 11
abbrev n_is_tie : List Str := ["many", "thing"]
abbrev p_is_tie : List Str := ["many", "thing"]
theorem sc_is_tie : FnScope n_is_tie p_is_tie (defScope s_is_tie) := ⟨rfl, rfl, rfl, by decide +kernel, rfl, by decide +kernel, by decide +kernel⟩
abbrev s_seen_by : Stmt := topS 12
abbrev n_seen_by : List Str := ["rule", "word", "person", "weight"]
abbrev p_seen_by : List Str := ["rule"]
theorem sc_seen_by : FnScope n_seen_by p_seen_by (defScope s_seen_by) := ⟨rfl, rfl, rfl, by decide +kernel, rfl, by decide +kernel, by decide +kernel⟩
abbrev s_told_of : Stmt := topS 13
abbrev n_told_of : List Str := ["rule", "lot", "word", "numbers", "person", "number"]
abbrev p_told_of : List Str := ["rule", "lot"]
theorem sc_told_of : FnScope n_told_of p_told_of (defScope s_told_of) := ⟨rfl, rfl, rfl, by decide +kernel, rfl, by decide +kernel, by decide +kernel⟩
abbrev s_weighed : Stmt := topS 14
abbrev n_weighed : List Str := ["rule", "lot", "weights", "person", "number"]
abbrev p_weighed : List Str := ["rule", "lot"]
theorem sc_weighed : FnScope n_weighed p_weighed (defScope s_weighed) := ⟨rfl, rfl, rfl, by decide +kernel, rfl, by decide +kernel, by decide +kernel⟩
abbrev s_least_free : Stmt := topS 15
abbrev n_least_free : List Str := ["numbers", "least"]
abbrev p_least_free : List Str := ["numbers"]
theorem sc_least_free : FnScope n_least_free p_least_free (defScope s_least_free) := ⟨rfl, rfl, rfl, by decide +kernel, rfl, by decide +kernel, by decide +kernel⟩
abbrev s_lot_below : Stmt := topS 17
abbrev n_lot_below : List Str := ["hall", "standing", "person", "bound", "other"]
abbrev p_lot_below : List Str := ["hall", "standing", "person", "bound"]
theorem sc_lot_below : FnScope n_lot_below p_lot_below (defScope s_lot_below) := ⟨rfl, rfl, rfl, by decide +kernel, rfl, by decide +kernel, by decide +kernel⟩
abbrev s_told_below : Stmt := topS 18
abbrev n_told_below : List Str := ["hall", "standing", "person", "bound"]
abbrev p_told_below : List Str := ["hall", "standing", "person", "bound"]
theorem sc_told_below : FnScope n_told_below p_told_below (defScope s_told_below) := ⟨rfl, rfl, rfl, by decide +kernel, rfl, by decide +kernel, by decide +kernel⟩
abbrev s_told_at : Stmt := topS 19
abbrev n_told_at : List Str := ["hall", "standing", "person"]
abbrev p_told_at : List Str := ["hall", "standing", "person"]
theorem sc_told_at : FnScope n_told_at p_told_at (defScope s_told_at) := ⟨rfl, rfl, rfl, by decide +kernel, rfl, by decide +kernel, by decide +kernel⟩
abbrev s_turned : Stmt := topS 20
abbrev n_turned : List Str := ["hall", "standing", "persons", "shown", "person"]
abbrev p_turned : List Str := ["hall", "standing", "persons"]
theorem sc_turned : FnScope n_turned p_turned (defScope s_turned) := ⟨rfl, rfl, rfl, by decide +kernel, rfl, by decide +kernel, by decide +kernel⟩
abbrev s_restless : Stmt := topS 21
abbrev n_restless : List Str := ["hall", "standing", "person"]
abbrev p_restless : List Str := ["hall", "standing"]
theorem sc_restless : FnScope n_restless p_restless (defScope s_restless) := ⟨rfl, rfl, rfl, by decide +kernel, rfl, by decide +kernel, by decide +kernel⟩
abbrev s_is_rest : Stmt := topS 22
abbrev n_is_rest : List Str := ["hall", "standing"]
abbrev p_is_rest : List Str := ["hall", "standing"]
theorem sc_is_rest : FnScope n_is_rest p_is_rest (defScope s_is_rest) := ⟨rfl, rfl, rfl, by decide +kernel, rfl, by decide +kernel, by decide +kernel⟩
abbrev s_beaten : Stmt := topS 24
abbrev n_beaten : List Str := ["hall", "standing"]
abbrev p_beaten : List Str := ["hall", "standing"]
theorem sc_beaten : FnScope n_beaten p_beaten (defScope s_beaten) := ⟨rfl, rfl, rfl, by decide +kernel, rfl, by decide +kernel, by decide +kernel⟩
abbrev s_history : Stmt := topS 25
abbrev n_history : List Str := ["hall", "standing", "many", "standings"]
abbrev p_history : List Str := ["hall", "standing", "many"]
theorem sc_history : FnScope n_history p_history (defScope s_history) := ⟨rfl, rfl, rfl, by decide +kernel, rfl, by decide +kernel, by decide +kernel⟩
abbrev s_rest_by_beats : Stmt := topS 26
abbrev n_rest_by_beats : List Str := ["hall", "standing", "beats", "here", "behind"]
abbrev p_rest_by_beats : List Str := ["hall", "standing"]
theorem sc_rest_by_beats : FnScope n_rest_by_beats p_rest_by_beats (defScope s_rest_by_beats) := ⟨rfl, rfl, rfl, by decide +kernel, rfl, by decide +kernel, by decide +kernel⟩
abbrev s_keeps_line : Stmt := topS 28
abbrev n_keeps_line : List Str := ["hall", "standing", "person", "line"]
abbrev p_keeps_line : List Str := ["hall", "standing", "person", "line"]
theorem sc_keeps_line : FnScope n_keeps_line p_keeps_line (defScope s_keeps_line) := ⟨rfl, rfl, rfl, by decide +kernel, rfl, by decide +kernel, by decide +kernel⟩
abbrev s_is_line : Stmt := topS 29
abbrev n_is_line : List Str := ["hall", "standing", "thing", "person"]
abbrev p_is_line : List Str := ["hall", "standing", "thing"]
theorem sc_is_line : FnScope n_is_line p_is_line (defScope s_is_line) := ⟨rfl, rfl, rfl, by decide +kernel, rfl, by decide +kernel, by decide +kernel⟩
abbrev s_most_up_to : Stmt := topS 30
abbrev n_most_up_to : List Str := ["hall", "standing", "top", "told", "person", "shown"]
abbrev p_most_up_to : List Str := ["hall", "standing", "top"]
theorem sc_most_up_to : FnScope n_most_up_to p_most_up_to (defScope s_most_up_to) := ⟨rfl, rfl, rfl, by decide +kernel, rfl, by decide +kernel, by decide +kernel⟩
abbrev s_waterline : Stmt := topS 31
abbrev n_waterline : List Str := ["hall", "standing", "numbers", "top", "number"]
abbrev p_waterline : List Str := ["hall", "standing"]
theorem sc_waterline : FnScope n_waterline p_waterline (defScope s_waterline) := ⟨rfl, rfl, rfl, by decide +kernel, rfl, by decide +kernel, by decide +kernel⟩
abbrev s_firm_of : Stmt := topS 32
abbrev n_firm_of : List Str := ["hall", "standing", "line", "person"]
abbrev p_firm_of : List Str := ["hall", "standing"]
theorem sc_firm_of : FnScope n_firm_of p_firm_of (defScope s_firm_of) := ⟨rfl, rfl, rfl, by decide +kernel, rfl, by decide +kernel, by decide +kernel⟩
abbrev s_is_firm : Stmt := topS 33
abbrev n_is_firm : List Str := ["hall", "standing", "person", "line"]
abbrev p_is_firm : List Str := ["hall", "standing", "person", "line"]
theorem sc_is_firm : FnScope n_is_firm p_is_firm (defScope s_is_firm) := ⟨rfl, rfl, rfl, by decide +kernel, rfl, by decide +kernel, by decide +kernel⟩
abbrev s_rest_by : Stmt := topS 35
abbrev n_rest_by : List Str := ["hall", "standing", "order", "here", "changed", "person", "behind"]
abbrev p_rest_by : List Str := ["hall", "standing", "order"]
theorem sc_rest_by : FnScope n_rest_by p_rest_by (defScope s_rest_by) := ⟨rfl, rfl, rfl, by decide +kernel, rfl, by decide +kernel, by decide +kernel⟩
abbrev s_Hall_init : Stmt := inClass (topS 40) 0
abbrev n_Hall_init : List Str := ["self", "rules", "person", "rule"]
abbrev p_Hall_init : List Str := ["self", "rules"]
theorem sc_Hall_init : FnScope n_Hall_init p_Hall_init (defScope s_Hall_init) := ⟨rfl, rfl, rfl, by decide +kernel, rfl, by decide +kernel, by decide +kernel⟩
abbrev s_Hall_must_have : Stmt := inClass (topS 40) 1
abbrev n_Hall_must_have : List Str := ["self", "person"]
abbrev p_Hall_must_have : List Str := ["self", "person"]
theorem sc_Hall_must_have : FnScope n_Hall_must_have p_Hall_must_have (defScope s_Hall_must_have) := ⟨rfl, rfl, rfl, by decide +kernel, rfl, by decide +kernel, by decide +kernel⟩
abbrev s_Hall_rules : Stmt := inClass (topS 40) 2
abbrev n_Hall_rules : List Str := ["self"]
abbrev p_Hall_rules : List Str := ["self"]
theorem sc_Hall_rules : FnScope n_Hall_rules p_Hall_rules (defScope s_Hall_rules) := ⟨rfl, rfl, rfl, by decide +kernel, rfl, by decide +kernel, by decide +kernel⟩
abbrev s_Hall_rule : Stmt := inClass (topS 40) 3
abbrev n_Hall_rule : List Str := ["self", "person"]
abbrev p_Hall_rule : List Str := ["self", "person"]
theorem sc_Hall_rule : FnScope n_Hall_rule p_Hall_rule (defScope s_Hall_rule) := ⟨rfl, rfl, rfl, by decide +kernel, rfl, by decide +kernel, by decide +kernel⟩
abbrev s_Hall_sees : Stmt := inClass (topS 40) 4
abbrev n_Hall_sees : List Str := ["self", "person"]
abbrev p_Hall_sees : List Str := ["self", "person"]
theorem sc_Hall_sees : FnScope n_Hall_sees p_Hall_sees (defScope s_Hall_sees) := ⟨rfl, rfl, rfl, by decide +kernel, rfl, by decide +kernel, by decide +kernel⟩
abbrev s_Hall_seers : Stmt := inClass (topS 40) 5
abbrev n_Hall_seers : List Str := ["self", "person"]
abbrev p_Hall_seers : List Str := ["self", "person"]
theorem sc_Hall_seers : FnScope n_Hall_seers p_Hall_seers (defScope s_Hall_seers) := ⟨rfl, rfl, rfl, by decide +kernel, rfl, by decide +kernel, by decide +kernel⟩
abbrev s_Hall_eq : Stmt := inClass (topS 40) 6
abbrev n_Hall_eq : List Str := ["self", "other"]
abbrev p_Hall_eq : List Str := ["self", "other"]
theorem sc_Hall_eq : FnScope n_Hall_eq p_Hall_eq (defScope s_Hall_eq) := ⟨rfl, rfl, rfl, by decide +kernel, rfl, by decide +kernel, by decide +kernel⟩
abbrev s_Hall_len : Stmt := inClass (topS 40) 7
abbrev n_Hall_len : List Str := ["self"]
abbrev p_Hall_len : List Str := ["self"]
theorem sc_Hall_len : FnScope n_Hall_len p_Hall_len (defScope s_Hall_len) := ⟨rfl, rfl, rfl, by decide +kernel, rfl, by decide +kernel, by decide +kernel⟩
abbrev s_Hall_repr : Stmt := inClass (topS 40) 8
abbrev n_Hall_repr : List Str := ["self"]
abbrev p_Hall_repr : List Str := ["self"]
theorem sc_Hall_repr : FnScope n_Hall_repr p_Hall_repr (defScope s_Hall_repr) := ⟨rfl, rfl, rfl, by decide +kernel, rfl, by decide +kernel, by decide +kernel⟩
abbrev s_row_hall : Stmt := topS 42
abbrev n_row_hall : List Str := ["many", "other", "person"]
abbrev p_row_hall : List Str := ["many"]
theorem sc_row_hall : FnScope n_row_hall p_row_hall (defScope s_row_hall) := ⟨rfl, rfl, rfl, by decide +kernel, rfl, by decide +kernel, by decide +kernel⟩
abbrev s_dip : Stmt := topS 44
abbrev n_dip : List Str := ["_law_script", "_law_k", "_law_cell"]
abbrev p_dip : List Str := ["_law_script", "_law_k"]
theorem sc_dip : FnScope n_dip p_dip (defScope s_dip) := ⟨rfl, rfl, rfl, by decide +kernel, rfl, by decide +kernel, by decide +kernel⟩
abbrev s_take : Stmt := topS 45
abbrev n_take : List Str := ["_law_box", "_law_many", "_law_found", "_law_once", "_law_pair"]
abbrev p_take : List Str := ["_law_box", "_law_many"]
theorem sc_take : FnScope n_take p_take (defScope s_take) := ⟨rfl, rfl, rfl, by decide +kernel, rfl, by decide +kernel, by decide +kernel⟩
abbrev s_folded : Stmt := topS 46
abbrev n_folded : List Str := ["_law_script", "_law_many", "_law_cells", "_law_k", "_law_cell"]
abbrev p_folded : List Str := ["_law_script", "_law_many"]
theorem sc_folded : FnScope n_folded p_folded (defScope s_folded) := ⟨rfl, rfl, rfl, by decide +kernel, rfl, by decide +kernel, by decide +kernel⟩
abbrev s_same : Stmt := topS 47
abbrev n_same : List Str := ["_law_found", "_law_due", "_law_one", "_law_two"]
abbrev p_same : List Str := ["_law_found", "_law_due"]
theorem sc_same : FnScope n_same p_same (defScope s_same) := ⟨rfl, rfl, rfl, by decide +kernel, rfl, by decide +kernel, by decide +kernel⟩
abbrev s_stop : Stmt := topS 48
abbrev n_stop : List Str := ["_law_stops", "_law_number", "_law_stop_here"]
abbrev p_stop : List Str := ["_law_stops", "_law_number"]
theorem sc_stop : FnScope n_stop p_stop (defScope s_stop) := ⟨rfl, rfl, rfl, by decide +kernel, rfl, by decide +kernel, by decide +kernel⟩
abbrev s_swept : Stmt := topS 49
abbrev n_swept : List Str := ["_law_shown", "_law_found", "_law_stops", "_law_one", "_law_number", "_law_now", "_law_stop_here"]
abbrev p_swept : List Str := ["_law_shown"]
theorem sc_swept : FnScope n_swept p_swept (defScope s_swept) := ⟨rfl, rfl, rfl, by decide +kernel, rfl, by decide +kernel, by decide +kernel⟩
abbrev s_right : Stmt := topS 50
abbrev n_right : List Str := ["_law_box", "_law_count", "_law_far", "_law_room", "_law_first", "_law_one", "_law_told", "_law_end", "_law_rows", "_law_shown", "_law_beat", "_law_height", "_law_firm", "_law_back"]
abbrev p_right : List Str := ["_law_box"]
theorem sc_right : FnScope n_right p_right (defScope s_right) := ⟨rfl, rfl, rfl, by decide +kernel, rfl, by decide +kernel, by decide +kernel⟩
abbrev s_back_due : Stmt := topS 51
abbrev n_back_due : List Str := ["_law_count", "_law_far", "_law_here", "_law_one", "_law_again", "_law_number"]
abbrev p_back_due : List Str := ["_law_count", "_law_far"]
theorem sc_back_due : FnScope n_back_due p_back_due (defScope s_back_due) := ⟨rfl, rfl, rfl, by decide +kernel, rfl, by decide +kernel, by decide +kernel⟩
abbrev s_law : Stmt := topS 52
abbrev n_law : List Str := ["_law_script", "_law_cells", "_law_k"]
abbrev p_law : List Str := ["_law_script"]
theorem sc_law : FnScope n_law p_law (defScope s_law) := ⟨rfl, rfl, rfl, by decide +kernel, rfl, by decide +kernel, by decide +kernel⟩
structure FnT (K : PySem.W.Frag) (nm qual : Str) (st : Stmt) (ps : List Str) where
  f : Addr
  fd : FuncData
  F : Fun K nm qual st f fd
  b : Binds K fd ps []
structure Txt (K : PySem.W.Frag) (mg : Str → Option Value) (w : World) where
  t__wall : FnT K "_wall" "_wall" s__wall p__wall
  g__wall : mg "_wall" = some (.ref t__wall.f)
  t_is_number : FnT K "is_number" "is_number" s_is_number p_is_number
  g_is_number : mg "is_number" = some (.ref t_is_number.f)
  t_is_person : FnT K "is_person" "is_person" s_is_person p_is_person
  g_is_person : mg "is_person" = some (.ref t_is_person.f)
  t_are_persons : FnT K "are_persons" "are_persons" s_are_persons p_are_persons
  g_are_persons : mg "are_persons" = some (.ref t_are_persons.f)
  t_rises : FnT K "rises" "rises" s_rises p_rises
  g_rises : mg "rises" = some (.ref t_rises.f)
  t_is_rule : FnT K "is_rule" "is_rule" s_is_rule p_is_rule
  g_is_rule : mg "is_rule" = some (.ref t_is_rule.f)
  t_is_part : FnT K "is_part" "is_part" s_is_part p_is_part
  g_is_part : mg "is_part" = some (.ref t_is_part.f)
  t_are_ties : FnT K "are_ties" "are_ties" s_are_ties p_are_ties
  g_are_ties : mg "are_ties" = some (.ref t_are_ties.f)
  t_is_tie : FnT K "is_tie" "is_tie" s_is_tie p_is_tie
  g_is_tie : mg "is_tie" = some (.ref t_is_tie.f)
  t_seen_by : FnT K "seen_by" "seen_by" s_seen_by p_seen_by
  g_seen_by : mg "seen_by" = some (.ref t_seen_by.f)
  t_told_of : FnT K "told_of" "told_of" s_told_of p_told_of
  g_told_of : mg "told_of" = some (.ref t_told_of.f)
  t_weighed : FnT K "weighed" "weighed" s_weighed p_weighed
  g_weighed : mg "weighed" = some (.ref t_weighed.f)
  t_least_free : FnT K "least_free" "least_free" s_least_free p_least_free
  g_least_free : mg "least_free" = some (.ref t_least_free.f)
  t_lot_below : FnT K "lot_below" "lot_below" s_lot_below p_lot_below
  g_lot_below : mg "lot_below" = some (.ref t_lot_below.f)
  t_told_below : FnT K "told_below" "told_below" s_told_below p_told_below
  g_told_below : mg "told_below" = some (.ref t_told_below.f)
  t_told_at : FnT K "told_at" "told_at" s_told_at p_told_at
  g_told_at : mg "told_at" = some (.ref t_told_at.f)
  t_turned : FnT K "turned" "turned" s_turned p_turned
  g_turned : mg "turned" = some (.ref t_turned.f)
  t_restless : FnT K "restless" "restless" s_restless p_restless
  g_restless : mg "restless" = some (.ref t_restless.f)
  t_is_rest : FnT K "is_rest" "is_rest" s_is_rest p_is_rest
  g_is_rest : mg "is_rest" = some (.ref t_is_rest.f)
  t_beaten : FnT K "beaten" "beaten" s_beaten p_beaten
  g_beaten : mg "beaten" = some (.ref t_beaten.f)
  t_history : FnT K "history" "history" s_history p_history
  g_history : mg "history" = some (.ref t_history.f)
  t_rest_by_beats : FnT K "rest_by_beats" "rest_by_beats" s_rest_by_beats p_rest_by_beats
  g_rest_by_beats : mg "rest_by_beats" = some (.ref t_rest_by_beats.f)
  t_keeps_line : FnT K "keeps_line" "keeps_line" s_keeps_line p_keeps_line
  g_keeps_line : mg "keeps_line" = some (.ref t_keeps_line.f)
  t_is_line : FnT K "is_line" "is_line" s_is_line p_is_line
  g_is_line : mg "is_line" = some (.ref t_is_line.f)
  t_most_up_to : FnT K "most_up_to" "most_up_to" s_most_up_to p_most_up_to
  g_most_up_to : mg "most_up_to" = some (.ref t_most_up_to.f)
  t_waterline : FnT K "waterline" "waterline" s_waterline p_waterline
  g_waterline : mg "waterline" = some (.ref t_waterline.f)
  t_firm_of : FnT K "firm_of" "firm_of" s_firm_of p_firm_of
  g_firm_of : mg "firm_of" = some (.ref t_firm_of.f)
  t_is_firm : FnT K "is_firm" "is_firm" s_is_firm p_is_firm
  g_is_firm : mg "is_firm" = some (.ref t_is_firm.f)
  t_rest_by : FnT K "rest_by" "rest_by" s_rest_by p_rest_by
  g_rest_by : mg "rest_by" = some (.ref t_rest_by.f)
  t_Hall_init : FnT K "__init__" "Hall.__init__" s_Hall_init p_Hall_init
  t_Hall_must_have : FnT K "must_have" "Hall.must_have" s_Hall_must_have p_Hall_must_have
  t_Hall_rules : FnT K "rules" "Hall.rules" s_Hall_rules p_Hall_rules
  t_Hall_rule : FnT K "rule" "Hall.rule" s_Hall_rule p_Hall_rule
  t_Hall_sees : FnT K "sees" "Hall.sees" s_Hall_sees p_Hall_sees
  t_Hall_seers : FnT K "seers" "Hall.seers" s_Hall_seers p_Hall_seers
  t_Hall_eq : FnT K "__eq__" "Hall.__eq__" s_Hall_eq p_Hall_eq
  t_Hall_len : FnT K "__len__" "Hall.__len__" s_Hall_len p_Hall_len
  t_Hall_repr : FnT K "__repr__" "Hall.__repr__" s_Hall_repr p_Hall_repr
  t_row_hall : FnT K "row_hall" "row_hall" s_row_hall p_row_hall
  g_row_hall : mg "row_hall" = some (.ref t_row_hall.f)
  t_dip : FnT K "_law_dip" "_law_dip" s_dip p_dip
  g_dip : mg "_law_dip" = some (.ref t_dip.f)
  t_take : FnT K "_law_take" "_law_take" s_take p_take
  g_take : mg "_law_take" = some (.ref t_take.f)
  t_folded : FnT K "_law_folded" "_law_folded" s_folded p_folded
  g_folded : mg "_law_folded" = some (.ref t_folded.f)
  t_same : FnT K "_law_same" "_law_same" s_same p_same
  g_same : mg "_law_same" = some (.ref t_same.f)
  t_stop : FnT K "_law_stop" "_law_stop" s_stop p_stop
  g_stop : mg "_law_stop" = some (.ref t_stop.f)
  t_swept : FnT K "_law_swept" "_law_swept" s_swept p_swept
  g_swept : mg "_law_swept" = some (.ref t_swept.f)
  t_right : FnT K "_law_right" "_law_right" s_right p_right
  g_right : mg "_law_right" = some (.ref t_right.f)
  t_back_due : FnT K "_law_back_due" "_law_back_due" s_back_due p_back_due
  g_back_due : mg "_law_back_due" = some (.ref t_back_due.f)
  t_law : FnT K "law" "law" s_law p_law
  g_law : mg "law" = some (.ref t_law.f)
  C_Hall : Addr
  g_Hall : mg "Hall" = some (.ref C_Hall)
  cl_Hall : Cls K C_Hall
  mk_Hall : Mk K C_Hall t_Hall_init.f
  me_Hall_init : Meth K C_Hall "__init__" t_Hall_init.f
  me_Hall_must_have : Meth K C_Hall "must_have" t_Hall_must_have.f
  me_Hall_rules : Meth K C_Hall "rules" t_Hall_rules.f
  me_Hall_rule : Meth K C_Hall "rule" t_Hall_rule.f
  me_Hall_sees : Meth K C_Hall "sees" t_Hall_sees.f
  me_Hall_seers : Meth K C_Hall "seers" t_Hall_seers.f
  me_Hall_eq : Meth K C_Hall "__eq__" t_Hall_eq.f
  me_Hall_len : Meth K C_Hall "__len__" t_Hall_len.f
  me_Hall_repr : Meth K C_Hall "__repr__" t_Hall_repr.f
  na_Hall_kept : NoAttr K C_Hall "kept"
  D_PARTS : Addr
  g_PARTS : mg "PARTS" = some (.ref D_PARTS)
  es_PARTS : Array DictEntry
  en_PARTS : Nat
  kd_PARTS : KDict K w D_PARTS es_PARTS en_PARTS
  t_PARTS_held : Addr
  dk_PARTS_held : PySem.W.nsIn K D_PARTS "held" = some (some (.ref t_PARTS_held))
  sq_PARTS_held : ∀ H, SqT K H t_PARTS_held [.str "number"]
  t_PARTS_sum : Addr
  dk_PARTS_sum : PySem.W.nsIn K D_PARTS "sum" = some (some (.ref t_PARTS_sum))
  sq_PARTS_sum : ∀ H, SqT K H t_PARTS_sum [.str "number", .str "ties"]
  t_PARTS_cap : Addr
  dk_PARTS_cap : PySem.W.nsIn K D_PARTS "cap" = some (some (.ref t_PARTS_cap))
  sq_PARTS_cap : ∀ H, SqT K H t_PARTS_cap [.str "number", .str "ties", .str "number"]
  t_PARTS_kinds : Addr
  dk_PARTS_kinds : PySem.W.nsIn K D_PARTS "kinds" = some (some (.ref t_PARTS_kinds))
  sq_PARTS_kinds : ∀ H, SqT K H t_PARTS_kinds [.str "number", .str "seen"]
  t_PARTS_next : Addr
  dk_PARTS_next : PySem.W.nsIn K D_PARTS "next" = some (some (.ref t_PARTS_next))
  sq_PARTS_next : ∀ H, SqT K H t_PARTS_next [.str "seen"]
  t_PARTS_free : Addr
  dk_PARTS_free : PySem.W.nsIn K D_PARTS "free" = some (some (.ref t_PARTS_free))
  sq_PARTS_free : ∀ H, SqT K H t_PARTS_free [.str "seen"]
  m_abs : mg "abs" = none
  m_all : mg "all" = none
  m_any : mg "any" = none
  m_bool : mg "bool" = none
  m_dict : mg "dict" = none
  m_enumerate : mg "enumerate" = none
  m_int : mg "int" = none
  m_isinstance : mg "isinstance" = none
  m_len : mg "len" = none
  m_list : mg "list" = none
  m_max : mg "max" = none
  m_min : mg "min" = none
  m_range : mg "range" = none
  m_set : mg "set" = none
  m_sorted : mg "sorted" = none
  m_str : mg "str" = none
  m_sum : mg "sum" = none
  m_tuple : mg "tuple" = none
  m_zip : mg "zip" = none
abbrev Txt.f__wall {K : PySem.W.Frag} {mg : Str → Option Value} {w : World} (T : Txt K mg w) : Addr := T.t__wall.f
abbrev Txt.fd__wall {K : PySem.W.Frag} {mg : Str → Option Value} {w : World} (T : Txt K mg w) : FuncData := T.t__wall.fd
theorem Txt.F__wall {K : PySem.W.Frag} {mg : Str → Option Value} {w : World} (T : Txt K mg w) : Fun K "_wall" "_wall" s__wall T.f__wall T.fd__wall := T.t__wall.F
theorem Txt.b__wall {K : PySem.W.Frag} {mg : Str → Option Value} {w : World} (T : Txt K mg w) : Binds K T.fd__wall p__wall [] := T.t__wall.b
abbrev Txt.f_is_number {K : PySem.W.Frag} {mg : Str → Option Value} {w : World} (T : Txt K mg w) : Addr := T.t_is_number.f
abbrev Txt.fd_is_number {K : PySem.W.Frag} {mg : Str → Option Value} {w : World} (T : Txt K mg w) : FuncData := T.t_is_number.fd
theorem Txt.F_is_number {K : PySem.W.Frag} {mg : Str → Option Value} {w : World} (T : Txt K mg w) : Fun K "is_number" "is_number" s_is_number T.f_is_number T.fd_is_number := T.t_is_number.F
theorem Txt.b_is_number {K : PySem.W.Frag} {mg : Str → Option Value} {w : World} (T : Txt K mg w) : Binds K T.fd_is_number p_is_number [] := T.t_is_number.b
abbrev Txt.f_is_person {K : PySem.W.Frag} {mg : Str → Option Value} {w : World} (T : Txt K mg w) : Addr := T.t_is_person.f
abbrev Txt.fd_is_person {K : PySem.W.Frag} {mg : Str → Option Value} {w : World} (T : Txt K mg w) : FuncData := T.t_is_person.fd
theorem Txt.F_is_person {K : PySem.W.Frag} {mg : Str → Option Value} {w : World} (T : Txt K mg w) : Fun K "is_person" "is_person" s_is_person T.f_is_person T.fd_is_person := T.t_is_person.F
theorem Txt.b_is_person {K : PySem.W.Frag} {mg : Str → Option Value} {w : World} (T : Txt K mg w) : Binds K T.fd_is_person p_is_person [] := T.t_is_person.b
abbrev Txt.f_are_persons {K : PySem.W.Frag} {mg : Str → Option Value} {w : World} (T : Txt K mg w) : Addr := T.t_are_persons.f
abbrev Txt.fd_are_persons {K : PySem.W.Frag} {mg : Str → Option Value} {w : World} (T : Txt K mg w) : FuncData := T.t_are_persons.fd
theorem Txt.F_are_persons {K : PySem.W.Frag} {mg : Str → Option Value} {w : World} (T : Txt K mg w) : Fun K "are_persons" "are_persons" s_are_persons T.f_are_persons T.fd_are_persons := T.t_are_persons.F
theorem Txt.b_are_persons {K : PySem.W.Frag} {mg : Str → Option Value} {w : World} (T : Txt K mg w) : Binds K T.fd_are_persons p_are_persons [] := T.t_are_persons.b
abbrev Txt.f_rises {K : PySem.W.Frag} {mg : Str → Option Value} {w : World} (T : Txt K mg w) : Addr := T.t_rises.f
abbrev Txt.fd_rises {K : PySem.W.Frag} {mg : Str → Option Value} {w : World} (T : Txt K mg w) : FuncData := T.t_rises.fd
theorem Txt.F_rises {K : PySem.W.Frag} {mg : Str → Option Value} {w : World} (T : Txt K mg w) : Fun K "rises" "rises" s_rises T.f_rises T.fd_rises := T.t_rises.F
theorem Txt.b_rises {K : PySem.W.Frag} {mg : Str → Option Value} {w : World} (T : Txt K mg w) : Binds K T.fd_rises p_rises [] := T.t_rises.b
abbrev Txt.f_is_rule {K : PySem.W.Frag} {mg : Str → Option Value} {w : World} (T : Txt K mg w) : Addr := T.t_is_rule.f
abbrev Txt.fd_is_rule {K : PySem.W.Frag} {mg : Str → Option Value} {w : World} (T : Txt K mg w) : FuncData := T.t_is_rule.fd
theorem Txt.F_is_rule {K : PySem.W.Frag} {mg : Str → Option Value} {w : World} (T : Txt K mg w) : Fun K "is_rule" "is_rule" s_is_rule T.f_is_rule T.fd_is_rule := T.t_is_rule.F
theorem Txt.b_is_rule {K : PySem.W.Frag} {mg : Str → Option Value} {w : World} (T : Txt K mg w) : Binds K T.fd_is_rule p_is_rule [] := T.t_is_rule.b
abbrev Txt.f_is_part {K : PySem.W.Frag} {mg : Str → Option Value} {w : World} (T : Txt K mg w) : Addr := T.t_is_part.f
abbrev Txt.fd_is_part {K : PySem.W.Frag} {mg : Str → Option Value} {w : World} (T : Txt K mg w) : FuncData := T.t_is_part.fd
theorem Txt.F_is_part {K : PySem.W.Frag} {mg : Str → Option Value} {w : World} (T : Txt K mg w) : Fun K "is_part" "is_part" s_is_part T.f_is_part T.fd_is_part := T.t_is_part.F
theorem Txt.b_is_part {K : PySem.W.Frag} {mg : Str → Option Value} {w : World} (T : Txt K mg w) : Binds K T.fd_is_part p_is_part [] := T.t_is_part.b
abbrev Txt.f_are_ties {K : PySem.W.Frag} {mg : Str → Option Value} {w : World} (T : Txt K mg w) : Addr := T.t_are_ties.f
abbrev Txt.fd_are_ties {K : PySem.W.Frag} {mg : Str → Option Value} {w : World} (T : Txt K mg w) : FuncData := T.t_are_ties.fd
theorem Txt.F_are_ties {K : PySem.W.Frag} {mg : Str → Option Value} {w : World} (T : Txt K mg w) : Fun K "are_ties" "are_ties" s_are_ties T.f_are_ties T.fd_are_ties := T.t_are_ties.F
theorem Txt.b_are_ties {K : PySem.W.Frag} {mg : Str → Option Value} {w : World} (T : Txt K mg w) : Binds K T.fd_are_ties p_are_ties [] := T.t_are_ties.b
abbrev Txt.f_is_tie {K : PySem.W.Frag} {mg : Str → Option Value} {w : World} (T : Txt K mg w) : Addr := T.t_is_tie.f
abbrev Txt.fd_is_tie {K : PySem.W.Frag} {mg : Str → Option Value} {w : World} (T : Txt K mg w) : FuncData := T.t_is_tie.fd
theorem Txt.F_is_tie {K : PySem.W.Frag} {mg : Str → Option Value} {w : World} (T : Txt K mg w) : Fun K "is_tie" "is_tie" s_is_tie T.f_is_tie T.fd_is_tie := T.t_is_tie.F
theorem Txt.b_is_tie {K : PySem.W.Frag} {mg : Str → Option Value} {w : World} (T : Txt K mg w) : Binds K T.fd_is_tie p_is_tie [] := T.t_is_tie.b
abbrev Txt.f_seen_by {K : PySem.W.Frag} {mg : Str → Option Value} {w : World} (T : Txt K mg w) : Addr := T.t_seen_by.f
abbrev Txt.fd_seen_by {K : PySem.W.Frag} {mg : Str → Option Value} {w : World} (T : Txt K mg w) : FuncData := T.t_seen_by.fd
theorem Txt.F_seen_by {K : PySem.W.Frag} {mg : Str → Option Value} {w : World} (T : Txt K mg w) : Fun K "seen_by" "seen_by" s_seen_by T.f_seen_by T.fd_seen_by := T.t_seen_by.F
theorem Txt.b_seen_by {K : PySem.W.Frag} {mg : Str → Option Value} {w : World} (T : Txt K mg w) : Binds K T.fd_seen_by p_seen_by [] := T.t_seen_by.b
abbrev Txt.f_told_of {K : PySem.W.Frag} {mg : Str → Option Value} {w : World} (T : Txt K mg w) : Addr := T.t_told_of.f
abbrev Txt.fd_told_of {K : PySem.W.Frag} {mg : Str → Option Value} {w : World} (T : Txt K mg w) : FuncData := T.t_told_of.fd
theorem Txt.F_told_of {K : PySem.W.Frag} {mg : Str → Option Value} {w : World} (T : Txt K mg w) : Fun K "told_of" "told_of" s_told_of T.f_told_of T.fd_told_of := T.t_told_of.F
theorem Txt.b_told_of {K : PySem.W.Frag} {mg : Str → Option Value} {w : World} (T : Txt K mg w) : Binds K T.fd_told_of p_told_of [] := T.t_told_of.b
abbrev Txt.f_weighed {K : PySem.W.Frag} {mg : Str → Option Value} {w : World} (T : Txt K mg w) : Addr := T.t_weighed.f
abbrev Txt.fd_weighed {K : PySem.W.Frag} {mg : Str → Option Value} {w : World} (T : Txt K mg w) : FuncData := T.t_weighed.fd
theorem Txt.F_weighed {K : PySem.W.Frag} {mg : Str → Option Value} {w : World} (T : Txt K mg w) : Fun K "weighed" "weighed" s_weighed T.f_weighed T.fd_weighed := T.t_weighed.F
theorem Txt.b_weighed {K : PySem.W.Frag} {mg : Str → Option Value} {w : World} (T : Txt K mg w) : Binds K T.fd_weighed p_weighed [] := T.t_weighed.b
abbrev Txt.f_least_free {K : PySem.W.Frag} {mg : Str → Option Value} {w : World} (T : Txt K mg w) : Addr := T.t_least_free.f
abbrev Txt.fd_least_free {K : PySem.W.Frag} {mg : Str → Option Value} {w : World} (T : Txt K mg w) : FuncData := T.t_least_free.fd
theorem Txt.F_least_free {K : PySem.W.Frag} {mg : Str → Option Value} {w : World} (T : Txt K mg w) : Fun K "least_free" "least_free" s_least_free T.f_least_free T.fd_least_free := T.t_least_free.F
theorem Txt.b_least_free {K : PySem.W.Frag} {mg : Str → Option Value} {w : World} (T : Txt K mg w) : Binds K T.fd_least_free p_least_free [] := T.t_least_free.b
abbrev Txt.f_lot_below {K : PySem.W.Frag} {mg : Str → Option Value} {w : World} (T : Txt K mg w) : Addr := T.t_lot_below.f
abbrev Txt.fd_lot_below {K : PySem.W.Frag} {mg : Str → Option Value} {w : World} (T : Txt K mg w) : FuncData := T.t_lot_below.fd
theorem Txt.F_lot_below {K : PySem.W.Frag} {mg : Str → Option Value} {w : World} (T : Txt K mg w) : Fun K "lot_below" "lot_below" s_lot_below T.f_lot_below T.fd_lot_below := T.t_lot_below.F
theorem Txt.b_lot_below {K : PySem.W.Frag} {mg : Str → Option Value} {w : World} (T : Txt K mg w) : Binds K T.fd_lot_below p_lot_below [] := T.t_lot_below.b
abbrev Txt.f_told_below {K : PySem.W.Frag} {mg : Str → Option Value} {w : World} (T : Txt K mg w) : Addr := T.t_told_below.f
abbrev Txt.fd_told_below {K : PySem.W.Frag} {mg : Str → Option Value} {w : World} (T : Txt K mg w) : FuncData := T.t_told_below.fd
theorem Txt.F_told_below {K : PySem.W.Frag} {mg : Str → Option Value} {w : World} (T : Txt K mg w) : Fun K "told_below" "told_below" s_told_below T.f_told_below T.fd_told_below := T.t_told_below.F
theorem Txt.b_told_below {K : PySem.W.Frag} {mg : Str → Option Value} {w : World} (T : Txt K mg w) : Binds K T.fd_told_below p_told_below [] := T.t_told_below.b
abbrev Txt.f_told_at {K : PySem.W.Frag} {mg : Str → Option Value} {w : World} (T : Txt K mg w) : Addr := T.t_told_at.f
abbrev Txt.fd_told_at {K : PySem.W.Frag} {mg : Str → Option Value} {w : World} (T : Txt K mg w) : FuncData := T.t_told_at.fd
theorem Txt.F_told_at {K : PySem.W.Frag} {mg : Str → Option Value} {w : World} (T : Txt K mg w) : Fun K "told_at" "told_at" s_told_at T.f_told_at T.fd_told_at := T.t_told_at.F
theorem Txt.b_told_at {K : PySem.W.Frag} {mg : Str → Option Value} {w : World} (T : Txt K mg w) : Binds K T.fd_told_at p_told_at [] := T.t_told_at.b
abbrev Txt.f_turned {K : PySem.W.Frag} {mg : Str → Option Value} {w : World} (T : Txt K mg w) : Addr := T.t_turned.f
abbrev Txt.fd_turned {K : PySem.W.Frag} {mg : Str → Option Value} {w : World} (T : Txt K mg w) : FuncData := T.t_turned.fd
theorem Txt.F_turned {K : PySem.W.Frag} {mg : Str → Option Value} {w : World} (T : Txt K mg w) : Fun K "turned" "turned" s_turned T.f_turned T.fd_turned := T.t_turned.F
theorem Txt.b_turned {K : PySem.W.Frag} {mg : Str → Option Value} {w : World} (T : Txt K mg w) : Binds K T.fd_turned p_turned [] := T.t_turned.b
abbrev Txt.f_restless {K : PySem.W.Frag} {mg : Str → Option Value} {w : World} (T : Txt K mg w) : Addr := T.t_restless.f
abbrev Txt.fd_restless {K : PySem.W.Frag} {mg : Str → Option Value} {w : World} (T : Txt K mg w) : FuncData := T.t_restless.fd
theorem Txt.F_restless {K : PySem.W.Frag} {mg : Str → Option Value} {w : World} (T : Txt K mg w) : Fun K "restless" "restless" s_restless T.f_restless T.fd_restless := T.t_restless.F
theorem Txt.b_restless {K : PySem.W.Frag} {mg : Str → Option Value} {w : World} (T : Txt K mg w) : Binds K T.fd_restless p_restless [] := T.t_restless.b
abbrev Txt.f_is_rest {K : PySem.W.Frag} {mg : Str → Option Value} {w : World} (T : Txt K mg w) : Addr := T.t_is_rest.f
abbrev Txt.fd_is_rest {K : PySem.W.Frag} {mg : Str → Option Value} {w : World} (T : Txt K mg w) : FuncData := T.t_is_rest.fd
theorem Txt.F_is_rest {K : PySem.W.Frag} {mg : Str → Option Value} {w : World} (T : Txt K mg w) : Fun K "is_rest" "is_rest" s_is_rest T.f_is_rest T.fd_is_rest := T.t_is_rest.F
theorem Txt.b_is_rest {K : PySem.W.Frag} {mg : Str → Option Value} {w : World} (T : Txt K mg w) : Binds K T.fd_is_rest p_is_rest [] := T.t_is_rest.b
abbrev Txt.f_beaten {K : PySem.W.Frag} {mg : Str → Option Value} {w : World} (T : Txt K mg w) : Addr := T.t_beaten.f
abbrev Txt.fd_beaten {K : PySem.W.Frag} {mg : Str → Option Value} {w : World} (T : Txt K mg w) : FuncData := T.t_beaten.fd
theorem Txt.F_beaten {K : PySem.W.Frag} {mg : Str → Option Value} {w : World} (T : Txt K mg w) : Fun K "beaten" "beaten" s_beaten T.f_beaten T.fd_beaten := T.t_beaten.F
theorem Txt.b_beaten {K : PySem.W.Frag} {mg : Str → Option Value} {w : World} (T : Txt K mg w) : Binds K T.fd_beaten p_beaten [] := T.t_beaten.b
abbrev Txt.f_history {K : PySem.W.Frag} {mg : Str → Option Value} {w : World} (T : Txt K mg w) : Addr := T.t_history.f
abbrev Txt.fd_history {K : PySem.W.Frag} {mg : Str → Option Value} {w : World} (T : Txt K mg w) : FuncData := T.t_history.fd
theorem Txt.F_history {K : PySem.W.Frag} {mg : Str → Option Value} {w : World} (T : Txt K mg w) : Fun K "history" "history" s_history T.f_history T.fd_history := T.t_history.F
theorem Txt.b_history {K : PySem.W.Frag} {mg : Str → Option Value} {w : World} (T : Txt K mg w) : Binds K T.fd_history p_history [] := T.t_history.b
abbrev Txt.f_rest_by_beats {K : PySem.W.Frag} {mg : Str → Option Value} {w : World} (T : Txt K mg w) : Addr := T.t_rest_by_beats.f
abbrev Txt.fd_rest_by_beats {K : PySem.W.Frag} {mg : Str → Option Value} {w : World} (T : Txt K mg w) : FuncData := T.t_rest_by_beats.fd
theorem Txt.F_rest_by_beats {K : PySem.W.Frag} {mg : Str → Option Value} {w : World} (T : Txt K mg w) : Fun K "rest_by_beats" "rest_by_beats" s_rest_by_beats T.f_rest_by_beats T.fd_rest_by_beats := T.t_rest_by_beats.F
theorem Txt.b_rest_by_beats {K : PySem.W.Frag} {mg : Str → Option Value} {w : World} (T : Txt K mg w) : Binds K T.fd_rest_by_beats p_rest_by_beats [] := T.t_rest_by_beats.b
abbrev Txt.f_keeps_line {K : PySem.W.Frag} {mg : Str → Option Value} {w : World} (T : Txt K mg w) : Addr := T.t_keeps_line.f
abbrev Txt.fd_keeps_line {K : PySem.W.Frag} {mg : Str → Option Value} {w : World} (T : Txt K mg w) : FuncData := T.t_keeps_line.fd
theorem Txt.F_keeps_line {K : PySem.W.Frag} {mg : Str → Option Value} {w : World} (T : Txt K mg w) : Fun K "keeps_line" "keeps_line" s_keeps_line T.f_keeps_line T.fd_keeps_line := T.t_keeps_line.F
theorem Txt.b_keeps_line {K : PySem.W.Frag} {mg : Str → Option Value} {w : World} (T : Txt K mg w) : Binds K T.fd_keeps_line p_keeps_line [] := T.t_keeps_line.b
abbrev Txt.f_is_line {K : PySem.W.Frag} {mg : Str → Option Value} {w : World} (T : Txt K mg w) : Addr := T.t_is_line.f
abbrev Txt.fd_is_line {K : PySem.W.Frag} {mg : Str → Option Value} {w : World} (T : Txt K mg w) : FuncData := T.t_is_line.fd
theorem Txt.F_is_line {K : PySem.W.Frag} {mg : Str → Option Value} {w : World} (T : Txt K mg w) : Fun K "is_line" "is_line" s_is_line T.f_is_line T.fd_is_line := T.t_is_line.F
theorem Txt.b_is_line {K : PySem.W.Frag} {mg : Str → Option Value} {w : World} (T : Txt K mg w) : Binds K T.fd_is_line p_is_line [] := T.t_is_line.b
abbrev Txt.f_most_up_to {K : PySem.W.Frag} {mg : Str → Option Value} {w : World} (T : Txt K mg w) : Addr := T.t_most_up_to.f
abbrev Txt.fd_most_up_to {K : PySem.W.Frag} {mg : Str → Option Value} {w : World} (T : Txt K mg w) : FuncData := T.t_most_up_to.fd
theorem Txt.F_most_up_to {K : PySem.W.Frag} {mg : Str → Option Value} {w : World} (T : Txt K mg w) : Fun K "most_up_to" "most_up_to" s_most_up_to T.f_most_up_to T.fd_most_up_to := T.t_most_up_to.F
theorem Txt.b_most_up_to {K : PySem.W.Frag} {mg : Str → Option Value} {w : World} (T : Txt K mg w) : Binds K T.fd_most_up_to p_most_up_to [] := T.t_most_up_to.b
abbrev Txt.f_waterline {K : PySem.W.Frag} {mg : Str → Option Value} {w : World} (T : Txt K mg w) : Addr := T.t_waterline.f
abbrev Txt.fd_waterline {K : PySem.W.Frag} {mg : Str → Option Value} {w : World} (T : Txt K mg w) : FuncData := T.t_waterline.fd
theorem Txt.F_waterline {K : PySem.W.Frag} {mg : Str → Option Value} {w : World} (T : Txt K mg w) : Fun K "waterline" "waterline" s_waterline T.f_waterline T.fd_waterline := T.t_waterline.F
theorem Txt.b_waterline {K : PySem.W.Frag} {mg : Str → Option Value} {w : World} (T : Txt K mg w) : Binds K T.fd_waterline p_waterline [] := T.t_waterline.b
abbrev Txt.f_firm_of {K : PySem.W.Frag} {mg : Str → Option Value} {w : World} (T : Txt K mg w) : Addr := T.t_firm_of.f
abbrev Txt.fd_firm_of {K : PySem.W.Frag} {mg : Str → Option Value} {w : World} (T : Txt K mg w) : FuncData := T.t_firm_of.fd
theorem Txt.F_firm_of {K : PySem.W.Frag} {mg : Str → Option Value} {w : World} (T : Txt K mg w) : Fun K "firm_of" "firm_of" s_firm_of T.f_firm_of T.fd_firm_of := T.t_firm_of.F
theorem Txt.b_firm_of {K : PySem.W.Frag} {mg : Str → Option Value} {w : World} (T : Txt K mg w) : Binds K T.fd_firm_of p_firm_of [] := T.t_firm_of.b
abbrev Txt.f_is_firm {K : PySem.W.Frag} {mg : Str → Option Value} {w : World} (T : Txt K mg w) : Addr := T.t_is_firm.f
abbrev Txt.fd_is_firm {K : PySem.W.Frag} {mg : Str → Option Value} {w : World} (T : Txt K mg w) : FuncData := T.t_is_firm.fd
theorem Txt.F_is_firm {K : PySem.W.Frag} {mg : Str → Option Value} {w : World} (T : Txt K mg w) : Fun K "is_firm" "is_firm" s_is_firm T.f_is_firm T.fd_is_firm := T.t_is_firm.F
theorem Txt.b_is_firm {K : PySem.W.Frag} {mg : Str → Option Value} {w : World} (T : Txt K mg w) : Binds K T.fd_is_firm p_is_firm [] := T.t_is_firm.b
abbrev Txt.f_rest_by {K : PySem.W.Frag} {mg : Str → Option Value} {w : World} (T : Txt K mg w) : Addr := T.t_rest_by.f
abbrev Txt.fd_rest_by {K : PySem.W.Frag} {mg : Str → Option Value} {w : World} (T : Txt K mg w) : FuncData := T.t_rest_by.fd
theorem Txt.F_rest_by {K : PySem.W.Frag} {mg : Str → Option Value} {w : World} (T : Txt K mg w) : Fun K "rest_by" "rest_by" s_rest_by T.f_rest_by T.fd_rest_by := T.t_rest_by.F
theorem Txt.b_rest_by {K : PySem.W.Frag} {mg : Str → Option Value} {w : World} (T : Txt K mg w) : Binds K T.fd_rest_by p_rest_by [] := T.t_rest_by.b
abbrev Txt.f_Hall_init {K : PySem.W.Frag} {mg : Str → Option Value} {w : World} (T : Txt K mg w) : Addr := T.t_Hall_init.f
abbrev Txt.fd_Hall_init {K : PySem.W.Frag} {mg : Str → Option Value} {w : World} (T : Txt K mg w) : FuncData := T.t_Hall_init.fd
theorem Txt.F_Hall_init {K : PySem.W.Frag} {mg : Str → Option Value} {w : World} (T : Txt K mg w) : Fun K "__init__" "Hall.__init__" s_Hall_init T.f_Hall_init T.fd_Hall_init := T.t_Hall_init.F
theorem Txt.b_Hall_init {K : PySem.W.Frag} {mg : Str → Option Value} {w : World} (T : Txt K mg w) : Binds K T.fd_Hall_init p_Hall_init [] := T.t_Hall_init.b
abbrev Txt.f_Hall_must_have {K : PySem.W.Frag} {mg : Str → Option Value} {w : World} (T : Txt K mg w) : Addr := T.t_Hall_must_have.f
abbrev Txt.fd_Hall_must_have {K : PySem.W.Frag} {mg : Str → Option Value} {w : World} (T : Txt K mg w) : FuncData := T.t_Hall_must_have.fd
theorem Txt.F_Hall_must_have {K : PySem.W.Frag} {mg : Str → Option Value} {w : World} (T : Txt K mg w) : Fun K "must_have" "Hall.must_have" s_Hall_must_have T.f_Hall_must_have T.fd_Hall_must_have := T.t_Hall_must_have.F
theorem Txt.b_Hall_must_have {K : PySem.W.Frag} {mg : Str → Option Value} {w : World} (T : Txt K mg w) : Binds K T.fd_Hall_must_have p_Hall_must_have [] := T.t_Hall_must_have.b
abbrev Txt.f_Hall_rules {K : PySem.W.Frag} {mg : Str → Option Value} {w : World} (T : Txt K mg w) : Addr := T.t_Hall_rules.f
abbrev Txt.fd_Hall_rules {K : PySem.W.Frag} {mg : Str → Option Value} {w : World} (T : Txt K mg w) : FuncData := T.t_Hall_rules.fd
theorem Txt.F_Hall_rules {K : PySem.W.Frag} {mg : Str → Option Value} {w : World} (T : Txt K mg w) : Fun K "rules" "Hall.rules" s_Hall_rules T.f_Hall_rules T.fd_Hall_rules := T.t_Hall_rules.F
theorem Txt.b_Hall_rules {K : PySem.W.Frag} {mg : Str → Option Value} {w : World} (T : Txt K mg w) : Binds K T.fd_Hall_rules p_Hall_rules [] := T.t_Hall_rules.b
abbrev Txt.f_Hall_rule {K : PySem.W.Frag} {mg : Str → Option Value} {w : World} (T : Txt K mg w) : Addr := T.t_Hall_rule.f
abbrev Txt.fd_Hall_rule {K : PySem.W.Frag} {mg : Str → Option Value} {w : World} (T : Txt K mg w) : FuncData := T.t_Hall_rule.fd
theorem Txt.F_Hall_rule {K : PySem.W.Frag} {mg : Str → Option Value} {w : World} (T : Txt K mg w) : Fun K "rule" "Hall.rule" s_Hall_rule T.f_Hall_rule T.fd_Hall_rule := T.t_Hall_rule.F
theorem Txt.b_Hall_rule {K : PySem.W.Frag} {mg : Str → Option Value} {w : World} (T : Txt K mg w) : Binds K T.fd_Hall_rule p_Hall_rule [] := T.t_Hall_rule.b
abbrev Txt.f_Hall_sees {K : PySem.W.Frag} {mg : Str → Option Value} {w : World} (T : Txt K mg w) : Addr := T.t_Hall_sees.f
abbrev Txt.fd_Hall_sees {K : PySem.W.Frag} {mg : Str → Option Value} {w : World} (T : Txt K mg w) : FuncData := T.t_Hall_sees.fd
theorem Txt.F_Hall_sees {K : PySem.W.Frag} {mg : Str → Option Value} {w : World} (T : Txt K mg w) : Fun K "sees" "Hall.sees" s_Hall_sees T.f_Hall_sees T.fd_Hall_sees := T.t_Hall_sees.F
theorem Txt.b_Hall_sees {K : PySem.W.Frag} {mg : Str → Option Value} {w : World} (T : Txt K mg w) : Binds K T.fd_Hall_sees p_Hall_sees [] := T.t_Hall_sees.b
abbrev Txt.f_Hall_seers {K : PySem.W.Frag} {mg : Str → Option Value} {w : World} (T : Txt K mg w) : Addr := T.t_Hall_seers.f
abbrev Txt.fd_Hall_seers {K : PySem.W.Frag} {mg : Str → Option Value} {w : World} (T : Txt K mg w) : FuncData := T.t_Hall_seers.fd
theorem Txt.F_Hall_seers {K : PySem.W.Frag} {mg : Str → Option Value} {w : World} (T : Txt K mg w) : Fun K "seers" "Hall.seers" s_Hall_seers T.f_Hall_seers T.fd_Hall_seers := T.t_Hall_seers.F
theorem Txt.b_Hall_seers {K : PySem.W.Frag} {mg : Str → Option Value} {w : World} (T : Txt K mg w) : Binds K T.fd_Hall_seers p_Hall_seers [] := T.t_Hall_seers.b
abbrev Txt.f_Hall_eq {K : PySem.W.Frag} {mg : Str → Option Value} {w : World} (T : Txt K mg w) : Addr := T.t_Hall_eq.f
abbrev Txt.fd_Hall_eq {K : PySem.W.Frag} {mg : Str → Option Value} {w : World} (T : Txt K mg w) : FuncData := T.t_Hall_eq.fd
theorem Txt.F_Hall_eq {K : PySem.W.Frag} {mg : Str → Option Value} {w : World} (T : Txt K mg w) : Fun K "__eq__" "Hall.__eq__" s_Hall_eq T.f_Hall_eq T.fd_Hall_eq := T.t_Hall_eq.F
theorem Txt.b_Hall_eq {K : PySem.W.Frag} {mg : Str → Option Value} {w : World} (T : Txt K mg w) : Binds K T.fd_Hall_eq p_Hall_eq [] := T.t_Hall_eq.b
abbrev Txt.f_Hall_len {K : PySem.W.Frag} {mg : Str → Option Value} {w : World} (T : Txt K mg w) : Addr := T.t_Hall_len.f
abbrev Txt.fd_Hall_len {K : PySem.W.Frag} {mg : Str → Option Value} {w : World} (T : Txt K mg w) : FuncData := T.t_Hall_len.fd
theorem Txt.F_Hall_len {K : PySem.W.Frag} {mg : Str → Option Value} {w : World} (T : Txt K mg w) : Fun K "__len__" "Hall.__len__" s_Hall_len T.f_Hall_len T.fd_Hall_len := T.t_Hall_len.F
theorem Txt.b_Hall_len {K : PySem.W.Frag} {mg : Str → Option Value} {w : World} (T : Txt K mg w) : Binds K T.fd_Hall_len p_Hall_len [] := T.t_Hall_len.b
abbrev Txt.f_Hall_repr {K : PySem.W.Frag} {mg : Str → Option Value} {w : World} (T : Txt K mg w) : Addr := T.t_Hall_repr.f
abbrev Txt.fd_Hall_repr {K : PySem.W.Frag} {mg : Str → Option Value} {w : World} (T : Txt K mg w) : FuncData := T.t_Hall_repr.fd
theorem Txt.F_Hall_repr {K : PySem.W.Frag} {mg : Str → Option Value} {w : World} (T : Txt K mg w) : Fun K "__repr__" "Hall.__repr__" s_Hall_repr T.f_Hall_repr T.fd_Hall_repr := T.t_Hall_repr.F
theorem Txt.b_Hall_repr {K : PySem.W.Frag} {mg : Str → Option Value} {w : World} (T : Txt K mg w) : Binds K T.fd_Hall_repr p_Hall_repr [] := T.t_Hall_repr.b
abbrev Txt.f_row_hall {K : PySem.W.Frag} {mg : Str → Option Value} {w : World} (T : Txt K mg w) : Addr := T.t_row_hall.f
abbrev Txt.fd_row_hall {K : PySem.W.Frag} {mg : Str → Option Value} {w : World} (T : Txt K mg w) : FuncData := T.t_row_hall.fd
theorem Txt.F_row_hall {K : PySem.W.Frag} {mg : Str → Option Value} {w : World} (T : Txt K mg w) : Fun K "row_hall" "row_hall" s_row_hall T.f_row_hall T.fd_row_hall := T.t_row_hall.F
theorem Txt.b_row_hall {K : PySem.W.Frag} {mg : Str → Option Value} {w : World} (T : Txt K mg w) : Binds K T.fd_row_hall p_row_hall [] := T.t_row_hall.b
abbrev Txt.f_dip {K : PySem.W.Frag} {mg : Str → Option Value} {w : World} (T : Txt K mg w) : Addr := T.t_dip.f
abbrev Txt.fd_dip {K : PySem.W.Frag} {mg : Str → Option Value} {w : World} (T : Txt K mg w) : FuncData := T.t_dip.fd
theorem Txt.F_dip {K : PySem.W.Frag} {mg : Str → Option Value} {w : World} (T : Txt K mg w) : Fun K "_law_dip" "_law_dip" s_dip T.f_dip T.fd_dip := T.t_dip.F
theorem Txt.b_dip {K : PySem.W.Frag} {mg : Str → Option Value} {w : World} (T : Txt K mg w) : Binds K T.fd_dip p_dip [] := T.t_dip.b
abbrev Txt.f_take {K : PySem.W.Frag} {mg : Str → Option Value} {w : World} (T : Txt K mg w) : Addr := T.t_take.f
abbrev Txt.fd_take {K : PySem.W.Frag} {mg : Str → Option Value} {w : World} (T : Txt K mg w) : FuncData := T.t_take.fd
theorem Txt.F_take {K : PySem.W.Frag} {mg : Str → Option Value} {w : World} (T : Txt K mg w) : Fun K "_law_take" "_law_take" s_take T.f_take T.fd_take := T.t_take.F
theorem Txt.b_take {K : PySem.W.Frag} {mg : Str → Option Value} {w : World} (T : Txt K mg w) : Binds K T.fd_take p_take [] := T.t_take.b
abbrev Txt.f_folded {K : PySem.W.Frag} {mg : Str → Option Value} {w : World} (T : Txt K mg w) : Addr := T.t_folded.f
abbrev Txt.fd_folded {K : PySem.W.Frag} {mg : Str → Option Value} {w : World} (T : Txt K mg w) : FuncData := T.t_folded.fd
theorem Txt.F_folded {K : PySem.W.Frag} {mg : Str → Option Value} {w : World} (T : Txt K mg w) : Fun K "_law_folded" "_law_folded" s_folded T.f_folded T.fd_folded := T.t_folded.F
theorem Txt.b_folded {K : PySem.W.Frag} {mg : Str → Option Value} {w : World} (T : Txt K mg w) : Binds K T.fd_folded p_folded [] := T.t_folded.b
abbrev Txt.f_same {K : PySem.W.Frag} {mg : Str → Option Value} {w : World} (T : Txt K mg w) : Addr := T.t_same.f
abbrev Txt.fd_same {K : PySem.W.Frag} {mg : Str → Option Value} {w : World} (T : Txt K mg w) : FuncData := T.t_same.fd
theorem Txt.F_same {K : PySem.W.Frag} {mg : Str → Option Value} {w : World} (T : Txt K mg w) : Fun K "_law_same" "_law_same" s_same T.f_same T.fd_same := T.t_same.F
theorem Txt.b_same {K : PySem.W.Frag} {mg : Str → Option Value} {w : World} (T : Txt K mg w) : Binds K T.fd_same p_same [] := T.t_same.b
abbrev Txt.f_stop {K : PySem.W.Frag} {mg : Str → Option Value} {w : World} (T : Txt K mg w) : Addr := T.t_stop.f
abbrev Txt.fd_stop {K : PySem.W.Frag} {mg : Str → Option Value} {w : World} (T : Txt K mg w) : FuncData := T.t_stop.fd
theorem Txt.F_stop {K : PySem.W.Frag} {mg : Str → Option Value} {w : World} (T : Txt K mg w) : Fun K "_law_stop" "_law_stop" s_stop T.f_stop T.fd_stop := T.t_stop.F
theorem Txt.b_stop {K : PySem.W.Frag} {mg : Str → Option Value} {w : World} (T : Txt K mg w) : Binds K T.fd_stop p_stop [] := T.t_stop.b
abbrev Txt.f_swept {K : PySem.W.Frag} {mg : Str → Option Value} {w : World} (T : Txt K mg w) : Addr := T.t_swept.f
abbrev Txt.fd_swept {K : PySem.W.Frag} {mg : Str → Option Value} {w : World} (T : Txt K mg w) : FuncData := T.t_swept.fd
theorem Txt.F_swept {K : PySem.W.Frag} {mg : Str → Option Value} {w : World} (T : Txt K mg w) : Fun K "_law_swept" "_law_swept" s_swept T.f_swept T.fd_swept := T.t_swept.F
theorem Txt.b_swept {K : PySem.W.Frag} {mg : Str → Option Value} {w : World} (T : Txt K mg w) : Binds K T.fd_swept p_swept [] := T.t_swept.b
abbrev Txt.f_right {K : PySem.W.Frag} {mg : Str → Option Value} {w : World} (T : Txt K mg w) : Addr := T.t_right.f
abbrev Txt.fd_right {K : PySem.W.Frag} {mg : Str → Option Value} {w : World} (T : Txt K mg w) : FuncData := T.t_right.fd
theorem Txt.F_right {K : PySem.W.Frag} {mg : Str → Option Value} {w : World} (T : Txt K mg w) : Fun K "_law_right" "_law_right" s_right T.f_right T.fd_right := T.t_right.F
theorem Txt.b_right {K : PySem.W.Frag} {mg : Str → Option Value} {w : World} (T : Txt K mg w) : Binds K T.fd_right p_right [] := T.t_right.b
abbrev Txt.f_back_due {K : PySem.W.Frag} {mg : Str → Option Value} {w : World} (T : Txt K mg w) : Addr := T.t_back_due.f
abbrev Txt.fd_back_due {K : PySem.W.Frag} {mg : Str → Option Value} {w : World} (T : Txt K mg w) : FuncData := T.t_back_due.fd
theorem Txt.F_back_due {K : PySem.W.Frag} {mg : Str → Option Value} {w : World} (T : Txt K mg w) : Fun K "_law_back_due" "_law_back_due" s_back_due T.f_back_due T.fd_back_due := T.t_back_due.F
theorem Txt.b_back_due {K : PySem.W.Frag} {mg : Str → Option Value} {w : World} (T : Txt K mg w) : Binds K T.fd_back_due p_back_due [] := T.t_back_due.b
abbrev Txt.f_law {K : PySem.W.Frag} {mg : Str → Option Value} {w : World} (T : Txt K mg w) : Addr := T.t_law.f
abbrev Txt.fd_law {K : PySem.W.Frag} {mg : Str → Option Value} {w : World} (T : Txt K mg w) : FuncData := T.t_law.fd
theorem Txt.F_law {K : PySem.W.Frag} {mg : Str → Option Value} {w : World} (T : Txt K mg w) : Fun K "law" "law" s_law T.f_law T.fd_law := T.t_law.F
theorem Txt.b_law {K : PySem.W.Frag} {mg : Str → Option Value} {w : World} (T : Txt K mg w) : Binds K T.fd_law p_law [] := T.t_law.b
end Lh

namespace Lh
open PySem PySem.Spec PyProof.Rows L2
section
variable {P : Program} {w : World} {K : PySem.W.Frag} {mg : Str → Option Value} {base : Heap}
/-- what an expression comes to, then what follows -/
theorem use {te : TE} {σ : L2.St} {H : Hp} {Q : VK} (R : V → Hp → Prop) (h : ∀ Q' : VK, (∀ v H', R v H' → Q' v H') → te σ H Q') (hq : ∀ v H', R v H' → Q v H') : te σ H Q := h Q hq
/-! ### the draws -/
def spTake : Sp := fun vs H Q _ => ∃ (bx : Addr) (c m : Int), vs = [.ref bx, .int m] ∧ 0 < m ∧ m ≤ 1000000 ∧ c ≤ 1000000000 ∧ Box bx c H ∧
  ∀ (r : Int) (H' : Hp), 0 ≤ r → r < m → Ext bx H H' → Box bx (c + 1) H' → Q (.int r) H'
theorem ok_take (T : Txt K mg w) : FnOk P w K mg base CX0 1 T.f_take T.fd_take p_take spTake := by
  refine T.F_take.ok sc_take (fun vs H Q E h => ?_) (fun cdv A outer s H vs Q E hr h => ?_)
  · obtain ⟨bx, c, m, rfl, _⟩ := h
    rfl
  · obtain ⟨bx, c, m, rfl, m0, m1, c1, ⟨a, b, n, hb, a0, b0, b1, n0, n1⟩, q⟩ := h
    refine ⟨_, (pss_cons (ps_if (pt_cmpR op_gt (pe_ix ix_list (pv 0) pe_int (fun _ _ => rfl)) pe_int (nomark _))
        (pss_cons (ps_set (i := 2) sc_take.nd rfl (.inl rfl) (pe_op op_mod (pe_ix ix_list (pv 0) pe_int (fun _ _ => rfl)) (pv 1)))
        (pss_cons (ps_asg (pe_op op_fdiv (pe_ix ix_list (pv 0) pe_int (fun _ _ => rfl)) (pv 1)) (pg_sub (pv 0) pe_int set_list))
        (pss_one (ps_ret (pv 2)))))
        pss_nil)
      (pss_cons (ps_asg (pe_op op_add (pe_ix ix_list (pv 0) pe_int (fun _ _ => rfl)) pe_int) (pg_sub (pv 0) pe_int set_list))
      (pss_cons (ps_set (i := 3) sc_take.nd rfl (.inl rfl) (pe_op op_mod (pe_op op_pow (pe_op op_add (pe_ix ix_list (pv 0) pe_int (fun _ _ => rfl)) (pe_op op_mul pe_int (pe_ix ix_list (pv 0) pe_int (fun _ _ => rfl)))) pe_int) pe_int))
      (pss_cons (ps_set (i := 4) sc_take.nd rfl (.inl rfl) (pe_op op_mod (pe_op op_mul (pe_op op_add (pe_op op_add (pv 3) (pe_ix ix_list (pv 0) pe_int (fun _ _ => rfl))) (pe_op op_fdiv (pe_ix ix_list (pv 0) pe_int (fun _ _ => rfl)) pe_int)) (pe_op op_add (pe_op op_add (pe_op op_mod (pv 3) pe_int) pe_int) (pe_ix ix_list (pv 0) pe_int (fun _ _ => rfl)))) pe_int))
      (pss_one (ps_ret (pe_op op_mod (pe_op op_fdiv (pe_op op_mod (pe_op op_add (pe_op op_mul (pv 4) pe_int) (pv 3)) pe_int) pe_int) (pv 1)))))))), ?_⟩
    have i0 : ∀ x y z : V, atI [x, y, z] 0 = some x := fun _ _ _ => rfl
    have i1 : ∀ x y z : V, atI [x, y, z] 1 = some y := fun _ _ _ => rfl
    have i2 : ∀ x y z : V, atI [x, y, z] 2 = some z := fun _ _ _ => rfl
    have hS : SqL K H bx [.int a, .int b, .int n] := .inl (.inl hb)
    refine ⟨.ref bx, rfl, bx, _, 0, _, rfl, rfl, hS, i0 _ _ _, a, 0, rfl, rfl, _, rfl, ite2 (fun e => ?_) (fun e => ?_)⟩
    · refine ⟨.ref bx, rfl, bx, _, 0, _, rfl, rfl, hS, i0 _ _ _, .int m, rfl, a, m, rfl, rfl, m0, ?_⟩
      refine ⟨.ref bx, rfl, bx, _, 0, _, rfl, rfl, hS, i0 _ _ _, .int m, rfl, a, m, rfl, rfl, ⟨m0, by omega⟩, ?_⟩
      refine ⟨.ref bx, rfl, bx, _, 0, 0, rfl, rfl, hb, rfl, ?_⟩
      refine ⟨.int (a % m), rfl, q _ _ (Int.emod_nonneg _ (by omega)) (Int.emod_lt_of_pos _ m0) (Ext.refl _).box ⟨a / m, b, n, upd_same, Int.ediv_nonneg a0 (by omega), b0, b1, n0, by omega⟩⟩
    · have n2 : n + 1 ≤ 1000000001 := by omega
      refine ⟨.ref bx, rfl, bx, _, 2, _, rfl, rfl, hS, i2 _ _ _, n, 1, rfl, rfl, .ref bx, rfl, bx, _, 2, 2, rfl, rfl, hb, rfl, ?_⟩
      generalize hH1 : upd H bx (.lst (List.set [V.int a, .int b, .int n] 2 (.int (n + 1)))) = H1
      have hb1 : H1 bx = some (.lst [.int a, .int b, .int (n + 1)]) := by rw [← hH1]; exact upd_same
      have hS1 : SqL K H1 bx [.int a, .int b, .int (n + 1)] := .inl (.inl hb1)
      have bB : Box bx (c + 1) H1 := ⟨a, b, n + 1, hb1, a0, b0, b1, by omega, by omega⟩
      have eE : Ext bx H H1 := by rw [← hH1]; exact (Ext.refl _).box
      refine ⟨.ref bx, rfl, bx, _, 1, _, rfl, rfl, hS1, i1 _ _ _, .ref bx, rfl, bx, _, 2, _, rfl, rfl, hS1, i2 _ _ _, 39373, n + 1, rfl, rfl, .inl ⟨by decide, by decide⟩, b, _, rfl, rfl, _, 5, rfl, rfl, ⟨by decide, by decide, ?_⟩, _, 2147483647, rfl, rfl, by show (0 : Int) < 2147483647; decide, ?_⟩
      · omega
      dsimp only
      generalize hx : (b + 39373 * (n + 1)) ^ (5 : Int).toNat % 2147483647 = x
      have x0 : 0 ≤ x := by rw [← hx]; exact Int.emod_nonneg _ (by decide)
      have x1 : x < 2147483647 := by rw [← hx]; exact Int.emod_lt_of_pos _ (by decide)
      have d0 : 0 ≤ b / 1000003 := Int.ediv_nonneg b0 (by decide)
      have d1 : b / 1000003 ≤ b := Int.ediv_le_self _ b0
      have e0 : 0 ≤ x % 40009 := Int.emod_nonneg _ (by decide)
      have e1 : x % 40009 < 40009 := Int.emod_lt_of_pos _ (by decide)
      refine ⟨.int x, rfl, .ref bx, rfl, bx, _, 2, _, rfl, rfl, hS1, i2 _ _ _, x, n + 1, rfl, rfl, .ref bx, rfl, bx, _, 1, _, rfl, rfl, hS1, i1 _ _ _, b, 1000003, rfl, rfl, ⟨by decide, by decide⟩, _, _, rfl, rfl,
        .int x, rfl, x, 40009, rfl, rfl, by show (0 : Int) < 40009; decide, _, 7, rfl, rfl, .ref bx, rfl, bx, _, 2, _, rfl, rfl, hS1, i2 _ _ _, _, n + 1, rfl, rfl, _, _, rfl, rfl, .inr ⟨?_, ?_⟩, _, 2147483629, rfl, rfl, by show (0 : Int) < 2147483629; decide, ?_⟩
      · omega
      · omega
      dsimp only
      generalize hy : (x + (n + 1) + b / 1000003) * (x % 40009 + 7 + (n + 1)) % 2147483629 = y
      have y0 : 0 ≤ y := by rw [← hy]; exact Int.emod_nonneg _ (by decide)
      have y1 : y < 2147483629 := by rw [← hy]; exact Int.emod_lt_of_pos _ (by decide)
      refine ⟨.int y, rfl, y, 48271, rfl, rfl, .inr ⟨by decide, by decide⟩, .int x, rfl, _, x, rfl, rfl, _, 2147483587, rfl, rfl, by show (0 : Int) < 2147483587; decide, _, 64, rfl, rfl, ⟨by decide, by decide⟩, .int m, rfl, _, m, rfl, rfl, m0, ?_⟩
      exact q _ _ (Int.emod_nonneg _ (by omega)) (Int.emod_lt_of_pos _ m0) eE bB
def spDip (K : PySem.W.Frag) : Sp := fun vs H Q _ => ∃ (a : Addr) (ns : List Int) (k : Nat), vs = [.ref a, .int k] ∧ SqL K H a (ns.map V.int) ∧ k ≤ 1000 ∧
  ∀ (bx : Addr) (H' : Hp), Same H H' → H bx = none → Box bx 0 H' → Q (.ref bx) H'
theorem ok_dip (T : Txt K mg w) : FnOk P w K mg base CX0 1 T.f_dip T.fd_dip p_dip (spDip K) := by
  refine T.F_dip.ok sc_dip (fun vs H Q E h => ?_) (fun cdv A outer s H vs Q E hr h => ?_)
  · obtain ⟨a, ns, k, rfl, _⟩ := h
    rfl
  · obtain ⟨a, ns, k, rfl, hS, hk, q⟩ := h
    refine ⟨_, (pss_cons (ps_set (i := 2) sc_dip.nd rfl (.inl rfl) (pe_ifExp (pt_cmpR op_lt (pv 1) (pe_callB call_len_seq (by rfl) T.m_len (by decide +kernel) (pa_cons (pv 0) pa_nil)) (nomark _)) (pe_ix ix_list (pv 0) (pv 1) (fun _ _ => rfl)) pe_int))
      (pss_one (ps_ret (pe_lst (pa_cons (pe_op op_mul (pe_callB call_abs (by rfl) T.m_abs (by decide +kernel) (pa_cons (pv 2) pa_nil)) (pe_callTy call_int1 (by rfl) T.m_int (by decide +kernel) (pa_cons (pe_cmpR op_ge (pe_callB call_abs (by rfl) T.m_abs (by decide +kernel) (pa_cons (pv 2) pa_nil)) (pe_op op_pow pe_int pe_int) (nomark _)) pa_nil))) (pa_cons (pe_op op_add (pe_op op_add (pe_op op_mod (pv 2) pe_int) (pe_op op_mul pe_int (pv 1))) pe_int) (pa_cons pe_int pa_nil))))))), ?_⟩
    show tIf _ _ _ _ _ _
    refine use (fun v H' => ∃ x : Int, v = .int x ∧ H' = H) (fun Q' hQ => ?_) ?_
    · refine ⟨.int k, rfl, .ref a, rfl, a, _, rfl, .inl hS, k, _, rfl, rfl, _, rfl, ite2 (fun e => ?_) (fun e => ?_)⟩
      · have hk2 : k < ns.length := by
          have := of_decide_eq_true e
          rw [List.length_map] at this
          omega
        exact ⟨.ref a, rfl, .int k, rfl, a, _, k, .int ns[k], rfl, rfl, hS, atI_nat (by rw [List.getElem?_map, List.getElem?_eq_getElem hk2]; rfl), hQ _ _ ⟨_, rfl, rfl⟩⟩
      · exact hQ _ _ ⟨0, rfl, rfl⟩
    · rintro v H' ⟨x, rfl, rfl⟩
      have m0 : 0 ≤ x % 2305843009213693951 := Int.emod_nonneg _ (by decide)
      have m1 : x % 2305843009213693951 < 2305843009213693951 := Int.emod_lt_of_pos _ (by decide)
      refine ⟨.int x, rfl, x, rfl, .int x, rfl, x, rfl, 10, 18, rfl, rfl, ⟨by decide, by decide, by decide⟩, _, _, rfl, rfl, .inr ⟨_, rfl, ?_⟩⟩
      have bnd : ∀ b : Bool, (0 : Int) ≤ (if b then 1 else 0) ∧ (if b then (1 : Int) else 0) ≤ 1 := fun b => by cases b <;> decide
      refine ⟨_, _, rfl, rfl, .inr ⟨Int.lt_of_lt_of_le (by decide) (bnd _).1, Int.lt_of_le_of_lt (bnd _).2 (by decide)⟩, .int x, rfl, x, 2305843009213693951, rfl, rfl, by show (0 : Int) < 2305843009213693951; decide, .int k, rfl, 39373, k, rfl, rfl, .inl ⟨by decide, by decide⟩, _, _, rfl, rfl, _, 17, rfl, rfl, by show 3 ≤ sizeLine; decide, fun p hp => ?_⟩
      refine q p _ (same_upd hp) hp ⟨_, _, 0, upd_same, ?_, ?_, ?_, by decide, by decide⟩
      · refine Int.mul_nonneg ?_ (bnd _).1
        split <;> omega
      · show 0 ≤ x % 2305843009213693951 + 39373 * (k : Int) + 17
        omega
      · show x % 2305843009213693951 + 39373 * (k : Int) + 17 < 2 ^ 62
        omega
end
end Lh

namespace Lh
open PySem PySem.Spec PyProof.Rows L2
def cutI {α : Type} (xs : List α) (lo hi : Option Int) : List α := (xs.drop (HT.sIx xs.length 0 lo)).take (HT.sIx xs.length xs.length hi - HT.sIx xs.length 0 lo)
theorem cut_map {α : Type} (f : α → V) (xs : List α) (lo hi : Option Int) : cutV (xs.map f) lo hi = (cutI xs lo hi).map f := by
  unfold cutV cutI
  rw [List.length_map, List.map_take, List.map_drop]
theorem cutI_head {α : Type} (xs : List α) : (cutI xs none (some 3)).length = min 3 xs.length := by
  unfold cutI
  rw [HT.sIx_none, show HT.sIx xs.length xs.length (some 3) = min 3 xs.length from HT.sIx_nat xs.length _ 3, List.length_take, List.length_drop]
  omega
theorem cutI_tail {α : Type} (xs : List α) (h : xs.length ≤ 3) : (cutI xs (some 3) (some 63)).length = 0 := by
  unfold cutI
  rw [show HT.sIx xs.length 0 (some 3) = min 3 xs.length from HT.sIx_nat xs.length _ 3, List.length_take, List.length_drop]
  omega
section
variable {P : Program} {w : World} {K : PySem.W.Frag} {mg : Str → Option Value} {base : Heap}
def spFolded (K : PySem.W.Frag) : Sp := fun vs H Q _ => ∃ (a : Addr) (ns : List Int), vs = [.ref a, .int 3] ∧ SqL K H a (ns.map V.int) ∧ ns.length ≤ 63 ∧
  ∀ (p : Addr) (ms : List Int) (H' : Hp), Same H H' → H p = none → H' p = some (.lst (ms.map V.int)) → ms.length ≤ 3 → Q (.ref p) H'
theorem ok_folded (T : Txt K mg w) : FnOk P w K mg base CX0 1 T.f_folded T.fd_folded p_folded (spFolded K) := by
  refine T.F_folded.ok sc_folded (fun vs H Q E h => ?_) (fun cdv A outer s H vs Q E hr h => ?_)
  · obtain ⟨a, ns, rfl, _⟩ := h
    rfl
  · obtain ⟨a, ns, rfl, hS, hl, q⟩ := h
    refine ⟨_, (pss_cons (ps_set (i := 2) sc_folded.nd rfl (.inl rfl) (pe_callTy call_list_of (by rfl) T.m_list (by decide +kernel) (pa_cons (pe_slice sl_list (pv 0) po_none (po_some (pv 1))) pa_nil)))
      (pss_cons (ps_for PassesOwn.never rfl (pi_enum (by rfl) T.m_enumerate (pa_cons (pe_slice sl_list (pv 0) (po_some (pv 1)) (po_some pe_int)) pa_nil)) (pg_tup rfl (pgs_cons (pg_name (i := 3) sc_folded.nd rfl (.inl rfl)) (pgs_cons (pg_name (i := 4) sc_folded.nd rfl (.inl rfl)) pgs_nil)))
        (pss_one (ps_asg (pe_op op_add (pe_ix ix_list (pv 2) (pe_op op_mod (pv 3) (pv 1)) (fun _ _ => rfl)) (pe_op op_mul (pv 4) (pe_op op_add (pv 3) pe_int))) (pg_sub (pv 2) (pe_op op_mod (pv 3) (pv 1)) set_list))))
      (pss_one (ps_ret (pv 2))))), ?_⟩
    -- the cells
    refine ⟨.ref a, rfl, .int 3, rfl, 3, rfl, a, _, rfl, hS, fun c nc => ?_⟩
    have s1 := same_upd (o := .lst (cutV (ns.map V.int) none (some 3))) nc
    refine ⟨c, _, rfl, .inl (.inl (.inl upd_same)), fun l nl => ?_⟩
    have s2 := s1.trans (same_upd (o := .lst (cutV (ns.map V.int) none (some 3))) nl)
    have nlH : H l = none := s1.free nl
    -- the rest of the script
    refine ⟨.ref a, rfl, .int 3, rfl, 3, rfl, 63, rfl, a, _, rfl, s2.seq hS, fun d nd => ?_⟩
    have s3 := s2.trans (same_upd (o := .lst (cutV (ns.map V.int) (some 3) (some 63))) nd)
    have nld : l ≠ d := ne_of_none upd_same nd
    refine ⟨d, _, rfl, .inl (.inl upd_same), ?_⟩
    rw [cut_map V.int, cut_map V.int] at *
    refine for_it (walk_enum (xs := (cutI ns (some 3) (some 63)).map V.int)) (fun i σ H3 => ∃ (y3 y4 : Option V) (ms : List Int), σ = [some (.ref a), some (.int 3), some (.ref l), y3, y4] ∧ Same H H3 ∧ H3 d = some (.lst ((cutI ns (some 3) (some 63)).map V.int)) ∧ H3 l = some (.lst (ms.map V.int)) ∧ ms.length = min 3 ns.length) ?_ ?_ ?_ ?_
    · refine ⟨none, none, cutI ns none (some 3), rfl, s3, upd_same, ?_, cutI_head ns⟩
      rw [upd_ne nld, upd_same]
    · rintro i σ H3 _ ⟨y3, y4, ms, rfl, _, hd, _⟩
      exact .inl (.inl hd)
    · rintro i x σ H3 H4 hi ⟨y3, y4, ms, rfl, sm, hd, hl3, hm⟩ ⟨t, x1, x2, rfl, nt, rfl, e1, e2⟩
      rw [List.length_map] at hi
      have e1' : V.int (i : Nat) = x1 := Option.some.inj e1
      subst e1'
      have e2' : x2 = .int (cutI ns (some 3) (some 63))[i] := by
        have : ((cutI ns (some 3) (some 63)).map V.int)[i]? = some x2 := e2
        rw [List.getElem?_map, List.getElem?_eq_getElem hi] at this
        exact (Option.some.inj this).symm
      subst e2'
      have h3 : ms.length = 3 := by
        by_cases hc : ns.length ≤ 3
        · rw [cutI_tail ns hc] at hi; omega
        · omega
      have nlt : l ≠ t := ne_of_none hl3 nt
      have hl4 : (upd H3 t (.tup [.int (i : Nat), .int (cutI ns (some 3) (some 63))[i]])) l = some (.lst (ms.map V.int)) := by rw [upd_ne nlt]; exact hl3
      have hlt : ((i : Int) % 3).toNat < ms.length := by omega
      refine ⟨t, _, rfl, .inl (.inl upd_same), rfl, _, _, rfl, _, _, rfl, rfl, ?_⟩
      refine ⟨.ref l, rfl, .int i, rfl, .int 3, rfl, i, 3, rfl, rfl, by show (0 : Int) < 3; decide, l, _, _, .int ms[((i : Int) % 3).toNat], rfl, rfl, .inl (.inl hl4), ?_, ?_⟩
      · refine at_of (j := ((i : Int) % 3).toNat) (by omega) ?_
        rw [List.getElem?_map, List.getElem?_eq_getElem hlt]; rfl
      refine ⟨_, rfl, .int i, rfl, i, 2, rfl, rfl, _, _, rfl, rfl, .inr ⟨by omega, ?_⟩, _, _, rfl, rfl, .ref l, rfl, .int i, rfl, .int 3, rfl, i, 3, rfl, rfl, by show (0 : Int) < 3; decide, l, _, _, ((i : Int) % 3).toNat, rfl, rfl, hl4, ?_, ?_⟩
      · have : (cutI ns (some 3) (some 63)).length ≤ ns.length := by
          unfold cutI; rw [List.length_take, List.length_drop]; omega
        omega
      · show ixN (ms.map V.int).length ((i : Int) % 3) = some _
        unfold ixN
        rw [List.length_map, if_pos (by omega), if_pos (by omega)]
      · refine ⟨_, _, ms.set ((i : Int) % 3).toNat (ms[((i : Int) % 3).toNat] + (cutI ns (some 3) (some 63))[i] * ((i : Int) + 2)), rfl, ?_, ?_, ?_, ?_⟩
        · exact fun b o e => by
            rw [upd_ne (ne_of_none e nlH), upd_ne (ne_of_none (sm b o e) nt)]
            exact sm b o e
        · rw [upd_ne nld.symm, upd_ne (ne_of_none hd nt)]
          exact hd
        · rw [upd_same, List.map_set]
        · rw [List.length_set]; exact hm
    · rintro σ H3 ⟨y3, y4, ms, rfl, sm, hd, hl3, hm⟩
      exact ⟨.ref l, rfl, q l ms H3 sm nlH hl3 (by omega)⟩
end
end Lh

namespace Lh
open PySem PySem.Spec PyProof.Rows L2
/-- data of at most n levels, no level longer than 1000 -/
def okD : Nat → PyData → Prop
  | _, .none => True
  | _, .bool _ => True
  | _, .int _ => True
  | _, .str _ => True
  | n + 1, .list ds => ds.length ≤ 8388608 ∧ ∀ d ∈ ds, okD n d
  | n + 1, .tuple ds => ds.length ≤ 8388608 ∧ ∀ d ∈ ds, okD n d
  | _, _ => False
def tyD : PyData → String
  | .none => "NoneType"
  | .bool _ => "bool"
  | .int _ => "int"
  | .str _ => "str"
  | .list _ => "list"
  | .tuple _ => "tuple"
  | .dict _ => "dict"
theorem Rp.ty {bx : Addr} {K : PySem.W.Frag} {H : Hp} {v : V} {d : PyData} (h : Rp bx H v d) : TyX K H v (.type (tyD d)) := by
  cases h with
  | non => exact .base .non
  | bl b => exact .base (.bl b)
  | int i => exact .base (.int i)
  | str x => exact .base (.str x)
  | lst h _ _ => exact .base (.lst h)
  | tup h _ _ => exact h.ty
theorem iteP {A B : Prop} {c : Bool} (h : c = true) (a : A) : if c = true then A else B := by rw [if_pos h]; exact a
theorem iteN {A B : Prop} {c : Bool} (h : c = false) (b : B) : if c = true then A else B := by rw [h, if_neg Bool.false_ne_true]; exact b
theorem yes {σ : L2.St} {H : Hp} {Q : Bool → Hp → Prop} (h : Q true H) : tYes σ H Q := h
theorem blC {Q : VK} {c d : Bool} {H : Hp} (h : c = d) (q : Q (.bl d) H) : Q (.bl c) H := by rw [h]; exact q
theorem blT {Q : VK} {c : Bool} {H : Hp} (h : c = true) (q : Q (.bl true) H) : Q (.bl c) H := by rw [h]; exact q
/-- isinstance(name, T) -/
theorem rd_isi {K : PySem.W.Frag} {σ : L2.St} {H : Hp} {Q : VK} {i : Nat} {x : V} {T c : String} {b : Bool} (hs : σ[i]? = some (some x)) (ty : TyX K H x (.type T)) (h : kitB T c = some b) (q : Q (.bl b) H) :
    tCB (rIsi K) (tCons (tVar i) (tCons (tC (.ty c)) tNil)) σ H Q := ⟨x, hs, x, .ty c, .type T, .type c, b, rfl, .ty c, ty, kit_ty h, q⟩
/-- isinstance(name, (T, U)) -/
theorem rd_isi2 {K : PySem.W.Frag} {σ : L2.St} {H : Hp} {Q : VK} {i : Nat} {x : V} {T c e : String} {b b2 : Bool} (hs : σ[i]? = some (some x)) (ty : TyX K H x (.type T)) (h : kitB T c = some b) (h2 : kitB T e = some b2)
    (q : ∀ p, H p = none → Q (.bl (b || b2)) (upd H p (.tup [.ty c, .ty e]))) (ty2 : ∀ p, H p = none → TyX K (upd H p (.tup [.ty c, .ty e])) x (.type T)) :
    tCB (rIsiT K) (tCons (tVar i) (tCons (tTup (tCons (tC (.ty c)) (tCons (tC (.ty e)) tNil))) tNil)) σ H Q :=
  ⟨x, hs, by show 2 ≤ sizeLine; decide, fun p hp => ⟨x, p, _, .type T, [.type c, .type e], b || b2, rfl, upd_same, .cons (.ty c) (.cons (.ty e) .nil), ty2 p hp, kitAny_cons (kit_ty h) (fun z => kitAny_cons (kit_ty h2) (fun z2 => by rw [z, z2]; rfl) (fun z2 => by rw [z2, Bool.or_true])) (fun z => by rw [z, Bool.true_or]), q p hp⟩⟩
theorem walk_zipT {K : PySem.W.Frag} {a b : Addr} {xs ys : List V} {n : Nat} (h1 : xs.length = n) (h2 : ys.length = n) : Walk (RZ.ItzT K a b) n (fun H => SqT K H a xs ∧ SqT K H b ys) (YPair (fun i => xs[i]?) (fun i => ys[i]?)) := by
  refine ⟨fun i _ hi q => ⟨xs, ys, xs[i], ys[i], q.1, q.2, by simp [h1, hi], by simp [h2, hi]⟩, fun _ q => ⟨xs, ys, q.1, q.2, .inl (by omega)⟩, ?_⟩
  rintro i H v H' _ q ⟨T, x, z, h1, h2, h3, h4, h5⟩
  exact ⟨T, x, z, h1, h2, h3, h4 xs q.1, h5 ys q.2⟩
def lcSc : Expr → Scope
  | .ListComp _ _ sc _ => sc
  | _ => { kind := .function, names := [], isGenerator := false, isCoroutine := false }
def retE : List Stmt → Expr
  | [.Return (some e) _] => e
  | _ => .Constant .none 0 ⟨0, 0, 0, 0⟩
def argE : Expr → Expr
  | .Call _ (e :: _) _ _ => e
  | e => e
def isCell (osc : Scope) (k : NameKind) (n : Str) : Bool := k == .free && osc.kind == .function && osc.names.lookup n == some .cell
/-- the names of an inner scope, as the outer one has them -/
def relS (sc osc : Scope) : Scope := { sc with names := sc.names.map fun z => if isCell osc z.2 z.1 = true then (z.1, .cell) else (z.1, z.2) }
def rTupN (K : PySem.W.Frag) : List V → Hp → VK → Prop := fun xs H Q => ∃ p ys, xs = [.ref p] ∧ SqL K H p ys ∧ ∀ l (o : Obj), H l = none → o.dict = none → Q (.ref l) (upd H l (.frz o (.tup ys)))
theorem blkOk_sc {N : List Str} {sc sc2 scope : Scope} {own : List (Str × Nat)} (e : sc = sc2) (h : blkC N sc2 scope own = true) : BlkOk N sc scope own := by
  subst e
  exact blkOk_by h
def asgE : Stmt → Expr
  | .Assign _ e _ => e
  | _ => .Constant .none 0 ⟨0, 0, 0, 0⟩
def forB : Stmt → List Stmt
  | .For _ _ b _ _ => b
  | _ => []
def noS : Stmt := .Pass ⟨0, 0, 0, 0⟩
def rLenQ (K : PySem.W.Frag) : List V → Hp → VK → Prop := fun xs H Q => ∃ p ys, xs = [.ref p] ∧ (SqL K H p ys ∨ SqT K H p ys) ∧ Q (.int ys.length) H
section
variable {P : Program} {w : World} {K : PySem.W.Frag} {mg : Str → Option Value} {base : Heap}
end
end Lh

namespace Lh
open PySem PySem.Spec PyProof.Rows L2
/-! ### rules -/
inductive Rule where
  | held (n : Int)
  | sum (own : Int) (ties : List (Int × Int))
  | cap (own : Int) (ties : List (Int × Int)) (most : Int)
  | kinds (own : Int) (seen : List Int)
  | next (seen : List Int)
  | free (seen : List Int)
/-- tuples stay -/
structure Keep (H H' : Hp) : Prop where
  tup : ∀ a xs, H a = some (.tup xs) → H' a = some (.tup xs)
  frz : ∀ a o u, H a = some (.frz o u) → H' a = some (.frz o u)
theorem Keep.refl (H : Hp) : Keep H H := ⟨fun _ _ h => h, fun _ _ _ h => h⟩
theorem Keep.trans {H H1 H2 : Hp} (a : Keep H H1) (b : Keep H1 H2) : Keep H H2 := ⟨fun x y h => b.tup x y (a.tup x y h), fun x y z h => b.frz x y z (a.frz x y z h)⟩
theorem Keep.same {H H' : Hp} (e : Same H H') : Keep H H' := ⟨fun a xs h => e a _ h, fun a o u h => e a _ h⟩
theorem Keep.ext {bx : Addr} {c : Int} {H H' : Hp} (e : Ext bx H H') (b : Box bx c H) : Keep H H' := by
  obtain ⟨x, y, z, hb, _⟩ := b
  exact ⟨fun a xs h => e a _ (ne_of h hb (by intro z; cases z)) h, fun a o u h => e a _ (ne_of h hb (by intro z; cases z)) h⟩
theorem TupAt.keep {H H' : Hp} {a : Addr} {xs : List V} (k : Keep H H') (h : TupAt H a xs) : TupAt H' a xs := by
  rcases h with h | ⟨o, d, h⟩
  · exact .inl (k.tup _ _ h)
  · exact .inr ⟨o, d, k.frz _ _ _ h⟩
def PairAtH (H : Hp) (p : Addr) (q : Int × Int) : Prop := H p = some (.tup [.int q.1, .int q.2])
def TiesAt (H : Hp) (t : Addr) (ties : List (Int × Int)) : Prop := ∃ (o : Obj) (ps : List Addr), o.dict = none ∧ H t = some (.frz o (.tup (ps.map V.ref))) ∧ Paired (PairAtH H) ps ties
def SeenAt (H : Hp) (t : Addr) (seen : List Int) : Prop := TupAt H t (seen.map V.int)
def RuleAt (H : Hp) (v : V) : Rule → Prop
  | .held n => ∃ a, v = .ref a ∧ H a = some (.tup [.str "held", .int n])
  | .sum own ties => ∃ a t, v = .ref a ∧ H a = some (.tup [.str "sum", .int own, .ref t]) ∧ TiesAt H t ties
  | .cap own ties most => ∃ a t, v = .ref a ∧ H a = some (.tup [.str "cap", .int own, .ref t, .int most]) ∧ TiesAt H t ties
  | .kinds own seen => ∃ a t, v = .ref a ∧ H a = some (.tup [.str "kinds", .int own, .ref t]) ∧ SeenAt H t seen
  | .next seen => ∃ a t, v = .ref a ∧ H a = some (.tup [.str "next", .ref t]) ∧ SeenAt H t seen
  | .free seen => ∃ a t, v = .ref a ∧ H a = some (.tup [.str "free", .ref t]) ∧ SeenAt H t seen
theorem pairs_keep {H H' : Hp} (k : Keep H H') : ∀ {ps : List Addr} {ties : List (Int × Int)}, Paired (PairAtH H) ps ties → Paired (PairAtH H') ps ties
  | _, _, .nil => .nil
  | _, _, .cons h r => .cons (k.tup _ _ h) (pairs_keep k r)
theorem TiesAt.keep {H H' : Hp} {t : Addr} {ties : List (Int × Int)} (k : Keep H H') (h : TiesAt H t ties) : TiesAt H' t ties := by
  obtain ⟨o, ps, h1, h2, h3⟩ := h
  exact ⟨o, ps, h1, k.frz _ _ _ h2, pairs_keep k h3⟩
theorem SeenAt.keep {H H' : Hp} {t : Addr} {seen : List Int} (k : Keep H H') (h : SeenAt H t seen) : SeenAt H' t seen := TupAt.keep k h
theorem RuleAt.keep {H H' : Hp} {v : V} (k : Keep H H') : ∀ {r : Rule}, RuleAt H v r → RuleAt H' v r
  | .held n, ⟨a, e, h⟩ => ⟨a, e, k.tup _ _ h⟩
  | .sum _ _, ⟨a, t, e, h, q⟩ => ⟨a, t, e, k.tup _ _ h, q.keep k⟩
  | .cap _ _ _, ⟨a, t, e, h, q⟩ => ⟨a, t, e, k.tup _ _ h, q.keep k⟩
  | .kinds _ _, ⟨a, t, e, h, q⟩ => ⟨a, t, e, k.tup _ _ h, q.keep k⟩
  | .next _, ⟨a, t, e, h, q⟩ => ⟨a, t, e, k.tup _ _ h, q.keep k⟩
  | .free _, ⟨a, t, e, h, q⟩ => ⟨a, t, e, k.tup _ _ h, q.keep k⟩
def smallI (i : Int) : Prop := 0 ≤ i ∧ i ≤ 1000
/-- rising persons below many -/
def Rising (many : Int) (ns : List Int) : Prop := ns.Pairwise (· < ·) ∧ ∀ n ∈ ns, 0 ≤ n ∧ n < many
def Rule.Wf (many : Int) : Rule → Prop
  | .held n => smallI n
  | .sum own ties => smallI own ∧ Rising many (ties.map (·.1)) ∧ ∀ q ∈ ties, 1 ≤ q.2 ∧ q.2 ≤ 1000
  | .cap own ties most => smallI own ∧ Rising many (ties.map (·.1)) ∧ (∀ q ∈ ties, 1 ≤ q.2 ∧ q.2 ≤ 1000) ∧ smallI most
  | .kinds own seen => smallI own ∧ Rising many seen
  | .next seen => Rising many seen
  | .free seen => Rising many seen
def Rule.persons : Rule → List Int
  | .held _ => []
  | .sum _ ties => ties.map (·.1)
  | .cap _ ties _ => ties.map (·.1)
  | .kinds _ seen => seen
  | .next seen => seen
  | .free seen => seen
theorem Rising.sub {many : Int} {ns ms : List Int} (s : ms.Sublist ns) (h : Rising many ns) : Rising many ms := ⟨h.1.sublist s, fun n hn => h.2 n (s.subset hn)⟩
/-- an item of a written list -/
theorem pick {xs : List V} {i : Int} (h0 : 0 ≤ i) (h1 : i < xs.length) : ∃ v, v ∈ xs ∧ atI xs i = some v := by
  have hj : i.toNat < xs.length := by omega
  exact ⟨xs[i.toNat], List.getElem_mem hj, at_of (by omega) (List.getElem?_eq_getElem hj)⟩
section
variable {P : Program} {w : World} {K : PySem.W.Frag} {mg : Str → Option Value} {base : Heap}
def spSome : Sp := fun vs H Q _ => ∃ (bx p : Addr) (c m : Int) (ns : List Int), vs = [.ref bx, .ref p, .int m] ∧ 0 < m ∧ m ≤ 1000000 ∧ c + ns.length ≤ 1000000000 ∧ ns.length ≤ 1000 ∧ Box bx c H ∧ H p = some (.lst (ns.map V.int)) ∧ p ≠ bx ∧
  ∀ (q : Addr) (ms : List Int) (H' : Hp), Ext bx H H' → Box bx (c + ns.length) H' → H q = none → H' q = some (.lst (ms.map V.int)) → ms.Sublist ns → Q (.ref q) H'
end
end Lh

namespace Lh
open PySem PySem.Spec PyProof.Rows L2
section
variable {P : Program} {w : World} {K : PySem.W.Frag} {mg : Str → Option Value} {base : Heap}
theorem Paired.snoc {α β : Type} {R : α → β → Prop} {x : α} {y : β} (r : R x y) : ∀ {xs : List α} {ys : List β}, Paired R xs ys → Paired R (xs ++ [x]) (ys ++ [y])
  | _, _, .nil => .cons r .nil
  | _, _, .cons h t => .cons h (Paired.snoc r t)
def spSumRule : Sp := fun vs H Q _ => ∃ (bx p : Addr) (c far many : Int) (ns : List Int), vs = [.ref bx, .ref p, .int far] ∧ 0 < far ∧ far ≤ 999 ∧ c + 2 * ns.length + 4 ≤ 1000000000 ∧ ns.length ≤ 1000 ∧ Box bx c H ∧ H p = some (.lst (ns.map V.int)) ∧ p ≠ bx ∧ Rising many ns ∧
  ∀ (v : V) (r : Rule) (H' : Hp), Ext bx H H' → Box bx (c + 2 * ns.length + 4) H' → RuleAt H' v r → r.Wf many → r.persons = ns → Q v H'
end
end Lh

namespace Lh
open PySem PySem.Spec PyProof.Rows L2
section
variable {P : Program} {w : World} {K : PySem.W.Frag} {mg : Str → Option Value} {base : Heap}
def spRule : Sp := fun vs H Q _ => ∃ (bx p : Addr) (c far many : Int) (m : V) (ns : List Int), vs = [.ref bx, m, .ref p, .int far] ∧ 0 < far ∧ far ≤ 999 ∧ c + 3 * ns.length + 6 ≤ 1000000000 ∧ ns.length ≤ 1000 ∧ Box bx c H ∧ H p = some (.lst (ns.map V.int)) ∧ p ≠ bx ∧ Rising many ns ∧
  ∀ (v : V) (r : Rule) (H' : Hp), Ext bx H H' → Box bx (c + 3 * ns.length + 6) H' → RuleAt H' v r → r.Wf many → r.persons.Sublist ns → Q v H'
end
end Lh

namespace Lh
open PySem PySem.Spec PyProof.Rows L2
/-! ### what a rule tells -/
theorem nodup_len {α : Type} [DecidableEq α] : ∀ (xs ys : List α), xs.Nodup → (∀ x ∈ xs, x ∈ ys) → xs.length ≤ ys.length
  | [], _, _, _ => Nat.zero_le _
  | x :: t, ys, nd, h => by
    have hx : x ∈ ys := h x List.mem_cons_self
    have nt := List.nodup_cons.mp nd
    have h2 := nodup_len t (ys.erase x) nt.2 (fun y hy => by
      have ne : y ≠ x := fun e => nt.1 (by rw [← e]; exact hy)
      exact (List.mem_erase_of_ne ne).mpr (h y (List.mem_cons_of_mem _ hy)))
    rw [List.length_erase_of_mem hx] at h2
    have : 0 < ys.length := List.length_pos_of_mem hx
    rw [List.length_cons]
    omega
def wgt (ties : List (Int × Int)) (p : Int) : Int := ((ties.find? fun q => decide (q.1 = p)).map (·.2)).getD 0
def IsMex (ns : List Int) (x : Int) : Prop := x ∉ ns ∧ 0 ≤ x ∧ ∀ j, 0 ≤ j → j < x → j ∈ ns
def Tell : Rule → List (Int × Int) → Int → Prop
  | .held n, _, x => x = n
  | .sum own ties, lot, x => x = own + (lot.map fun q => wgt ties q.1).sum
  | .cap own ties most, lot, x => x = min (own + (lot.map fun q => wgt ties q.1).sum) most
  | .kinds own _, lot, x => ∃ ks : List Int, ks.Nodup ∧ (∀ k, k ∈ ks ↔ k ∈ lot.map (·.2)) ∧ x = own + ks.length
  | .next _, lot, x => (lot = [] ∧ x = 0) ∨ (x - 1 ∈ lot.map (·.2) ∧ ∀ y ∈ lot.map (·.2), y ≤ x - 1)
  | .free _, lot, x => IsMex (lot.map (·.2)) x
theorem Tell.unique : ∀ {r : Rule} {lot : List (Int × Int)} {x y : Int}, Tell r lot x → Tell r lot y → x = y
  | .held _, _, _, _, h, k => h.trans k.symm
  | .sum _ _, _, _, _, h, k => h.trans k.symm
  | .cap _ _ _, _, _, _, h, k => h.trans k.symm
  | .kinds _ _, lot, x, y, ⟨a, na, ma, ha⟩, ⟨b, nb, mb, hb⟩ => by
    have h1 := nodup_len a b na (fun z hz => (mb z).mpr ((ma z).mp hz))
    have h2 := nodup_len b a nb (fun z hz => (ma z).mpr ((mb z).mp hz))
    omega
  | .next _, lot, x, y, h, k => by
    rcases h with ⟨h1, h2⟩ | ⟨h1, h2⟩
    · rcases k with ⟨k1, k2⟩ | ⟨k1, k2⟩
      · omega
      · rw [h1] at k1; exact absurd k1 (by simp)
    · rcases k with ⟨k1, k2⟩ | ⟨k1, k2⟩
      · rw [k1] at h1; exact absurd h1 (by simp)
      · have := h2 _ k1; have := k2 _ h1; omega
  | .free _, lot, x, y, ⟨h1, h2, h3⟩, ⟨k1, k2, k3⟩ => by
    rcases Int.lt_trichotomy x y with h | h | h
    · exact absurd (k3 x h2 h) h1
    · exact h
    · exact absurd (h3 y k2 h) k1
/-! ### dicts of ties -/
def kvOf (ties : List (Int × Int)) : List (Key × V) := ties.map fun q => (Sum.inl q.1, V.int q.2)
theorem merge_new : ∀ (more acc : List (Key × V)), ((acc ++ more).map (·.1)).Nodup → mergeK acc more = acc ++ more
  | [], acc, _ => by rw [List.append_nil]; rfl
  | q :: t, acc, nd => by
    have hq : (acc.any fun kv => decide (kv.1 = q.1)) = false := by
      rw [List.any_eq_false]
      intro kv hkv e
      have e' : kv.1 = q.1 := of_decide_eq_true e
      rw [List.map_append, List.nodup_append] at nd
      exact nd.2.2 _ (List.mem_map_of_mem hkv) q.1 (by simp) e'
    have e1 : mergeK acc (q :: t) = mergeK (putK acc q.1 q.2) t := rfl
    have e2 : putK acc q.1 q.2 = acc ++ [q] := by
      unfold putK
      rw [hq, if_neg Bool.false_ne_true]
    rw [e1, e2, merge_new t (acc ++ [q]) (by rw [List.append_assoc]; exact nd), List.append_assoc]
    rfl
theorem kv_nodup {ties : List (Int × Int)} (h : (ties.map (·.1)).Nodup) : ((kvOf ties).map (·.1)).Nodup := by
  unfold kvOf
  rw [List.map_map]
  have e : ((fun q : Key × V => q.1) ∘ fun q : Int × Int => ((Sum.inl q.1 : Key), V.int q.2)) = (fun n : Int => (Sum.inl n : Key)) ∘ (fun q : Int × Int => q.1) := rfl
  rw [e, ← List.map_map, List.nodup_iff_pairwise_ne]
  rw [List.nodup_iff_pairwise_ne] at h
  exact List.Pairwise.map _ (fun a b z q => z (Sum.inl.inj q)) h
theorem kv_get : ∀ {ties : List (Int × Int)} {p : Int}, p ∈ ties.map (·.1) → valV (kvOf ties) (Sum.inl p) = some (.int (wgt ties p))
  | [], p, h => absurd h (by simp)
  | q :: t, p, h => by
    by_cases e : q.1 = p
    · have e1 : valV (kvOf (q :: t)) (Sum.inl p) = some (V.int q.2) := valV_pos (p := ((Sum.inl q.1 : Key), V.int q.2)) (by rw [e])
      rw [e1]
      unfold wgt
      rw [List.find?_cons, decide_eq_true e]
      rfl
    · have e1 : valV (kvOf (q :: t)) (Sum.inl p) = valV (kvOf t) (Sum.inl p) := valV_neg (p := ((Sum.inl q.1 : Key), V.int q.2)) (fun z => e (Sum.inl.inj z))
      have h' : p ∈ t.map (·.1) := by
        rw [List.map_cons, List.mem_cons] at h
        rcases h with h | h
        · exact absurd h.symm e
        · exact h
      rw [e1, kv_get h']
      unfold wgt
      rw [List.find?_cons, decide_eq_false e]
theorem Rising.nodup {many : Int} {ns : List Int} (h : Rising many ns) : ns.Nodup := by
  rw [List.nodup_iff_pairwise_ne]
  exact h.1.imp fun z => by omega
/-! ### a walk over pairs -/
theorem walk_tupR {K : PySem.W.Frag} {t : Addr} (ps : List Addr) : Walk (Itt K t) ps.length (fun H => SqT K H t (ps.map V.ref)) (YAt (ps.map V.ref)) := by
  have h := walk_tup (K := K) (a := t) (xs := ps.map V.ref)
  rw [List.length_map] at h
  exact h
theorem walk_listR {K : PySem.W.Frag} {t : Addr} (ps : List Addr) : Walk (Itl K t) ps.length (fun H => SqL K H t (ps.map V.ref)) (YAt (ps.map V.ref)) := by
  have h := walk_list (K := K) (a := t) (xs := ps.map V.ref)
  rw [List.length_map] at h
  exact h
theorem lc_pairs {K : PySem.W.Frag} {J : It} {G : Hp → Prop} {ps : List Addr} {lot : List (Int × Int)} {H1 : Hp} {D : Addr} {σ : L2.St} {vs : List Nat} {te : TE} {Qd : Hp → Prop} {i j : Nat} (f : Int × Int → Int)
    (wk : Walk J ps.length G (YAt (ps.map V.ref))) (hp : Paired (PairAtH H1) ps lot) (hD : H1 D = none) (hl : ps.length ≤ 1000) (hG : ∀ H3, Same H1 H3 → G H3)
    (hw : ∀ a b, wipe (((wipe σ vs).set i a).set j b) vs = wipe σ vs)
    (he : ∀ q ∈ lot, ∀ H3, Same H1 H3 → ∀ Q : VK, Q (.int (f q)) H3 → te (((wipe σ vs).set i (some (.int q.1))).set j (some (.int q.2))) H3 Q)
    (hq : ∀ H', Same H1 H' → H' D = some (.lst ((lot.map f).map V.int)) → Qd H') :
    ∃ W : Nat → Nat → Hp → Prop, (∃ m, W 0 m (upd H1 D (.lst []))) ∧ ∀ i1 m H, W i1 m H →
      (J.stop i1 H ∧ Qd H) ∨ (J.go i1 H ∧ ∃ Nx : Hp → Prop, (∀ H', Nx H' → ∃ m', m' < m ∧ W (i1 + 1) m' H') ∧ ∀ x H', J.yld i1 H x H' → gTup K 2 (gCons (gName i) (gCons (gName j) gNil)) x (wipe σ vs) H' fun σ2 H2 => wipe σ2 vs = wipe σ vs ∧ tYes σ2 H2 fun b H3 =>
        if b = true then te σ2 H3 fun y H4 => ∃ acc, H4 D = some (.lst acc) ∧ acc.length < sizeLine ∧ Nx (upd H4 D (.lst (acc ++ [y]))) else Nx H3) := by
  have ll : ps.length = lot.length := hp.length
  refine lc_it wk (fun n H3 => Same H1 H3 ∧ H3 D = some (.lst (((lot.take n).map f).map V.int))) ⟨same_upd hD, upd_same⟩ (fun n H3 _ h => hG H3 h.1) ?_ ?_
  · rintro n x H3 H4 hn ⟨sm, h3⟩ ⟨rfl, hx⟩
    rw [List.getElem?_map, List.getElem?_eq_getElem hn] at hx
    have ex : x = .ref ps[n] := (Option.some.inj hx).symm
    subst ex
    have hn2 : n < lot.length := by omega
    have pa : PairAtH H1 ps[n] lot[n] := by
      have : ∀ {ps : List Addr} {lot : List (Int × Int)}, Paired (PairAtH H1) ps lot → ∀ (n : Nat) (h1 : n < ps.length) (h2 : n < lot.length), PairAtH H1 ps[n] lot[n] := by
        intro ps lot hp
        induction hp with
        | nil => intro n h1; exact absurd h1 (by simp)
        | cons r t ih =>
          intro n h1 h2
          cases n with
          | zero => exact r
          | succ n => exact ih n (by simpa using h1) (by simpa using h2)
      exact this hp n hn hn2
    refine ⟨ps[n], _, rfl, .inl (.inl (sm _ _ pa)), rfl, _, _, rfl, _, _, rfl, rfl, hw _ _, yes (iteT ?_)⟩
    refine he lot[n] (List.getElem_mem hn2) _ sm _ ⟨_, h3, ?_, same_mut sm hD, ?_⟩
    · rw [List.length_map, List.length_map, List.length_take]; exact small1000 (by omega)
    · rw [upd_same, List.take_add_one, List.getElem?_eq_getElem hn2, List.map_append, List.map_append]; rfl
  · rintro H3 ⟨sm, h3⟩
    rw [ll, List.take_length] at h3
    exact hq H3 sm h3
end Lh

namespace Lh
open PySem PySem.Spec PyProof.Rows L2
section
variable {P : Program} {w : World} {K : PySem.W.Frag} {mg : Str → Option Value} {base : Heap}
def spSeenBy : Sp := fun vs H Q _ => ∃ (v : V) (r : Rule), vs = [v] ∧ RuleAt H v r ∧ r.persons.length ≤ 1000 ∧ ∀ (p : Addr) (H' : Hp), Same H H' → H p = none → H' p = some (.lst (r.persons.map V.int)) → Q (.ref p) H'
theorem ok_seen_by (T : Txt K mg w) : FnOk P w K mg base CX0 1 T.f_seen_by T.fd_seen_by p_seen_by spSeenBy := by
  refine T.F_seen_by.ok sc_seen_by (fun vs H Q E h => ?_) (fun cdv A outer s H vs Q E hr h => ?_)
  · obtain ⟨v, r, rfl, _⟩ := h
    rfl
  · obtain ⟨v, r, rfl, hv, hl, q⟩ := h
    refine ⟨_, (pss_cons (ps_set (i := 1) sc_seen_by.nd rfl (.inl rfl) (pe_ix ix_tup (pv 0) pe_int (fun _ _ => rfl)))
      (pss_cons (ps_if (pt_cmpR op_eq (pv 1) pe_str (nomark _))
        (pss_one (ps_ret (pe_lst pa_nil)))
        pss_nil)
      (pss_cons (ps_if (pt_cmpR op_in_seq (pv 1) (pe_tup (pa_cons pe_str (pa_cons pe_str pa_nil))) (by rfl))
        (pss_one (ps_ret (pe_lc (own := [("person", 2), ("weight", 3)]) (g := gTup K 2 (gCons (gName 2) (gCons (gName 3) gNil))) (by rfl) sc_seen_by.nd (pi_tup (pe_ix ix_tup (pv 0) pe_int (fun _ _ => rfl))) (blkOk_by (own := [("person", 2), ("weight", 3)]) (N := n_seen_by) (sc := defScope s_seen_by) (by decide +kernel)) (fun _ _ _ _ _ => (pg_tup rfl (pgs_cons (pg_name (i := 2) sc_seen_by.nd rfl (.inl rfl) (.inr rfl)) (pgs_cons (pg_name (i := 3) sc_seen_by.nd rfl (.inl rfl) (.inr rfl)) pgs_nil)))) (fun _ _ _ _ _ => pts_nil) (fun _ _ _ _ _ => (pv 2)))))
        pss_nil)
      (pss_cons (ps_if (pt_cmpR op_eq (pv 1) pe_str (nomark _))
        (pss_one (ps_ret (pe_callTy call_list_of (by rfl) T.m_list (by decide +kernel) (pa_cons (pe_ix ix_tup (pv 0) pe_int (fun _ _ => rfl)) pa_nil))))
        pss_nil)
      (pss_one (ps_ret (pe_callTy call_list_of (by rfl) T.m_list (by decide +kernel) (pa_cons (pe_ix ix_tup (pv 0) pe_int (fun _ _ => rfl)) pa_nil)))))))), ?_⟩
    cases r with
    | held n =>
      obtain ⟨a, rfl, ha⟩ := hv
      refine ⟨.ref a, rfl, a, _, 0, _, rfl, rfl, .inl (.inl ha), rfl, ?_⟩
      refine ⟨_, rfl, rfl, _, rfl, iteP (by decide +kernel) ?_⟩
      exact ⟨Nat.zero_le _, fun p np => q p _ (same_upd np) np upd_same⟩
    | sum own ties =>
      obtain ⟨a, t, rfl, ha, o, ps, od, ht, pr⟩ := hv
      have el : ps.length = ties.length := pr.length
      have hl2 : ps.length ≤ 1000 := by rw [el]; simpa [Rule.persons] using hl
      refine ⟨.ref a, rfl, a, _, 0, _, rfl, rfl, .inl (.inl ha), rfl, ?_⟩
      refine ⟨_, rfl, rfl, _, rfl, iteN (by decide +kernel) ?_⟩
      refine ⟨_, rfl, by show 2 ≤ sizeLine; decide, fun u hu => ⟨u, _, rfl, .inr (.inl (.inl upd_same)), rfl, rfl, _, rfl, iteP (by decide +kernel) ?_⟩⟩
      have s1 := same_upd (o := .tup [.str "sum", .str "cap"]) hu
      refine ⟨.ref a, rfl, a, _, 2, _, rfl, rfl, .inl (.inl (s1 _ _ ha)), rfl, t, rfl, ⟨_, .inl (.inr ⟨o, s1 _ _ ht⟩)⟩, fun D hD => ?_⟩
      refine lc_pairs (·.1) (walk_tupR ps) (pairs_keep (Keep.same s1) pr) hD hl2 (fun H3 s3 => .inl (.inr ⟨o, s3 _ _ (s1 _ _ ht)⟩)) (fun _ _ => rfl) (fun q _ H3 _ Q h => ⟨_, rfl, h⟩) (fun H3 s3 h3 => ?_)
      exact q D H3 (s1.trans s3) (s1.free hD) h3
    | cap own ties most =>
      obtain ⟨a, t, rfl, ha, o, ps, od, ht, pr⟩ := hv
      have el : ps.length = ties.length := pr.length
      have hl2 : ps.length ≤ 1000 := by rw [el]; simpa [Rule.persons] using hl
      refine ⟨.ref a, rfl, a, _, 0, _, rfl, rfl, .inl (.inl ha), rfl, ?_⟩
      refine ⟨_, rfl, rfl, _, rfl, iteN (by decide +kernel) ?_⟩
      refine ⟨_, rfl, by show 2 ≤ sizeLine; decide, fun u hu => ⟨u, _, rfl, .inr (.inl (.inl upd_same)), rfl, rfl, _, rfl, iteP (by decide +kernel) ?_⟩⟩
      have s1 := same_upd (o := .tup [.str "sum", .str "cap"]) hu
      refine ⟨.ref a, rfl, a, _, 2, _, rfl, rfl, .inl (.inl (s1 _ _ ha)), rfl, t, rfl, ⟨_, .inl (.inr ⟨o, s1 _ _ ht⟩)⟩, fun D hD => ?_⟩
      refine lc_pairs (·.1) (walk_tupR ps) (pairs_keep (Keep.same s1) pr) hD hl2 (fun H3 s3 => .inl (.inr ⟨o, s3 _ _ (s1 _ _ ht)⟩)) (fun _ _ => rfl) (fun q _ H3 _ Q h => ⟨_, rfl, h⟩) (fun H3 s3 h3 => ?_)
      exact q D H3 (s1.trans s3) (s1.free hD) h3
    | kinds own seen =>
      obtain ⟨a, t, rfl, ha, ht⟩ := hv
      refine ⟨.ref a, rfl, a, _, 0, _, rfl, rfl, .inl (.inl ha), rfl, ?_⟩
      refine ⟨_, rfl, rfl, _, rfl, iteN (by decide +kernel) ?_⟩
      refine ⟨_, rfl, by show 2 ≤ sizeLine; decide, fun u hu => ⟨u, _, rfl, .inr (.inl (.inl upd_same)), rfl, rfl, _, rfl, iteN (by decide +kernel) ?_⟩⟩
      have s1 := same_upd (o := .tup [.str "sum", .str "cap"]) hu
      refine ⟨_, rfl, rfl, _, rfl, iteP (by decide +kernel) ?_⟩
      refine ⟨.ref a, rfl, a, _, 2, _, rfl, rfl, .inl (.inl (s1 _ _ ha)), rfl, t, _, rfl, .inr (TupAt.keep (Keep.same s1) ht).sq, fun p np => ?_⟩
      exact q p _ (s1.trans (same_upd np)) (s1.free np) upd_same
    | next seen =>
      obtain ⟨a, t, rfl, ha, ht⟩ := hv
      refine ⟨.ref a, rfl, a, _, 0, _, rfl, rfl, .inl (.inl ha), rfl, ?_⟩
      refine ⟨_, rfl, rfl, _, rfl, iteN (by decide +kernel) ?_⟩
      refine ⟨_, rfl, by show 2 ≤ sizeLine; decide, fun u hu => ⟨u, _, rfl, .inr (.inl (.inl upd_same)), rfl, rfl, _, rfl, iteN (by decide +kernel) ?_⟩⟩
      have s1 := same_upd (o := .tup [.str "sum", .str "cap"]) hu
      refine ⟨_, rfl, rfl, _, rfl, iteN (by decide +kernel) ?_⟩
      refine ⟨.ref a, rfl, a, _, 1, _, rfl, rfl, .inl (.inl (s1 _ _ ha)), rfl, t, _, rfl, .inr (TupAt.keep (Keep.same s1) ht).sq, fun p np => ?_⟩
      exact q p _ (s1.trans (same_upd np)) (s1.free np) upd_same
    | free seen =>
      obtain ⟨a, t, rfl, ha, ht⟩ := hv
      refine ⟨.ref a, rfl, a, _, 0, _, rfl, rfl, .inl (.inl ha), rfl, ?_⟩
      refine ⟨_, rfl, rfl, _, rfl, iteN (by decide +kernel) ?_⟩
      refine ⟨_, rfl, by show 2 ≤ sizeLine; decide, fun u hu => ⟨u, _, rfl, .inr (.inl (.inl upd_same)), rfl, rfl, _, rfl, iteN (by decide +kernel) ?_⟩⟩
      have s1 := same_upd (o := .tup [.str "sum", .str "cap"]) hu
      refine ⟨_, rfl, rfl, _, rfl, iteN (by decide +kernel) ?_⟩
      refine ⟨.ref a, rfl, a, _, 1, _, rfl, rfl, .inl (.inl (s1 _ _ ha)), rfl, t, _, rfl, .inr (TupAt.keep (Keep.same s1) ht).sq, fun p np => ?_⟩
      exact q p _ (s1.trans (same_upd np)) (s1.free np) upd_same
end
end Lh

namespace Lh
open PySem PySem.Spec PyProof.Rows L2
/-- a lot in the heap, a list of pairs or a tuple of them -/
def LotAt (H : Hp) (v : V) (lot : List (Int × Int)) : Prop := ∃ (a : Addr) (ps : List Addr), v = .ref a ∧ (H a = some (.lst (ps.map V.ref)) ∨ TupAt H a (ps.map V.ref)) ∧ Paired (PairAtH H) ps lot ∧ ps.length ≤ 1000
theorem LotAt.same {H H' : Hp} {v : V} {lot : List (Int × Int)} (s : Same H H') (h : LotAt H v lot) : LotAt H' v lot := by
  obtain ⟨a, ps, e, h1, h2, h3⟩ := h
  refine ⟨a, ps, e, ?_, pairs_keep (Keep.same s) h2, h3⟩
  rcases h1 with h1 | h1
  · exact .inl (s _ _ h1)
  · exact .inr (h1.keep (Keep.same s))
theorem pairs_sq {K : PySem.W.Frag} {H : Hp} : ∀ {ps : List Addr} {ties : List (Int × Int)}, Paired (PairAtH H) ps ties → Paired (fun p kv => SqT K H p [kV kv.1, kv.2]) ps (kvOf ties)
  | _, _, .nil => .nil
  | _, _, .cons h r => .cons (.inl (.inl h)) (pairs_sq r)
theorem merge_kv {ties : List (Int × Int)} (h : (ties.map (·.1)).Nodup) : mergeK [] (kvOf ties) = kvOf ties := by
  rw [merge_new (kvOf ties) [] (by rw [List.nil_append]; exact kv_nodup h), List.nil_append]
section
variable {P : Program} {w : World} {K : PySem.W.Frag} {mg : Str → Option Value} {base : Heap}
theorem in_ints (x : Int) (ns : List Int) : inV (.int x) (ns.map V.int) = decide (x ∈ ns) := by
  unfold inV
  rw [List.any_map]
  rw [Bool.eq_iff_iff, List.any_eq_true, decide_eq_true_iff]
  constructor
  · rintro ⟨y, hy, e⟩
    have e' : (y == x) = true := e
    rw [← eq_of_beq e']; exact hy
  · intro h
    exact ⟨x, h, (beq_self_eq_true x : (x == x) = true)⟩
theorem flat_ints (ns : List Int) : (ns.map V.int).all flatV = true := by
  rw [List.all_map, List.all_eq_true]
  intro _ _; rfl
end
end Lh

namespace Lh
open PySem PySem.Spec PyProof.Rows L2
def seenPairs : Rule → List (Int × Int)
  | .held _ => []
  | .sum _ ties => ties
  | .cap _ ties _ => ties
  | .kinds _ seen => seen.map fun n => (n, 1)
  | .next seen => seen.map fun n => (n, 1)
  | .free seen => seen.map fun n => (n, 1)
theorem seen_persons : ∀ r : Rule, (seenPairs r).map (·.1) = r.persons
  | .held _ => rfl
  | .sum _ _ => rfl
  | .cap _ _ _ => rfl
  | .kinds _ s => by show (s.map fun n => (n, (1 : Int))).map (·.1) = s; rw [List.map_map]; exact List.map_id s
  | .next s => by show (s.map fun n => (n, (1 : Int))).map (·.1) = s; rw [List.map_map]; exact List.map_id s
  | .free s => by show (s.map fun n => (n, (1 : Int))).map (·.1) = s; rw [List.map_map]; exact List.map_id s
section
variable {P : Program} {w : World} {K : PySem.W.Frag} {mg : Str → Option Value} {base : Heap}
/-- [(one, 1) for one in seen] -/
theorem lc_ones {K : PySem.W.Frag} {t : Addr} {seen : List Int} {H1 : Hp} {D : Addr} {σ : L2.St} {vs : List Nat} {Qd : Hp → Prop} {i : Nat} (ht : SeenAt H1 t seen) (hD : H1 D = none) (hl : seen.length ≤ 1000)
    (hw : ∀ a, wipe ((wipe σ vs).set i a) vs = wipe σ vs) (hi : ∀ a : V, ((wipe σ vs).set i (some a))[i]? = some (some a))
    (hq : ∀ H' ps, Same H1 H' → H' D = some (.lst (ps.map V.ref)) → Paired (PairAtH H') ps (seen.map fun n => (n, 1)) → Qd H') :
    ∃ W : Nat → Nat → Hp → Prop, (∃ m, W 0 m (upd H1 D (.lst []))) ∧ ∀ i1 m H, W i1 m H →
      ((Itt K t).stop i1 H ∧ Qd H) ∨ ((Itt K t).go i1 H ∧ ∃ Nx : Hp → Prop, (∀ H', Nx H' → ∃ m', m' < m ∧ W (i1 + 1) m' H') ∧ ∀ x H', (Itt K t).yld i1 H x H' → gName i x (wipe σ vs) H' fun σ2 H2 => wipe σ2 vs = wipe σ vs ∧ tYes σ2 H2 fun b H3 =>
        if b = true then tTup (tCons (tVar i) (tCons (tC (.int 1)) tNil)) σ2 H3 fun y H4 => ∃ acc, H4 D = some (.lst acc) ∧ acc.length < sizeLine ∧ Nx (upd H4 D (.lst (acc ++ [y]))) else Nx H3) := by
  refine lc_it (walk_tup (xs := seen.map V.int)) (fun n H3 => ∃ ps : List Addr, Same H1 H3 ∧ H3 D = some (.lst (ps.map V.ref)) ∧ Paired (PairAtH H3) ps ((seen.take n).map fun n => (n, 1))) ⟨[], same_upd hD, upd_same, .nil⟩ ?_ ?_ ?_
  · rintro n H3 _ ⟨ps, sm, _⟩
    exact (TupAt.keep (Keep.same sm) ht).sq
  · rintro n x H3 H4 hn ⟨ps, sm, h3, pr⟩ ⟨rfl, hx⟩
    rw [List.length_map] at hn
    rw [List.getElem?_map, List.getElem?_eq_getElem hn] at hx
    have ex : x = .int seen[n] := (Option.some.inj hx).symm
    subst ex
    have pl : ps.length = n := by rw [pr.length, List.length_map, List.length_take]; omega
    refine ⟨hw _, yes (iteT ⟨.int seen[n], hi _, by show 2 ≤ sizeLine; decide, fun p np => ?_⟩)⟩
    have nDp : D ≠ p := ne_of_none h3 np
    refine ⟨_, by rw [upd_ne nDp]; exact h3, by rw [List.length_map]; exact small1000 (by omega), ps ++ [p], ?_, ?_, ?_⟩
    · exact same_mut (sm.trans (same_upd np)) hD
    · rw [upd_same, List.map_append]; rfl
    · rw [List.take_add_one, List.getElem?_eq_getElem hn, List.map_append]
      have kT : Keep H4 (upd (upd H4 p (.tup [.int seen[n], .int 1])) D (.lst (ps.map V.ref ++ [.ref p]))) := by
        refine ⟨fun a xs h => ?_, fun a o u h => ?_⟩
        · rw [upd_ne (ne_of h h3 (by intro z; cases z)), upd_ne (ne_of_none h np)]; exact h
        · rw [upd_ne (ne_of h h3 (by intro z; cases z)), upd_ne (ne_of_none h np)]; exact h
      refine Paired.snoc ?_ (pairs_keep kT pr)
      show upd (upd H4 p _) D _ p = _
      rw [upd_ne nDp.symm, upd_same]
  · rintro H3 ⟨ps, sm, h3, pr⟩
    rw [List.length_map, List.take_length] at pr
    exact hq H3 ps sm h3 pr
def wordOf : Rule → Str
  | .held _ => "held"
  | .sum _ _ => "sum"
  | .cap _ _ _ => "cap"
  | .kinds _ _ => "kinds"
  | .next _ => "next"
  | .free _ => "free"
theorem RuleAt.word {H : Hp} {v : V} : ∀ {r : Rule}, RuleAt H v r → ∃ a xs, v = .ref a ∧ H a = some (.tup (.str (wordOf r) :: xs))
  | .held _, ⟨a, e, h⟩ => ⟨a, _, e, h⟩
  | .sum _ _, ⟨a, t, e, h, _⟩ => ⟨a, _, e, h⟩
  | .cap _ _ _, ⟨a, t, e, h, _⟩ => ⟨a, _, e, h⟩
  | .kinds _ _, ⟨a, t, e, h, _⟩ => ⟨a, _, e, h⟩
  | .next _, ⟨a, t, e, h, _⟩ => ⟨a, _, e, h⟩
  | .free _, ⟨a, t, e, h, _⟩ => ⟨a, _, e, h⟩
theorem last_max : ∀ (ms : List Int) (h : ms ≠ []), ms.Pairwise (· < ·) → ∀ y ∈ ms, y ≤ ms.getLast h
  | [], h, _, _, _ => absurd rfl h
  | [m], _, _, y, hy => by rw [List.mem_singleton.mp hy]; exact Int.le_refl _
  | m :: n :: r, _, pw, y, hy => by
    rw [List.getLast_cons (List.cons_ne_nil n r)]
    have p2 := List.pairwise_cons.mp pw
    rcases List.mem_cons.mp hy with e | e
    · have h1 := p2.1 _ (List.getLast_mem (List.cons_ne_nil n r))
      rw [e]; omega
    · exact last_max (n :: r) (List.cons_ne_nil n r) p2.2 y e
theorem canLay_ints : ∀ ns : List Int, PyData.canLayAll0 (ns.map PyData.int) = true
  | [] => rfl
  | n :: r => by rw [List.map_cons]; show (PyData.canLay0 (.int n) && PyData.canLayAll0 (r.map PyData.int)) = true; rw [canLay_ints r]; rfl
theorem depth_ints : ∀ ns : List Int, PyData.depthAll (ns.map PyData.int) = 0
  | [] => rfl
  | n :: r => by rw [List.map_cons]; show max 0 (PyData.depthAll (r.map PyData.int)) = 0; rw [depth_ints r]; rfl
theorem shaped_ints (ns : List Int) : SeqAt.shaped (.list (ns.map PyData.int)) = true := by
  show (PyData.canLayAll0 (ns.map PyData.int) && decide (PyData.depthAll (ns.map PyData.int) + 1 ≤ 64)) = true
  rw [canLay_ints, depth_ints]
  rfl
/-- [e for n in numbers] -/
theorem lc_ints {K : PySem.W.Frag} {t : Addr} {ns : List Int} {H1 : Hp} {D : Addr} {σ : L2.St} {vs : List Nat} {te : TE} {Qd : Hp → Prop} {i : Nat} (f : Int → Int) (ht : H1 t = some (.lst (ns.map V.int))) (hD : H1 D = none) (hl : ns.length ≤ 1000)
    (hw : ∀ a, wipe ((wipe σ vs).set i a) vs = wipe σ vs)
    (he : ∀ n ∈ ns, ∀ H3, Same H1 H3 → ∀ Q : VK, Q (.int (f n)) H3 → te ((wipe σ vs).set i (some (.int n))) H3 Q)
    (hq : ∀ H', Same H1 H' → H' D = some (.lst ((ns.map f).map V.int)) → Qd H') :
    ∃ W : Nat → Nat → Hp → Prop, (∃ m, W 0 m (upd H1 D (.lst []))) ∧ ∀ i1 m H, W i1 m H →
      ((Itl K t).stop i1 H ∧ Qd H) ∨ ((Itl K t).go i1 H ∧ ∃ Nx : Hp → Prop, (∀ H', Nx H' → ∃ m', m' < m ∧ W (i1 + 1) m' H') ∧ ∀ x H', (Itl K t).yld i1 H x H' → gName i x (wipe σ vs) H' fun σ2 H2 => wipe σ2 vs = wipe σ vs ∧ tYes σ2 H2 fun b H3 =>
        if b = true then te σ2 H3 fun y H4 => ∃ acc, H4 D = some (.lst acc) ∧ acc.length < sizeLine ∧ Nx (upd H4 D (.lst (acc ++ [y]))) else Nx H3) := by
  refine lc_it (walk_list (xs := ns.map V.int)) (fun n H3 => Same H1 H3 ∧ H3 D = some (.lst (((ns.take n).map f).map V.int))) ⟨same_upd hD, upd_same⟩ ?_ ?_ ?_
  · rintro n H3 _ ⟨sm, _⟩
    exact .inl (.inl (sm _ _ ht))
  · rintro n x H3 H4 hn ⟨sm, h3⟩ ⟨rfl, hx⟩
    rw [List.length_map] at hn
    rw [List.getElem?_map, List.getElem?_eq_getElem hn] at hx
    have ex : x = .int ns[n] := (Option.some.inj hx).symm
    subst ex
    refine ⟨hw _, yes (iteT (he ns[n] (List.getElem_mem hn) _ sm _ ⟨_, h3, ?_, same_mut sm hD, ?_⟩))⟩
    · rw [List.length_map, List.length_map, List.length_take]; exact small1000 (by omega)
    · rw [upd_same, List.take_add_one, List.getElem?_eq_getElem hn, List.map_append, List.map_append]; rfl
  · rintro H3 ⟨sm, h3⟩
    rw [List.length_map, List.take_length] at h3
    exact hq H3 sm h3
end
end Lh

namespace Lh
open PySem PySem.Spec PyProof.Rows L2
theorem walk_zipM {K : PySem.W.Frag} {a b : Addr} {xs ys : List V} {n : Nat} (hn : n = min xs.length ys.length) : Walk (RZ.ItzT K a b) n (fun H => SqT K H a xs ∧ SqT K H b ys) (YPair (fun i => xs[i]?) (fun i => ys[i]?)) := by
  refine ⟨fun i _ hi q => ⟨xs, ys, xs[i]'(by omega), ys[i]'(by omega), q.1, q.2, List.getElem?_eq_getElem (by omega), List.getElem?_eq_getElem (by omega)⟩, fun _ q => ⟨xs, ys, q.1, q.2, by omega⟩, ?_⟩
  rintro i H v H' _ q ⟨T, x, z, h1, h2, h3, h4, h5⟩
  exact ⟨T, x, z, h1, h2, h3, h4 xs q.1, h5 ys q.2⟩
/-- a comprehension whose items are all True -/
theorem lc_true {J : It} {n : Nat} {G : Hp → Prop} {Y : Nat → Hp → V → Hp → Prop} (wk : Walk J n G Y) {g : TG} {te : TE} {vs : List Nat} {σ : L2.St} {H1 : Hp} {D : Addr} {Qd : Hp → Prop} (hD : H1 D = none) (hn : n ≤ 1000) (hG : ∀ H3, Same H1 H3 → G H3)
    (hs : ∀ i x H3 H4, i < n → Same H1 H3 → Y i H3 x H4 → ∀ (Q : VK) (Z : Hp → Prop), (∀ H5, Same H3 H5 → Q (.bl true) H5) → g x (wipe σ vs) H4 fun σ2 H2 => wipe σ2 vs = wipe σ vs ∧ tYes σ2 H2 fun b H3 => if b = true then te σ2 H3 Q else Z H3)
    (hq : ∀ H', Same H1 H' → H' D = some (.lst ((List.replicate n true).map V.bl)) → Qd H') :
    ∃ W : Nat → Nat → Hp → Prop, (∃ m, W 0 m (upd H1 D (.lst []))) ∧ ∀ i m H, W i m H →
      (J.stop i H ∧ Qd H) ∨ (J.go i H ∧ ∃ Nx : Hp → Prop, (∀ H', Nx H' → ∃ m', m' < m ∧ W (i + 1) m' H') ∧ ∀ x H', J.yld i H x H' → g x (wipe σ vs) H' fun σ2 H2 => wipe σ2 vs = wipe σ vs ∧ tYes σ2 H2 fun b H3 =>
        if b = true then te σ2 H3 fun y H4 => ∃ acc, H4 D = some (.lst acc) ∧ acc.length < sizeLine ∧ Nx (upd H4 D (.lst (acc ++ [y]))) else Nx H3) := by
  refine lc_it wk (fun i H3 => Same H1 H3 ∧ H3 D = some (.lst ((List.replicate i true).map V.bl))) ⟨same_upd hD, upd_same⟩ (fun i H3 _ h => hG H3 h.1) ?_ (fun H3 h => hq H3 h.1 h.2)
  rintro i x H3 H4 hi ⟨sm, h3⟩ hy
  refine hs i x H3 H4 hi sm hy _ _ (fun H5 s5 => ⟨_, s5 _ _ h3, ?_, same_mut (sm.trans s5) hD, ?_⟩)
  · rw [List.length_map, List.length_replicate]; exact small1000 (by omega)
  · rw [upd_same, List.replicate_succ', List.map_append]; rfl
theorem rep_all (n : Nat) : ((List.replicate n true).all id) = true := by
  rw [List.all_eq_true]
  intro z hz
  rw [List.eq_of_mem_replicate hz]
  rfl
theorem all_true {K : PySem.W.Frag} {D : Addr} {n : Nat} {H : Hp} {Q : VK} (h : H D = some (.lst ((List.replicate n true).map V.bl))) (q : Q (.bl true) H) : rAll K [.ref D] H Q := by
  refine ⟨D, _, rfl, .inl (.inl h), blT ?_ q⟩
  rw [List.all_eq_true]
  intro z hz
  rw [List.eq_of_mem_replicate hz]
  rfl
theorem cut1 {α : Type} (xs : List α) : cutI xs (some 1) none = xs.drop 1 := by
  unfold cutI
  rw [show HT.sIx xs.length 0 (some 1) = min 1 xs.length from HT.sIx_nat xs.length 0 1, HT.sIx_none]
  cases xs with
  | nil => rfl
  | cons x r =>
    rw [show min 1 (x :: r).length = 1 by rw [List.length_cons]; omega]
    show List.take ((x :: r).length - 1) r = r
    rw [List.length_cons, Nat.add_sub_cancel, List.take_length]
section
variable {P : Program} {w : World} {K : PySem.W.Frag} {mg : Str → Option Value} {base : Heap}
def spIsNumber : Sp := fun vs H Q _ => ∃ i : Int, vs = [.int i] ∧ 0 ≤ i ∧ Q (.bl true) H
theorem ok_is_number (T : Txt K mg w) : FnOk P w K mg base CX0 1 T.f_is_number T.fd_is_number p_is_number spIsNumber := by
  refine T.F_is_number.ok sc_is_number (fun vs H Q E h => ?_) (fun cdv A outer s H vs Q E hr h => ?_)
  · obtain ⟨i, rfl, _⟩ := h
    rfl
  · obtain ⟨i, rfl, i0, q⟩ := h
    refine ⟨_, (pss_one (ps_ret (pe_and (pe_callB call_isi (by rfl) T.m_isinstance (by decide +kernel) (pa_cons (pv 0) (pa_cons (pe_bltn (v := .ty "int") (by rfl) T.m_int (by decide +kernel) rfl) pa_nil))) (pe_and (pe_not (pe_callB call_isi (by rfl) T.m_isinstance (by decide +kernel) (pa_cons (pv 0) (pa_cons (pe_bltn (v := .ty "bool") (by rfl) T.m_bool (by decide +kernel) rfl) pa_nil)))) (pe_one (pe_cmpR op_ge (pv 0) pe_int (nomark _))))))), ?_⟩
    refine rd_isi (x := .int i) (T := "int") rfl (.base (.int i)) (by decide +kernel : kitB "int" "int" = some true) ⟨_, rfl, iteP rfl ?_⟩
    refine rd_isi (x := .int i) (T := "int") rfl (.base (.int i)) (by decide +kernel : kitB "int" "bool" = some false) ⟨_, rfl, _, rfl, iteP rfl ?_⟩
    exact ⟨.int i, rfl, i, 0, rfl, rfl, blT (decide_eq_true i0) q⟩
def spIsPerson : Sp := fun vs H Q _ => ∃ m i : Int, vs = [.int m, .int i] ∧ 0 ≤ i ∧ i < m ∧ Q (.bl true) H
theorem ok_is_person (T : Txt K mg w) : FnOk P w K mg base CX0 2 T.f_is_person T.fd_is_person p_is_person spIsPerson := by
  have G_is_number := ok_is_number (P := P) (w := w) (base := base) T
  refine T.F_is_person.ok sc_is_person (fun vs H Q E h => ?_) (fun cdv A outer s H vs Q E hr h => ?_)
  · obtain ⟨m, i, rfl, _⟩ := h
    rfl
  · obtain ⟨m, i, rfl, i0, i1, q⟩ := h
    refine ⟨_, (pss_one (ps_ret (pe_and (pe_call G_is_number (hr.mono (by decide)) (by rfl) T.g_is_number T.F_is_number.kp T.b_is_number .nil pass0 (pa_cons (pv 1) pa_nil)) (pe_one (pe_cmpR op_lt (pv 1) (pv 0) (nomark _)))))), ?_⟩
    exact ⟨.int i, rfl, i, rfl, i0, _, rfl, iteP rfl ⟨.int i, rfl, .int m, rfl, i, m, rfl, rfl, blT (decide_eq_true i1) q⟩⟩
theorem rise_at {ns : List Int} (pw : ns.Pairwise (· < ·)) {i : Nat} {x y : Int} (hx : ns[i]? = some x) (hy : (ns.drop 1)[i]? = some y) : x < y := by
  rw [List.getElem?_drop] at hy
  obtain ⟨h1, e1⟩ := List.getElem?_eq_some_iff.mp hx
  obtain ⟨h2, e2⟩ := List.getElem?_eq_some_iff.mp hy
  rw [← e1, ← e2]
  exact List.pairwise_iff_getElem.mp pw i (1 + i) h1 h2 (by omega)
def spRises (K : PySem.W.Frag) : Sp := fun vs H Q _ => ∃ (a : Addr) (ns : List Int), vs = [.ref a] ∧ (SqL K H a (ns.map V.int) ∨ TupAt H a (ns.map V.int)) ∧ ns.Pairwise (· < ·) ∧ ns.length ≤ 1000 ∧ ∀ H', Same H H' → Q (.bl true) H'
theorem ok_rises (T : Txt K mg w) : FnOk P w K mg base CX0 1 T.f_rises T.fd_rises p_rises (spRises K) := by
  refine T.F_rises.ok sc_rises (fun vs H Q E h => ?_) (fun cdv A outer s H vs Q E hr h => ?_)
  · obtain ⟨a, ns, rfl, _⟩ := h
    rfl
  · obtain ⟨a, ns, rfl, hS, pw, hl, q⟩ := h
    have turn : ∀ (i : Nat) (x1 x2 : V), (ns.map V.int)[i]? = some x1 → ((ns.drop 1).map V.int)[i]? = some x2 → ∃ x y : Int, x1 = .int x ∧ x2 = .int y ∧ x < y := fun i x1 x2 e1 e2 => by
      rw [List.getElem?_map] at e1 e2
      cases h1 : ns[i]? with
      | none => rw [h1] at e1; cases e1
      | some x =>
        cases h2 : (ns.drop 1)[i]? with
        | none => rw [h2] at e2; cases e2
        | some y =>
          rw [h1] at e1
          rw [h2] at e2
          exact ⟨x, y, (Option.some.inj e1).symm, (Option.some.inj e2).symm, rise_at pw h1 h2⟩
    rcases hS with hS | hS
    · refine ⟨_, (pss_one (ps_ret (pe_callB (cr_all rfl) (by rfl) T.m_all (by decide +kernel) (pa_cons (pe_lc (own := [("one", 1), ("other", 2)]) (g := gTup K 2 (gCons (gName 1) (gCons (gName 2) gNil))) (by rfl) sc_rises.nd (RZ.pi_zipA (by rfl) T.m_zip (pa_cons (pv 0) (pa_cons (pe_slice sl_list (pv 0) (po_some pe_int) po_none) pa_nil))) (blkOk_by (own := [("one", 1), ("other", 2)]) (N := n_rises) (sc := defScope s_rises) (by decide +kernel)) (fun _ _ _ _ _ => (pg_tup rfl (pgs_cons (pg_name (i := 1) sc_rises.nd rfl (.inl rfl) (.inr rfl)) (pgs_cons (pg_name (i := 2) sc_rises.nd rfl (.inl rfl) (.inr rfl)) pgs_nil)))) (fun _ _ _ _ _ => pts_nil) (fun _ _ _ _ _ => (pe_cmpR op_lt (pv 1) (pv 2) (nomark _)))) pa_nil)))), ?_⟩
      refine ⟨.ref a, rfl, .ref a, rfl, 1, rfl, a, _, rfl, hS, fun c nc => ?_⟩
      have s1 := same_upd (o := .lst (cutV (ns.map V.int) (some 1) none)) nc
      refine ⟨a, c, _, _, rfl, .inl ⟨s1.seq hS, .inl (.inl upd_same), fun D hD => ?_⟩⟩
      rw [cut_map V.int, cut1] at s1 hD ⊢
      refine lc_true (walk_zip (xs := ns.map V.int) (ys := (ns.drop 1).map V.int) (n := ns.length - 1) (by rw [List.length_map, List.length_map, List.length_drop]; omega)) hD (by omega) (fun H3 s3 => ⟨s3.seq (s1.seq hS), .inl (.inl (s3 _ _ upd_same))⟩) ?_ (fun H3 s3 h3 => all_true h3 (q _ (s1.trans s3)))
      rintro i x H3 H4 hi s3 ⟨t, x1, x2, rfl, nt, rfl, e1, e2⟩ Q' Z hQ
      obtain ⟨x, y, rfl, rfl, lt⟩ := turn i x1 x2 e1 e2
      exact ⟨t, _, rfl, .inl (.inl upd_same), rfl, _, _, rfl, _, _, rfl, rfl, rfl, yes (iteT ⟨.int x, rfl, .int y, rfl, x, y, rfl, rfl, blT (decide_eq_true lt) (hQ _ (same_upd nt))⟩)⟩
    · refine ⟨_, (pss_one (ps_ret (pe_callB (cr_all rfl) (by rfl) T.m_all (by decide +kernel) (pa_cons (pe_lc (own := [("one", 1), ("other", 2)]) (g := gTup K 2 (gCons (gName 1) (gCons (gName 2) gNil))) (by rfl) sc_rises.nd (RZ.pi_zipA (by rfl) T.m_zip (pa_cons (pv 0) (pa_cons (pe_slice sl_tupA (pv 0) (po_some pe_int) po_none) pa_nil))) (blkOk_by (own := [("one", 1), ("other", 2)]) (N := n_rises) (sc := defScope s_rises) (by decide +kernel)) (fun _ _ _ _ _ => (pg_tup rfl (pgs_cons (pg_name (i := 1) sc_rises.nd rfl (.inl rfl) (.inr rfl)) (pgs_cons (pg_name (i := 2) sc_rises.nd rfl (.inl rfl) (.inr rfl)) pgs_nil)))) (fun _ _ _ _ _ => pts_nil) (fun _ _ _ _ _ => (pe_cmpR op_lt (pv 1) (pv 2) (nomark _)))) pa_nil)))), ?_⟩
      refine ⟨.ref a, rfl, .ref a, rfl, 1, rfl, a, _, rfl, hS.sq, fun wh => ?_, fun _ c nc => ?_⟩
      · have hn : ns = [] := by
          cases ns with
          | nil => rfl
          | cons x r =>
            have := wh.1
            rw [show HT.sIx ((x :: r).map V.int).length 0 (some 1) = min 1 ((x :: r).map V.int).length from HT.sIx_nat _ 0 1, List.length_map, List.length_cons] at this
            omega
        subst hn
        refine ⟨a, a, [], [], rfl, .inr ⟨hS.sq, hS.sq, fun D hD => ?_⟩⟩
        refine lc_true (walk_zipT (xs := []) (ys := []) (n := 0) rfl rfl) hD (by omega) (fun H3 s3 => ⟨(hS.keep (Keep.same s3)).sq, (hS.keep (Keep.same s3)).sq⟩) ?_ (fun H3 s3 h3 => all_true h3 (q _ s3))
        intro i x H3 H4 hi
        omega
      · have s1 := same_upd (o := .tup (cutV (ns.map V.int) (some 1) none)) nc
        have hA := hS.keep (Keep.same s1)
        refine ⟨a, c, _, _, rfl, .inr ⟨hA.sq, .inl (.inl upd_same), fun D hD => ?_⟩⟩
        rw [cut_map V.int, cut1] at s1 hD hA ⊢
        refine lc_true (walk_zipM (K := K) (a := a) (b := c) (xs := ns.map V.int) (ys := (ns.drop 1).map V.int) (n := ns.length - 1) (by rw [List.length_map, List.length_map, List.length_drop]; omega)) hD (by omega) (fun H3 s3 => ⟨(hA.keep (Keep.same s3)).sq, .inl (.inl (s3 _ _ upd_same))⟩) ?_ (fun H3 s3 h3 => all_true h3 (q _ (s1.trans s3)))
        rintro i x H3 H4 hi s3 ⟨t, x1, x2, rfl, nt, rfl, e1, e2⟩ Q' Z hQ
        obtain ⟨x, y, rfl, rfl, lt⟩ := turn i x1 x2 e1 e2
        exact ⟨t, _, rfl, .inl (.inl upd_same), rfl, _, _, rfl, _, _, rfl, rfl, rfl, yes (iteT ⟨.int x, rfl, .int y, rfl, x, y, rfl, rfl, blT (decide_eq_true lt) (hQ _ (same_upd nt))⟩)⟩
def spIsTie : Sp := fun vs H Q _ => ∃ (m : Int) (a : Addr) (q : Int × Int), vs = [.int m, .ref a] ∧ PairAtH H a q ∧ 0 ≤ q.1 ∧ q.1 < m ∧ 1 ≤ q.2 ∧ Q (.bl true) H
theorem ok_is_tie (T : Txt K mg w) : FnOk P w K mg base CX0 3 T.f_is_tie T.fd_is_tie p_is_tie spIsTie := by
  have G_is_number := ok_is_number (P := P) (w := w) (base := base) T
  have G_is_person := ok_is_person (P := P) (w := w) (base := base) T
  refine T.F_is_tie.ok sc_is_tie (fun vs H Q E h => ?_) (fun cdv A outer s H vs Q E hr h => ?_)
  · obtain ⟨m, a, q, rfl, _⟩ := h
    rfl
  · obtain ⟨m, a, ⟨p, wt⟩, rfl, ha, p0, p1, w1, q⟩ := h
    have ha' : H a = some (.tup [.int p, .int wt]) := ha
    refine ⟨_, (pss_cons (ps_if (PW.pt (pw_or (pt_not (pt_val (pe_callB call_isi (by rfl) T.m_isinstance (by decide +kernel) (pa_cons (pv 1) (pa_cons (pe_bltn (v := .ty "tuple") (by rfl) T.m_tuple (by decide +kernel) rfl) pa_nil))))) (pw_or1 (pt_cmpR op_ne (pe_callB call_len_seq (by rfl) T.m_len (by decide +kernel) (pa_cons (pv 1) pa_nil)) pe_int (nomark _)))))
        (pss_one (ps_ret pe_bl))
        pss_nil)
      (pss_one (ps_ret (pe_and (pe_call G_is_person (hr.mono (by decide)) (by rfl) T.g_is_person T.F_is_person.kp T.b_is_person .nil pass0 (pa_cons (pv 0) (pa_cons (pe_ix ix_tup (pv 1) pe_int (fun _ _ => rfl)) pa_nil))) (pe_and (pe_call G_is_number (hr.mono (by decide)) (by rfl) T.g_is_number T.F_is_number.kp T.b_is_number .nil pass0 (pa_cons (pe_ix ix_tup (pv 1) pe_int (fun _ _ => rfl)) pa_nil)) (pe_one (pe_cmpR op_ge (pe_ix ix_tup (pv 1) pe_int (fun _ _ => rfl)) pe_int (nomark _)))))))), ?_⟩
    refine rd_isi (x := .ref a) (T := "tuple") rfl (.base (.tup ha')) (by decide +kernel : kitB "tuple" "tuple" = some true) ⟨_, rfl, iteN rfl ?_⟩
    refine ⟨.ref a, rfl, a, _, rfl, .inr (.inl (.inl ha')), rfl, _, rfl, iteN (by show (!decide (V.int 2 = V.int 2)) = false; decide) ?_⟩
    refine ⟨.int m, rfl, .ref a, rfl, a, _, 0, _, rfl, rfl, .inl (.inl ha'), rfl, m, p, rfl, p0, p1, _, rfl, iteP rfl ?_⟩
    refine ⟨.ref a, rfl, a, _, 1, _, rfl, rfl, .inl (.inl ha'), rfl, wt, rfl, by have w1' : 1 ≤ wt := w1; omega, _, rfl, iteP rfl ?_⟩
    exact ⟨.ref a, rfl, a, _, 1, _, rfl, rfl, .inl (.inl ha'), rfl, wt, 1, rfl, rfl, blT (decide_eq_true w1) q⟩
def spAreTies : Sp := fun vs H Q _ => ∃ (m : Int) (t : Addr) (ties : List (Int × Int)), vs = [.int m, .ref t] ∧ TiesAt H t ties ∧ Rising m (ties.map (·.1)) ∧ (∀ q ∈ ties, 1 ≤ q.2) ∧ ties.length ≤ 1000 ∧ ∀ H', Same H H' → Q (.bl true) H'
theorem pair_get {H : Hp} : ∀ {ps : List Addr} {lot : List (Int × Int)}, Paired (PairAtH H) ps lot → ∀ (n : Nat) (p : Addr), ps[n]? = some p → ∃ q, q ∈ lot ∧ PairAtH H p q
  | _, _, .nil, n, p, e => by simp at e
  | _, _, .cons r t, 0, p, e => ⟨_, List.mem_cons_self, by cases e; exact r⟩
  | _, _, .cons r t, n + 1, p, e => by
    obtain ⟨q, h1, h2⟩ := pair_get t n p (by simpa using e)
    exact ⟨q, List.mem_cons_of_mem _ h1, h2⟩
theorem ok_are_ties (T : Txt K mg w) : FnOk P w K mg base CX0 4 T.f_are_ties T.fd_are_ties p_are_ties spAreTies := by
  have G_is_tie := ok_is_tie (P := P) (w := w) (base := base) T
  have G_rises := ok_rises (P := P) (w := w) (base := base) T
  refine T.F_are_ties.ok sc_are_ties (fun vs H Q E h => ?_) (fun cdv A outer s H vs Q E hr h => ?_)
  · obtain ⟨m, t, ties, rfl, _⟩ := h
    rfl
  · obtain ⟨m, t, ties, rfl, ⟨o, ps, od, ht, pr⟩, rs, w1, hl, q⟩ := h
    have el : ps.length = ties.length := pr.length
    have hT : TupAt H t (ps.map V.ref) := .inr ⟨o, od, ht⟩
    refine ⟨_, (pss_cons (ps_if (PW.pt (pw_or (pt_not (pt_val (pe_callB call_isi (by rfl) T.m_isinstance (by decide +kernel) (pa_cons (pv 1) (pa_cons (pe_bltn (v := .ty "tuple") (by rfl) T.m_tuple (by decide +kernel) rfl) pa_nil))))) (pw_or1 (pt_not (pt_val (pe_callB (cr_all rfl) (by rfl) T.m_all (by decide +kernel) (pa_cons (pe_lc (own := [("one", 2)]) (g := gName 2) (by rfl) sc_are_ties.nd (pi_tup (pv 1)) (blkOk_by (own := [("one", 2)]) (N := n_are_ties) (sc := defScope s_are_ties) (by decide +kernel)) (fun _ _ _ _ _ => (pg_name (i := 2) sc_are_ties.nd rfl (.inl rfl) (.inr rfl))) (fun _ _ _ _ _ => pts_nil) (fun _ _ _ _ _ => (pe_call G_is_tie (hr.mono (by decide)) (by rfl) T.g_is_tie T.F_is_tie.kp T.b_is_tie .nil pass0 (pa_cons (pv 0) (pa_cons (pv 2) pa_nil))))) pa_nil)))))))
        (pss_one (ps_ret pe_bl))
        pss_nil)
      (pss_one (ps_ret (pe_call G_rises (hr.mono (by decide)) (by rfl) T.g_rises T.F_rises.kp T.b_rises .nil pass0 (pa_cons (pe_lc (own := [("person", 3), ("weight", 4)]) (g := gTup K 2 (gCons (gName 3) (gCons (gName 4) gNil))) (by rfl) sc_are_ties.nd (pi_tup (pv 1)) (blkOk_by (own := [("person", 3), ("weight", 4)]) (N := n_are_ties) (sc := defScope s_are_ties) (by decide +kernel)) (fun _ _ _ _ _ => (pg_tup rfl (pgs_cons (pg_name (i := 3) sc_are_ties.nd rfl (.inl rfl) (.inr rfl)) (pgs_cons (pg_name (i := 4) sc_are_ties.nd rfl (.inl rfl) (.inr rfl)) pgs_nil)))) (fun _ _ _ _ _ => pts_nil) (fun _ _ _ _ _ => (pv 3))) pa_nil))))), ?_⟩
    refine rd_isi (x := .ref t) (T := "tuple") rfl hT.ty (by decide +kernel : kitB "tuple" "tuple" = some true) ⟨_, rfl, iteN rfl ?_⟩
    refine ⟨.ref t, rfl, t, rfl, ⟨_, hT.sq⟩, fun D hD => ?_⟩
    refine lc_true (walk_tupR ps) hD (by omega) (fun H3 s3 => (hT.keep (Keep.same s3)).sq) ?_ (fun H3 s3 h3 => ⟨D, _, rfl, .inl (.inl h3), _, rfl, iteN (by rw [rep_all]; rfl) ?_⟩)
    · rintro i x H3 H4 hi s3 ⟨rfl, hx⟩ Q' Z hQ
      rw [List.getElem?_map] at hx
      cases hp : ps[i]? with
      | none => rw [hp] at hx; cases hx
      | some p =>
        rw [hp] at hx
        cases hx
        obtain ⟨q0, hq0, ha⟩ := pair_get pr i p hp
        have r0 := rs.2 _ (List.mem_map_of_mem (f := (·.1)) hq0)
        exact ⟨rfl, yes (iteT ⟨.int m, rfl, .ref p, rfl, m, p, q0, rfl, s3 _ _ ha, r0.1, r0.2, w1 q0 hq0, hQ _ (Same.refl _)⟩)⟩
    have hT3 := hT.keep (Keep.same s3)
    refine ⟨.ref t, rfl, t, rfl, ⟨_, hT3.sq⟩, fun D2 hD2 => ?_⟩
    refine lc_pairs (·.1) (walk_tupR ps) (pairs_keep (Keep.same s3) pr) hD2 (by omega) (fun H4 s4 => (hT3.keep (Keep.same s4)).sq) (fun _ _ => rfl) (fun q _ H4 _ Q h => ⟨_, rfl, h⟩) (fun H4 s4 h4 => ?_)
    exact ⟨D2, _, rfl, .inl (.inl (.inl h4)), rs.1, by rw [List.length_map]; exact hl, fun H5 s5 => q _ (s3.trans (s4.trans s5))⟩
def spAreSeen : Sp := fun vs H Q _ => ∃ (m : Int) (t : Addr) (seen : List Int), vs = [.int m, .ref t] ∧ SeenAt H t seen ∧ Rising m seen ∧ seen.length ≤ 1000 ∧ ∀ H', Same H H' → Q (.bl true) H'
theorem ok_are_persons (T : Txt K mg w) : FnOk P w K mg base CX0 3 T.f_are_persons T.fd_are_persons p_are_persons spAreSeen := by
  have G_is_person := ok_is_person (P := P) (w := w) (base := base) T
  have G_rises := ok_rises (P := P) (w := w) (base := base) T
  refine T.F_are_persons.ok sc_are_persons (fun vs H Q E h => ?_) (fun cdv A outer s H vs Q E hr h => ?_)
  · obtain ⟨m, t, seen, rfl, _⟩ := h
    rfl
  · obtain ⟨m, t, seen, rfl, hT, rs, hl, q⟩ := h
    refine ⟨_, (pss_one (ps_ret (pe_and (pe_callB call_isi (by rfl) T.m_isinstance (by decide +kernel) (pa_cons (pv 1) (pa_cons (pe_bltn (v := .ty "tuple") (by rfl) T.m_tuple (by decide +kernel) rfl) pa_nil))) (pe_and (pe_callB (cr_all rfl) (by rfl) T.m_all (by decide +kernel) (pa_cons (pe_lc (own := [("one", 2)]) (g := gName 2) (by rfl) sc_are_persons.nd (pi_tup (pv 1)) (blkOk_by (own := [("one", 2)]) (N := n_are_persons) (sc := defScope s_are_persons) (by decide +kernel)) (fun _ _ _ _ _ => (pg_name (i := 2) sc_are_persons.nd rfl (.inl rfl) (.inr rfl))) (fun _ _ _ _ _ => pts_nil) (fun _ _ _ _ _ => (pe_call G_is_person (hr.mono (by decide)) (by rfl) T.g_is_person T.F_is_person.kp T.b_is_person .nil pass0 (pa_cons (pv 0) (pa_cons (pv 2) pa_nil))))) pa_nil)) (pe_one (pe_call G_rises (hr.mono (by decide)) (by rfl) T.g_rises T.F_rises.kp T.b_rises .nil pass0 (pa_cons (pv 1) pa_nil))))))), ?_⟩
    refine rd_isi (x := .ref t) (T := "tuple") rfl hT.ty (by decide +kernel : kitB "tuple" "tuple" = some true) ⟨_, rfl, iteP rfl ?_⟩
    refine ⟨.ref t, rfl, t, rfl, ⟨_, hT.sq⟩, fun D hD => ?_⟩
    refine lc_true (walk_tup (xs := seen.map V.int)) hD (by rw [List.length_map]; exact hl) (fun H3 s3 => (hT.keep (Keep.same s3)).sq) ?_ (fun H3 s3 h3 => ⟨D, _, rfl, .inl (.inl h3), _, rfl, iteP (rep_all _) ?_⟩)
    · rintro i x H3 H4 hi s3 ⟨rfl, hx⟩ Q' Z hQ
      rw [List.length_map] at hi
      rw [List.getElem?_map, List.getElem?_eq_getElem hi] at hx
      cases hx
      have r0 := rs.2 _ (List.getElem_mem hi)
      exact ⟨rfl, yes (iteT ⟨.int m, rfl, .int seen[i], rfl, m, seen[i], rfl, r0.1, r0.2, hQ _ (Same.refl _)⟩)⟩
    exact ⟨.ref t, rfl, t, seen, rfl, .inr (hT.keep (Keep.same s3)), rs.1, hl, fun H5 s5 => q _ (s3.trans s5)⟩
/-- what may stand as a part of a rule -/
def PartAt (H : Hp) (m : Int) (part : Str) (v : V) : Prop :=
  (part = "number" ∧ ∃ i : Int, v = .int i ∧ 0 ≤ i) ∨ (part = "ties" ∧ ∃ t ties, v = .ref t ∧ TiesAt H t ties ∧ Rising m (ties.map (·.1)) ∧ (∀ q ∈ ties, 1 ≤ q.2) ∧ ties.length ≤ 1000) ∨
  (part = "seen" ∧ ∃ t seen, v = .ref t ∧ SeenAt H t seen ∧ Rising m seen ∧ seen.length ≤ 1000)
theorem PartAt.same {H H' : Hp} {m : Int} {part : Str} {v : V} (s : Same H H') (h : PartAt H m part v) : PartAt H' m part v := by
  rcases h with h | ⟨e, t, ties, h1, h2, h3⟩ | ⟨e, t, seen, h1, h2, h3⟩
  · exact .inl h
  · exact .inr (.inl ⟨e, t, ties, h1, h2.keep (Keep.same s), h3⟩)
  · exact .inr (.inr ⟨e, t, seen, h1, h2.keep (Keep.same s), h3⟩)
def spIsPart : Sp := fun vs H Q _ => ∃ (m : Int) (part : Str) (v : V), vs = [.int m, .str part, v] ∧ PartAt H m part v ∧ ∀ H', Same H H' → Q (.bl true) H'
theorem ok_is_part (T : Txt K mg w) : FnOk P w K mg base CX0 5 T.f_is_part T.fd_is_part p_is_part spIsPart := by
  have G_is_number := ok_is_number (P := P) (w := w) (base := base) T
  have G_are_ties := ok_are_ties (P := P) (w := w) (base := base) T
  have G_are_persons := ok_are_persons (P := P) (w := w) (base := base) T
  refine T.F_is_part.ok sc_is_part (fun vs H Q E h => ?_) (fun cdv A outer s H vs Q E hr h => ?_)
  · obtain ⟨m, part, v, rfl, _⟩ := h
    rfl
  · obtain ⟨m, part, v, rfl, hp, q⟩ := h
    refine ⟨_, (pss_cons (ps_if (pt_cmpR op_eq (pv 1) pe_str (nomark _))
        (pss_one (ps_ret (pe_call G_is_number (hr.mono (by decide)) (by rfl) T.g_is_number T.F_is_number.kp T.b_is_number .nil pass0 (pa_cons (pv 2) pa_nil))))
        pss_nil)
      (pss_cons (ps_if (pt_cmpR op_eq (pv 1) pe_str (nomark _))
        (pss_one (ps_ret (pe_call G_are_ties (hr.mono (by decide)) (by rfl) T.g_are_ties T.F_are_ties.kp T.b_are_ties .nil pass0 (pa_cons (pv 0) (pa_cons (pv 2) pa_nil)))))
        pss_nil)
      (pss_one (ps_ret (pe_call G_are_persons (hr.mono (by decide)) (by rfl) T.g_are_persons T.F_are_persons.kp T.b_are_persons .nil pass0 (pa_cons (pv 0) (pa_cons (pv 2) pa_nil))))))), ?_⟩
    rcases hp with ⟨rfl, i, rfl, i0⟩ | ⟨rfl, t, ties, rfl, h1, h2, h3, h4⟩ | ⟨rfl, t, seen, rfl, h1, h2, h3⟩
    · refine ⟨_, rfl, rfl, _, rfl, iteP (by decide +kernel) ?_⟩
      exact ⟨.int i, rfl, i, rfl, i0, q H (Same.refl H)⟩
    · refine ⟨_, rfl, rfl, _, rfl, iteN (by decide +kernel) ?_⟩
      refine ⟨_, rfl, rfl, _, rfl, iteP (by decide +kernel) ?_⟩
      exact ⟨.int m, rfl, .ref t, rfl, m, t, ties, rfl, h1, h2, h3, h4, q⟩
    · refine ⟨_, rfl, rfl, _, rfl, iteN (by decide +kernel) ?_⟩
      refine ⟨_, rfl, rfl, _, rfl, iteN (by decide +kernel) ?_⟩
      exact ⟨.int m, rfl, .ref t, rfl, m, t, seen, rfl, h1, h2, h3, q⟩
end
end Lh

namespace Lh
open PySem PySem.Spec PyProof.Rows L2
def partsOf : Rule → List Str
  | .held _ => ["number"]
  | .sum _ _ => ["number", "ties"]
  | .cap _ _ _ => ["number", "ties", "number"]
  | .kinds _ _ => ["number", "seen"]
  | .next _ => ["seen"]
  | .free _ => ["seen"]
section
variable {P : Program} {w : World} {K : PySem.W.Frag} {mg : Str → Option Value} {base : Heap}
theorem parts_at (T : Txt K mg w) : ∀ r : Rule, ∃ t, PySem.W.nsIn K T.D_PARTS (wordOf r) = some (some (.ref t)) ∧ ∀ H, SqT K H t ((partsOf r).map V.str)
  | .held _ => ⟨_, T.dk_PARTS_held, T.sq_PARTS_held⟩
  | .sum _ _ => ⟨_, T.dk_PARTS_sum, T.sq_PARTS_sum⟩
  | .cap _ _ _ => ⟨_, T.dk_PARTS_cap, T.sq_PARTS_cap⟩
  | .kinds _ _ => ⟨_, T.dk_PARTS_kinds, T.sq_PARTS_kinds⟩
  | .next _ => ⟨_, T.dk_PARTS_next, T.sq_PARTS_next⟩
  | .free _ => ⟨_, T.dk_PARTS_free, T.sq_PARTS_free⟩
theorem pieces {H : Hp} {v : V} {m : Int} : ∀ {r : Rule}, RuleAt H v r → r.Wf m → r.persons.length ≤ 1000 → ∃ a xs, v = .ref a ∧ H a = some (.tup (.str (wordOf r) :: xs)) ∧ xs.length = (partsOf r).length ∧ ∀ (i : Nat) (s : Str) (x : V), (partsOf r)[i]? = some s → xs[i]? = some x → PartAt H m s x
  | .held n, ⟨a, e, h⟩, wf, _ => ⟨a, _, e, h, rfl, fun i s x h1 h2 => by
    match i with
    | 0 => cases h1; cases h2; exact .inl ⟨rfl, n, rfl, wf.1⟩
    | i + 1 => cases h1⟩
  | .sum own ties, ⟨a, t, e, h, q⟩, wf, hl => ⟨a, _, e, h, rfl, fun i s x h1 h2 => by
    have hl' : ties.length ≤ 1000 := by simpa [Rule.persons] using hl
    match i with
    | 0 => cases h1; cases h2; exact .inl ⟨rfl, own, rfl, wf.1.1⟩
    | 1 => cases h1; cases h2; exact .inr (.inl ⟨rfl, t, ties, rfl, q, wf.2.1, fun q hq => (wf.2.2 q hq).1, hl'⟩)
    | i + 2 => cases h1⟩
  | .cap own ties most, ⟨a, t, e, h, q⟩, wf, hl => ⟨a, _, e, h, rfl, fun i s x h1 h2 => by
    have hl' : ties.length ≤ 1000 := by simpa [Rule.persons] using hl
    match i with
    | 0 => cases h1; cases h2; exact .inl ⟨rfl, own, rfl, wf.1.1⟩
    | 1 => cases h1; cases h2; exact .inr (.inl ⟨rfl, t, ties, rfl, q, wf.2.1, fun q hq => (wf.2.2.1 q hq).1, hl'⟩)
    | 2 => cases h1; cases h2; exact .inl ⟨rfl, most, rfl, wf.2.2.2.1⟩
    | i + 3 => cases h1⟩
  | .kinds own seen, ⟨a, t, e, h, q⟩, wf, hl => ⟨a, _, e, h, rfl, fun i s x h1 h2 => by
    match i with
    | 0 => cases h1; cases h2; exact .inl ⟨rfl, own, rfl, wf.1.1⟩
    | 1 => cases h1; cases h2; exact .inr (.inr ⟨rfl, t, seen, rfl, q, wf.2, hl⟩)
    | i + 2 => cases h1⟩
  | .next seen, ⟨a, t, e, h, q⟩, wf, hl => ⟨a, _, e, h, rfl, fun i s x h1 h2 => by
    match i with
    | 0 => cases h1; cases h2; exact .inr (.inr ⟨rfl, t, seen, rfl, q, wf, hl⟩)
    | i + 1 => cases h1⟩
  | .free seen, ⟨a, t, e, h, q⟩, wf, hl => ⟨a, _, e, h, rfl, fun i s x h1 h2 => by
    match i with
    | 0 => cases h1; cases h2; exact .inr (.inr ⟨rfl, t, seen, rfl, q, wf, hl⟩)
    | i + 1 => cases h1⟩
theorem parts_len : ∀ r : Rule, (partsOf r).length ≤ 1000
  | .held _ => by show 1 ≤ 1000; decide
  | .sum _ _ => by show 2 ≤ 1000; decide
  | .cap _ _ _ => by show 3 ≤ 1000; decide
  | .kinds _ _ => by show 2 ≤ 1000; decide
  | .next _ => by show 1 ≤ 1000; decide
  | .free _ => by show 1 ≤ 1000; decide
theorem cutV1 (xs : List V) : cutV xs (some 1) none = xs.drop 1 := by
  have h := cut_map id xs (some 1) none
  rw [List.map_id, List.map_id, cut1] at h
  exact h
def spIsRule : Sp := fun vs H Q _ => ∃ (m : Int) (v : V) (r : Rule), vs = [.int m, v] ∧ RuleAt H v r ∧ r.Wf m ∧ r.persons.length ≤ 1000 ∧ ∀ H', Same H H' → Q (.bl true) H'
set_option maxHeartbeats 2000000 in
theorem ok_is_rule (T : Txt K mg w) : FnOk P w K mg base CX0 6 T.f_is_rule T.fd_is_rule p_is_rule spIsRule := by
  have G_is_part := ok_is_part (P := P) (w := w) (base := base) T
  refine T.F_is_rule.ok sc_is_rule (fun vs H Q E h => ?_) (fun cdv A outer s H vs Q E hr h => ?_)
  · obtain ⟨m, v, r, rfl, _⟩ := h
    rfl
  · obtain ⟨m, v, r, rfl, hv, wf, hl, q⟩ := h
    obtain ⟨a, xs, rfl, ha, xl, px⟩ := pieces hv wf hl
    obtain ⟨t, dk, sq⟩ := parts_at T r
    refine ⟨_, (pss_cons (ps_if (PW.pt (pw_or (pt_not (pt_val (pe_callB call_isi (by rfl) T.m_isinstance (by decide +kernel) (pa_cons (pv 1) (pa_cons (pe_bltn (v := .ty "tuple") (by rfl) T.m_tuple (by decide +kernel) rfl) pa_nil))))) (pw_or1 (pt_not (pt_truth (pv 1) (by intro _; rfl))))))
        (pss_one (ps_ret pe_bl))
        pss_nil)
      (pss_cons (ps_if (PW.pt (pw_or (pt_not (pt_val (pe_callB call_isi (by rfl) T.m_isinstance (by decide +kernel) (pa_cons (pe_ix ix_tup (pv 1) pe_int (fun _ _ => rfl)) (pa_cons (pe_bltn (v := .ty "str") (by rfl) T.m_str (by decide +kernel) rfl) pa_nil))))) (pw_or1 (pt_cmpR (op_notIn_kd T.kd_PARTS) (pe_ix ix_tup (pv 1) pe_int (fun _ _ => rfl)) (pe_glob (v := .ref T.D_PARTS) (by rfl) T.g_PARTS rfl) (by rfl)))))
        (pss_one (ps_ret pe_bl))
        pss_nil)
      (pss_cons (ps_set (i := 2) sc_is_rule.nd rfl (.inl rfl) (pe_ix ix_kdict (pe_glob (v := .ref T.D_PARTS) (by rfl) T.g_PARTS rfl) (pe_ix ix_tup (pv 1) pe_int (fun _ _ => rfl)) (fun _ _ => rfl)))
      (pss_cons (ps_if (pt_cmpR op_ne (pe_callB call_len_seq (by rfl) T.m_len (by decide +kernel) (pa_cons (pv 1) pa_nil)) (pe_op op_add (pe_callB call_len_seq (by rfl) T.m_len (by decide +kernel) (pa_cons (pv 2) pa_nil)) pe_int) (nomark _))
        (pss_one (ps_ret pe_bl))
        pss_nil)
      (pss_one (ps_ret (pe_callB (cr_all rfl) (by rfl) T.m_all (by decide +kernel) (pa_cons (pe_lc (own := [("part", 3), ("piece", 4)]) (g := gTup K 2 (gCons (gName 3) (gCons (gName 4) gNil))) (by rfl) sc_is_rule.nd (RZ.pi_zipA (by rfl) T.m_zip (pa_cons (pv 2) (pa_cons (pe_slice sl_tupA (pv 1) (po_some pe_int) po_none) pa_nil))) (blkOk_by (own := [("part", 3), ("piece", 4)]) (N := n_is_rule) (sc := defScope s_is_rule) (by decide +kernel)) (fun _ _ _ _ _ => (pg_tup rfl (pgs_cons (pg_name (i := 3) sc_is_rule.nd rfl (.inl rfl) (.inr rfl)) (pgs_cons (pg_name (i := 4) sc_is_rule.nd rfl (.inl rfl) (.inr rfl)) pgs_nil)))) (fun _ _ _ _ _ => pts_nil) (fun _ _ _ _ _ => (pe_call G_is_part (hr.mono (by decide)) (by rfl) T.g_is_part T.F_is_part.kp T.b_is_part .nil pass0 (pa_cons (pv 0) (pa_cons (pv 3) (pa_cons (pv 4) pa_nil)))))) pa_nil)))))))), ?_⟩
    have i0 : atI (V.str (wordOf r) :: xs) 0 = some (.str (wordOf r)) := atI_nat (j := 0) rfl
    refine rd_isi (x := .ref a) (T := "tuple") rfl (.base (.tup ha)) (by decide +kernel : kitB "tuple" "tuple" = some true) ⟨_, rfl, iteN rfl ?_⟩
    refine ⟨.ref a, rfl, true, .inr (.inl ⟨_, .inl (.inl ha), rfl⟩), iteN rfl ?_⟩
    refine ⟨.ref a, rfl, a, _, 0, _, rfl, rfl, .inl (.inl ha), i0, _, _, .type "str", .type "str", true, rfl, .ty "str", .base (.str _), kit_ty (by decide +kernel), _, rfl, iteN rfl ?_⟩
    refine ⟨.ref a, rfl, a, _, 0, _, rfl, rfl, .inl (.inl ha), i0, _, _, rfl, rfl, dk, _, rfl, iteN rfl ?_⟩
    refine ⟨.ref a, rfl, a, _, 0, _, rfl, rfl, .inl (.inl ha), i0, T.D_PARTS, _, .ref t, rfl, rfl, ⟨T.es_PARTS, T.en_PARTS, _, T.kd_PARTS.at_, T.kd_PARTS.lit, dk, rfl⟩, ?_⟩
    refine ⟨.ref a, rfl, a, _, rfl, .inr (.inl (.inl ha)), .ref t, rfl, t, _, rfl, .inr (sq H), _, 1, rfl, rfl, rfl, _, rfl, iteN ?_ ?_⟩
    · rw [List.length_cons, List.length_map, xl]
      rw [decide_eq_true (by rfl)]
      rfl
    refine ⟨.ref t, rfl, .ref a, rfl, 1, rfl, a, _, rfl, .inl (.inl ha), fun wh => ?_, fun _ c nc => ?_⟩
    · exfalso
      have := wh.1
      rw [show HT.sIx (V.str (wordOf r) :: xs).length 0 (some 1) = min 1 (V.str (wordOf r) :: xs).length from HT.sIx_nat _ 0 1, List.length_cons] at this
      omega
    rw [cutV1]
    have s1 := same_upd (o := .tup ((V.str (wordOf r) :: xs).drop 1)) nc
    refine ⟨t, c, _, _, rfl, .inr ⟨sq _, .inl (.inl upd_same), fun D hD => ?_⟩⟩
    refine lc_true (walk_zipM (K := K) (a := t) (b := c) (xs := (partsOf r).map V.str) (ys := (V.str (wordOf r) :: xs).drop 1) (n := (partsOf r).length) (by rw [List.length_map, List.length_drop, List.length_cons, xl]; omega)) hD (parts_len r) (fun H3 s3 => ⟨sq _, .inl (.inl (s3 _ _ upd_same))⟩) ?_ (fun H3 s3 h3 => all_true h3 (q _ (s1.trans s3)))
    rintro i x H3 H4 hi s3 ⟨u, x1, x2, rfl, nu, rfl, e1, e2⟩ Q' Z hQ
    have e1' : ((partsOf r).map V.str)[i]? = some x1 := e1
    have e2' : xs[i]? = some x2 := e2
    rw [List.getElem?_map, List.getElem?_eq_getElem hi] at e1'
    cases e1'
    have sT := same_upd (o := .tup [V.str (partsOf r)[i], x2]) nu
    refine ⟨u, _, rfl, .inl (.inl upd_same), rfl, _, _, rfl, _, _, rfl, rfl, rfl, yes (iteT ⟨.int m, rfl, .str (partsOf r)[i], rfl, x2, rfl, m, _, x2, rfl, (px i _ x2 (List.getElem?_eq_getElem hi) e2').same (s1.trans (s3.trans sT)), fun H5 s5 => hQ _ (sT.trans s5)⟩)⟩
/-! ### halls -/
theorem run_len {X : Cx} {k : Nat} {f C : Addr} {fd : FuncData} {ps : List Str} {sp : Sp} (me : Meth X.K C "__len__" f) (F : FnOk X.prog X.w X.K X.mg X.base CX0 k f fd ps sp) (hb : Binds X.K fd ps []) (hr : Room (k + 1) X.A) :
    CallR X (.builtin "len") (fun xs H Q => ∃ (x dx : Addr) (fs : List (Str × V)), xs = [.ref x] ∧ H x = some (.ins C dx fs) ∧ sp [.ref x] H (fun v H' => ∃ n : Int, v = .int n ∧ 0 ≤ n ∧ n < 2 ^ 63 ∧ Q (.int n) H') E0) := by
  intro pins s σ H xs us Q I r h
  obtain ⟨x, dx, fs, rfl, hx, h⟩ := h
  rw [Vals.ref1 r]
  obtain ⟨m, fr⟩ := I.fr
  obtain ⟨mA, O, _⟩ := ins_get I.hok hx
  obtain ⟨od, J, _⟩ := O.look
  refine PySem.W.len_K fr I.mod.kin J me.at_ me.fn ?_
  have e0 := I.env0
  have e1 : Env0 X.prog X.w X.K X.mg X.base X.A.in1 X.stack s H := ⟨e0.frames, e0.mod, e0.bs, e0.bsz, e0.funs, e0.frf, e0.hok, e0.bare⟩
  have hl : ([Value.ref x] ++ []).length = ps.length := by rw [← F.len _ _ _ _ h]; rfl
  have bb := hb s [.ref x] I.kIn hl
  rw [List.append_nil] at bb
  have vv : Vals [V.ref x] [Value.ref x] := .cons rfl .nil
  have run := F.run X.A.in1 X.stack s H ⟨[.ref x], []⟩ [.ref x] [.ref x] _ E0 hr.in1 e1 bb vv h
  refine wpAny_call (codeAny_mono run ?_)
  rintro (e | fl) t ht
  · exact False.elim ht
  cases fl with
  | next => exact False.elim ht
  | brk => exact False.elim ht
  | cont => exact False.elim ht
  | ret u =>
    obtain ⟨v, H', J2, rv, n, rfl, n0, n1, q⟩ := I.after ht
    obtain ⟨tk, rfl⟩ := rv
    exact ⟨⟨n0, n1⟩, .int n, H', J2.tok _, ⟨_, rfl⟩, q⟩
def RulesAt (H : Hp) : List V → List Rule → Prop := Paired (RuleAt H)
theorem RulesAt.keep {H H' : Hp} (k : Keep H H') : ∀ {vs : List V} {rs : List Rule}, RulesAt H vs rs → RulesAt H' vs rs
  | _, _, .nil => .nil
  | _, _, .cons h r => .cons (h.keep k) (RulesAt.keep k r)
theorem RulesAt.get {H : Hp} : ∀ {vs : List V} {rs : List Rule}, RulesAt H vs rs → ∀ (i : Nat) (h : i < rs.length), ∃ v, vs[i]? = some v ∧ RuleAt H v rs[i]
  | _, _, .nil, i, h => absurd h (by simp)
  | _, _, .cons r t, 0, h => ⟨_, rfl, r⟩
  | _, _, .cons r t, i + 1, h => by
    obtain ⟨v, h1, h2⟩ := RulesAt.get t i (by simpa using h)
    exact ⟨v, by simpa using h1, by simpa using h2⟩
def Halls (rs : List Rule) : Prop := 1 ≤ rs.length ∧ rs.length ≤ 60 ∧ ∀ r ∈ rs, r.Wf rs.length
theorem wf_len {m : Int} {r : Rule} (h : r.Wf m) (hm : m ≤ 1000) (m0 : 0 ≤ m) : r.persons.length ≤ 1000 ∧ (r.persons.length : Int) ≤ m := by
  have key : ∀ ns : List Int, Rising m ns → (ns.length : Int) ≤ m := fun ns rs => by
    have h1 := nodup_len ns ((List.range m.toNat).map fun k : Nat => (k : Int)) rs.nodup (fun x hx => by
      have := rs.2 x hx
      rw [List.mem_map]
      exact ⟨x.toNat, List.mem_range.mpr (by omega), by omega⟩)
    rw [List.length_map, List.length_range] at h1
    omega
  have : (r.persons.length : Int) ≤ m := by
    cases r with
    | held n => show ((0 : Nat) : Int) ≤ m; omega
    | sum own ties => exact key _ h.2.1
    | cap own ties most => exact key _ h.2.1
    | kinds own seen => exact key _ h.2
    | next seen => exact key _ h
    | free seen => exact key _ h
  exact ⟨by omega, this⟩
/-- the hall at x, of these rules -/
def HallAt (C : Addr) (H : Hp) (x : Addr) (rs : List Rule) : Prop := ∃ (dx t : Addr) (vs : List V), H x = some (.ins C dx [("kept", .ref t)]) ∧ TupAt H t vs ∧ RulesAt H vs rs
def spInit (C : Addr) : Sp := fun vs H Q _ => ∃ (x dx l : Addr) (us : List V) (rs : List Rule), vs = [.ref x, .ref l] ∧ H x = some (.ins C dx []) ∧ H l = some (.lst us) ∧ RulesAt H us rs ∧ Halls rs ∧
  ∀ H', (∀ b o, b ≠ x → H b = some o → H' b = some o) → HallAt C H' x rs → Q .non H'
set_option maxHeartbeats 2000000 in
theorem ok_Hall_init (T : Txt K mg w) : FnOk P w K mg base CX0 7 T.f_Hall_init T.fd_Hall_init p_Hall_init (spInit T.C_Hall) := by
  have G_is_rule := ok_is_rule (P := P) (w := w) (base := base) T
  refine T.F_Hall_init.ok sc_Hall_init (fun vs H Q E h => ?_) (fun cdv A outer s H vs Q E hr h => ?_)
  · obtain ⟨x, dx, l, us, rs, rfl, _⟩ := h
    rfl
  · obtain ⟨x, dx, l, us, rs, rfl, hx, hl, ra, ⟨r0, r1, wf⟩, q⟩ := h
    have lu : us.length = rs.length := ra.length
    refine ⟨_, (pss_cons (ps_for PassesOwn.never rfl (pi_enum (by rfl) T.m_enumerate (pa_cons (pv 1) pa_nil)) (pg_tup rfl (pgs_cons (pg_name (i := 2) sc_Hall_init.nd rfl (.inl rfl)) (pgs_cons (pg_name (i := 3) sc_Hall_init.nd rfl (.inl rfl)) pgs_nil)))
        (pss_one (ps_if (pt_not (pt_val (pe_call G_is_rule (hr.mono (by decide)) (by rfl) T.g_is_rule T.F_is_rule.kp T.b_is_rule .nil pass0 (pa_cons (pe_callB call_len_seq (by rfl) T.m_len (by decide +kernel) (pa_cons (pv 1) pa_nil)) (pa_cons (pv 3) pa_nil)))))
          (pss_one ps_never)
          pss_nil)))
      (pss_one (ps_fld (pv 0) (pe_callTy call_tupleF (by rfl) T.m_tuple (by decide +kernel) (pa_cons (pv 1) pa_nil)) rfl))), ?_⟩
    refine ⟨.ref l, rfl, l, _, rfl, .inl (.inl hl), ?_⟩
    refine for_it (walk_enum (xs := us)) (fun i σ H3 => ∃ y2 y3 : Option V, σ = [some (.ref x), some (.ref l), y2, y3] ∧ Same H H3) ⟨none, none, rfl, Same.refl H⟩ ?_ ?_ ?_
    · rintro i σ H3 _ ⟨y2, y3, rfl, s3⟩
      exact .inl (.inl (s3 _ _ hl))
    · rintro i y σ H3 H4 hi ⟨y2, y3, rfl, s3⟩ ⟨t, x1, x2, rfl, nt, rfl, e1, e2⟩
      obtain ⟨v, hv, rv⟩ := ra.get i (by omega)
      have ex : x2 = v := Option.some.inj (e2.symm.trans hv)
      subst ex
      have sT := s3.trans (same_upd (o := .tup [x1, x2]) nt)
      have wfi := wf _ (List.getElem_mem (by omega : i < rs.length))
      refine ⟨t, _, rfl, .inl (.inl upd_same), rfl, _, _, rfl, _, _, rfl, rfl, ?_⟩
      refine ⟨.ref l, rfl, l, _, rfl, .inl (.inl (.inl (sT _ _ hl))), x2, rfl, (us.length : Int), x2, rs[i], rfl, rv.keep (Keep.same sT), by rw [lu]; exact wfi, (wf_len wfi (by omega) (by omega)).1, fun H5 s5 => ⟨_, rfl, iteN rfl ?_⟩⟩
      exact ⟨_, _, rfl, sT.trans s5⟩
    · rintro σ H3 ⟨y2, y3, rfl, s3⟩
      refine ⟨.ref l, rfl, l, _, rfl, .inl (.inl (s3 _ _ hl)), fun t o nt od => ?_⟩
      have s4 := s3.trans (same_upd (o := .frz o (.tup us)) nt)
      have nxt : x ≠ t := ne_of_none (s3 _ _ hx) nt
      refine ⟨.ref x, rfl, x, T.C_Hall, dx, [], rfl, s4 _ _ hx, T.cl_Hall, T.na_Hall_kept, by show 0 < 1000; decide, ?_⟩
      have kT : Keep (upd H3 t (.frz o (.tup us))) (upd (upd H3 t (.frz o (.tup us))) x (.ins T.C_Hall dx (putF "kept" (.ref t) []))) := by
        refine ⟨fun a xs h => ?_, fun a o u h => ?_⟩
        · rw [upd_ne (ne_of h (s4 _ _ hx) (by intro z; cases z))]; exact h
        · rw [upd_ne (ne_of h (s4 _ _ hx) (by intro z; cases z))]; exact h
      refine q _ (fun b ob nb hb => ?_) ⟨dx, t, us, upd_same, .inr ⟨o, od, kT.frz _ _ _ upd_same⟩, (ra.keep (Keep.same s4)).keep kT⟩
      rw [upd_ne nb]
      exact s4 _ _ hb
end
end Lh

namespace Lh
open PySem PySem.Spec PyProof.Rows L2
theorem kept_yes (v : V) : ([("kept", v)] : List (Str × V)).lookup ("kept" : Str) = some v := by
  rw [List.lookup_cons, show (("kept" : Str) == "kept") = true from beq_self_eq_true _]
theorem kept_no (v : V) {m : Str} (h : ¬ m = "kept") : ([("kept", v)] : List (Str × V)).lookup (m : Str) = none := by
  rw [List.lookup_cons, show (m == ("kept" : Str)) = false from beq_eq_false_iff_ne.mpr h]
  rfl
theorem HallAt.keep {C : Addr} {H H' : Hp} {x : Addr} {rs : List Rule} (s : Same H H') (h : HallAt C H x rs) : HallAt C H' x rs := by
  obtain ⟨dx, t, vs, h1, h2, h3⟩ := h
  exact ⟨dx, t, vs, s _ _ h1, h2.keep (Keep.same s), h3.keep (Keep.same s)⟩
theorem HallAt.ext {C bx : Addr} {c : Int} {H H' : Hp} {x : Addr} {rs : List Rule} (e : Ext bx H H') (b : Box bx c H) (h : HallAt C H x rs) : HallAt C H' x rs := by
  obtain ⟨dx, t, vs, h1, h2, h3⟩ := h
  have nb : x ≠ bx := by
    obtain ⟨_, _, _, hb, _⟩ := b
    exact ne_of h1 hb (by intro z; cases z)
  exact ⟨dx, t, vs, e _ _ nb h1, h2.keep (Keep.ext e b), h3.keep (Keep.ext e b)⟩
/-! ### standings -/
def nth (ns : List Int) (p : Int) : Int := ns.getD p.toNat 0
theorem nth_get {ns : List Int} {p : Int} (h0 : 0 ≤ p) (h1 : p < ns.length) : (ns.map V.int)[p.toNat]? = some (.int (nth ns p)) := by
  have hp : p.toNat < ns.length := by omega
  rw [List.getElem?_map, List.getElem?_eq_getElem hp]
  unfold nth
  rw [List.getD_eq_getElem?_getD, List.getElem?_eq_getElem hp]
  rfl
theorem nth_at {ns : List Int} {p : Int} (h0 : 0 ≤ p) (h1 : p < ns.length) : atI (ns.map V.int) p = some (.int (nth ns p)) := at_of (by omega) (nth_get h0 h1)
/-- the lot of those a rule sees who show less -/
def lotI (r : Rule) (ns : List Int) (p : Int) : List (Int × Int) := (r.persons.filter fun o => decide (nth ns o < nth ns p)).map fun o => (o, nth ns o)
def lotH (r : Rule) (ns : List Int) (h : Int) : List (Int × Int) := (r.persons.filter fun o => decide (nth ns o < h)).map fun o => (o, nth ns o)
theorem lotH_in {r : Rule} {ns : List Int} {h : Int} : ∀ q ∈ lotH r ns h, q.1 ∈ r.persons := fun q hq => by
  obtain ⟨o, ho, rfl⟩ := List.mem_map.mp hq
  exact (List.mem_filter.mp ho).1
theorem lotI_in {r : Rule} {ns : List Int} {p : Int} : ∀ q ∈ lotI r ns p, q.1 ∈ r.persons := fun q hq => by
  obtain ⟨o, ho, rfl⟩ := List.mem_map.mp hq
  exact (List.mem_filter.mp ho).1
/-- the turns of some, had at once -/
def Turned (rs : List Rule) (ns : List Int) (some_ : Int → Prop) (ms : List Int) : Prop := ms.length = ns.length ∧ ∀ (i : Nat) (h : i < rs.length), (some_ i → Tell rs[i] (lotI rs[i] ns i) (nth ms i)) ∧ (¬ some_ i → nth ms i = nth ns i)
theorem nth_ext {ns ms : List Int} (hl : ns.length = ms.length) (h : ∀ i : Nat, i < ns.length → nth ns i = nth ms i) : ns = ms := by
  apply List.ext_getElem hl
  intro i h1 h2
  have := h i h1
  unfold nth at this
  rw [List.getD_eq_getElem?_getD, List.getD_eq_getElem?_getD, Int.toNat_natCast, List.getElem?_eq_getElem h1, List.getElem?_eq_getElem h2] at this
  exact this
theorem Turned.unique {rs : List Rule} {ns ms ks : List Int} {p q : Int → Prop} (hn : ns.length = rs.length) (pq : ∀ i : Nat, i < rs.length → (p i ↔ q i)) (a : Turned rs ns p ms) (b : Turned rs ns q ks) : ms = ks := by
  refine nth_ext (a.1.trans b.1.symm) fun i hi => ?_
  have h : i < rs.length := by rw [← hn, ← a.1]; exact hi
  have ha := a.2 i h
  have hb := b.2 i h
  by_cases c : p i
  · exact (ha.1 c).unique (hb.1 ((pq i h).mp c))
  · rw [ha.2 c, hb.2 fun z => c ((pq i h).mpr z)]
abbrev Beat (rs : List Rule) (ns ms : List Int) : Prop := Turned rs ns (fun _ => True) ms
section
variable {P : Program} {w : World} {K : PySem.W.Frag} {mg : Str → Option Value} {base : Heap}
def spMust (C : Addr) : Sp := fun vs H Q _ => ∃ (x : Addr) (p : Int) (rs : List Rule), vs = [.ref x, .int p] ∧ HallAt C H x rs ∧ 0 ≤ p ∧ p < rs.length ∧ Q .non H
theorem ok_Hall_must_have (T : Txt K mg w) : FnOk P w K mg base CX0 1 T.f_Hall_must_have T.fd_Hall_must_have p_Hall_must_have (spMust T.C_Hall) := by
  refine T.F_Hall_must_have.ok sc_Hall_must_have (fun vs H Q E h => ?_) (fun cdv A outer s H vs Q E hr h => ?_)
  · obtain ⟨x, p, rs, rfl, _⟩ := h
    rfl
  · obtain ⟨x, p, rs, rfl, ⟨dx, t, vs, hx, ht, hv⟩, p0, p1, q⟩ := h
    have lv : vs.length = rs.length := hv.length
    refine ⟨_, (pss_one (ps_if (pt_not (pt_chain op_le op_lt pe_int (pv 1) (pe_callB call_len_seq (by rfl) T.m_len (by decide +kernel) (pa_cons (pe_fld (pv 0) rfl) pa_nil))))
        (pss_one ps_never)
        pss_nil)), ?_⟩
    exact ⟨.int p, rfl, 0, p, rfl, rfl, _, rfl, iteP (decide_eq_true p0) ⟨.ref x, rfl, x, T.C_Hall, dx, _, _, rfl, hx, T.cl_Hall, T.na_Hall_kept, kept_yes _, t, _, rfl, .inr ht.sq, p, _, rfl, rfl, _, rfl, iteN (by rw [decide_eq_true (by rw [lv]; exact p1)]; rfl) q⟩⟩
def spRuleM (C : Addr) : Sp := fun vs H Q _ => ∃ (x : Addr) (p : Nat) (rs : List Rule) (h : p < rs.length), vs = [.ref x, .int p] ∧ HallAt C H x rs ∧ ∀ v, RuleAt H v rs[p] → Q v H
theorem ok_Hall_rule (T : Txt K mg w) : FnOk P w K mg base CX0 2 T.f_Hall_rule T.fd_Hall_rule p_Hall_rule (spRuleM T.C_Hall) := by
  have G_Hall_must_have := ok_Hall_must_have (P := P) (w := w) (base := base) T
  refine T.F_Hall_rule.ok sc_Hall_rule (fun vs H Q E h => ?_) (fun cdv A outer s H vs Q E hr h => ?_)
  · obtain ⟨x, p, rs, hp, rfl, _⟩ := h
    rfl
  · obtain ⟨x, p, rs, hp, rfl, hA, q⟩ := h
    obtain ⟨dx, t, vs, hx, ht, hv⟩ := id hA
    refine ⟨_, (pss_cons (ps_expr (pe_meth (pv 0) T.cl_Hall T.me_Hall_must_have G_Hall_must_have (hr.mono (by decide)) T.b_Hall_must_have .nil pass0 (pa_cons (pv 1) pa_nil)))
      (pss_one (ps_ret (pe_ix ix_tup (pe_fld (pv 0) rfl) (pv 1) (fun _ _ => rfl))))), ?_⟩
    refine ⟨.ref x, rfl, x, dx, _, rfl, hx, kept_no _ (by decide +kernel), .int p, rfl, x, p, rs, rfl, hA, by omega, by omega, ?_⟩
    obtain ⟨v, hv1, hv2⟩ := hv.get p hp
    exact ⟨.ref x, rfl, x, T.C_Hall, dx, _, _, rfl, hx, T.cl_Hall, T.na_Hall_kept, kept_yes _, .int p, rfl, t, _, _, v, rfl, rfl, ht.sq, atI_nat hv1, q v hv2⟩
def spSees (C : Addr) : Sp := fun vs H Q _ => ∃ (x : Addr) (p : Nat) (rs : List Rule) (h : p < rs.length), vs = [.ref x, .int p] ∧ HallAt C H x rs ∧ Halls rs ∧ ∀ (l : Addr) (H' : Hp), Same H H' → H l = none → H' l = some (.lst (rs[p].persons.map V.int)) → Q (.ref l) H'
theorem Halls.few {rs : List Rule} (h : Halls rs) {p : Nat} (hp : p < rs.length) : rs[p].persons.length ≤ 60 := by
  have h1 := h.2.1
  have := (wf_len (h.2.2 _ (List.getElem_mem hp)) (by omega) (by omega)).2
  omega
theorem ok_Hall_sees (T : Txt K mg w) : FnOk P w K mg base CX0 3 T.f_Hall_sees T.fd_Hall_sees p_Hall_sees (spSees T.C_Hall) := by
  have G_Hall_rule := ok_Hall_rule (P := P) (w := w) (base := base) T
  have G_seen_by := ok_seen_by (P := P) (w := w) (base := base) T
  refine T.F_Hall_sees.ok sc_Hall_sees (fun vs H Q E h => ?_) (fun cdv A outer s H vs Q E hr h => ?_)
  · obtain ⟨x, p, rs, hp, rfl, _⟩ := h
    rfl
  · obtain ⟨x, p, rs, hp, rfl, hA, hh, q⟩ := h
    obtain ⟨dx, t, vs, hx, ht, hv⟩ := id hA
    have few := hh.few hp
    refine ⟨_, (pss_one (ps_ret (pe_call G_seen_by (hr.mono (by decide)) (by rfl) T.g_seen_by T.F_seen_by.kp T.b_seen_by .nil pass0 (pa_cons (pe_meth (pv 0) T.cl_Hall T.me_Hall_rule G_Hall_rule (hr.mono (by decide)) T.b_Hall_rule .nil pass0 (pa_cons (pv 1) pa_nil)) pa_nil)))), ?_⟩
    refine ⟨.ref x, rfl, x, dx, _, rfl, hx, kept_no _ (by decide +kernel), .int p, rfl, x, p, rs, hp, rfl, hA, fun v rv => ?_⟩
    exact ⟨v, rs[p], rfl, rv, by omega, fun l H' s' nl hl => q l H' s' nl hl⟩
def spLen (C : Addr) : Sp := fun vs H Q _ => ∃ (x : Addr) (rs : List Rule), vs = [.ref x] ∧ HallAt C H x rs ∧ Q (.int rs.length) H
theorem ok_Hall_len (T : Txt K mg w) : FnOk P w K mg base CX0 1 T.f_Hall_len T.fd_Hall_len p_Hall_len (spLen T.C_Hall) := by
  refine T.F_Hall_len.ok sc_Hall_len (fun vs H Q E h => ?_) (fun cdv A outer s H vs Q E hr h => ?_)
  · obtain ⟨x, rs, rfl, _⟩ := h
    rfl
  · obtain ⟨x, rs, rfl, ⟨dx, t, vs, hx, ht, hv⟩, q⟩ := h
    refine ⟨_, (pss_one (ps_ret (pe_callB call_len_seq (by rfl) T.m_len (by decide +kernel) (pa_cons (pe_fld (pv 0) rfl) pa_nil)))), ?_⟩
    refine ⟨.ref x, rfl, x, T.C_Hall, dx, _, _, rfl, hx, T.cl_Hall, T.na_Hall_kept, kept_yes _, t, _, rfl, .inr ht.sq, ?_⟩
    rw [hv.length]
    exact q
theorem per_in {rs : List Rule} (hh : Halls rs) {p : Nat} (hp : p < rs.length) : ∀ o ∈ rs[p].persons, 0 ≤ o ∧ o < rs.length := by
  intro o ho
  have wf := hh.2.2 _ (List.getElem_mem hp)
  generalize rs[p] = r at ho wf
  cases r with
  | held n => exact absurd ho (by simp [Rule.persons])
  | sum own ties => exact wf.2.1.2 o ho
  | cap own ties most => exact wf.2.1.2 o ho
  | kinds own seen => exact wf.2.2 o ho
  | next seen => exact wf.2 o ho
  | free seen => exact wf.2 o ho
end
end Lh

namespace Lh
open PySem PySem.Spec PyProof.Rows L2
theorem rg_ints (n : Int) : rgV 0 n = ((List.range n.toNat).map fun k : Nat => (k : Int)).map V.int := by
  unfold rgV
  rw [List.map_map, Int.sub_zero]
  exact List.map_congr_left fun k _ => by show V.int (0 + (k : Int)) = V.int k; rw [Int.zero_add]
theorem rg_rising (n : Int) (h : 0 ≤ n) : Rising n ((List.range n.toNat).map fun k : Nat => (k : Int)) := by
  refine ⟨List.Pairwise.map _ (fun a b z => by omega) List.pairwise_lt_range, fun x hx => ?_⟩
  obtain ⟨k, hk, rfl⟩ := List.mem_map.mp hx
  have := List.mem_range.mp hk
  omega
theorem at_end {us : List V} {t : V} (h : us[us.length - 1]? = some t) : atI us (-1) = some t := by
  rw [← List.getLast?_eq_getElem?] at h
  obtain ⟨ys, rfl⟩ := List.getLast?_eq_some_iff.mp h
  exact atI_last ys t
theorem ixN_at {n j : Nat} (h : j < n) : ixN n (j : Int) = some j := by
  unfold ixN
  rw [if_pos (by omega), if_pos (by omega), Int.toNat_natCast]
theorem nth_set {ms : List Int} {j : Nat} {y : Int} (hj : j < ms.length) (i : Nat) : nth (ms.set j y) i = if i = j then y else nth ms i := by
  unfold nth
  rw [Int.toNat_natCast, List.getD_eq_getElem?_getD, List.getD_eq_getElem?_getD, List.getElem?_set]
  by_cases c : j = i
  · subst c
    rw [if_pos rfl, if_pos rfl, if_pos hj]
    rfl
  · rw [if_neg c, if_neg fun z => c z.symm]
theorem Turned.step {rs : List Rule} {ns ms : List Int} {S S' : Int → Prop} {p : Nat} {y : Int} (hn : ns.length = rs.length) (hp : p < rs.length) (t : Turned rs ns S ms) (ty : Tell rs[p] (lotI rs[p] ns p) y) (hS : ∀ i : Nat, S' i ↔ S i ∨ i = p) : Turned rs ns S' (ms.set p y) := by
  refine ⟨by rw [List.length_set]; exact t.1, fun i hi => ?_⟩
  have hpm : p < ms.length := by rw [t.1]; omega
  rw [nth_set hpm]
  by_cases c : i = p
  · subst c
    rw [if_pos rfl]
    exact ⟨fun _ => ty, fun z => absurd ((hS i).mpr (.inr rfl)) z⟩
  · rw [if_neg c]
    refine ⟨fun z => (t.2 i hi).1 ?_, fun z => (t.2 i hi).2 fun z' => z ((hS i).mpr (.inl z'))⟩
    rcases (hS i).mp z with h | h
    · exact h
    · exact absurd h c
theorem Turned.none {rs : List Rule} {ns : List Int} {S : Int → Prop} (hS : ∀ i, ¬ S i) : Turned rs ns S ns := ⟨rfl, fun i _ => ⟨fun z => absurd z (hS _), fun _ => rfl⟩⟩
/-- the standings behind 0, 1, .. beats -/
def Way (rs : List Rule) (ns : List Int) (nss : List (List Int)) : Prop := nss[0]? = some ns ∧ (∀ ms ∈ nss, ms.length = rs.length) ∧ ∀ (i : Nat) (a b : List Int), nss[i]? = some a → nss[i + 1]? = some b → Beat rs a b
theorem Beat.unique {rs : List Rule} {ns ms ks : List Int} (hn : ns.length = rs.length) (a : Beat rs ns ms) (b : Beat rs ns ks) : ms = ks := Turned.unique hn (fun _ _ => Iff.rfl) a b
theorem Way.unique {rs : List Rule} {ns : List Int} {nss mss : List (List Int)} (a : Way rs ns nss) (b : Way rs ns mss) (hl : nss.length = mss.length) : nss = mss := by
  refine List.ext_getElem? fun i => ?_
  induction i with
  | zero => rw [a.1, b.1]
  | succ i ih =>
    by_cases c : i + 1 < nss.length
    · have c' : i + 1 < mss.length := by omega
      have h1 := List.getElem?_eq_getElem (l := nss) (show i < nss.length by omega)
      have h2 := List.getElem?_eq_getElem c
      have h4 := List.getElem?_eq_getElem c'
      rw [h2, h4]
      have h3 := ih.symm.trans h1
      have x := a.2.2 i _ _ h1 h2
      have y := b.2.2 i _ _ h3 h4
      rw [Beat.unique (a.2.1 _ (List.getElem_mem _)) x y]
    · rw [List.getElem?_eq_none (by omega), List.getElem?_eq_none (by omega)]
theorem Way.one {rs : List Rule} {ns : List Int} (h : ns.length = rs.length) : Way rs ns [ns] := by
  refine ⟨rfl, fun ms hm => ?_, fun i a b h1 h2 => ?_⟩
  · rw [List.mem_singleton.mp hm]; exact h
  · rw [List.getElem?_eq_none (by show 1 ≤ i + 1; omega)] at h2
    cases h2
theorem Way.snoc {rs : List Rule} {ns a b : List Int} {nss : List (List Int)} (h : Way rs ns nss) (ha : nss.getLast? = some a) (hb : Beat rs a b) : Way rs ns (nss ++ [b]) := by
  have hl : a ∈ nss := List.mem_of_getLast? ha
  have h0 : 0 < nss.length := List.length_pos_of_mem hl
  refine ⟨?_, fun ms hm => ?_, fun i x y h1 h2 => ?_⟩
  · rw [List.getElem?_append_left h0]; exact h.1
  · rcases List.mem_append.mp hm with z | z
    · exact h.2.1 _ z
    · rw [List.mem_singleton.mp z, hb.1]; exact h.2.1 _ hl
  · by_cases c : i + 1 < nss.length
    · rw [List.getElem?_append_left (by omega)] at h1
      rw [List.getElem?_append_left c] at h2
      exact h.2.2 i x y h1 h2
    · have c2 : i + 1 < (nss ++ [b]).length := by
        by_cases z : i + 1 < (nss ++ [b]).length
        · exact z
        · rw [List.getElem?_eq_none (by omega)] at h2; cases h2
      rw [List.length_append] at c2
      have c3 : i + 1 = nss.length := by have : i + 1 < nss.length + 1 := c2; omega
      rw [c3, List.getElem?_append_right (Nat.le_refl _), Nat.sub_self] at h2
      rw [List.getElem?_append_left (by omega)] at h1
      rw [List.getLast?_eq_getElem?, show nss.length - 1 = i by omega, h1] at ha
      cases ha; cases h2
      exact hb
theorem Way.drop {rs : List Rule} {ns a : List Int} {nss : List (List Int)} {k : Nat} (h : Way rs ns nss) (ha : nss[k]? = some a) : Way rs a (nss.drop k) := by
  refine ⟨by rw [List.getElem?_drop]; exact ha, fun ms hm => h.2.1 _ (List.mem_of_mem_drop hm), fun i x y h1 h2 => ?_⟩
  rw [List.getElem?_drop] at h1 h2
  exact h.2.2 (k + i) x y h1 h2
theorem Way.take {rs : List Rule} {ns : List Int} {nss : List (List Int)} {k : Nat} (h : Way rs ns nss) : Way rs ns (nss.take (k + 1)) := by
  refine ⟨by rw [List.getElem?_take_of_lt (by omega)]; exact h.1, fun ms hm => h.2.1 _ (List.mem_of_mem_take hm), fun i x y h1 h2 => ?_⟩
  by_cases c : i + 1 < k + 1
  · rw [List.getElem?_take_of_lt (by omega)] at h1
    rw [List.getElem?_take_of_lt c] at h2
    exact h.2.2 i x y h1 h2
  · rw [List.getElem?_eq_none (by rw [List.length_take]; omega)] at h2
    cases h2
/-- tuples of numbers, in a list -/
def StandAt (H : Hp) (v : V) (ms : List Int) : Prop := ∃ t, v = .ref t ∧ TupAt H t (ms.map V.int)
def StandsAt (H : Hp) : List V → List (List Int) → Prop := Paired (StandAt H)
theorem StandsAt.keep {H H' : Hp} (k : Keep H H') : ∀ {vs : List V} {nss : List (List Int)}, StandsAt H vs nss → StandsAt H' vs nss
  | _, _, .nil => .nil
  | _, _, .cons ⟨t, e, h⟩ r => .cons ⟨t, e, h.keep k⟩ (StandsAt.keep k r)
theorem StandsAt.get {H : Hp} : ∀ {vs : List V} {nss : List (List Int)}, StandsAt H vs nss → ∀ (i : Nat) (a : List Int), nss[i]? = some a → ∃ t, vs[i]? = some (.ref t) ∧ TupAt H t (a.map V.int)
  | _, _, .nil, i, a, h => by cases h
  | _, _, .cons ⟨t, e, h⟩ r, 0, a, z => by cases z; exact ⟨t, by rw [e]; rfl, h⟩
  | _, _, .cons _ r, i + 1, a, z => StandsAt.get r i a z
end Lh

namespace Lh
open PySem PySem.Spec PyProof.Rows L2
/-! ### all come to rest: pure counting -/
theorem lotI_H (r : Rule) (ns : List Int) (p : Int) : lotI r ns p = lotH r ns (nth ns p) := rfl
theorem wgt_nn {ties : List (Int × Int)} (h : ∀ q ∈ ties, 1 ≤ q.2 ∧ q.2 ≤ 1000) (p : Int) : 0 ≤ wgt ties p ∧ wgt ties p ≤ 1000 := by
  unfold wgt
  cases e : ties.find? fun q => decide (q.1 = p) with
  | none => exact ⟨Int.le_refl _, by show (0 : Int) ≤ 1000; decide⟩
  | some q =>
    have := h q (List.mem_of_find?_eq_some e)
    exact ⟨by show 0 ≤ q.2; omega, this.2⟩
theorem sum_mono (f : Int → Int) (hf : ∀ p, 0 ≤ f p) (P Q : Int → Bool) (hPQ : ∀ p, P p = true → Q p = true) : ∀ xs : List Int, ((xs.filter P).map f).sum ≤ ((xs.filter Q).map f).sum
  | [] => Int.le_refl _
  | x :: t => by
    have ih := sum_mono f hf P Q hPQ t
    have := hf x
    rw [List.filter_cons, List.filter_cons]
    by_cases c : P x = true
    · rw [if_pos c, if_pos (hPQ x c), List.map_cons, List.map_cons, List.sum_cons, List.sum_cons]; omega
    · rw [if_neg c]
      by_cases d : Q x = true
      · rw [if_pos d, List.map_cons, List.sum_cons]; omega
      · rw [if_neg d]; exact ih
theorem sum_lot {ties : List (Int × Int)} (r : Rule) (ns : List Int) (h : Int) : ((lotH r ns h).map fun q => wgt ties q.1).sum = ((r.persons.filter fun o => decide (nth ns o < h)).map (wgt ties)).sum := by
  unfold lotH
  rw [List.map_map]
  rfl
theorem lotH_sub {r : Rule} {ns : List Int} {h h' : Int} (hh : h ≤ h') : ∀ q ∈ lotH r ns h, q ∈ lotH r ns h' := fun q hq => by
  obtain ⟨o, ho, rfl⟩ := List.mem_map.mp hq
  obtain ⟨o1, o2⟩ := List.mem_filter.mp ho
  exact List.mem_map.mpr ⟨o, List.mem_filter.mpr ⟨o1, decide_eq_true (Int.lt_of_lt_of_le (of_decide_eq_true o2) hh)⟩, rfl⟩
theorem lotH_sub2 {r : Rule} {ns : List Int} {h h' : Int} (hh : h ≤ h') : ∀ y ∈ (lotH r ns h).map (·.2), y ∈ (lotH r ns h').map (·.2) := fun y hy => by
  obtain ⟨q, hq, rfl⟩ := List.mem_map.mp hy
  exact List.mem_map_of_mem (lotH_sub hh q hq)
/-- more lesser ones never tell less -/
theorem tell_mono {m : Int} {ns : List Int} {h h' : Int} (hh : h ≤ h') (nn : ∀ o : Int, 0 ≤ nth ns o) : ∀ {r : Rule} {c y : Int}, r.Wf m → Tell r (lotH r ns h) c → Tell r (lotH r ns h') y → c ≤ y
  | .held n, c, y, _, a, b => by rw [show c = n from a, show y = n from b]; exact Int.le_refl _
  | .sum own ties, c, y, wf, a, b => by
    rw [show c = _ from a, show y = _ from b, sum_lot, sum_lot]
    have := sum_mono (wgt ties) (fun p => (wgt_nn wf.2.2 p).1) (fun o => decide (nth ns o < h)) (fun o => decide (nth ns o < h')) (fun o z => decide_eq_true (Int.lt_of_lt_of_le (of_decide_eq_true z) hh)) (Rule.sum own ties).persons
    omega
  | .cap own ties most, c, y, wf, a, b => by
    rw [show c = _ from a, show y = _ from b, sum_lot, sum_lot]
    have := sum_mono (wgt ties) (fun p => (wgt_nn wf.2.2.1 p).1) (fun o => decide (nth ns o < h)) (fun o => decide (nth ns o < h')) (fun o z => decide_eq_true (Int.lt_of_lt_of_le (of_decide_eq_true z) hh)) (Rule.cap own ties most).persons
    omega
  | .kinds own seen, c, y, _, ⟨ks, n1, m1, e1⟩, ⟨ls, n2, m2, e2⟩ => by
    have := nodup_len ks ls n1 fun x hx => (m2 x).mpr (lotH_sub2 hh x ((m1 x).mp hx))
    omega
  | .next seen, c, y, _, a, b => by
    have y0 : 0 ≤ y := by
      rcases b with ⟨_, e⟩ | ⟨e, _⟩
      · omega
      · obtain ⟨q, hq, e⟩ := List.mem_map.mp e
        obtain ⟨o, _, rfl⟩ := List.mem_map.mp hq
        have h1 := nn o
        have : nth ns o = y - 1 := e
        omega
    rcases a with ⟨_, e⟩ | ⟨e, _⟩
    · omega
    · have e' := lotH_sub2 hh _ e
      rcases b with ⟨z, _⟩ | ⟨_, z⟩
      · rw [z] at e'; exact absurd e' (by simp)
      · have := z _ e'; omega
  | .free seen, c, y, _, ⟨a1, a2, a3⟩, ⟨b1, b2, b3⟩ => by
    rcases Int.lt_or_le y c with z | z
    · exact absurd (lotH_sub2 hh _ (a3 y b2 z)) b1
    · exact z
theorem dedup_ex : ∀ xs : List Int, ∃ ks : List Int, ks.Nodup ∧ ∀ k, k ∈ ks ↔ k ∈ xs
  | [] => ⟨[], .nil, fun _ => Iff.rfl⟩
  | x :: t => by
    obtain ⟨ks, h1, h2⟩ := dedup_ex t
    by_cases c : x ∈ t
    · refine ⟨ks, h1, fun k => ?_⟩
      rw [h2, List.mem_cons]
      exact ⟨.inr, fun z => z.elim (fun e => e ▸ c) id⟩
    · refine ⟨x :: ks, List.nodup_cons.mpr ⟨fun z => c ((h2 x).mp z), h1⟩, fun k => ?_⟩
      rw [List.mem_cons, List.mem_cons, h2]
theorem max_ex : ∀ xs : List Int, xs ≠ [] → ∃ x ∈ xs, ∀ y ∈ xs, y ≤ x
  | [], h => absurd rfl h
  | [x], _ => ⟨x, List.mem_cons_self, fun y hy => by rw [List.mem_singleton.mp hy]; exact Int.le_refl _⟩
  | x :: z :: t, _ => by
    obtain ⟨m, h1, h2⟩ := max_ex (z :: t) (by simp)
    rcases Int.le_total x m with c | c
    · refine ⟨m, List.mem_cons_of_mem _ h1, fun y hy => ?_⟩
      rcases List.mem_cons.mp hy with rfl | hy
      · exact c
      · exact h2 y hy
    · refine ⟨x, List.mem_cons_self, fun y hy => ?_⟩
      rcases List.mem_cons.mp hy with rfl | hy
      · exact Int.le_refl _
      · exact Int.le_trans (h2 y hy) c
theorem mex_from (xs : List Int) : ∀ (d k : Nat), (∀ j : Nat, j < k → (j : Int) ∈ xs) → xs.length + 1 ≤ k + d → ∃ x, IsMex xs x
  | 0, k, hk, hd => by
    exfalso
    have := nodup_len ((List.range k).map fun n : Nat => (n : Int)) xs (by
      rw [List.nodup_iff_pairwise_ne]
      exact List.Pairwise.map _ (fun a b z q => z (by omega)) (List.nodup_iff_pairwise_ne.mp List.nodup_range)) (fun x hx => by
        obtain ⟨n, hn, rfl⟩ := List.mem_map.mp hx
        exact hk n (List.mem_range.mp hn))
    rw [List.length_map, List.length_range] at this
    omega
  | d + 1, k, hk, hd => by
    by_cases c : (k : Int) ∈ xs
    · exact mex_from xs d (k + 1) (fun j hj => by
        by_cases e : j = k
        · subst e; exact c
        · exact hk j (by omega)) (by omega)
    · refine ⟨k, c, by omega, fun j h0 h1 => ?_⟩
      have := hk j.toNat (by omega)
      rw [show ((j.toNat : Nat) : Int) = j by omega] at this
      exact this
theorem Tell.ex : ∀ (r : Rule) (lot : List (Int × Int)), ∃ y, Tell r lot y
  | .held n, _ => ⟨n, rfl⟩
  | .sum _ _, _ => ⟨_, rfl⟩
  | .cap _ _ _, _ => ⟨_, rfl⟩
  | .kinds _ _, lot => by
    obtain ⟨ks, h1, h2⟩ := dedup_ex (lot.map (·.2))
    exact ⟨_, ks, h1, h2, rfl⟩
  | .next _, lot => by
    by_cases c : lot = []
    · exact ⟨0, .inl ⟨c, rfl⟩⟩
    · obtain ⟨x, h1, h2⟩ := max_ex (lot.map (·.2)) (fun z => c (List.map_eq_nil_iff.mp z))
      refine ⟨x + 1, .inr ⟨?_, fun y hy => ?_⟩⟩
      · rw [show x + 1 - 1 = x by omega]; exact h1
      · have := h2 y hy; omega
  | .free _, lot => mex_from _ ((lot.map (·.2)).length + 1) 0 (fun j hj => absurd hj (by omega)) (by omega)
/-- what a rule tells is no less than 0, and no more than it shows itself or some bound -/
def bnd : Rule → Int
  | .held n => n
  | .sum own ties => own + 1000 * ties.length
  | .cap _ _ most => most
  | .kinds own seen => own + seen.length
  | .next _ => 0
  | .free seen => seen.length
theorem sum_bnd (f : Int → Int) (hf : ∀ p, f p ≤ 1000) (h0 : ∀ p, 0 ≤ f p) (P : Int → Bool) : ∀ xs : List Int, ((xs.filter P).map f).sum ≤ 1000 * xs.length ∧ 0 ≤ ((xs.filter P).map f).sum
  | [] => ⟨Int.le_refl _, Int.le_refl _⟩
  | x :: t => by
    have ih := sum_bnd f hf h0 P t
    have := hf x
    have := h0 x
    rw [List.filter_cons, List.length_cons]
    by_cases c : P x = true
    · rw [if_pos c, List.map_cons, List.sum_cons]; omega
    · rw [if_neg c]; omega
theorem lotH_len (r : Rule) (ns : List Int) (h : Int) : (lotH r ns h).length ≤ r.persons.length := by
  unfold lotH
  rw [List.length_map]
  exact List.length_filter_le _ _
theorem tell_bnd {m : Int} {ns : List Int} {h : Int} (nn : ∀ o : Int, 0 ≤ nth ns o) (h0 : 0 ≤ h) : ∀ {r : Rule} {y : Int}, r.Wf m → Tell r (lotH r ns h) y → 0 ≤ y ∧ (y ≤ bnd r ∨ y ≤ h)
  | .held n, y, wf, a => by rw [show y = n from a]; exact ⟨wf.1, .inl (Int.le_refl _)⟩
  | .sum own ties, y, wf, a => by
    have e : y = _ := a
    rw [sum_lot] at e
    have := sum_bnd (wgt ties) (fun p => (wgt_nn wf.2.2 p).2) (fun p => (wgt_nn wf.2.2 p).1) (fun o => decide (nth ns o < h)) (Rule.sum own ties).persons
    have e2 : (Rule.sum own ties).persons.length = ties.length := List.length_map _
    have := wf.1.1
    refine ⟨by omega, .inl ?_⟩
    show y ≤ own + 1000 * ties.length
    rw [← e2]; omega
  | .cap own ties most, y, wf, a => by
    have e : y = _ := a
    rw [sum_lot] at e
    have := sum_bnd (wgt ties) (fun p => (wgt_nn wf.2.2.1 p).2) (fun p => (wgt_nn wf.2.2.1 p).1) (fun o => decide (nth ns o < h)) (Rule.cap own ties most).persons
    have := wf.1.1
    have := wf.2.2.2.1
    refine ⟨by omega, .inl ?_⟩
    show y ≤ most
    omega
  | .kinds own seen, y, wf, ⟨ks, n1, m1, e1⟩ => by
    have h1 := nodup_len ks ((lotH (.kinds own seen) ns h).map (·.2)) n1 fun x hx => (m1 x).mp hx
    rw [List.length_map] at h1
    have h2 := lotH_len (.kinds own seen) ns h
    have h3 : (Rule.kinds own seen).persons.length = seen.length := rfl
    have := wf.1.1
    refine ⟨by omega, .inl ?_⟩
    show y ≤ own + seen.length
    omega
  | .next seen, y, _, a => by
    rcases a with ⟨_, e⟩ | ⟨e, _⟩
    · exact ⟨by omega, .inr (by omega)⟩
    · obtain ⟨q, hq, e⟩ := List.mem_map.mp e
      obtain ⟨o, ho, rfl⟩ := List.mem_map.mp hq
      have h1 := nn o
      have h2 : nth ns o < h := of_decide_eq_true (List.mem_filter.mp ho).2
      have : nth ns o = y - 1 := e
      exact ⟨by omega, .inr (by omega)⟩
  | .free seen, y, _, ⟨a1, a2, a3⟩ => by
    refine ⟨a2, .inl ?_⟩
    have h1 := nodup_len ((List.range y.toNat).map fun n : Nat => (n : Int)) ((lotH (.free seen) ns h).map (·.2)) (by
      rw [List.nodup_iff_pairwise_ne]
      exact List.Pairwise.map _ (fun a b z q => z (by omega)) (List.nodup_iff_pairwise_ne.mp List.nodup_range)) (fun x hx => by
        obtain ⟨n, hn, rfl⟩ := List.mem_map.mp hx
        have := List.mem_range.mp hn
        exact a3 n (by omega) (by omega))
    rw [List.length_map, List.length_range, List.length_map] at h1
    have h2 := lotH_len (.free seen) ns h
    have h3 : (Rule.free seen).persons.length = seen.length := rfl
    show y ≤ (seen.length : Int)
    omega
/-- nobody's turn changes it -/
def Rest (rs : List Rule) (ns : List Int) : Prop := ∀ (i : Nat) (h : i < rs.length), Tell rs[i] (lotI rs[i] ns i) (nth ns i)
theorem upto {P : Nat → Nat → Prop} (mono : ∀ p t t', t ≤ t' → P p t → P p t') : ∀ n : Nat, (∀ p, p < n → ∃ t, P p t) → ∃ t, ∀ p, p < n → P p t
  | 0, _ => ⟨0, fun p h => absurd h (by omega)⟩
  | n + 1, h => by
    obtain ⟨t1, h1⟩ := upto mono n fun p hp => h p (by omega)
    obtain ⟨t2, h2⟩ := h n (by omega)
    refine ⟨max t1 t2, fun p hp => ?_⟩
    by_cases c : p = n
    · subst c; exact mono _ _ _ (Nat.le_max_right _ _) h2
    · exact mono _ _ _ (Nat.le_max_left _ _) (h1 p (by omega))
section
variable {rs : List Rule} {s : Nat → List Int} {S : Nat → Int → Prop}
structure Fair (rs : List Rule) (s : Nat → List Int) (S : Nat → Int → Prop) : Prop where
  hh : ∀ r ∈ rs, r.Wf rs.length
  len : ∀ k, (s k).length = rs.length
  step : ∀ k, Turned rs (s k) (S k) (s (k + 1))
  nn0 : ∀ o : Int, 0 ≤ nth (s 0) o
  fair : ∀ (k p : Nat), p < rs.length → ∃ j, k ≤ j ∧ S j p
theorem nth_out {ns : List Int} {o : Int} (h : ns.length ≤ o.toNat) : nth ns o = 0 := by
  unfold nth
  rw [List.getD_eq_getElem?_getD, List.getElem?_eq_none h]
  rfl
theorem nth_nat {ns : List Int} (o : Int) : nth ns o = nth ns (o.toNat : Nat) := by
  unfold nth
  rw [Int.toNat_natCast]
theorem Fair.nn (f : Fair rs s S) : ∀ (k : Nat) (o : Int), 0 ≤ nth (s k) o
  | 0, o => f.nn0 o
  | k + 1, o => by
    have ih := f.nn k
    by_cases c : o.toNat < rs.length
    · rw [nth_nat]
      have t := (f.step k).2 o.toNat c
      by_cases d : S k (o.toNat : Nat)
      · have h1 := t.1 d
        rw [lotI_H] at h1
        exact (tell_bnd ih (ih _) (f.hh _ (List.getElem_mem c)) h1).1
      · rw [t.2 d]; exact ih _
    · rw [nth_out (by rw [f.len]; omega)]
      exact Int.le_refl _
theorem Fair.bound (f : Fair rs s S) : ∃ B : Int, 0 ≤ B ∧ ∀ (k : Nat) (o : Nat), nth (s k) o ≤ B := by
  have b1 : ∀ xs : List Int, ∃ B : Int, 0 ≤ B ∧ ∀ x ∈ xs, x ≤ B := fun xs => by
    obtain ⟨m, _, hm⟩ := max_ex (0 :: xs) (by simp)
    exact ⟨m, hm 0 List.mem_cons_self, fun x hx => hm x (List.mem_cons_of_mem _ hx)⟩
  obtain ⟨B, B0, hB⟩ := b1 (rs.map bnd ++ s 0)
  refine ⟨B, B0, fun k => ?_⟩
  induction k with
  | zero =>
    intro o
    by_cases c : o < (s 0).length
    · refine hB _ (List.mem_append_right _ ?_)
      have := nth_get (ns := s 0) (p := (o : Int)) (by omega) (by omega)
      rw [Int.toNat_natCast, List.getElem?_map, List.getElem?_eq_getElem c] at this
      have e : (s 0)[o] = nth (s 0) o := V.int.inj (Option.some.inj this)
      rw [← e]
      exact List.getElem_mem c
    · rw [nth_out (by omega)]; exact B0
  | succ k ih =>
    intro o
    by_cases c : o < rs.length
    · have t := (f.step k).2 o c
      by_cases d : S k o
      · have h1 := t.1 d
        rw [lotI_H] at h1
        rcases (tell_bnd (f.nn k) (f.nn k _) (f.hh _ (List.getElem_mem c)) h1).2 with h2 | h2
        · exact Int.le_trans h2 (hB _ (List.mem_append_left _ (List.mem_map_of_mem (List.getElem_mem c))))
        · exact Int.le_trans h2 (ih o)
      · rw [t.2 d]; exact ih o
    · rw [nth_out (by rw [f.len]; omega)]; exact B0
/-- from T on p shows one number below h, or never one below it -/
def Fix (s : Nat → List Int) (h : Int) (p T : Nat) : Prop := ((∀ k, T ≤ k → nth (s k) p = nth (s T) p) ∧ nth (s T) p < h) ∨ ∀ k, T ≤ k → h ≤ nth (s k) p
theorem Fix.later {h : Int} {p T T' : Nat} (l : T ≤ T') : Fix s h p T → Fix s h p T'
  | .inl ⟨a, b⟩ => .inl ⟨fun k hk => by rw [a k (by omega), a T' l], by rw [a T' l]; exact b⟩
  | .inr a => .inr fun k hk => a k (by omega)
theorem lot_still (f : Fair rs s S) {h : Int} {T k : Nat} (hk : T ≤ k) (fx : ∀ p, p < rs.length → Fix s h p T) {i : Nat} (hi : i < rs.length) : lotH rs[i] (s k) h = lotH rs[i] (s T) h := by
  have inr : ∀ o ∈ rs[i].persons, 0 ≤ o ∧ o < rs.length := by
    intro o ho
    have wf := f.hh _ (List.getElem_mem hi)
    generalize rs[i] = r at ho wf
    cases r with
    | held n => exact absurd ho (by simp [Rule.persons])
    | sum own ties => exact wf.2.1.2 o ho
    | cap own ties most => exact wf.2.1.2 o ho
    | kinds own seen => exact wf.2.2 o ho
    | next seen => exact wf.2 o ho
    | free seen => exact wf.2 o ho
  have key : ∀ o ∈ rs[i].persons, (nth (s k) o = nth (s T) o) ∨ (h ≤ nth (s k) o ∧ h ≤ nth (s T) o) := fun o ho => by
    have io := inr o ho
    rw [nth_nat (ns := s k), nth_nat (ns := s T)]
    rcases fx o.toNat (by omega) with ⟨a, _⟩ | a
    · exact .inl (a k hk)
    · exact .inr ⟨a k hk, a T (Nat.le_refl _)⟩
  unfold lotH
  have e1 : (rs[i].persons.filter fun o => decide (nth (s k) o < h)) = rs[i].persons.filter fun o => decide (nth (s T) o < h) := by
    refine List.filter_congr fun o ho => ?_
    rcases key o ho with e | ⟨a, b⟩
    · rw [e]
    · rw [decide_eq_false (by omega), decide_eq_false (by omega)]
  rw [e1]
  refine List.map_congr_left fun o ho => ?_
  obtain ⟨o1, o2⟩ := List.mem_filter.mp ho
  have lt : nth (s T) o < h := of_decide_eq_true o2
  rcases key o o1 with e | ⟨a, b⟩
  · rw [e]
  · omega
theorem Fair.levels (f : Fair rs s S) : ∀ h : Nat, ∃ T, ∀ p, p < rs.length → Fix s h p T
  | 0 => ⟨0, fun p _ => .inr fun k _ => f.nn k p⟩
  | h + 1 => by
    obtain ⟨T, fx⟩ := f.levels h
    refine upto (P := fun p t => Fix s ((h + 1 : Nat) : Int) p t) (fun p t t' l => Fix.later l) rs.length fun p hp => ?_
    rcases fx p hp with ⟨a, b⟩ | a
    · exact ⟨T, .inl ⟨a, by omega⟩⟩
    obtain ⟨c, hc⟩ := Tell.ex rs[p] (lotH rs[p] (s T) h)
    have wf := f.hh _ (List.getElem_mem hp)
    -- a turn of p behind T tells no less than c, and c itself at h
    have low : ∀ k, T ≤ k → S k p → c ≤ nth (s (k + 1)) p := fun k hk hS => by
      have t := ((f.step k).2 p hp).1 hS
      rw [lotI_H] at t
      rw [← lot_still f hk fx hp] at hc
      exact tell_mono (a k hk) (f.nn k) wf hc t
    have just : ∀ k, T ≤ k → S k p → nth (s k) p = h → nth (s (k + 1)) p = c := fun k hk hS e => by
      have t := ((f.step k).2 p hp).1 hS
      rw [lotI_H, e, lot_still f hk fx hp] at t
      exact t.unique hc
    have stay : ∀ k, ¬ S k p → nth (s (k + 1)) p = nth (s k) p := fun k hS => ((f.step k).2 p hp).2 hS
    by_cases ch : (h : Int) < c
    · obtain ⟨j, hj, hS⟩ := f.fair T p hp
      refine ⟨j + 1, .inr fun k hk => ?_⟩
      have : ∀ d, c ≤ nth (s (j + 1 + d)) p := fun d => by
        induction d with
        | zero => exact low j hj hS
        | succ d ih =>
          show c ≤ nth (s (j + 1 + d + 1)) p
          by_cases e : S (j + 1 + d) p
          · exact low (j + 1 + d) (by omega) e
          · rw [stay _ e]; exact ih
      have h1 := this (k - (j + 1))
      rw [show j + 1 + (k - (j + 1)) = k by omega] at h1
      omega
    · by_cases ex : ∃ k, T ≤ k ∧ nth (s k) p = h
      · obtain ⟨k, hk, e⟩ := ex
        have all : ∀ d, nth (s (k + d)) p = h := fun d => by
          induction d with
          | zero => exact e
          | succ d ih =>
            rw [show k + (d + 1) = k + d + 1 by omega]
            by_cases z : S (k + d) p
            · have h1 := just _ (by omega) z ih
              have h2 := a (k + d + 1) (by omega)
              omega
            · rw [stay _ z]; exact ih
        refine ⟨k, .inl ⟨fun k' hk' => ?_, by rw [e]; omega⟩⟩
        have h1 := all (k' - k)
        rw [show k + (k' - k) = k' by omega] at h1
        rw [h1, e]
      · refine ⟨T, .inr fun k hk => ?_⟩
        have h1 := a k hk
        have h2 : nth (s k) p ≠ h := fun z => ex ⟨k, hk, z⟩
        omega
/-- all come to rest -/
theorem Fair.rest (f : Fair rs s S) : ∃ T, (∀ k, T ≤ k → s k = s T) ∧ Rest rs (s T) := by
  obtain ⟨B, B0, hB⟩ := f.bound
  obtain ⟨T, fx⟩ := f.levels (B.toNat + 1)
  have still : ∀ k, T ≤ k → s k = s T := fun k hk => by
    refine nth_ext (by rw [f.len, f.len]) fun i hi => ?_
    rw [f.len] at hi
    rcases fx i hi with ⟨a, _⟩ | a
    · exact a k hk
    · have h1 := a k hk
      have h2 := hB k i
      omega
  refine ⟨T, still, fun i hi => ?_⟩
  obtain ⟨j, hj, hS⟩ := f.fair T i hi
  have t := ((f.step j).2 i hi).1 hS
  rw [still j hj, still (j + 1) (by omega)] at t
  exact t
end
end Lh

namespace Lh
open PySem PySem.Spec PyProof.Rows L2
theorem eqvAll_ints : ∀ a b : List Int, PyData.eqvAll (a.map PyData.int) (b.map PyData.int) = decide (a = b)
  | [], [] => by rw [List.map_nil, PyData.eqvAll]; rfl
  | [], y :: t => by rw [List.map_nil, List.map_cons, PyData.eqvAll]; rfl
  | x :: t, [] => by rw [List.map_nil, List.map_cons, PyData.eqvAll]; rfl
  | x :: t, y :: u => by
    rw [List.map_cons, List.map_cons, PyData.eqvAll, PyData.eqv, eqvAll_ints t u, Bool.eq_iff_iff]
    simp
theorem eqv_tups (a b : List Int) : PyData.eqv (.tuple (a.map PyData.int)) (.tuple (b.map PyData.int)) = decide (a = b) := by
  rw [PyData.eqv]
  exact eqvAll_ints a b
theorem shaped_tup (ns : List Int) : SeqAt.shaped (.tuple (ns.map PyData.int)) = true := by
  show (PyData.canLayAll0 (ns.map PyData.int) && decide (PyData.depthAll (ns.map PyData.int) + 1 ≤ 64)) = true
  rw [canLay_ints, depth_ints]
  rfl
/-- [e for n in numbers] -/
theorem TupAt.dp {K : PySem.W.Frag} {H : Hp} {t : Addr} {ns : List Int} (h : TupAt H t (ns.map V.int)) : Dp K H (.ref t) (.tuple (ns.map PyData.int)) := .tup h.sq (RpAll.dp (bx := t) (RpAll.ints ns))
/-- the standing behind a beat -/
theorem Beat.ex (rs : List Rule) {ns : List Int} (hn : ns.length = rs.length) : ∃ ms, Beat rs ns ms := by
  have : ∀ k, k ≤ rs.length → ∃ ms : List Int, ms.length = k ∧ ∀ (i : Nat) (h : i < rs.length), i < k → Tell rs[i] (lotI rs[i] ns i) (nth ms i) := by
    intro k
    induction k with
    | zero => exact fun _ => ⟨[], rfl, fun i _ h => absurd h (by omega)⟩
    | succ k ih =>
      intro hk
      obtain ⟨ms, h1, h2⟩ := ih (by omega)
      obtain ⟨y, hy⟩ := Tell.ex rs[k] (lotI rs[k] ns k)
      refine ⟨ms ++ [y], by rw [List.length_append, h1]; rfl, fun i h hi => ?_⟩
      by_cases c : i = k
      · subst c
        have e : nth (ms ++ [y]) (i : Int) = y := by
          unfold nth
          rw [Int.toNat_natCast, List.getD_eq_getElem?_getD, List.getElem?_append_right (by omega), h1, Nat.sub_self]; rfl
        rw [e]; exact hy
      · have e : nth (ms ++ [y]) (i : Int) = nth ms i := by
          unfold nth
          rw [Int.toNat_natCast, List.getD_eq_getElem?_getD, List.getD_eq_getElem?_getD, List.getElem?_append_left (by omega)]
        rw [e]; exact h2 i h (by omega)
  obtain ⟨ms, h1, h2⟩ := this rs.length (Nat.le_refl _)
  exact ⟨ms, by rw [h1, hn], fun i h => ⟨fun _ => h2 i h h, fun z => absurd trivial z⟩⟩
noncomputable def beatF (rs : List Rule) (ns : List Int) : List Int := open Classical in if h : ∃ ms, Beat rs ns ms then Classical.choose h else ns
theorem beatF_ok {rs : List Rule} {ns : List Int} (hn : ns.length = rs.length) : Beat rs ns (beatF rs ns) := by
  unfold beatF
  rw [dif_pos (Beat.ex rs hn)]
  exact Classical.choose_spec (Beat.ex rs hn)
noncomputable def beatN (rs : List Rule) (ns : List Int) : Nat → List Int
  | 0 => ns
  | k + 1 => beatF rs (beatN rs ns k)
theorem beatN_len {rs : List Rule} {ns : List Int} (hn : ns.length = rs.length) : ∀ k, (beatN rs ns k).length = rs.length
  | 0 => hn
  | k + 1 => by
    show (beatF rs (beatN rs ns k)).length = rs.length
    rw [(beatF_ok (beatN_len hn k)).1]; exact beatN_len hn k
theorem beatN_step {rs : List Rule} {ns : List Int} (hn : ns.length = rs.length) (k : Nat) : Beat rs (beatN rs ns k) (beatN rs ns (k + 1)) := beatF_ok (beatN_len hn k)
theorem nth_pos {ns : List Int} (h : ∀ n ∈ ns, 0 ≤ n) (o : Int) : 0 ≤ nth ns o := by
  unfold nth
  rw [List.getD_eq_getElem?_getD]
  cases e : ns[o.toNat]? with
  | none => exact Int.le_refl _
  | some x => exact h x (List.mem_of_getElem? e)
theorem beat_rest {rs : List Rule} {ns : List Int} (hh : Halls rs) (hn : ns.length = rs.length) (pos : ∀ n ∈ ns, 0 ≤ n) : ∃ T, (∀ k, T ≤ k → beatN rs ns k = beatN rs ns T) ∧ Rest rs (beatN rs ns T) :=
  Fair.rest (S := fun _ _ => True) ⟨hh.2.2, beatN_len hn, beatN_step hn, nth_pos pos, fun k p _ => ⟨k, Nat.le_refl _, trivial⟩⟩
theorem Rest.beat {rs : List Rule} {ns : List Int} (h : Rest rs ns) : Beat rs ns ns := ⟨rfl, fun i hi => ⟨fun _ => h i hi, fun z => absurd trivial z⟩⟩
/-- where beats lead, and behind how many -/
def Come (rs : List Rule) (ns m : List Int) (b : Nat) : Prop := m = beatN rs ns b ∧ Beat rs m m ∧ ∀ i, i < b → beatN rs ns i ≠ beatN rs ns (i + 1)
theorem Come.unique {rs : List Rule} {ns m m' : List Int} {b b' : Nat} (hn : ns.length = rs.length) (h : Come rs ns m b) (h' : Come rs ns m' b') : m = m' ∧ b = b' := by
  have key : ∀ {m m' : List Int} {b b' : Nat}, Come rs ns m b → Come rs ns m' b' → ¬ b < b' := fun {m m' b b'} x y z => by
    refine y.2.2 b z ?_
    have s := beatN_step hn b
    have e := x.1
    rw [← e] at s ⊢
    exact x.2.1.unique (by rw [e]; exact beatN_len hn b) s
  have e : b = b' := by
    have h1 := key h h'
    have h2 := key h' h
    omega
  subst e
  exact ⟨h.1.trans h'.1.symm, rfl⟩
def cntOf (i : Nat) (σ : L2.St) : Nat := match σ[i]? with
  | some (some (.int b)) => b.toNat
  | _ => 0
/-- those whom a turn would change -/
noncomputable def restL (rs : List Rule) (ns : List Int) : List Int := ((List.range rs.length).filter fun i : Nat => decide (nth (beatF rs ns) i ≠ nth ns i)).map fun k : Nat => (k : Int)
theorem restL_len (rs : List Rule) (ns : List Int) : (restL rs ns).length ≤ rs.length := by
  unfold restL
  rw [List.length_map]
  exact Nat.le_trans (List.length_filter_le _ _) (by rw [List.length_range]; exact Nat.le_refl _)
theorem restL_nil {rs : List Rule} {ns : List Int} (hn : ns.length = rs.length) : (restL rs ns).isEmpty = true ↔ Rest rs ns := by
  have bt := beatF_ok hn
  rw [List.isEmpty_iff]
  unfold restL
  rw [List.map_eq_nil_iff, List.filter_eq_nil_iff]
  constructor
  · intro h i hi
    have h1 := h i (List.mem_range.mpr hi)
    have h2 : nth (beatF rs ns) i = nth ns i := by simpa using h1
    have h3 := (bt.2 i hi).1 trivial
    rw [h2] at h3
    exact h3
  · intro h i hi
    have hi' := List.mem_range.mp hi
    have h3 := ((bt.2 i hi').1 trivial).unique (h i hi')
    simpa using h3
theorem Rest.turned {rs : List Rule} {ns ms : List Int} {S : Int → Prop} (hn : ns.length = rs.length) (h : Rest rs ns) (t : Turned rs ns S ms) : ms = ns := by
  refine t.unique (q := S) hn (fun _ _ => Iff.rfl) ⟨rfl, fun i hi => ⟨fun _ => h i hi, fun _ => rfl⟩⟩
theorem beatN_pos {rs : List Rule} {ns : List Int} (hh : Halls rs) (hn : ns.length = rs.length) (pos : ∀ n ∈ ns, 0 ≤ n) (k : Nat) : ∀ n ∈ beatN rs ns k, 0 ≤ n := fun n hm => by
  have f : Fair rs (beatN rs ns) (fun _ _ => True) := ⟨hh.2.2, beatN_len hn, beatN_step hn, nth_pos pos, fun k p _ => ⟨k, Nat.le_refl _, trivial⟩⟩
  obtain ⟨i, hi, e⟩ := List.mem_iff_getElem.mp hm
  have h1 := f.nn k i
  have h2 := nth_get (ns := beatN rs ns k) (p := (i : Int)) (by omega) (by omega)
  rw [Int.toNat_natCast, List.getElem?_map, List.getElem?_eq_getElem hi] at h2
  have h3 : (beatN rs ns k)[i] = nth (beatN rs ns k) i := V.int.inj (Option.some.inj h2)
  rw [← e, h3]
  exact h1
theorem Turned.pos {rs : List Rule} {ns ms : List Int} {S : Int → Prop} (hh : Halls rs) (hn : ns.length = rs.length) (pos : ∀ n ∈ ns, 0 ≤ n) (be : Turned rs ns S ms) : ∀ n ∈ ms, 0 ≤ n := fun n hm => by
  obtain ⟨i, hi, e⟩ := List.mem_iff_getElem.mp hm
  have hi' : i < rs.length := by rw [← hn, ← be.1]; exact hi
  have h2 := nth_get (ns := ms) (p := (i : Int)) (by omega) (by omega)
  rw [Int.toNat_natCast, List.getElem?_map, List.getElem?_eq_getElem hi] at h2
  have h3 : ms[i] = nth ms i := V.int.inj (Option.some.inj h2)
  rw [← e, h3]
  by_cases c : S i
  · have tl := (be.2 i hi').1 c
    rw [lotI_H] at tl
    exact (tell_bnd (nth_pos pos) (nth_pos pos _) (hh.2.2 _ (List.getElem_mem hi')) tl).1
  · rw [(be.2 i hi').2 c]
    exact nth_pos pos _
theorem bnd_small {m : Int} {r : Rule} (h : r.Wf m) (hl : r.persons.length ≤ 60) : bnd r ≤ 1000000 := by
  cases r with
  | held n =>
    have := h.2
    show n ≤ 1000000
    omega
  | sum own ties =>
    have h1 := h.1.2
    have h2 : ties.length ≤ 60 := by simpa [Rule.persons] using hl
    show own + 1000 * ties.length ≤ 1000000
    omega
  | cap own ties most =>
    have := h.2.2.2.2
    show most ≤ 1000000
    omega
  | kinds own seen =>
    have h1 := h.1.2
    have h2 : seen.length ≤ 60 := hl
    show own + seen.length ≤ 1000000
    omega
  | next seen => show (0 : Int) ≤ 1000000; decide
  | free seen =>
    have h2 : seen.length ≤ 60 := hl
    show (seen.length : Int) ≤ 1000000
    omega
theorem Turned.small {rs : List Rule} {ns ms : List Int} {S : Int → Prop} (hh : Halls rs) (hn : ns.length = rs.length) (sm : ∀ n ∈ ns, 0 ≤ n ∧ n ≤ 1000000) (be : Turned rs ns S ms) : ∀ n ∈ ms, 0 ≤ n ∧ n ≤ 1000000 := fun n hm => by
  have pos : ∀ n ∈ ns, 0 ≤ n := fun n h => (sm n h).1
  refine ⟨be.pos hh hn pos n hm, ?_⟩
  obtain ⟨i, hi, e⟩ := List.mem_iff_getElem.mp hm
  have hi' : i < rs.length := by rw [← hn, ← be.1]; exact hi
  have up : nth ns (i : Int) ≤ 1000000 := by
    unfold nth
    rw [Int.toNat_natCast, List.getD_eq_getElem?_getD, List.getElem?_eq_getElem (by omega)]
    exact (sm _ (List.getElem_mem _)).2
  have h2 := nth_get (ns := ms) (p := (i : Int)) (by omega) (by omega)
  rw [Int.toNat_natCast, List.getElem?_map, List.getElem?_eq_getElem hi] at h2
  have h3 : ms[i] = nth ms i := V.int.inj (Option.some.inj h2)
  rw [← e, h3]
  by_cases c : S i
  · have tl := (be.2 i hi').1 c
    rw [lotI_H] at tl
    rcases (tell_bnd (nth_pos pos) (nth_pos pos _) (hh.2.2 _ (List.getElem_mem hi')) tl).2 with z | z
    · exact Int.le_trans z (bnd_small (hh.2.2 _ (List.getElem_mem hi')) (hh.few hi'))
    · exact Int.le_trans z up
  · rw [(be.2 i hi').2 c]
    exact up
end Lh

namespace Lh
open PySem PySem.Spec PyProof.Rows L2
theorem lc_onesL {K : PySem.W.Frag} {t : Addr} {seen : List Int} {H1 : Hp} {D : Addr} {σ : L2.St} {vs : List Nat} {Qd : Hp → Prop} {i : Nat} (ht : H1 t = some (.lst (seen.map V.int))) (hD : H1 D = none) (hl : seen.length ≤ 1000)
    (hw : ∀ a, wipe ((wipe σ vs).set i a) vs = wipe σ vs) (hi : ∀ a : V, ((wipe σ vs).set i (some a))[i]? = some (some a))
    (hq : ∀ H' ps, Same H1 H' → H' D = some (.lst (ps.map V.ref)) → Paired (PairAtH H') ps (seen.map fun n => (n, 1)) → Qd H') :
    ∃ W : Nat → Nat → Hp → Prop, (∃ m, W 0 m (upd H1 D (.lst []))) ∧ ∀ i1 m H, W i1 m H →
      ((Itl K t).stop i1 H ∧ Qd H) ∨ ((Itl K t).go i1 H ∧ ∃ Nx : Hp → Prop, (∀ H', Nx H' → ∃ m', m' < m ∧ W (i1 + 1) m' H') ∧ ∀ x H', (Itl K t).yld i1 H x H' → gName i x (wipe σ vs) H' fun σ2 H2 => wipe σ2 vs = wipe σ vs ∧ tYes σ2 H2 fun b H3 =>
        if b = true then tTup (tCons (tVar i) (tCons (tC (.int 1)) tNil)) σ2 H3 fun y H4 => ∃ acc, H4 D = some (.lst acc) ∧ acc.length < sizeLine ∧ Nx (upd H4 D (.lst (acc ++ [y]))) else Nx H3) := by
  refine lc_it (walk_list (xs := seen.map V.int)) (fun n H3 => ∃ ps : List Addr, Same H1 H3 ∧ H3 D = some (.lst (ps.map V.ref)) ∧ Paired (PairAtH H3) ps ((seen.take n).map fun n => (n, 1))) ⟨[], same_upd hD, upd_same, .nil⟩ ?_ ?_ ?_
  · rintro n H3 _ ⟨ps, sm, _⟩
    exact .inl (.inl (sm _ _ ht))
  · rintro n x H3 H4 hn ⟨ps, sm, h3, pr⟩ ⟨rfl, hx⟩
    rw [List.length_map] at hn
    rw [List.getElem?_map, List.getElem?_eq_getElem hn] at hx
    have ex : x = .int seen[n] := (Option.some.inj hx).symm
    subst ex
    have pl : ps.length = n := by rw [pr.length, List.length_map, List.length_take]; omega
    refine ⟨hw _, yes (iteT ⟨.int seen[n], hi _, by show 2 ≤ sizeLine; decide, fun p np => ?_⟩)⟩
    have nDp : D ≠ p := ne_of_none h3 np
    refine ⟨_, by rw [upd_ne nDp]; exact h3, by rw [List.length_map]; exact small1000 (by omega), ps ++ [p], ?_, ?_, ?_⟩
    · exact same_mut (sm.trans (same_upd np)) hD
    · rw [upd_same, List.map_append]; rfl
    · rw [List.take_add_one, List.getElem?_eq_getElem hn, List.map_append]
      have kT : Keep H4 (upd (upd H4 p (.tup [.int seen[n], .int 1])) D (.lst (ps.map V.ref ++ [.ref p]))) := by
        refine ⟨fun a xs h => ?_, fun a o u h => ?_⟩
        · rw [upd_ne (ne_of h h3 (by intro z; cases z)), upd_ne (ne_of_none h np)]; exact h
        · rw [upd_ne (ne_of h h3 (by intro z; cases z)), upd_ne (ne_of_none h np)]; exact h
      exact Paired.snoc (R := PairAtH _) (show PairAtH _ _ _ by show _ = _; rw [upd_ne nDp.symm]; exact upd_same) (pairs_keep kT pr)
  · rintro H3 ⟨ps, sm, h3, pr⟩
    rw [List.length_map, List.take_length] at pr
    exact hq H3 ps sm h3 pr
/-- a list at D put by for another -/
theorem keep_lst {H : Hp} {D : Addr} {xs ys : List V} (h : H D = some (.lst xs)) : Keep H (upd H D (.lst ys)) := by
  refine ⟨fun a xs h' => ?_, fun a o u h' => ?_⟩
  · rw [upd_ne (ne_of h' h (by intro z; cases z))]; exact h'
  · rw [upd_ne (ne_of h' h (by intro z; cases z))]; exact h'
theorem rules_of {H : Hp} {m : Int} : ∀ us : List V, (∀ (i : Nat) (h : i < us.length), ∃ r, RuleAt H us[i] r ∧ r.Wf m) → ∃ rs, RulesAt H us rs ∧ ∀ r ∈ rs, r.Wf m
  | [], _ => ⟨[], .nil, fun r h => absurd h (by simp)⟩
  | u :: us, h => by
    obtain ⟨r, h1, h2⟩ := h 0 (by simp)
    obtain ⟨rs, h3, h4⟩ := rules_of us (fun i hi => h (i + 1) (by simpa using hi))
    refine ⟨r :: rs, .cons h1 h3, fun x hx => ?_⟩
    rcases List.mem_cons.mp hx with rfl | hx
    · exact h2
    · exact h4 x hx
section
variable {P : Program} {w : World} {K : PySem.W.Frag} {mg : Str → Option Value} {base : Heap}
def spStrewn : Sp := fun vs H Q _ => ∃ (bx p : Addr) (c : Int) (ns : List Int), vs = [.ref bx, .ref p] ∧ c + ns.length ≤ 1000000000 ∧ ns.length ≤ 900 ∧ Box bx c H ∧ H p = some (.lst (ns.map V.int)) ∧ p ≠ bx ∧
  ∀ (l : Addr) (ms : List Int) (H' : Hp), Ext bx H H' → Box bx (c + ns.length) H' → H l = none → H' l = some (.lst (ms.map V.int)) → ms.Perm ns → Q (.ref l) H'
def spHall : Sp := fun vs H Q _ => ∃ (bx : Addr) (c : Int), vs = [.ref bx] ∧ c + 100 ≤ 1000000000 ∧ Box bx c H ∧
  ∀ (l : Addr) (us : List V) (rs : List Rule) (H' : Hp), Ext bx H H' → Box bx (c + 100) H' → H l = none → H' l = some (.lst us) → RulesAt H' us rs → Halls rs → Q (.ref l) H'
end
end Lh

namespace Lh
open PySem PySem.Spec PyProof.Rows L2
/-! ### enumerate of a tuple -/
set_option maxHeartbeats 1000000 in
theorem enum_new1 {v : Value} {o : Obj} {G : Heap → Prop} (B : Begins v o G) :
    Meets (Builtin.«enumerate.__new__» ⟨[.type "enumerate", v], []⟩) (fun _ R z => G z.heap ∧
      R (.ok (.ret (.ref (z.heap.push o).objs.size))) { z with heap := (z.heap.push o).push { cls := .type "enumerate", data := .fields #[.none, .bool false, .ref z.heap.objs.size, rawInt 0, .none, .none] } }) := by
  refine .of_wp fun pr wo ar R z hh => ?_
  obtain ⟨h0, g0, d0, t0, o0⟩ := z
  obtain ⟨hG, hR⟩ := hh
  have hsub := sub_enumerate
  have it1 : ∀ {ar' : Around} {Ex : Value → Shared → Prop} {Q : Value → Shared → Prop}, Q (.ref h0.objs.size) ⟨h0.push o, g0, d0, t0, o0⟩ → wpAny (model pr wo) ar' (pyIter v) Q Ex ⟨h0, g0, d0, t0, o0⟩ :=
    fun q => B.iter pr wo _ _ ⟨h0, g0, d0, t0, o0⟩ _ hG q
  wp_walk using it1
  refine wpAny_stack_any fun _ => wpAny_pure ?_
  split
  · rename_i cc _ _ _ _ _
    cases (cc == Value.type "enumerate")
    all_goals
      wp_walk using it1
      exact ⟨_, rfl, hR⟩
  · wp_walk using it1
    exact ⟨_, rfl, hR⟩
theorem enum_made {pr : Program} {wo : World} {ar : Around} {Ex : Value → Shared → Prop} {z : Shared} {v : Value} {o : Obj} {G : Heap → Prop} {Q : Value → Shared → Prop} (B : Begins v o G) (hG : G z.heap)
    (h : ∀ h', IsEnum h' (z.heap.objs.size + 1) z.heap.objs.size 0 .none → h'.get? z.heap.objs.size = some o → (∀ b ob, z.heap.get? b = some ob → h'.get? b = some ob) → Q (.ref (z.heap.objs.size + 1)) { z with heap := h' }) :
    wpAny (model pr wo) ar (call (.type "enumerate") [v]) Q Ex z := by
  refine callType_new F.called_enumerate (by decide) (F.typeCall_enumerate_1 _) (F.newCall_enumerate_1 _) (fun x => F.args_object_init_2 x _) F.entry_enumerate_new (enum_new1 B) ⟨hG, ?_⟩
  have sz : (z.heap.push o).objs.size = z.heap.objs.size + 1 := Heap.size_push ..
  show _ ∧ _
  rw [sz]
  have he : IsEnum ((z.heap.push o).push { cls := .type "enumerate", data := .fields #[.none, .bool false, .ref z.heap.objs.size, rawInt 0, .none, .none] }) (z.heap.objs.size + 1) z.heap.objs.size 0 .none := by
    rw [← sz]
    exact Heap.get?_push_size (z.heap.push o) rfl
  exact ⟨⟨_, he, rfl⟩, h _ he (Heap.get?_push_of_some _ (Heap.get?_push_size _ B.free)) fun b ob x => Heap.get?_push_of_some _ (Heap.get?_push_of_some _ x)⟩
def IteT (K : PySem.W.Frag) (a : Addr) : It :=
  ⟨fun n H => ∃ (xs : List V) (x : V), SqT K H a xs ∧ xs[n]? = some x,
    fun n H v H' => ∃ T x, v = .ref T ∧ H T = none ∧ H' = upd H T (.tup [.int (n : Nat), x]) ∧ ∀ xs, SqT K H a xs → xs[n]? = some x,
    fun n H => ∃ xs : List V, SqT K H a xs ∧ xs.length ≤ n⟩
theorem draws_end {pr : Program} {wo : World} {ar : Around} (hh : ar.handled = none) (it a : Addr) (items : Array Value) (n : Nat) (hx : items[n]? = none) :
    Draws pr wo ar it [it, a] n (fun _ _ => False) (fun j h => j = n ∧ h.IsTupleIter it a n ∧ h.IsTuple a items) where
  live := fun _ _ st => let ⟨ob, hb, _⟩ := st.2.1; ⟨ob, hb⟩
  frame := fun _ _ _ st hk => ⟨st.1, st.2.1.at fun ob e => hk it (by simp) ob e, st.2.2.at fun ob e => hk a (by simp) ob e⟩
  item := fun j _ _ _ hj st _ => absurd st.1 (by omega)
  done := fun _ _ _ st hE => wpAny_nextOf_tuple_end hh st.2.1 st.2.2 hx hE
theorem turn_enumT {P : Program} {w : World} {K : PySem.W.Frag} {elts : List Expr} {kk : Nat} {tpos : Pos} (a e it : Addr) :
    Turn P w K (.Tuple elts kk tpos) (IteT K a) [e, it] e (fun n h => (∃ old, IsEnum h e it ((n : Nat) : Int) old) ∧ h.IsTupleIter it a n ∧ e ≠ it ∧ a ≠ it ∧ e ≠ a) where
  mem := by simp
  obj := fun n h st b hb => by
    obtain ⟨⟨old, he⟩, ⟨ob, ho, _, hd⟩, _⟩ := st
    rcases (show b = e ∨ b = it by simpa using hb) with rfl | rfl
    · exact ⟨_, he, fun v q => nomatch q⟩
    · exact ⟨ob, ho, fun v q => by rw [hd] at q; cases q⟩
  keep := fun n h h' st k => let ⟨⟨old, he⟩, hi, r⟩ := st; ⟨⟨old, k e (by simp) _ he⟩, hi.at fun ob q => k it (by simp) ob q, r⟩
  item := by
    intro X hP hw hK hc n pins s σ H E I hf st hg
    subst hP hw hK
    obtain ⟨⟨old, he⟩, hit, hne, nai, nea⟩ := st
    obtain ⟨xs, x, hq, hx⟩ := hg
    obtain ⟨its, rv, p, hz⟩ := I.tuple hq
    obtain ⟨u, hu, ru⟩ := rv.get hx
    have hu' : its.toArray[n]? = some u := by simpa using hu
    have hel : e < s.heap.objs.size := Heap.lt_size he
    have hil : it < s.heap.objs.size := by obtain ⟨_, q, _⟩ := hit; exact Heap.lt_size q
    have lt : n < its.toArray.size := (Array.getElem?_eq_some_iff.mp hu').1
    refine wpAny_pyNext_enum_itemD (Draws.tuple (A := X.A.in1) (I.ok.hd hc) it a nai its.toArray) he ⟨hit, p⟩ lt hne (by simp [hne, nea]) fun y h' tk hy ho st' hT hsz hk => ?_
    have ey : y = u := Option.some.inj (hy.symm.trans hu')
    subst ey
    refine ⟨_, rfl, wpAny_letOwnedTupleGo_enum (s := { s with heap := h', toks := tk + 1 }) ho fun h2 he2 sb => ?_⟩
    have hT2 : h2.get? s.heap.objs.size = some { cls := .type "tuple", data := .seq #[.int n tk, y] } := (sb.2 _ (Nat.ne_of_gt hel)).trans hT
    have new : ObjOk X.prog X.w (upd H s.heap.objs.size (.tup [.int (n : Nat), x])) h2 s.heap.objs.size (.tup [.int (n : Nat), x]) := by
      refine ⟨by show 2 ≤ sizeLine; decide, [.int n tk, y], .cons ⟨_, rfl⟩ (.cons ru .nil), ?_⟩
      exact ⟨_, hT2, rfl, _, rfl⟩
    have J : Inv X pins σ (upd H s.heap.objs.size (.tup [.int (n : Nat), x])) { s with heap := h2, toks := tk + 1 } := by
      refine I.turnedNew (ch := [e, it]) (fun b ob hb q => ?_) hf (Nat.le_refl _) new
      exact (sb.2 b (fun z => hb (by simp [z]))).trans (hk b ob (fun z => hb (by simp [z])) (fun z => hb (by simp [z])) q)
    refine ⟨.ref s.heap.objs.size, _, J, rfl, ⟨_, x, rfl, I.hok.fresh (Nat.le_refl _), rfl, fun ys hy => by rw [I.tuple_inj hy hq]; exact hx⟩, ⟨⟨y, ?_⟩, st'.1.at fun ob q => (sb.2 it (Ne.symm hne)).trans q, hne, nai, nea⟩, fun b hb => ?_⟩
    · rw [show ((n + 1 : Nat) : Int) = (n : Int) + 1 by omega]
      exact he2
    · have hb' : b < s.heap.objs.size := by
        rcases (show b = e ∨ b = it by simpa using hb) with rfl | rfl
        · exact hel
        · exact hil
      rw [upd_ne (Nat.ne_of_lt hb')]
      exact (hf b hb).1
  done := by
    intro X hP hw hK hc n pins s σ H E I hf st hg
    subst hP hw hK
    obtain ⟨⟨old, he⟩, hit, hne, nai, nea⟩ := st
    obtain ⟨xs, hq, hx⟩ := hg
    obtain ⟨its, rv, p, hz⟩ := I.tuple hq
    obtain ⟨f0, f1, f2, f3, f4, f5⟩ := hf it (by simp)
    have hl := rv.length
    have hn : its.toArray[n]? = none := by simp; omega
    exact wpAny_pyNext_enum_endD (draws_end (ar := X.A.in1) (I.ok.hd hc) it a its.toArray n hn) he ⟨rfl, hit, p⟩ fun h' eb => ⟨rfl, I.turned (t' := s.toks) (fun b ob hb q => eb b ob hb q) f0 f1 f3 f4 f5⟩
  self := fun ar n s Q E st h => let ⟨⟨_, he⟩, _⟩ := st; wpAny_pyIter_enum he h
def iEnumT (K : PySem.W.Frag) (ta : TA) : TI := fun σ H R => ta σ H fun vs H1 => ∃ a xs, vs = [.ref a] ∧ SqT K H1 a xs ∧ R (IteT K a) H1
theorem pi_enumT {X : Cx} {e : Expr} {ta : TA} {p pos tpos : Pos} {elts : List Expr} {kk : Nat} (hg : Gl X "enumerate") (hm : X.mg "enumerate" = none) (ha : PA X [e] ta) (hs : starEach [e] X.env = [(false, eval e X.env)] := by rfl) : PI X (.Tuple elts kk tpos) (.Call (.Name "enumerate" p) [e] [] pos) (iEnumT X.K ta) := by
  refine ⟨fun pins s σ H R I h => ?_⟩
  refine Call_ (ld_blt I hg hm PyProof.Rows.boot_enumerate (PyProof.Rows.callWith_type1 (thn (ha.run pos pins s σ H _ I h) fun us s1 ⟨vs, H1, I1, r1, a, xs, ex, hq, q⟩ => ?_) hs rfl))
  subst ex
  rw [Vals.ref1 r1]
  obtain ⟨its, rv, p', hz⟩ := I1.tuple hq
  obtain ⟨oa, hoa, _⟩ := id p'
  have la : a < s1.heap.objs.size := Heap.lt_size hoa
  refine enum_made (begins_tuple a its.toArray) p' fun h' he hit hk => wpAny_pyIter_enum he ?_
  have I2 : Inv X pins σ H1 { s1 with heap := h' } := I1.kept (t' := s1.toks) hk
  refine ⟨s1.heap.objs.size + 1, [s1.heap.objs.size + 1, s1.heap.objs.size], _, _, H1, rfl, I2, turn_enumT a (s1.heap.objs.size + 1) s1.heap.objs.size, ⟨⟨.none, he⟩, ⟨_, hit, rfl, rfl⟩, Nat.succ_ne_self _, Nat.ne_of_lt la, Nat.ne_of_gt (Nat.lt_succ_of_lt la)⟩, fun b hb => ?_, q⟩
  have hle : s1.heap.objs.size ≤ b := by
    rcases (show b = s1.heap.objs.size + 1 ∨ b = s1.heap.objs.size by simpa using hb) with z | z
    · rw [z]; exact Nat.le_add_right _ _
    · rw [z]; exact Nat.le_refl _
  exact I1.fpOk hle (I1.hok.fresh hle)
theorem walk_enumT {K : PySem.W.Frag} {a : Addr} {xs : List V} : Walk (IteT K a) xs.length (fun H => SqT K H a xs) (YPair (fun n => some (.int (n : Nat))) (fun n => xs[n]?)) := by
  refine ⟨fun n _ hn q => ⟨xs, xs[n], q, by simp [hn]⟩, fun _ q => ⟨xs, q, Nat.le_refl _⟩, fun n H v H' _ q y => ?_⟩
  obtain ⟨T, x, h1, h2, h3, h4⟩ := y
  exact ⟨T, .int (n : Nat), x, h1, h2, h3, rfl, h4 xs q⟩
end Lh

namespace Lh
open PySem PySem.Spec PyProof.Rows L2
theorem strict_of {ns : List Int} (h : ns.Pairwise (· ≤ ·)) (nd : ns.Nodup) : ns.Pairwise (· < ·) := by
  refine (h.and (List.nodup_iff_pairwise_ne.mp nd)).imp fun z => ?_
  have := z.1
  have := z.2
  omega
theorem cut_to {α : Type} (xs : List α) (k : Nat) (h : k ≤ xs.length) : cutI xs none (some (k : Int)) = xs.take k := by
  unfold cutI
  rw [HT.sIx_none, HT.sIx_nat, Nat.sub_zero, List.drop_zero, Nat.min_eq_left h]
theorem cut_from {α : Type} (xs : List α) (k : Nat) (h : k ≤ xs.length) : cutI xs (some (k : Int)) none = xs.drop k := by
  unfold cutI
  rw [HT.sIx_none, HT.sIx_nat, Nat.min_eq_left h]
  exact List.take_of_length_le (by rw [List.length_drop]; omega)
theorem rep_one (v : V) : ∀ n : Nat, (List.replicate n [v]).flatten = List.replicate n v
  | 0 => rfl
  | n + 1 => by rw [List.replicate_succ, List.flatten_cons, rep_one v n, List.replicate_succ]; rfl
theorem merge_get : ∀ (kv : List (Int × Int)) (acc : List (Key × V)) (p : Int), (∃ y, valV (mergeK acc (kvOf kv)) (Sum.inl p) = some (.int y) ∧ (p, y) ∈ kv) ∨ (p ∉ kv.map (·.1) ∧ valV (mergeK acc (kvOf kv)) (Sum.inl p) = valV acc (Sum.inl p))
  | [], acc, p => .inr ⟨by simp, rfl⟩
  | (a, b) :: t, acc, p => by
    have e : mergeK acc (kvOf ((a, b) :: t)) = mergeK (putK acc (Sum.inl a) (.int b)) (kvOf t) := rfl
    rw [e]
    rcases merge_get t (putK acc (Sum.inl a) (.int b)) p with ⟨y, h1, h2⟩ | ⟨h1, h2⟩
    · exact .inl ⟨y, h1, List.mem_cons_of_mem _ h2⟩
    · rw [h2, valV_put]
      by_cases c : p = a
      · subst c
        rw [if_pos rfl]
        exact .inl ⟨b, rfl, List.mem_cons_self⟩
      · have c' : ¬ (Sum.inl p : Key) = Sum.inl a := fun z => c (Sum.inl.inj z)
        rw [if_neg c']
        refine .inr ⟨fun z => ?_, rfl⟩
        rcases List.mem_cons.mp z with z | z
        · exact c z
        · exact h1 z
theorem pairs_at {H : Hp} {ps : List Addr} {lot : List (Int × Int)} (h : Paired (PairAtH H) ps lot) : ∀ (n : Nat) (h1 : n < ps.length) (h2 : n < lot.length), PairAtH H ps[n] lot[n] := by
  induction h with
  | nil => intro n h1; exact absurd h1 (by simp)
  | cons r t ih =>
    intro n h1 h2
    cases n with
    | zero => exact r
    | succ n => exact ih n (by simpa using h1) (by simpa using h2)
theorem lotI_pairs (r : Rule) (ns : List Int) (p : Int) : ((seenPairs r).filter fun q => decide (nth ns q.1 < nth ns p)).map (fun q => (q.1, nth ns q.1)) = lotI r ns p := by
  unfold lotI
  rw [← seen_persons r, List.filter_map, List.map_map]
  rfl
section
variable {P : Program} {w : World} {K : PySem.W.Frag} {mg : Str → Option Value} {base : Heap}
def spFlat : Sp := fun vs H Q _ => ∃ (bx : Addr) (c m : Int), vs = [.ref bx, .int m] ∧ 0 < m ∧ m ≤ 60 ∧ c + 1000 ≤ 1000000000 ∧ Box bx c H ∧
  ∀ (l : Addr) (us : List V) (rs : List Rule) (H' : Hp), Ext bx H H' → Box bx (c + 1000) H' → H l = none → H' l = some (.lst us) → RulesAt H' us rs → Halls rs → Q (.ref l) H'
def spShown : Sp := fun vs H Q _ => ∃ (bx l : Addr) (c : Int) (us : List V), vs = [.ref bx, .ref l] ∧ c + 100 ≤ 1000000000 ∧ us.length ≤ 60 ∧ Box bx c H ∧ H l = some (.lst us) ∧ l ≠ bx ∧
  ∀ (t : Addr) (ns : List Int) (H' : Hp), Ext bx H H' → Box bx (c + 100) H' → H t = none → TupAt H' t (ns.map V.int) → ns.length = us.length → (∀ n ∈ ns, 0 ≤ n) → Q (.ref t) H'
end
end Lh

namespace Lh
open PySem PySem.Spec PyProof.Rows L2
/-! ### rows -/
def lessN (ns : List Int) (v : Int) : Nat := (ns.filter fun x => decide (x < v)).length
def cntL (ns : List Int) (i : Nat) (v : Int) : Nat := ((List.range i).filter fun j : Nat => decide (nth ns j < v)).length
theorem tk_range (ns : List Int) {i : Nat} (h : i ≤ ns.length) : ns.take i = (List.range i).map fun j : Nat => nth ns j := by
  refine List.ext_getElem (by rw [List.length_map, List.length_range, List.length_take]; omega) fun j h1 h2 => ?_
  rw [List.getElem_map, List.getElem_range, List.getElem_take]
  have hj : j < ns.length := by rw [List.length_take] at h1; omega
  unfold nth
  rw [Int.toNat_natCast, List.getD_eq_getElem?_getD, List.getElem?_eq_getElem hj]
  rfl
theorem lessN_take (ns : List Int) {i : Nat} (h : i ≤ ns.length) (v : Int) : lessN (ns.take i) v = cntL ns i v := by
  unfold lessN cntL
  rw [tk_range ns h, List.filter_map, List.length_map]
  rfl
def aheadL (p : Nat) : List (Int × Int) := (List.range p).map fun o : Nat => ((o : Int), (1 : Int))
def rowR (n : Nat) : List Rule := (List.range n).map fun p => Rule.sum 0 (aheadL p)
theorem rowR_len (n : Nat) : (rowR n).length = n := by unfold rowR; rw [List.length_map, List.length_range]
theorem rowR_get {n p : Nat} (h : p < (rowR n).length) : (rowR n)[p] = .sum 0 (aheadL p) := by
  simp only [rowR, List.getElem_map, List.getElem_range]
theorem aheadL_len (p : Nat) : (aheadL p).length = p := by unfold aheadL; rw [List.length_map, List.length_range]
theorem aheadL_pers (p : Nat) : (aheadL p).map (·.1) = (List.range p).map fun o : Nat => (o : Int) := by unfold aheadL; rw [List.map_map]; rfl
theorem rowR_halls {n : Nat} (h1 : 1 ≤ n) (h2 : n ≤ 60) : Halls (rowR n) := by
  refine ⟨by rw [rowR_len]; exact h1, by rw [rowR_len]; exact h2, fun r hr => ?_⟩
  rw [rowR_len]
  obtain ⟨p, hp, rfl⟩ := List.mem_map.mp hr
  have hp' := List.mem_range.mp hp
  refine ⟨⟨by decide, by decide⟩, ?_, fun q hq => ?_⟩
  · rw [aheadL_pers]
    refine ⟨List.Pairwise.map _ (fun a b z => by show (a : Int) < (b : Int); omega) List.pairwise_lt_range, fun x hx => ?_⟩
    obtain ⟨k, hk, rfl⟩ := List.mem_map.mp hx
    have := List.mem_range.mp hk
    show 0 ≤ (k : Int) ∧ (k : Int) < n
    omega
  · obtain ⟨k, hk, rfl⟩ := List.mem_map.mp hq
    exact ⟨Int.le_refl 1, show (1 : Int) ≤ 1000 by decide⟩
theorem wgt_row {p : Nat} {o : Int} (h : o ∈ (aheadL p).map (·.1)) : wgt (aheadL p) o = 1 := by
  have key : ∀ l : List (Int × Int), (∀ q ∈ l, q.2 = 1) → o ∈ l.map (·.1) → wgt l o = 1 := fun l => by
    induction l with
    | nil => exact fun _ h => absurd h (by simp)
    | cons q t ih =>
      intro h1 h
      unfold wgt
      rw [List.find?_cons]
      by_cases e : q.1 = o
      · rw [decide_eq_true e]
        exact h1 q List.mem_cons_self
      · rw [decide_eq_false e]
        refine ih (fun q hq => h1 q (List.mem_cons_of_mem _ hq)) ?_
        rw [List.map_cons, List.mem_cons] at h
        rcases h with h | h
        · exact absurd h.symm e
        · exact h
  refine key _ (fun q hq => ?_) h
  obtain ⟨k, _, rfl⟩ := List.mem_map.mp hq
  rfl
theorem sum_ones {α : Type} (f : α → Int) : ∀ {l : List α}, (∀ q ∈ l, f q = 1) → (l.map f).sum = l.length
  | [], _ => rfl
  | x :: t, h => by
    rw [List.map_cons, List.sum_cons, h x List.mem_cons_self, sum_ones f (fun q hq => h q (List.mem_cons_of_mem _ hq)), List.length_cons]
    omega
theorem row_tell {n p : Nat} {ns : List Int} {y : Int} (hp : p < (rowR n).length) : Tell (rowR n)[p] (lotI (rowR n)[p] ns p) y ↔ y = cntL ns p (nth ns p) := by
  rw [rowR_get hp]
  show y = (0 : Int) + _ ↔ _
  rw [sum_ones _ (fun q hq => wgt_row (lotI_in q hq)), Int.zero_add]
  have : (lotI (.sum 0 (aheadL p)) ns p).length = cntL ns p (nth ns p) := by
    unfold lotI cntL
    rw [List.length_map, show (Rule.sum 0 (aheadL p)).persons = (aheadL p).map (·.1) from rfl, aheadL_pers, List.filter_map, List.length_map]
    rfl
  rw [this]
def rowB (ns : List Int) : List Int := (List.range ns.length).map fun i : Nat => (cntL ns i (nth ns i) : Int)
theorem rowB_len (ns : List Int) : (rowB ns).length = ns.length := by unfold rowB; rw [List.length_map, List.length_range]
theorem rowB_nth (ns : List Int) {i : Nat} (h : i < ns.length) : nth (rowB ns) i = cntL ns i (nth ns i) := by
  show (rowB ns).getD ((i : Int)).toNat 0 = _
  unfold rowB
  rw [Int.toNat_natCast, List.getD_eq_getElem?_getD, List.getElem?_map, List.getElem?_range h]
  rfl
theorem row_beat {n : Nat} {ns : List Int} (hn : ns.length = n) : Beat (rowR n) ns (rowB ns) := by
  refine ⟨rowB_len ns, fun i hi => ⟨fun _ => ?_, fun z => absurd trivial z⟩⟩
  have hi' : i < n := by rw [rowR_len] at hi; exact hi
  exact (row_tell hi).mpr (rowB_nth ns (by omega))
def rowN (ns : List Int) : Nat → List Int
  | 0 => ns
  | k + 1 => rowB (rowN ns k)
theorem rowN_len (ns : List Int) : ∀ k, (rowN ns k).length = ns.length
  | 0 => rfl
  | k + 1 => by
    show (rowB (rowN ns k)).length = _
    rw [rowB_len, rowN_len ns k]
theorem row_beatN {n : Nat} {ns : List Int} (hn : ns.length = n) : ∀ k, beatN (rowR n) ns k = rowN ns k
  | 0 => rfl
  | k + 1 => by
    have hl : ns.length = (rowR n).length := by rw [rowR_len]; exact hn
    have s := beatN_step hl k
    rw [row_beatN hn k] at s
    exact s.unique (by rw [rowN_len]; exact hl) (row_beat (by rw [rowN_len]; exact hn))
theorem cntL_le (ns : List Int) (i : Nat) (v : Int) : cntL ns i v ≤ i := by
  unfold cntL
  exact Nat.le_trans (List.length_filter_le _ _) (by rw [List.length_range]; exact Nat.le_refl _)
theorem cntL_step (ns : List Int) (i : Nat) (v : Int) : cntL ns (i + 1) v = cntL ns i v + (if nth ns i < v then 1 else 0) := by
  unfold cntL
  rw [List.range_succ, List.filter_append, List.length_append, List.filter_cons, List.filter_nil]
  by_cases c : nth ns i < v
  · rw [if_pos (decide_eq_true c), if_pos c]; rfl
  · rw [if_neg (by rw [decide_eq_false c]; exact Bool.false_ne_true), if_neg c]; rfl
/-- nobody shows more than stand ahead -/
def Low (ns : List Int) : Prop := ∀ i : Nat, i < ns.length → 0 ≤ nth ns i ∧ nth ns i ≤ i
theorem rowB_low (ns : List Int) : Low (rowB ns) := fun i hi => by
  rw [rowB_len] at hi
  rw [rowB_nth ns hi]
  have := cntL_le ns i (nth ns i)
  omega
theorem rowN_low (ns : List Int) (k : Nat) : Low (rowN ns (k + 1)) := rowB_low _
theorem Low.cnt {ns : List Int} (h : Low ns) : ∀ (i : Nat), i ≤ ns.length → ∀ v : Nat, v ≤ i → v ≤ cntL ns i (v : Int)
  | 0, _, v, hv => by omega
  | i + 1, hi, v, hv => by
    rw [cntL_step]
    by_cases c : v = i + 1
    · have ih := Low.cnt h i (by omega) i (Nat.le_refl _)
      have mo : cntL ns i (i : Int) ≤ cntL ns i (v : Int) := by
        unfold cntL
        rw [← List.countP_eq_length_filter, ← List.countP_eq_length_filter]
        exact List.countP_mono_left fun j _ hj => decide_eq_true (by have := of_decide_eq_true hj; omega)
      have := (h i (by omega)).2
      rw [if_pos (by omega)]
      omega
    · have ih := Low.cnt h i (by omega) v (by omega)
      omega
theorem Low.up {ns : List Int} (h : Low ns) {i : Nat} (hi : i < ns.length) : nth ns i ≤ nth (rowB ns) i := by
  rw [rowB_nth ns hi]
  have := h i hi
  have c := h.cnt i (by omega) (nth ns i).toNat (by omega)
  rw [show (((nth ns i).toNat : Nat) : Int) = nth ns i by omega] at c
  omega
theorem cnt_anti {ns ms : List Int} {v : Int} : ∀ (i : Nat), (∀ j : Nat, j < i → nth ns j ≤ nth ms j) → cntL ms i v ≤ cntL ns i v
  | 0, _ => Nat.le_refl _
  | i + 1, h => by
    have ih := cnt_anti (v := v) i fun j hj => h j (by omega)
    have := h i (by omega)
    rw [cntL_step, cntL_step]
    by_cases c : nth ms i < v
    · rw [if_pos c, if_pos (by omega)]; omega
    · rw [if_neg c]; omega
theorem Low.pause {ns : List Int} (h : Low ns) {i : Nat} (hi : i < ns.length) (e : nth (rowB ns) i = nth ns i) : nth (rowB (rowB ns)) i = nth (rowB ns) i := by
  have h2 := rowB_low ns
  have hi2 : i < (rowB ns).length := by rw [rowB_len]; exact hi
  have u := h2.up hi2
  rw [rowB_nth ns hi] at e
  have a := cnt_anti (ns := ns) (ms := rowB ns) (v := nth ns i) i fun j hj => h.up (by omega)
  rw [rowB_nth (rowB ns) hi2, rowB_nth ns hi, e]
  rw [rowB_nth (rowB ns) hi2, rowB_nth ns hi, e] at u
  omega
theorem row_paused {ns : List Int} {i t : Nat} (hi : i < ns.length) (e : nth (rowN ns (t + 2)) i = nth (rowN ns (t + 1)) i) : ∀ k, nth (rowN ns (t + 1 + k)) i = nth (rowN ns (t + 1)) i := by
  have st : ∀ k, nth (rowN ns (t + 1 + k + 1)) i = nth (rowN ns (t + 1 + k)) i := fun k => by
    induction k with
    | zero => exact e
    | succ k ih =>
      have lo : Low (rowN ns (t + 1 + k)) := by
        have := rowN_low ns (t + k)
        rw [show t + k + 1 = t + 1 + k by omega] at this
        exact this
      exact lo.pause (by rw [rowN_len]; exact hi) ih
  intro k
  induction k with
  | zero => rfl
  | succ k ih => exact (st k).trans ih
/-- each has paused by the beat of its own place -/
theorem row_early {ns : List Int} {i : Nat} (hi : i < ns.length) : ∃ t, t + 1 ≤ max 1 i ∧ nth (rowN ns (t + 2)) i = nth (rowN ns (t + 1)) i := by
  by_cases ex : ∃ t, t + 1 ≤ max 1 i ∧ nth (rowN ns (t + 2)) i = nth (rowN ns (t + 1)) i
  · exact ex
  exfalso
  have ne : ∀ t, t + 1 ≤ max 1 i → nth (rowN ns (t + 2)) i ≠ nth (rowN ns (t + 1)) i := fun t h e => ex ⟨t, h, e⟩
  have up : ∀ t, t + 1 ≤ max 1 i → nth (rowN ns 1) i + (t + 1) ≤ nth (rowN ns (t + 2)) i := fun t => by
    induction t with
    | zero =>
      intro h
      have u := (rowN_low ns 0).up (i := i) (by rw [rowN_len]; exact hi)
      have n0 := ne 0 h
      have u' : nth (rowN ns 1) i ≤ nth (rowN ns 2) i := u
      have n0' : nth (rowN ns 2) i ≠ nth (rowN ns 1) i := n0
      show nth (rowN ns 1) i + (((0 : Nat) : Int) + 1) ≤ nth (rowN ns 2) i
      omega
    | succ t ih =>
      intro h
      have a := ih (by omega)
      have u := (rowN_low ns (t + 1)).up (i := i) (by rw [rowN_len]; exact hi)
      have n0 := ne (t + 1) h
      have u' : nth (rowN ns (t + 2)) i ≤ nth (rowN ns (t + 3)) i := u
      have n0' : nth (rowN ns (t + 3)) i ≠ nth (rowN ns (t + 2)) i := n0
      show nth (rowN ns 1) i + (((t + 1 : Nat) : Int) + 1) ≤ nth (rowN ns (t + 3)) i
      omega
  have z : nth (rowN ns 1) i ≠ 0 := fun e => by
    refine ne 0 (by omega) ?_
    show nth (rowB (rowN ns 1)) i = nth (rowN ns 1) i
    rw [rowB_nth _ (by rw [rowN_len]; exact hi), e]
    have : cntL (rowN ns 1) i 0 = 0 := by
      unfold cntL
      rw [List.length_eq_zero_iff, List.filter_eq_nil_iff]
      intro j hj
      have := (rowN_low ns 0 j (by rw [rowN_len]; have := List.mem_range.mp hj; omega)).1
      simp
      exact this
    rw [this]
    rfl
  have b1 := rowN_low ns 0 i (by rw [rowN_len]; exact hi)
  have b2 := rowN_low ns (max 1 i) i (by rw [rowN_len]; exact hi)
  have u := up (max 1 i - 1) (by omega)
  rw [show max 1 i - 1 + 2 = max 1 i + 1 by omega] at u
  have b1' : 0 ≤ nth (rowN ns 1) i ∧ nth (rowN ns 1) i ≤ i := b1
  omega
theorem row_still {ns : List Int} {i : Nat} (hi : i < ns.length) : ∀ k, nth (rowN ns (max 1 i + k)) i = nth (rowN ns (max 1 i)) i := fun k => by
  obtain ⟨t, ht, e⟩ := row_early hi
  have p := row_paused hi e
  have a := p (max 1 i - (t + 1) + k)
  have b := p (max 1 i - (t + 1))
  rw [show t + 1 + (max 1 i - (t + 1) + k) = max 1 i + k by omega] at a
  rw [show t + 1 + (max 1 i - (t + 1)) = max 1 i by omega] at b
  rw [a, b]
theorem row_all {ns : List Int} {m : Nat} (h : ∀ i, i < ns.length → max 1 i ≤ m) (k : Nat) : rowN ns (m + k) = rowN ns m := by
  refine nth_ext (by rw [rowN_len, rowN_len]) fun i hi => ?_
  rw [rowN_len] at hi
  have := h i hi
  have a := row_still hi (m - max 1 i + k)
  have b := row_still hi (m - max 1 i)
  rw [show max 1 i + (m - max 1 i + k) = m + k by omega] at a
  rw [show max 1 i + (m - max 1 i) = m by omega] at b
  rw [a, b]
/-! rests of rows and their stops -/
def RowRest (ns : List Int) : Prop := ∀ i : Nat, i < ns.length → nth ns i = cntL ns i (nth ns i)
theorem RowRest.low {ns : List Int} (h : RowRest ns) : Low ns := fun i hi => by
  have := cntL_le ns i (nth ns i)
  have e := h i hi
  omega
theorem rowRest_iff {ns : List Int} : RowRest ns ↔ rowB ns = ns := by
  constructor
  · intro h
    refine nth_ext (rowB_len ns) fun i hi => ?_
    rw [rowB_len] at hi
    rw [rowB_nth ns hi, ← h i hi]
  · intro h i hi
    have := rowB_nth ns hi
    rw [h] at this
    exact this
def stopsR (ns : List Int) (k : Nat) : List Int := ((List.range (k + 1)).filter fun v : Nat => decide (cntL ns k (v : Int) = v)).map fun v : Nat => (v : Int)
theorem stopsR_mem {ns : List Int} {k : Nat} {x : Int} : x ∈ stopsR ns k ↔ 0 ≤ x ∧ x ≤ k ∧ (cntL ns k x : Int) = x := by
  unfold stopsR
  rw [List.mem_map]
  constructor
  · rintro ⟨v, hv, rfl⟩
    obtain ⟨h1, h2⟩ := List.mem_filter.mp hv
    have := List.mem_range.mp h1
    have := of_decide_eq_true h2
    omega
  · rintro ⟨h1, h2, h3⟩
    have e : ((x.toNat : Nat) : Int) = x := by omega
    exact ⟨x.toNat, List.mem_filter.mpr ⟨List.mem_range.mpr (by omega), decide_eq_true (by rw [e]; omega)⟩, e⟩
theorem stopsR_len (ns : List Int) (k : Nat) : (stopsR ns k).length ≤ k + 1 := by
  unfold stopsR
  rw [List.length_map]
  exact Nat.le_trans (List.length_filter_le _ _) (by rw [List.length_range]; exact Nat.le_refl _)
theorem stopsR_zero (ns : List Int) : stopsR ns 0 = [0] := rfl
theorem RowRest.stop {ns : List Int} (h : RowRest ns) {k : Nat} (hk : k < ns.length) : nth ns k ∈ stopsR ns k := by
  have := h.low k hk
  exact stopsR_mem.mpr ⟨this.1, this.2, (h k hk).symm⟩
theorem stopsR_step {ns : List Int} (h : Low ns) {k : Nat} (hk : k < ns.length) : (stopsR ns k).filter (fun s => decide (s ≤ nth ns k)) ++ [(k : Int) + 1] = stopsR ns (k + 1) := by
  unfold stopsR
  rw [List.range_succ (n := k + 1), List.filter_append, List.map_append]
  have last : [k + 1].filter (fun v : Nat => decide (cntL ns (k + 1) (v : Int) = v)) = [k + 1] := by
    rw [List.filter_cons, if_pos, List.filter_nil]
    refine decide_eq_true ?_
    have a := cntL_le ns (k + 1) ((k + 1 : Nat) : Int)
    have b := h.cnt (k + 1) (by omega) (k + 1) (Nat.le_refl _)
    omega
  rw [last, List.filter_map, List.filter_filter]
  congr 1
  congr 1
  refine List.filter_congr fun v hv => ?_
  have hv' := List.mem_range.mp hv
  show (decide (((v : Nat) : Int) ≤ nth ns k) && decide (cntL ns k (v : Int) = v)) = decide (cntL ns (k + 1) (v : Int) = v)
  have c := h.cnt k (by omega) v (by omega)
  rw [cntL_step]
  by_cases z : nth ns k < (v : Int)
  · rw [if_pos z, decide_eq_false (by omega), Bool.false_and, decide_eq_false (by omega)]
  · rw [if_neg z, decide_eq_true (by omega), Bool.true_and, Nat.add_zero]
end Lh

namespace Lh
open PySem PySem.Spec PyProof.Rows L2
theorem cutV_id (xs : List V) (lo hi : Option Int) : cutV xs lo hi = cutI xs lo hi := by
  have h := cut_map id xs lo hi
  rw [List.map_id, List.map_id] at h
  exact h
theorem sl_tup_use {K : PySem.W.Frag} {H : Hp} {a : Addr} {xs : List V} {lo hi : Option Int} {Q : VK} (h : TupAt H a xs) (q : ∀ (c : Addr) (H' : Hp), Same H H' → TupAt H' c (cutI xs lo hi) → Q (.ref c) H') : rSlA K (.ref a) lo hi H Q := by
  refine ⟨a, xs, rfl, h.sq, fun w => q a H (Same.refl _) ?_, fun _ p np => q p _ (same_upd np) (.inl (by rw [upd_same, cutV_id]))⟩
  have e : cutI xs lo hi = xs := by
    unfold cutI
    rw [w.1, w.2, List.drop_zero, Nat.sub_zero, List.take_length]
  rw [e]; exact h
theorem cat_use {K : PySem.W.Frag} {H : Hp} {a b : Addr} {xs ys : List V} {Q : VK} (ha : TupAt H a xs) (hb : TupAt H b ys) (hz : xs.length + ys.length ≤ sizeLine) (q : ∀ (c : Addr) (H' : Hp), Same H H' → TupAt H' c (xs ++ ys) → Q (.ref c) H') : rCatA K (.ref a) (.ref b) H Q := by
  refine ⟨a, b, xs, ys, rfl, rfl, ha.sq, hb.sq, hz, fun e => q b H (Same.refl _) (by rw [e]; exact hb), fun _ e => q a H (Same.refl _) (by rw [e, List.append_nil]; exact ha), fun _ _ p np => q p _ (same_upd np) (.inl upd_same)⟩
/-- the standing in which p shows v -/
theorem put_at {ns : List Int} {p : Nat} (hp : p < ns.length) (v : V) : cutI (ns.map V.int) none (some (p : Int)) ++ [v] ++ cutI (ns.map V.int) (some ((p : Int) + 1)) none = (ns.map V.int).set p v := by
  rw [cut_to _ _ (by rw [List.length_map]; omega), show (p : Int) + 1 = ((p + 1 : Nat) : Int) by omega, cut_from _ _ (by rw [List.length_map]; omega), List.set_eq_take_append_cons_drop, if_pos (by rw [List.length_map]; exact hp), List.append_assoc]
  rfl
end Lh

namespace Lh
open PySem PySem.Spec PyProof.Rows L2
section
variable {P : Program} {w : World} {K : PySem.W.Frag} {mg : Str → Option Value} {base : Heap}
def spOneOf : Sp := fun vs H Q _ => ∃ (bx a : Addr) (c : Int) (os : List V), vs = [.ref bx, .ref a] ∧ H a = some (.lst os) ∧ a ≠ bx ∧ 1 ≤ os.length ∧ os.length ≤ 1000 ∧ c + 1 ≤ 1000000000 ∧ Box bx c H ∧
  ∀ (v : V) (H' : Hp), v ∈ os → Ext bx H H' → Box bx (c + 1) H' → Q v H'
end
end Lh

namespace Lh
open PySem PySem.Spec PyProof.Rows L2
/-! ### comprehensions that leave all as it was -/
theorem lc_map {J : It} {n : Nat} {G : Hp → Prop} {Y : Nat → Hp → V → Hp → Prop} (wk : Walk J n G Y) {g : TG} {te : TE} {vs : List Nat} {σ : L2.St} {H1 : Hp} {D : Addr} {Qd : Hp → Prop} (f : Nat → V) (hD : H1 D = none) (hn : n ≤ 1000) (hG : ∀ H3, Same H1 H3 → G H3)
    (hs : ∀ i x H3 H4, i < n → Same H1 H3 → Y i H3 x H4 → ∀ (Q : VK) (Z : Hp → Prop), (∀ H5, Same H3 H5 → Q (f i) H5) → g x (wipe σ vs) H4 fun σ2 H2 => wipe σ2 vs = wipe σ vs ∧ tYes σ2 H2 fun b H3 => if b = true then te σ2 H3 Q else Z H3)
    (hq : ∀ H', Same H1 H' → H' D = some (.lst ((List.range n).map f)) → Qd H') :
    ∃ W : Nat → Nat → Hp → Prop, (∃ m, W 0 m (upd H1 D (.lst []))) ∧ ∀ i m H, W i m H →
      (J.stop i H ∧ Qd H) ∨ (J.go i H ∧ ∃ Nx : Hp → Prop, (∀ H', Nx H' → ∃ m', m' < m ∧ W (i + 1) m' H') ∧ ∀ x H', J.yld i H x H' → g x (wipe σ vs) H' fun σ2 H2 => wipe σ2 vs = wipe σ vs ∧ tYes σ2 H2 fun b H3 =>
        if b = true then te σ2 H3 fun y H4 => ∃ acc, H4 D = some (.lst acc) ∧ acc.length < sizeLine ∧ Nx (upd H4 D (.lst (acc ++ [y]))) else Nx H3) := by
  refine lc_it wk (fun i H3 => Same H1 H3 ∧ H3 D = some (.lst ((List.range i).map f))) ⟨same_upd hD, upd_same⟩ (fun i H3 _ h => hG H3 h.1) ?_ (fun H3 h => hq H3 h.1 h.2)
  rintro i x H3 H4 hi ⟨sm, h3⟩ hy
  refine hs i x H3 H4 hi sm hy _ _ (fun H5 s5 => ⟨_, s5 _ _ h3, ?_, same_mut (sm.trans s5) hD, ?_⟩)
  · rw [List.length_map, List.length_range]; exact small1000 (by omega)
  · rw [upd_same, List.range_succ, List.map_append]; rfl
theorem lc_filt {J : It} {n : Nat} {G : Hp → Prop} {Y : Nat → Hp → V → Hp → Prop} (wk : Walk J n G Y) {g : TG} {tt : TT} {te : TE} {vs : List Nat} {σ : L2.St} {H1 : Hp} {D : Addr} {Qd : Hp → Prop} (p : Nat → Bool) (f : Nat → V) (hD : H1 D = none) (hn : n ≤ 1000) (hG : ∀ H3, Same H1 H3 → G H3)
    (hs : ∀ i x H3 H4, i < n → Same H1 H3 → Y i H3 x H4 → ∀ (Q : VK) (Z : Hp → Prop), (p i = true → ∀ H5, Same H3 H5 → Q (f i) H5) → (p i = false → ∀ H5, Same H3 H5 → Z H5) → g x (wipe σ vs) H4 fun σ2 H2 => wipe σ2 vs = wipe σ vs ∧ tt σ2 H2 fun b H3 => if b = true then te σ2 H3 Q else Z H3)
    (hq : ∀ H', Same H1 H' → H' D = some (.lst (((List.range n).filter p).map f)) → Qd H') :
    ∃ W : Nat → Nat → Hp → Prop, (∃ m, W 0 m (upd H1 D (.lst []))) ∧ ∀ i m H, W i m H →
      (J.stop i H ∧ Qd H) ∨ (J.go i H ∧ ∃ Nx : Hp → Prop, (∀ H', Nx H' → ∃ m', m' < m ∧ W (i + 1) m' H') ∧ ∀ x H', J.yld i H x H' → g x (wipe σ vs) H' fun σ2 H2 => wipe σ2 vs = wipe σ vs ∧ tt σ2 H2 fun b H3 =>
        if b = true then te σ2 H3 fun y H4 => ∃ acc, H4 D = some (.lst acc) ∧ acc.length < sizeLine ∧ Nx (upd H4 D (.lst (acc ++ [y]))) else Nx H3) := by
  refine lc_it wk (fun i H3 => Same H1 H3 ∧ H3 D = some (.lst (((List.range i).filter p).map f))) ⟨same_upd hD, upd_same⟩ (fun i H3 _ h => hG H3 h.1) ?_ (fun H3 h => hq H3 h.1 h.2)
  rintro i x H3 H4 hi ⟨sm, h3⟩ hy
  refine hs i x H3 H4 hi sm hy _ _ (fun z H5 s5 => ⟨_, s5 _ _ h3, ?_, same_mut (sm.trans s5) hD, ?_⟩) (fun z H5 s5 => ⟨sm.trans s5, ?_⟩)
  · rw [List.length_map]; exact small1000 (Nat.le_trans (List.length_filter_le _ _) (by rw [List.length_range]; omega))
  · rw [upd_same, List.range_succ, List.filter_append, List.map_append, List.filter_cons, if_pos z]; rfl
  · rw [s5 _ _ h3, List.range_succ, List.filter_append, List.filter_cons, if_neg (by rw [z]; exact Bool.false_ne_true), List.filter_nil, List.append_nil]
/-! ### lines -/
noncomputable def tellF (r : Rule) (lot : List (Int × Int)) : Int := Classical.choose (Tell.ex r lot)
theorem tellF_ok (r : Rule) (lot : List (Int × Int)) : Tell r lot (tellF r lot) := Classical.choose_spec (Tell.ex r lot)
theorem Tell.eqF {r : Rule} {lot : List (Int × Int)} {y : Int} (h : Tell r lot y) : y = tellF r lot := h.unique (tellF_ok r lot)
/-- what p is told of those below h -/
noncomputable def toldH (rs : List Rule) (ns : List Int) (p : Nat) (h : Int) : Int := tellF (rs.getD p (.held 0)) (lotH (rs.getD p (.held 0)) ns h)
theorem getD_at {rs : List Rule} {p : Nat} (hp : p < rs.length) : rs.getD p (.held 0) = rs[p] := by
  rw [List.getD_eq_getElem?_getD, List.getElem?_eq_getElem hp]; rfl
theorem toldH_of {rs : List Rule} {ns : List Int} {p : Nat} {h y : Int} (hp : p < rs.length) (t : Tell rs[p] (lotH rs[p] ns h) y) : y = toldH rs ns p h := by
  unfold toldH
  rw [getD_at hp]
  exact t.eqF
theorem toldH_ok {rs : List Rule} {ns : List Int} {p : Nat} {h : Int} (hp : p < rs.length) : Tell rs[p] (lotH rs[p] ns h) (toldH rs ns p h) := by
  unfold toldH
  rw [getD_at hp]
  exact tellF_ok _ _
theorem toldH_at {rs : List Rule} {ns : List Int} {p : Nat} {y : Int} (hp : p < rs.length) (t : Tell rs[p] (lotI rs[p] ns p) y) : y = toldH rs ns p (nth ns p) := toldH_of hp t
noncomputable def keepB (rs : List Rule) (ns : List Int) (h : Int) (p : Nat) : Bool := if nth ns p < h then decide (toldH rs ns p (nth ns p) = nth ns p) else decide (h ≤ toldH rs ns p h)
noncomputable def lineB (rs : List Rule) (ns : List Int) (h : Int) : Bool := (List.range rs.length).all fun p => keepB rs ns h p
def IsMin (l : List Int) (m : Int) : Prop := m ∈ l ∧ ∀ y ∈ l, m ≤ y
theorem IsMin.unique {l : List Int} {a b : Int} (x : IsMin l a) (y : IsMin l b) : a = b := Int.le_antisymm (x.2 _ y.1) (y.2 _ x.1)
noncomputable def minOf (l : List Int) : Int := open Classical in if h : ∃ m, IsMin l m then Classical.choose h else 0
theorem IsMin.eq {l : List Int} {a : Int} (x : IsMin l a) : a = minOf l := by
  unfold minOf
  rw [dif_pos ⟨a, x⟩]
  exact x.unique (Classical.choose_spec (⟨a, x⟩ : ∃ m, IsMin l m))
theorem min_ex : ∀ xs : List Int, xs ≠ [] → ∃ x, IsMin xs x
  | [], h => absurd rfl h
  | [x], _ => ⟨x, List.mem_cons_self, fun y hy => by rw [List.mem_singleton.mp hy]; exact Int.le_refl _⟩
  | x :: z :: t, _ => by
    obtain ⟨m, h1, h2⟩ := min_ex (z :: t) (by simp)
    rcases Int.le_total m x with c | c
    · refine ⟨m, List.mem_cons_of_mem _ h1, fun y hy => ?_⟩
      rcases List.mem_cons.mp hy with rfl | hy
      · exact c
      · exact h2 y hy
    · refine ⟨x, List.mem_cons_self, fun y hy => ?_⟩
      rcases List.mem_cons.mp hy with rfl | hy
      · exact Int.le_refl _
      · exact Int.le_trans c (h2 y hy)
theorem minOf_ok {xs : List Int} (h : xs ≠ []) : IsMin xs (minOf xs) := by
  obtain ⟨m, hm⟩ := min_ex xs h
  rw [← hm.eq]; exact hm
/-- those who show top or more, and what they are told of the others -/
noncomputable def topL (rs : List Rule) (ns : List Int) (top : Int) : List Int := top :: ((List.range rs.length).filter fun p : Nat => decide (top ≤ nth ns p)).map fun p => toldH rs ns p top
noncomputable def topM (rs : List Rule) (ns : List Int) (top : Int) : Int := minOf (topL rs ns top)
theorem topM_ok (rs : List Rule) (ns : List Int) (top : Int) : IsMin (topL rs ns top) (topM rs ns top) := minOf_ok (by unfold topL; simp)
theorem toldH_nn {rs : List Rule} {ns : List Int} {p : Nat} {h : Int} (hh : Halls rs) (hp : p < rs.length) (nn : ∀ n ∈ ns, 0 ≤ n) (h0 : 0 ≤ h) : 0 ≤ toldH rs ns p h := (tell_bnd (nth_pos nn) h0 (hh.2.2 _ (List.getElem_mem hp)) (toldH_ok hp)).1
theorem topM_nn {rs : List Rule} {ns : List Int} {top : Int} (hh : Halls rs) (nn : ∀ n ∈ ns, 0 ≤ n) (h0 : 0 ≤ top) : 0 ≤ topM rs ns top := by
  have h1 := (topM_ok rs ns top).1
  unfold topL at h1
  rcases List.mem_cons.mp h1 with e | e
  · omega
  · obtain ⟨p, hp, e⟩ := List.mem_map.mp e
    have h2 := List.mem_range.mp (List.mem_filter.mp hp).1
    rw [← e]
    exact toldH_nn hh h2 nn h0
theorem nth_mem {ns : List Int} {p : Nat} (h : p < ns.length) : nth ns p ∈ ns := by
  unfold nth
  rw [Int.toNat_natCast, List.getD_eq_getElem?_getD, List.getElem?_eq_getElem h]
  exact List.getElem_mem h
/-- of the least number shown it's a line -/
theorem line_least {rs : List Rule} {ns : List Int} (hh : Halls rs) (hn : ns.length = rs.length) : ∃ top ∈ ns, lineB rs ns (topM rs ns top) = true := by
  have h0 := hh.1
  obtain ⟨top, h1, h2⟩ := min_ex ns (by intro z; rw [z] at hn; rw [← hn] at h0; exact absurd h0 (by decide))
  refine ⟨top, h1, ?_⟩
  unfold lineB
  rw [List.all_eq_true]
  intro p hp
  have hp' := List.mem_range.mp hp
  have tp := h2 _ (nth_mem (ns := ns) (p := p) (by omega))
  have mk := topM_ok rs ns top
  have le : topM rs ns top ≤ top := mk.2 _ List.mem_cons_self
  unfold keepB
  rw [if_neg (by omega)]
  refine decide_eq_true ?_
  have e : toldH rs ns p (topM rs ns top) = toldH rs ns p top := by
    have none : ∀ h : Int, h ≤ top → lotH rs[p] ns h = [] := fun h hl => by
      unfold lotH
      rw [List.filter_eq_nil_iff.mpr, List.map_nil]
      intro o ho
      have io := per_in hh hp' o ho
      have h3 := h2 _ (nth_mem (ns := ns) (p := o.toNat) (by omega))
      have h4 : nth ns o = nth ns (o.toNat : Nat) := nth_nat o
      simp
      omega
    unfold toldH
    rw [getD_at hp', none _ le, none _ (Int.le_refl _)]
  rw [e]
  exact mk.2 _ (List.mem_cons_of_mem _ (List.mem_map_of_mem (List.mem_filter.mpr ⟨hp, decide_eq_true tp⟩)))
/-- the greatest of these lines -/
def WlIs (rs : List Rule) (ns : List Int) (m : Int) : Prop := (∃ top ∈ ns, m = topM rs ns top ∧ lineB rs ns m = true) ∧ ∀ top ∈ ns, lineB rs ns (topM rs ns top) = true → topM rs ns top ≤ m
theorem WlIs.unique {rs : List Rule} {ns : List Int} {a b : Int} (x : WlIs rs ns a) (y : WlIs rs ns b) : a = b := by
  obtain ⟨⟨t1, m1, e1, l1⟩, g1⟩ := x
  obtain ⟨⟨t2, m2, e2, l2⟩, g2⟩ := y
  have h1 := g1 t2 m2 (by rw [← e2]; exact l2)
  have h2 := g2 t1 m1 (by rw [← e1]; exact l1)
  omega
def Wl (rs : List Rule) (ns : List Int) : Option Int → Prop
  | none => Rest rs ns
  | some m => ¬ Rest rs ns ∧ WlIs rs ns m
theorem Wl.unique {rs : List Rule} {ns : List Int} : ∀ {a b : Option Int}, Wl rs ns a → Wl rs ns b → a = b
  | none, none, _, _ => rfl
  | none, some _, x, y => absurd x y.1
  | some _, none, x, y => absurd y x.1
  | some _, some _, x, y => by rw [x.2.unique y.2]
def vO : Option Int → V
  | none => .non
  | some m => .int m
def dO : Option Int → PyData
  | none => .none
  | some m => .int m
theorem rp_vO {bx : Addr} {H : Hp} : ∀ o : Option Int, Rp bx H (vO o) (dO o)
  | none => .non
  | some m => .int m
theorem okD_vO {n : Nat} : ∀ o : Option Int, okD n (dO o)
  | none => by cases n <;> trivial
  | some m => by cases n <;> trivial
noncomputable def firmB (rs : List Rule) (ns : List Int) (h : Int) (p : Nat) : Bool := if nth ns p = h then decide (toldH rs ns p (nth ns p) = h) else decide (nth ns p < h)
noncomputable def firmL (rs : List Rule) (ns : List Int) : Option Int → List Int
  | none => (List.range rs.length).map fun k : Nat => (k : Int)
  | some h => ((List.range rs.length).filter fun p => firmB rs ns h p).map fun k : Nat => (k : Int)
theorem firmL_len (rs : List Rule) (ns : List Int) : ∀ o : Option Int, (firmL rs ns o).length ≤ rs.length
  | none => by unfold firmL; rw [List.length_map, List.length_range]; exact Nat.le_refl _
  | some h => by
    unfold firmL
    rw [List.length_map]
    exact Nat.le_trans (List.length_filter_le _ _) (by rw [List.length_range]; exact Nat.le_refl _)
end Lh

namespace Lh
open PySem PySem.Spec PyProof.Rows L2
theorem as_rangeR (as : List Int) : as = (List.range as.length).map fun i => as.getD i 0 := by
  refine List.ext_getElem (by rw [List.length_map, List.length_range]) fun i h1 h2 => ?_
  rw [List.getElem_map, List.getElem_range, List.getD_eq_getElem?_getD, List.getElem?_eq_getElem h1]
  rfl
theorem filt_rangeR (as : List Int) (p : Int → Bool) (f : Int → V) : ((List.range as.length).filter fun i => p (as.getD i 0)).map (fun i => f (as.getD i 0)) = (as.filter p).map f := by
  conv => rhs; rw [as_rangeR as]
  rw [List.filter_map, List.map_map]
  rfl
theorem getD_inR {as : List Int} {i : Nat} (h : i < as.length) : as.getD i 0 = as[i] := by
  rw [List.getD_eq_getElem?_getD, List.getElem?_eq_getElem h]
  rfl
/-- tuple(range(a, b, c)) -/
def tTupStep (ta : TA) : TE := fun σ H Q => ta σ H fun vs H1 => ∃ (i j c : Int) (n : Nat), vs = [.int i, .int j, .int c] ∧ RgC i j c n ∧ n ≤ 1000 ∧ ∀ (q : Addr) (o : Obj), H1 q = none → o.dict = none → Q (.ref q) (upd H1 q (.frz o (.tup ((List.range n).map fun k => V.int (i + (k : Nat) * c)))))
theorem pe_tupStep {X : Cx} {a b c : Expr} {ta : TA} {p pos p2 pos2 : Pos} (hc : X.calm = true) (hg : Gl X "tuple") (hm : X.mg "tuple" = none) (hg2 : Gl X "range") (hm2 : X.mg "range" = none) (ha : PA X [a, b, c] ta)
    (n1 : starEach [Expr.Call (.Name "range" p2) [a, b, c] [] pos2] X.env = (false, eval (Expr.Call (.Name "range" p2) [a, b, c] [] pos2) X.env) :: starEach [] X.env := by rfl)
    (n2 : starEach [a, b, c] X.env = (false, eval a X.env) :: starEach [b, c] X.env := by rfl) (n3 : (backTo pos2 (starEach [b, c] X.env)).any (·.1) = false := by rfl) :
    PE X (.Call (.Name "tuple" p) [.Call (.Name "range" p2) [a, b, c] [] pos2] [] pos) (tTupStep ta) := by
  refine ⟨fun pins s σ H Q I h => ?_⟩
  have laid : wpAny (model X.prog X.w) X.A (eval (Expr.Call (.Name "range" p2) [a, b, c] [] pos2) X.env) (fun x s' => ∃ (r : Addr) (i j k : Int) (n : Nat) (t u v : Tok) (H' : Hp), x = .ref r ∧ IsRange s'.heap r i j k t u v ∧ Inv X pins σ H' s' ∧ RgC i j k n ∧ n ≤ 1000 ∧ ∀ (q : Addr) (o : Obj), H' q = none → o.dict = none → Q (.ref q) (upd H' q (.frz o (.tup ((List.range n).map fun m => V.int (i + (m : Nat) * k)))))) X.xe s := by
    refine Call_ (ld_blt I hg2 hm2 boot_range (PyProof.Rows.callWith_type1 (thn (ha.run pos2 pins s σ H _ I h) fun us s1 hz => ?_) n2 n3))
    obtain ⟨vs, H1, I1, r1, i, j, k, n, rfl, rg, nb, q⟩ := hz
    obtain ⟨c0, c1, c2, c3⟩ := rg
    cases r1 with
    | cons ra rr =>
    cases rr with
    | cons rb rr =>
    cases rr with
    | cons rc rr =>
    cases rr
    obtain ⟨t, rfl⟩ := ra
    obtain ⟨u, rfl⟩ := rb
    obtain ⟨v, rfl⟩ := rc
    exact call_range_3 c0 ⟨_, i, j, k, n, _, _, _, H1, rfl, IsRange.new _ _ _ _ _ _ _, I1.kept (t' := s1.toks) (fun b o e => Heap.get?_push_of_some _ e), ⟨c0, c1, c2, c3⟩, nb, q⟩ (.inl (PyProof.noPylong_small c1))
  refine Call_ (ld_blt I hg hm boot_tuple (PyProof.Rows.callWith_type1 (args_cons (thn laid fun x s1 hz => args_nil ?_) n1) n1))
  obtain ⟨r, i, j, k, n, t, u, v, H1, ex, hr, I1, ⟨c0, c1, c2, c3⟩, nb, q⟩ := hz
  subst ex
  refine call_tuple_range (n := n) (I1.ok.hd hc) hr c2 c3 (by omega) fun h2 tk acc hk hi => ?_
  have J : Inv X pins σ H1 { s1 with heap := h2 } := I1.kept (t' := s1.toks) hk
  have rv : Vals ((List.range n).map fun m => V.int (i + (m : Nat) * k)) acc.toList := by
    have en : n = acc.toList.length := by rw [Array.length_toList]; exact hi.1.symm
    rw [en]
    exact vals_of_get acc.toList _ fun j u hj => by
      obtain ⟨t, ht⟩ := hi.2 j u (by rw [← hj, Array.getElem?_toList])
      exact ⟨t, ht⟩
  have hz : ((List.range n).map fun m => V.int (i + (m : Nat) * k)).length ≤ sizeLine := by
    rw [List.length_map, List.length_range]
    exact Nat.le_of_lt (small1000 (by omega))
  have J2 := J.laid (t' := tk) (o := .frz { cls := .type "tuple", data := .seq acc } (.tup ((List.range n).map fun m => V.int (i + (m : Nat) * k)))) (h' := h2.push { cls := .type "tuple", data := .seq acc })
    (fun b o e => Heap.get?_push_of_some _ e) (Nat.le_refl _) ⟨Heap.get?_push_size _ rfl, hz, acc.toList, rv, by rw [Array.toArray_toList]; exact IsTup.new _ _⟩
  exact ⟨.ref h2.objs.size, _, J2, rfl, q _ _ (J.hok.fresh (Nat.le_refl _)) rfl⟩
section
variable {P : Program} {w : World} {K : PySem.W.Frag} {mg : Str → Option Value} {base : Heap}
theorem aheadL_step (k : Nat) : aheadL (k + 1) = aheadL k ++ [((k : Int), (1 : Int))] := by
  unfold aheadL
  rw [List.range_succ, List.map_append]
  rfl
def spRowHall (C : Addr) : Sp := fun vs H Q _ => ∃ n : Nat, vs = [.int n] ∧ 1 ≤ n ∧ n ≤ 60 ∧ ∀ (x : Addr) (H' : Hp), Same H H' → HallAt C H' x (rowR n) → Q (.ref x) H'
set_option maxHeartbeats 4000000 in
theorem ok_row_hall (T : Txt K mg w) : FnOk P w K mg base CX0 9 T.f_row_hall T.fd_row_hall p_row_hall (spRowHall T.C_Hall) := by
  have G_Hall_init := ok_Hall_init (P := P) (w := w) (base := base) T
  refine T.F_row_hall.ok sc_row_hall (fun vs H Q E h => ?_) (fun cdv A outer s H vs Q E hr h => ?_)
  · obtain ⟨n, rfl, _⟩ := h
    rfl
  · obtain ⟨n, rfl, n1, n12, q⟩ := h
    refine ⟨_, (pss_one (ps_ret (pe_make T.mk_Hall G_Hall_init (hr.mono (by decide)) (by rfl) T.g_Hall T.b_Hall_init .nil pass0 (pa_cons (pe_lc (own := [("person", 2)]) (g := gName 2) (by rfl) sc_row_hall.nd (pi_range1 (by rfl) T.m_range (pa_cons (pv 0) pa_nil)) (blkOk_by (own := [("person", 2)]) (N := n_row_hall) (sc := defScope s_row_hall) (by decide +kernel)) (fun _ _ _ _ _ => (pg_name (i := 2) sc_row_hall.nd rfl (.inl rfl) (.inr rfl))) (fun _ _ _ _ _ => pts_nil) (fun _ _ _ _ _ => (pe_tup (pa_cons pe_str (pa_cons pe_int (pa_cons (pe_callTy (T := "tuple") (r := rTupN K) call_tupleF (by rfl) T.m_tuple (by decide +kernel) (pa_cons (pe_lc (own := [("other", 1)]) (g := gName 1) (by rfl) sc_row_hall.nd (pi_range1 (by rfl) T.m_range (pa_cons (pv 2) pa_nil)) (blkOk_sc (own := [("other", 1)]) (N := n_row_hall) (sc2 := relS (lcSc (argE (retE (defBody s_row_hall)))) (defScope s_row_hall)) rfl (by decide +kernel)) (fun _ _ _ _ _ => (pg_name (i := 1) sc_row_hall.nd rfl (.inl rfl) (.inr rfl))) (fun _ _ _ _ _ => pts_nil) (fun _ _ _ _ _ => (pe_tup (pa_cons (pv 1) (pa_cons pe_int pa_nil))))) pa_nil)) pa_nil)))))) pa_nil)))), ?_⟩
    refine ⟨.int n, rfl, _, rfl, by omega, by omega, fun D hD => ?_⟩
    refine lc_it walk_range (fun i H3 => ∃ us : List V, Same H H3 ∧ H3 D = some (.lst us) ∧ us.length = i ∧ RulesAt H3 us ((List.range i).map fun p => Rule.sum 0 (aheadL p))) ⟨[], same_upd hD, upd_same, rfl, .nil⟩ (fun _ _ _ _ => trivial) ?_ ?_
    · rintro i v H3 H4 hi ⟨us, s3, h3, lus, ra⟩ ⟨rfl, rfl⟩
      have hi' : i < n := by have : i < ((n : Nat) : Int).toNat := hi; omega
      refine ⟨rfl, yes (iteT ?_)⟩
      refine ⟨.int (0 + i), rfl, _, rfl, by omega, by omega, fun D2 hD2 => ?_⟩
      refine lc_it walk_range (fun k H5 => ∃ ps : List Addr, Same H4 H5 ∧ H5 D2 = some (.lst (ps.map V.ref)) ∧ Paired (PairAtH H5) ps (aheadL k)) ⟨[], same_upd hD2, upd_same, .nil⟩ (fun _ _ _ _ => trivial) ?_ ?_
      · rintro k v H5 H6 hk ⟨ps, s5, h5, pr⟩ ⟨rfl, rfl⟩
        have hk' : k < i := by have : k < (0 + (i : Int)).toNat := hk; omega
        have lps : ps.length = k := by rw [pr.length, aheadL_len]
        refine ⟨rfl, yes (iteT ?_)⟩
        refine ⟨.int (0 + k), rfl, by show 2 ≤ sizeLine; decide, fun u nu => ?_⟩
        have sU := same_upd (o := .tup [.int (0 + k), .int 1]) nu
        have h7 := sU _ _ h5
        have kT := keep_lst (ys := ps.map V.ref ++ [.ref u]) h7
        refine ⟨_, h7, by rw [List.length_map]; exact small1000 (by omega), ps ++ [u], same_mut (s5.trans sU) hD2, by rw [upd_same, List.map_append]; rfl, ?_⟩
        rw [aheadL_step]
        refine Paired.snoc (R := PairAtH _) ?_ (pairs_keep ((Keep.same sU).trans kT) pr)
        show PairAtH _ _ _
        have th := kT.tup _ _ (upd_same (H := H6) (a := u) (o := HO.tup [.int (0 + k), .int 1]))
        exact th.trans (by rw [Int.zero_add])
      rintro H5 ⟨ps, s5, h5, pr⟩
      rw [show ((0 : Int) + (i : Int)).toNat = i by omega] at pr
      refine ⟨D2, _, rfl, .inl (.inl h5), fun t o nt od => ⟨by show 3 ≤ sizeLine; decide, fun a na => ?_⟩⟩
      have st := same_upd (o := .frz o (.tup (ps.map V.ref))) nt
      have sa := same_upd (o := .tup [.str (Str.ofString "sum"), .int 0, .ref t]) na
      have s4a := s5.trans (st.trans sa)
      have h3a := s4a _ _ h3
      have kT := keep_lst (ys := us ++ [.ref a]) h3a
      refine ⟨_, h3a, by rw [lus]; exact small1000 (by omega), us ++ [.ref a], same_mut (s3.trans s4a) hD, upd_same, by rw [List.length_append, lus]; rfl, ?_⟩
      rw [List.range_succ, List.map_append]
      refine Paired.snoc (R := RuleAt _) ?_ ((ra.keep (Keep.same s4a)).keep kT)
      refine ⟨a, t, rfl, kT.tup _ _ upd_same, ?_⟩
      exact TiesAt.keep kT ⟨o, ps, od, sa _ _ upd_same, pairs_keep (Keep.same (st.trans sa)) pr⟩
    rintro H3 ⟨us, s3, h3, lus, ra⟩
    rw [show ((n : Nat) : Int).toNat = n by omega] at ra
    refine fun x dx nx ndx nxd => ?_
    have sx : Same H3 (upd (upd H3 dx (.own x)) x (.ins T.C_Hall dx [])) := fun b o hb => by
      rw [upd_ne (ne_of_none hb nx), upd_ne (ne_of_none hb ndx)]
      exact hb
    refine ⟨x, dx, D, us, rowR n, rfl, upd_same, sx _ _ h3, RulesAt.keep (Keep.same sx) ra, rowR_halls n1 n12, fun H6 k6 hA => ⟨rfl, ?_⟩⟩
    have s6 : Same H3 H6 := fun b o hb => k6 b o (ne_of_none hb nx) (sx b o hb)
    exact q x H6 (s3.trans s6) hA
def spStopsBehind : Sp := fun vs H Q _ => ∃ (l : Addr) (ss : List Int) (a m : Int), vs = [.ref l, .int a, .int m] ∧ H l = some (.lst (ss.map V.int)) ∧ ss.length ≤ 900 ∧
  ∀ (z : Addr) (H' : Hp), Same H H' → H z = none → H' z = some (.lst ((ss.filter (fun s => decide (s ≤ a)) ++ [m]).map V.int)) → Q (.ref z) H'
def spRowRest : Sp := fun vs H Q _ => ∃ (t : Addr) (ns : List Int), vs = [.ref t] ∧ TupAt H t (ns.map V.int) ∧ 1 ≤ ns.length ∧ ns.length ≤ 60 ∧ RowRest ns ∧ ∀ H', Same H H' → Q (.bl true) H'
def spRowLeft : Sp := fun vs H Q _ => ∃ (t : Addr) (ns : List Int) (v : Int), vs = [.ref t, .int v] ∧ TupAt H t (ns.map V.int) ∧ ns.length ≤ 1000 ∧ ∀ H', Same H H' → Q (.int (lessN ns v : Nat)) H'
theorem lessN_zero {ns : List Int} (h : ∀ n ∈ ns, 0 ≤ n) : lessN ns 0 = 0 := by
  unfold lessN
  rw [List.length_eq_zero_iff, List.filter_eq_nil_iff]
  intro x hx
  have := h x hx
  simp
  exact this
theorem nth_app_lt {ns : List Int} {v : Int} {i : Nat} (h : i < ns.length) : nth (ns ++ [v]) i = nth ns i := by
  unfold nth
  rw [Int.toNat_natCast, List.getD_eq_getElem?_getD, List.getD_eq_getElem?_getD, List.getElem?_append_left h]
theorem nth_app_last (ns : List Int) (v : Int) : nth (ns ++ [v]) (ns.length : Nat) = v := by
  unfold nth
  rw [Int.toNat_natCast, List.getD_eq_getElem?_getD, List.getElem?_append_right (Nat.le_refl _), Nat.sub_self]
  rfl
theorem cntL_congr {ns ms : List Int} {v : Int} {i : Nat} (h : ∀ j : Nat, j < i → nth ms j = nth ns j) : cntL ms i v = cntL ns i v := by
  unfold cntL
  refine congrArg List.length (List.filter_congr fun j hj => ?_)
  rw [h j (List.mem_range.mp hj)]
theorem RowRest.snoc {ns : List Int} {v : Int} (h : RowRest ns) (e : (lessN ns v : Int) = v) : RowRest (ns ++ [v]) := fun i hi => by
  rw [List.length_append] at hi
  have hi' : i < ns.length + 1 := hi
  have c : cntL (ns ++ [v]) i (nth (ns ++ [v]) i) = cntL ns i (nth (ns ++ [v]) i) := cntL_congr fun j hj => nth_app_lt (by omega)
  rw [c]
  by_cases z : i < ns.length
  · rw [nth_app_lt z]
    exact h i z
  · have ei : i = ns.length := by omega
    subst ei
    rw [nth_app_last, ← lessN_take ns (Nat.le_refl _), List.take_length]
    exact e.symm
def spDrawnRest : Sp := fun vs H Q _ => ∃ (bx : Addr) (c : Int) (n : Nat), vs = [.ref bx, .int n] ∧ n ≤ 60 ∧ c + 100 ≤ 1000000000 ∧ Box bx c H ∧
  ∀ (t : Addr) (ns : List Int) (H' : Hp), Ext bx H H' → Box bx (c + 60) H' → TupAt H' t (ns.map V.int) → ns.length = n → RowRest ns → Q (.ref t) H'
end
end Lh

namespace Lh
open PySem PySem.Spec PyProof.Rows L2
/-- an order in which each sees those ahead of it alone -/
def Flat (rs : List Rule) : Prop := ∃ ms : List Int, ms.Nodup ∧ ms.length = rs.length ∧ (∀ x ∈ ms, 0 ≤ x ∧ x < (rs.length : Int)) ∧ ∀ (i : Nat) (hi : i < rs.length), ∃ (j : Nat) (hj : j < ms.length), ms[j] = (i : Int) ∧ ∀ o ∈ rs[i].persons, o ∈ ms.take j
/-- the true bounds of what is drawn -/
def Rule.Fine (wm : Int) : Rule → Prop
  | .held n => n ≤ 6
  | .sum own ties => own ≤ 3 ∧ ∀ q ∈ ties, q.2 ≤ wm
  | .cap own ties most => own ≤ 3 ∧ (∀ q ∈ ties, q.2 ≤ wm) ∧ most ≤ 5
  | .kinds own _ => own ≤ 2
  | .next _ => True
  | .free _ => True
theorem rules_ofP {H : Hp} {m : Int} {Pr : Nat → Rule → Prop} (us : List V) (h : ∀ (i : Nat) (_ : i < us.length), ∃ r, RuleAt H us[i] r ∧ r.Wf m ∧ Pr i r) : ∃ rs, RulesAt H us rs ∧ (∀ r ∈ rs, r.Wf m) ∧ ∀ (i : Nat) (h : i < rs.length), Pr i rs[i] := by
  have key : ∀ k, k ≤ us.length → ∃ rs, RulesAt H (us.take k) rs ∧ (∀ r ∈ rs, r.Wf m) ∧ ∀ (i : Nat) (h : i < rs.length), Pr i rs[i] := fun k => by
    induction k with
    | zero => exact fun _ => ⟨[], .nil, fun r hr => absurd hr (by simp), fun i hi => absurd hi (by simp)⟩
    | succ k ih =>
      intro hk
      obtain ⟨rs, h1, h2, h3⟩ := ih (by omega)
      obtain ⟨r, r1, r2, r3⟩ := h k (by omega)
      have lr : rs.length = k := by
        have e := h1.length
        rw [List.length_take] at e
        omega
      refine ⟨rs ++ [r], ?_, fun r' hr' => ?_, fun i hi => ?_⟩
      · rw [List.take_add_one, List.getElem?_eq_getElem (show k < us.length by omega)]
        exact Paired.snoc (R := RuleAt _) r1 h1
      · rcases List.mem_append.mp hr' with z | z
        · exact h2 r' z
        · rw [List.mem_singleton.mp z]; exact r2
      · by_cases c : i < rs.length
        · rw [List.getElem_append_left c]; exact h3 i c
        · have e : i = rs.length := by rw [List.length_append] at hi; have : i < rs.length + 1 := hi; omega
          subst e
          rw [List.getElem_append_right (Nat.le_refl _)]
          simp only [Nat.sub_self, List.getElem_singleton]
          rw [lr]; exact r3
  obtain ⟨rs, h1, h2, h3⟩ := key us.length (Nat.le_refl _)
  rw [List.take_length] at h1
  exact ⟨rs, h1, h2, h3⟩
section
variable {P : Program} {w : World} {K : PySem.W.Frag} {mg : Str → Option Value} {base : Heap}
def spSumRuleF : Sp := fun vs H Q _ => ∃ (bx p : Addr) (c far many : Int) (ns : List Int), vs = [.ref bx, .ref p, .int far] ∧ 2 ≤ far ∧ far ≤ 999 ∧ c + 2 * ns.length + 4 ≤ 1000000000 ∧ ns.length ≤ 1000 ∧ Box bx c H ∧ H p = some (.lst (ns.map V.int)) ∧ p ≠ bx ∧ Rising many ns ∧
  ∀ (v : V) (r : Rule) (H' : Hp), Ext bx H H' → Box bx (c + 2 * ns.length + 4) H' → RuleAt H' v r → r.Wf many → r.persons = ns → r.Fine far → Q v H'
def spRuleF : Sp := fun vs H Q _ => ∃ (bx p : Addr) (c far many : Int) (m : V) (ns : List Int), vs = [.ref bx, m, .ref p, .int far] ∧ 2 ≤ far ∧ far ≤ 999 ∧ c + 3 * ns.length + 6 ≤ 1000000000 ∧ ns.length ≤ 1000 ∧ Box bx c H ∧ H p = some (.lst (ns.map V.int)) ∧ p ≠ bx ∧ Rising many ns ∧
  ∀ (v : V) (r : Rule) (H' : Hp), Ext bx H H' → Box bx (c + 3 * ns.length + 6) H' → RuleAt H' v r → r.Wf many → r.persons.Sublist ns → r.Fine far → Q v H'
def spHallF : Sp := fun vs H Q _ => ∃ (bx : Addr) (c : Int), vs = [.ref bx] ∧ c + 100 ≤ 1000000000 ∧ Box bx c H ∧
  ∀ (l : Addr) (us : List V) (rs : List Rule) (H' : Hp), Ext bx H H' → Box bx (c + 100) H' → H l = none → H' l = some (.lst us) → RulesAt H' us rs → Halls rs → rs.length ≤ 5 → (∀ r ∈ rs, r.Fine 3) → (rs.length = 5 → ∀ r ∈ rs, ∃ own ties, r = .sum own ties ∧ own ≤ 1 ∧ ∀ q ∈ ties, q.2 = 1) → Q (.ref l) H'
def spFlatF : Sp := fun vs H Q _ => ∃ (bx : Addr) (c m : Int), vs = [.ref bx, .int m] ∧ 0 < m ∧ m ≤ 60 ∧ c + 1000 ≤ 1000000000 ∧ Box bx c H ∧
  ∀ (l : Addr) (us : List V) (rs : List Rule) (H' : Hp), Ext bx H H' → Box bx (c + 1000) H' → H l = none → H' l = some (.lst us) → RulesAt H' us rs → Halls rs → (rs.length : Int) ≤ m → (∀ r ∈ rs, r.Fine 9) → Flat rs → Q (.ref l) H'
end
end Lh

namespace Lh
open PySem PySem.Spec PyProof.Rows L2
/-! ### lines stay -/
theorem lotH_congr {rs : List Rule} (hh : Halls rs) {p : Nat} (hp : p < rs.length) {ns ms : List Int} {h h' : Int} (c : ∀ o : Nat, o < rs.length → (nth ns o < h ↔ nth ms o < h') ∧ (nth ns o < h → nth ms o = nth ns o)) : lotH rs[p] ms h' = lotH rs[p] ns h := by
  have inr := per_in hh hp
  unfold lotH
  have e1 : (rs[p].persons.filter fun o => decide (nth ms o < h')) = rs[p].persons.filter fun o => decide (nth ns o < h) := by
    refine List.filter_congr fun o ho => ?_
    have io := inr o ho
    have cc := (c o.toNat (by omega)).1
    rw [← nth_nat (ns := ns), ← nth_nat (ns := ms)] at cc
    by_cases z : nth ns o < h
    · rw [decide_eq_true z, decide_eq_true (cc.mp z)]
    · rw [decide_eq_false z, decide_eq_false fun y => z (cc.mpr y)]
  rw [e1]
  refine List.map_congr_left fun o ho => ?_
  obtain ⟨o1, o2⟩ := List.mem_filter.mp ho
  have io := inr o o1
  have cc := (c o.toNat (by omega)).2
  rw [← nth_nat (ns := ns), ← nth_nat (ns := ms)] at cc
  rw [cc (of_decide_eq_true o2)]
theorem toldH_congr {rs : List Rule} (hh : Halls rs) {p : Nat} (hp : p < rs.length) {ns ms : List Int} {h h' : Int} (c : ∀ o : Nat, o < rs.length → (nth ns o < h ↔ nth ms o < h') ∧ (nth ns o < h → nth ms o = nth ns o)) : toldH rs ms p h' = toldH rs ns p h := by
  unfold toldH
  rw [getD_at hp, lotH_congr hh hp c]
theorem toldH_mono {rs : List Rule} (hh : Halls rs) {p : Nat} (hp : p < rs.length) {ns : List Int} (nn : ∀ n ∈ ns, 0 ≤ n) {h h' : Int} (l : h ≤ h') : toldH rs ns p h ≤ toldH rs ns p h' :=
  tell_mono l (nth_pos nn) (hh.2.2 _ (List.getElem_mem hp)) (toldH_ok hp) (toldH_ok hp)
def Line (rs : List Rule) (ns : List Int) (h : Int) : Prop := ∀ p : Nat, p < rs.length → (nth ns p < h → toldH rs ns p (nth ns p) = nth ns p) ∧ (h ≤ nth ns p → h ≤ toldH rs ns p h)
theorem line_iff {rs : List Rule} {ns : List Int} {h : Int} : lineB rs ns h = true ↔ Line rs ns h := by
  unfold lineB
  rw [List.all_eq_true]
  constructor
  · intro a p hp
    have := a p (List.mem_range.mpr hp)
    unfold keepB at this
    refine ⟨fun z => ?_, fun z => ?_⟩
    · rw [if_pos z] at this
      exact of_decide_eq_true this
    · rw [if_neg (by omega)] at this
      exact of_decide_eq_true this
  · intro a p hp
    have := a p (List.mem_range.mp hp)
    unfold keepB
    by_cases z : nth ns p < h
    · rw [if_pos z]; exact decide_eq_true (this.1 z)
    · rw [if_neg z]; exact decide_eq_true (this.2 (by omega))
/-- below h all is as it was, the others show d or more -/
def Above (rs : List Rule) (ns ms : List Int) (h d : Int) : Prop := ∀ o : Nat, o < rs.length → (nth ns o < h → nth ms o = nth ns o) ∧ (h ≤ nth ns o → d ≤ nth ms o)
theorem Above.refl (rs : List Rule) (ns : List Int) (h : Int) : Above rs ns ns h h := fun _ _ => ⟨fun _ => rfl, id⟩
theorem Above.trans {rs : List Rule} {ns ms ks : List Int} {h : Int} (a : Above rs ns ms h h) (b : Above rs ms ks h h) : Above rs ns ks h h := fun o ho => by
  obtain ⟨a1, a2⟩ := a o ho
  obtain ⟨b1, b2⟩ := b o ho
  refine ⟨fun z => ?_, fun z => b2 (a2 z)⟩
  rw [b1 (by rw [a1 z]; exact z), a1 z]
theorem Above.lots {rs : List Rule} {ns ms : List Int} {h d : Int} (hd : h ≤ d) (a : Above rs ns ms h d) : ∀ o : Nat, o < rs.length → (nth ns o < h ↔ nth ms o < d) ∧ (nth ns o < h → nth ms o = nth ns o) := fun o ho => by
  obtain ⟨a1, a2⟩ := a o ho
  refine ⟨⟨fun z => by rw [a1 z]; omega, fun z => ?_⟩, a1⟩
  by_cases c : nth ns o < h
  · exact c
  · have := a2 (by omega)
    omega
theorem Above.own {rs : List Rule} {ns ms : List Int} {h d : Int} (hd : h ≤ d) (a : Above rs ns ms h d) {k : Int} (hk : k < h) : ∀ o : Nat, o < rs.length → (nth ns o < k ↔ nth ms o < k) ∧ (nth ns o < k → nth ms o = nth ns o) := fun o ho => by
  obtain ⟨a1, a2⟩ := a o ho
  refine ⟨⟨fun z => by rw [a1 (by omega)]; exact z, fun z => ?_⟩, fun z => a1 (by omega)⟩
  by_cases c : nth ns o < h
  · rw [a1 c] at z; exact z
  · have := a2 (by omega)
    omega
/-- what all above are told keeps them there -/
theorem Line.above {rs : List Rule} (hh : Halls rs) {ns ms : List Int} {h d : Int} (hd : h ≤ d) (l : Line rs ns h) (dm : ∀ p : Nat, p < rs.length → h ≤ nth ns p → d ≤ toldH rs ns p h) (a : Above rs ns ms h d) : Line rs ms d := fun p hp => by
  obtain ⟨a1, a2⟩ := a p hp
  by_cases c : nth ns p < h
  · refine ⟨fun _ => ?_, fun z => absurd z (by rw [a1 c]; omega)⟩
    rw [a1 c, toldH_congr hh hp (a.own hd c)]
    exact (l p hp).1 c
  · have c' : h ≤ nth ns p := by omega
    refine ⟨fun z => absurd (a2 c') (by omega), fun _ => ?_⟩
    rw [toldH_congr hh hp (a.lots hd)]
    exact dm p hp c'
theorem Line.still {rs : List Rule} (hh : Halls rs) {ns ms : List Int} {h : Int} (l : Line rs ns h) (a : Above rs ns ms h h) : Line rs ms h := l.above hh (Int.le_refl _) (fun p hp z => (l p hp).2 z) a
/-- lines below it are lines still, too -/
theorem Line.under {rs : List Rule} (hh : Halls rs) {ns ms : List Int} {h k : Int} (hk : k ≤ h) (l : Line rs ns k) (a : Above rs ns ms h h) : Line rs ms k := l.still hh fun o ho => by
  obtain ⟨a1, a2⟩ := a o ho
  refine ⟨fun z => a1 (by omega), fun z => ?_⟩
  by_cases c : nth ns o < h
  · rw [a1 c]; exact z
  · have := a2 (by omega)
    omega
theorem Line.turned {rs : List Rule} (hh : Halls rs) {ns ms : List Int} {h : Int} {S : Int → Prop} (nn : ∀ n ∈ ns, 0 ≤ n) (l : Line rs ns h) (t : Turned rs ns S ms) : Above rs ns ms h h := fun p hp => by
  obtain ⟨t1, t2⟩ := t.2 p hp
  by_cases c : S p
  · have e := toldH_at hp (t1 c)
    refine ⟨fun z => by rw [e]; exact (l p hp).1 z, fun z => ?_⟩
    rw [e]
    exact Int.le_trans ((l p hp).2 z) (toldH_mono hh hp nn z)
  · rw [t2 c]
    exact ⟨fun _ => rfl, id⟩
theorem Line.beat {rs : List Rule} (hh : Halls rs) {ns ms : List Int} {h d : Int} (nn : ∀ n ∈ ns, 0 ≤ n) (l : Line rs ns h) (dm : ∀ p : Nat, p < rs.length → h ≤ nth ns p → d ≤ toldH rs ns p h) (t : Beat rs ns ms) : Above rs ns ms h d := fun p hp => by
  have e := toldH_at hp ((t.2 p hp).1 trivial)
  refine ⟨fun z => by rw [e]; exact (l p hp).1 z, fun z => ?_⟩
  rw [e]
  exact Int.le_trans (dm p hp z) (toldH_mono hh hp nn z)
/-- of a standing that's no rest no line is above all numbers -/
theorem Line.top {rs : List Rule} {ns : List Int} {h : Int} (nr : ¬ Rest rs ns) (l : Line rs ns h) : ∃ p : Nat, p < rs.length ∧ h ≤ nth ns p := by
  by_cases c : ∃ p : Nat, p < rs.length ∧ h ≤ nth ns p
  · exact c
  · exfalso
    refine nr fun i hi => ?_
    have lt : nth ns i < h := by
      rcases Int.lt_or_le (nth ns i) h with z | z
      · exact z
      · exact absurd ⟨i, hi, z⟩ c
    have e := (l i hi).1 lt
    have t := toldH_ok (rs := rs) (ns := ns) (h := nth ns i) hi
    rw [e] at t
    exact t
theorem WlIs.line {rs : List Rule} {ns : List Int} {m : Int} (w : WlIs rs ns m) : Line rs ns m := by
  obtain ⟨⟨_, _, _, l⟩, _⟩ := w
  exact line_iff.mp l
theorem WlIs.le {rs : List Rule} {ns : List Int} {m : Int} (w : WlIs rs ns m) : ∃ top ∈ ns, m ≤ top := by
  obtain ⟨⟨top, h1, h2, _⟩, _⟩ := w
  exact ⟨top, h1, by rw [h2]; exact (topM_ok rs ns top).2 _ List.mem_cons_self⟩
/-- it's the greatest line -/
theorem WlIs.greatest {rs : List Rule} (hh : Halls rs) {ns : List Int} {m h : Int} (hn : ns.length = rs.length) (nr : ¬ Rest rs ns) (w : WlIs rs ns m) (l : Line rs ns h) : h ≤ m := by
  obtain ⟨p0, hp0, ge0⟩ := l.top nr
  have inS : nth ns p0 ∈ ns.filter fun n => decide (h ≤ n) := List.mem_filter.mpr ⟨nth_mem (by omega), decide_eq_true ge0⟩
  obtain ⟨top, t1, t2⟩ := min_ex (ns.filter fun n => decide (h ≤ n)) (List.ne_nil_of_mem inS)
  obtain ⟨t3, t4⟩ := List.mem_filter.mp t1
  have t5 : h ≤ top := of_decide_eq_true t4
  have gap : ∀ o : Nat, o < rs.length → h ≤ nth ns o → top ≤ nth ns o := fun o ho z => t2 _ (List.mem_filter.mpr ⟨nth_mem (by omega), decide_eq_true z⟩)
  have same : ∀ k : Int, h ≤ k → k ≤ top → ∀ o : Nat, o < rs.length → (nth ns o < h ↔ nth ns o < k) ∧ (nth ns o < h → nth ns o = nth ns o) := fun k k1 k2 o ho => by
    refine ⟨⟨fun z => by omega, fun z => ?_⟩, fun _ => rfl⟩
    rcases Int.lt_or_le (nth ns o) h with y | y
    · exact y
    · have := gap o ho y
      omega
  have mk := topM_ok rs ns top
  have le : topM rs ns top ≤ top := mk.2 _ List.mem_cons_self
  have ge : h ≤ topM rs ns top := by
    have h1 := mk.1
    unfold topL at h1
    rcases List.mem_cons.mp h1 with e | e
    · omega
    · obtain ⟨q, hq, e⟩ := List.mem_map.mp e
      obtain ⟨q1, q2⟩ := List.mem_filter.mp hq
      have q1' := List.mem_range.mp q1
      have q2' : top ≤ nth ns q := of_decide_eq_true q2
      rw [← e, toldH_congr hh q1' (same top t5 (Int.le_refl _))]
      exact (l q q1').2 (by omega)
  have ln : Line rs ns (topM rs ns top) := fun q hq => by
    refine ⟨fun z => ?_, fun z => ?_⟩
    · refine (l q hq).1 ?_
      rcases Int.lt_or_le (nth ns q) h with y | y
      · exact y
      · have := gap q hq y
        omega
    · have z2 : h ≤ nth ns q := by omega
      have z3 := gap q hq z2
      rw [toldH_congr hh hq (same (topM rs ns top) ge le), ← toldH_congr hh hq (same top t5 (Int.le_refl _))]
      exact mk.2 _ (List.mem_cons_of_mem _ (List.mem_map_of_mem (f := fun p => toldH rs ns p top) (List.mem_filter.mpr ⟨List.mem_range.mpr hq, decide_eq_true z3⟩)))
  exact Int.le_trans ge (w.2 top t3 (line_iff.mpr ln))
/-! ### along beats -/
theorem beatN_above {rs : List Rule} (hh : Halls rs) {ns : List Int} (hn : ns.length = rs.length) (pos : ∀ n ∈ ns, 0 ≤ n) {i : Nat} {h : Int} (l : Line rs (beatN rs ns i) h) : ∀ k : Nat, Above rs (beatN rs ns i) (beatN rs ns (i + k)) h h ∧ Line rs (beatN rs ns (i + k)) h
  | 0 => ⟨Above.refl _ _ _, l⟩
  | k + 1 => by
    obtain ⟨a, l2⟩ := beatN_above hh hn pos l k
    have b : Above rs (beatN rs ns (i + k)) (beatN rs ns (i + k + 1)) h h := l2.turned hh (beatN_pos hh hn pos _) (beatN_step hn (i + k))
    exact ⟨a.trans b, l2.still hh b⟩
theorem beatN_firm {rs : List Rule} (hh : Halls rs) {ns : List Int} (hn : ns.length = rs.length) (pos : ∀ n ∈ ns, 0 ≤ n) {i : Nat} {h : Int} (l : Line rs (beatN rs ns i) h) {p : Nat} (hp : p < rs.length) (f : firmB rs (beatN rs ns i) h p = true) : ∀ k : Nat, nth (beatN rs ns (i + k)) p = nth (beatN rs ns i) p := fun k => by
  unfold firmB at f
  by_cases c : nth (beatN rs ns i) p = h
  · rw [if_pos c] at f
    have t : toldH rs (beatN rs ns i) p h = h := by rw [c] at f; exact of_decide_eq_true f
    rw [c]
    induction k with
    | zero => exact c
    | succ k ih =>
      obtain ⟨a, _⟩ := beatN_above hh hn pos l k
      have st := (beatN_step hn (i + k)).2 p hp
      have e := toldH_at hp (st.1 trivial)
      rw [ih, toldH_congr hh hp (a.lots (Int.le_refl _)), t] at e
      exact e
  · rw [if_neg c] at f
    exact ((beatN_above hh hn pos l k).1 p hp).1 (of_decide_eq_true f)
theorem Way.at {rs : List Rule} {ns : List Int} {nss : List (List Int)} (hn : ns.length = rs.length) (w : Way rs ns nss) : ∀ (i : Nat) (a : List Int), nss[i]? = some a → a = beatN rs ns i
  | 0, a, e => by rw [w.1] at e; exact (Option.some.inj e).symm
  | i + 1, a, e => by
    have hi : i + 1 < nss.length := (List.getElem?_eq_some_iff.mp e).1
    have e1 := List.getElem?_eq_getElem (l := nss) (show i < nss.length by omega)
    have h1 := Way.at hn w i _ e1
    have b := w.2.2 i _ _ e1 e
    rw [h1] at b
    exact b.unique (beatN_len hn i) (beatN_step hn i)
end Lh

namespace Lh
open PySem PySem.Spec PyProof.Rows L2
/-! ### how many beats at most -/
def cntH (r : Rule) (ns : List Int) (h : Int) : Nat := (r.persons.filter fun o => decide (nth ns o < h)).length
theorem cntH_le (r : Rule) (ns : List Int) (h : Int) : cntH r ns h ≤ r.persons.length := List.length_filter_le _ _
theorem filter_len_eq {α : Type} {f g : α → Bool} (fg : ∀ x, f x = true → g x = true) : ∀ xs : List α, (xs.filter f).length ≤ (xs.filter g).length ∧ ((xs.filter f).length = (xs.filter g).length → xs.filter f = xs.filter g)
  | [] => ⟨Nat.le_refl _, fun _ => rfl⟩
  | x :: t => by
    obtain ⟨h1, h2⟩ := filter_len_eq fg t
    rw [List.filter_cons, List.filter_cons]
    by_cases c : f x = true
    · rw [if_pos c, if_pos (fg x c), List.length_cons, List.length_cons]
      exact ⟨by omega, fun e => by rw [h2 (by omega)]⟩
    · rw [if_neg c]
      by_cases d : g x = true
      · rw [if_pos d, List.length_cons]
        exact ⟨by omega, fun e => by omega⟩
      · rw [if_neg d]
        exact ⟨h1, h2⟩
theorem filter_len_eq' {α : Type} {f g : α → Bool} : ∀ xs : List α, (∀ x ∈ xs, f x = true → g x = true) → (xs.filter f).length ≤ (xs.filter g).length ∧ ((xs.filter f).length = (xs.filter g).length → xs.filter f = xs.filter g)
  | [], _ => ⟨Nat.le_refl _, fun _ => rfl⟩
  | x :: t, fg => by
    obtain ⟨h1, h2⟩ := filter_len_eq' t fun y hy => fg y (List.mem_cons_of_mem _ hy)
    rw [List.filter_cons, List.filter_cons]
    by_cases c : f x = true
    · rw [if_pos c, if_pos (fg x List.mem_cons_self c), List.length_cons, List.length_cons]
      exact ⟨by omega, fun e => by rw [h2 (by omega)]⟩
    · rw [if_neg c]
      by_cases d : g x = true
      · rw [if_pos d, List.length_cons]
        exact ⟨by omega, fun e => by omega⟩
      · rw [if_neg d]
        exact ⟨h1, h2⟩
theorem cntH_mono (r : Rule) (ns : List Int) {h h' : Int} (l : h ≤ h') : cntH r ns h ≤ cntH r ns h' ∧ (cntH r ns h = cntH r ns h' → lotH r ns h = lotH r ns h') := by
  obtain ⟨h1, h2⟩ := filter_len_eq (f := fun o => decide (nth ns o < h)) (g := fun o => decide (nth ns o < h')) (fun o z => decide_eq_true (by have := of_decide_eq_true z; omega)) r.persons
  refine ⟨h1, fun e => ?_⟩
  unfold lotH
  rw [h2 e]
/-- a row of numbers each told by the one ahead, in a growing way of few kinds, stays behind so many -/
theorem runs {G : Int → Int} {c : Int → Nat} {n : Nat} (cn : ∀ h, c h ≤ n) (mono : ∀ h h', h ≤ h' → G h ≤ G h' ∧ c h ≤ c h' ∧ (c h = c h' → G h = G h')) {v : Nat → Int} (vG : ∀ k, v (k + 1) = G (v k)) : ∀ k, v (n + 1 + k) = v (n + 1) := by
  have still : ∀ j, v (j + 1) = v (j + 2) → ∀ k, v (j + 1 + k) = v (j + 1) := fun j e k => by
    induction k with
    | zero => rfl
    | succ k ih =>
      show v (j + 1 + k + 1) = _
      rw [vG, ih, ← vG]
      exact e.symm
  have fin : (∃ j, j ≤ n ∧ v (j + 1) = v (j + 2)) → ∀ k, v (n + 1 + k) = v (n + 1) := fun ⟨j, hj, e⟩ k => by
    have a := still j e (n + 1 + k - (j + 1))
    have b := still j e (n + 1 - (j + 1))
    rw [show j + 1 + (n + 1 + k - (j + 1)) = n + 1 + k by omega] at a
    rw [show j + 1 + (n + 1 - (j + 1)) = n + 1 by omega] at b
    rw [a, b]
  refine fin ?_
  by_cases ex : ∃ j, j ≤ n ∧ v (j + 1) = v (j + 2)
  · exact ex
  exfalso
  have ne : ∀ j, j ≤ n → v (j + 1) ≠ v (j + 2) := fun j hj e => ex ⟨j, hj, e⟩
  rcases Int.le_total (v 0) (v 1) with d | d
  · have up : ∀ k, v k ≤ v (k + 1) := fun k => by
      induction k with
      | zero => exact d
      | succ k ih => rw [vG k, vG (k + 1)]; exact (mono _ _ ih).1
    have gr : ∀ k, k ≤ n + 1 → k ≤ c (v k) := fun k => by
      induction k with
      | zero => exact fun _ => Nat.zero_le _
      | succ k ih =>
        intro hk
        have h1 := ih (by omega)
        obtain ⟨_, m2, m3⟩ := mono _ _ (up k)
        have h2 : c (v k) ≠ c (v (k + 1)) := fun e => ne k (by omega) (by rw [vG k, vG (k + 1)]; exact m3 e)
        omega
    have := gr (n + 1) (Nat.le_refl _)
    have := cn (v (n + 1))
    omega
  · have dn : ∀ k, v (k + 1) ≤ v k := fun k => by
      induction k with
      | zero => exact d
      | succ k ih => rw [vG k, vG (k + 1)]; exact (mono _ _ ih).1
    have gr : ∀ k, k ≤ n + 1 → c (v k) + k ≤ n := fun k => by
      induction k with
      | zero => exact fun _ => cn _
      | succ k ih =>
        intro hk
        have h1 := ih (by omega)
        obtain ⟨_, m2, m3⟩ := mono _ _ (dn k)
        have h2 : c (v (k + 1)) ≠ c (v k) := fun e => ne k (by omega) (by rw [vG k, vG (k + 1)]; exact (m3 e).symm)
        omega
    have := gr (n + 1) (Nat.le_refl _)
    omega
/-- behind the last change of those it sees -/
theorem own_still {rs : List Rule} (hh : Halls rs) {ns : List Int} (hn : ns.length = rs.length) (pos : ∀ n ∈ ns, 0 ≤ n) {p T : Nat} (hp : p < rs.length) (st : ∀ o : Nat, (o : Int) ∈ rs[p].persons → o ≠ p → ∀ k, nth (beatN rs ns (T + k)) o = nth (beatN rs ns T) o) : ∀ k, nth (beatN rs ns (T + 61 + k)) p = nth (beatN rs ns (T + 61)) p := by
  have lT := beatN_len hn T
  have pT := beatN_pos hh hn pos T
  -- the standing in which p itself is out of sight
  obtain ⟨B, hB⟩ : ∃ B : Int, ∀ k, nth (beatN rs ns (T + k)) p ≤ B := by
    have f : Fair rs (fun k => beatN rs ns (T + k)) (fun _ _ => True) := ⟨hh.2.2, fun k => beatN_len hn _, fun k => beatN_step hn (T + k), nth_pos pT, fun k p _ => ⟨k, Nat.le_refl _, trivial⟩⟩
    obtain ⟨B, _, hB⟩ := f.bound
    exact ⟨B, fun k => hB k p⟩
  have inr := per_in hh hp
  have B0 : 0 ≤ B := Int.le_trans (nth_pos pT _) (hB 0)
  have hset : ∀ o : Nat, nth ((beatN rs ns T).set p B) o = if o = p then B else nth (beatN rs ns T) o := fun o => nth_set (by omega) o
  have nnS : ∀ n ∈ (beatN rs ns T).set p B, 0 ≤ n := fun n hn' => by
    rcases List.mem_or_eq_of_mem_set hn' with z | z
    · exact pT n z
    · rw [z]; exact B0
  have lots : ∀ k, lotH rs[p] ((beatN rs ns T).set p B) (nth (beatN rs ns (T + k)) p) = lotI rs[p] (beatN rs ns (T + k)) p := fun k => by
    rw [lotI_H]
    unfold lotH
    have e1 : (rs[p].persons.filter fun o => decide (nth ((beatN rs ns T).set p B) o < nth (beatN rs ns (T + k)) p)) = rs[p].persons.filter fun o => decide (nth (beatN rs ns (T + k)) o < nth (beatN rs ns (T + k)) p) := by
      refine List.filter_congr fun o ho => ?_
      have io := inr o ho
      rw [nth_nat (ns := (beatN rs ns T).set p B), nth_nat (ns := beatN rs ns (T + k)) o, hset]
      by_cases c : o.toNat = p
      · rw [if_pos c, c]
        have := hB k
        rw [decide_eq_false (by omega), decide_eq_false (by omega)]
      · rw [if_neg c, st o.toNat (by rw [show ((o.toNat : Nat) : Int) = o by omega]; exact ho) c k]
    rw [e1]
    refine List.map_congr_left fun o ho => ?_
    obtain ⟨o1, o2⟩ := List.mem_filter.mp ho
    have io := inr o o1
    have lt : nth (beatN rs ns (T + k)) o < nth (beatN rs ns (T + k)) p := of_decide_eq_true o2
    have c : o.toNat ≠ p := fun c => by
      rw [nth_nat (ns := beatN rs ns (T + k)) o, c] at lt
      omega
    have e := st o.toNat (by rw [show ((o.toNat : Nat) : Int) = o by omega]; exact o1) c k
    rw [← nth_nat, ← nth_nat] at e
    rw [nth_nat (ns := (beatN rs ns T).set p B), hset, if_neg c, ← nth_nat, e]
  have vG : ∀ k, nth (beatN rs ns (T + (k + 1))) p = toldH rs ((beatN rs ns T).set p B) p (nth (beatN rs ns (T + k)) p) := fun k => by
    have t := ((beatN_step hn (T + k)).2 p hp).1 trivial
    rw [← lots k] at t
    exact toldH_of hp t
  have few := hh.few hp
  have r := runs (G := toldH rs ((beatN rs ns T).set p B) p) (c := cntH rs[p] ((beatN rs ns T).set p B)) (n := 60) (fun h => Nat.le_trans (cntH_le _ _ _) few) (fun h h' l => ⟨toldH_mono hh hp nnS l, (cntH_mono _ _ l).1, fun e => by
    unfold toldH
    rw [getD_at hp, (cntH_mono _ _ l).2 e]⟩) (v := fun k => nth (beatN rs ns (T + k)) p) vG
  intro k
  have := r k
  rw [show T + 61 + k = T + (60 + 1 + k) by omega]
  exact this
theorem flat_still {rs : List Rule} (hh : Halls rs) (fl : Flat rs) {ns : List Int} (hn : ns.length = rs.length) (pos : ∀ n ∈ ns, 0 ≤ n) : ∀ k, beatN rs ns (61 * rs.length + k) = beatN rs ns (61 * rs.length) := by
  obtain ⟨ms, nd, ml, mi, ord⟩ := fl
  have key : ∀ j, j ≤ ms.length → ∀ i (hi : i < ms.length), i < j → ∀ k, nth (beatN rs ns (61 * j + k)) ms[i] = nth (beatN rs ns (61 * j)) ms[i] := fun j => by
    induction j with
    | zero => exact fun _ i _ h => absurd h (by omega)
    | succ j ih =>
      intro hj i hi hij k
      have ihj := ih (by omega)
      by_cases c : i = j
      · subst c
        have mii := mi _ (List.getElem_mem hi)
        have hp : ms[i].toNat < rs.length := by omega
        obtain ⟨j2, hj2, e2, per⟩ := ord ms[i].toNat hp
        have ej : j2 = i := by
          exact (List.getElem_inj (h₀ := hj2) (h₁ := hi) nd).mp (by rw [e2]; omega)
        subst ej
        have s := own_still hh hn pos (T := 61 * j2) hp (fun o ho _ k => by
          obtain ⟨i2, hi2, ei2⟩ := List.mem_iff_getElem.mp (per _ ho)
          rw [List.length_take] at hi2
          rw [List.getElem_take] at ei2
          have := ihj i2 (by omega) (by omega) k
          rw [ei2] at this
          exact this) 
        have a := s k
        have b := s 0
        rw [← nth_nat, ← nth_nat] at a
        rw [show 61 * (j2 + 1) + k = 61 * j2 + 61 + k by omega, show 61 * (j2 + 1) = 61 * j2 + 61 by omega]
        exact a
      · have a := ihj i hi (by omega) (61 + k)
        have b := ihj i hi (by omega) 61
        rw [show 61 * (j + 1) + k = 61 * j + (61 + k) by omega, show 61 * (j + 1) = 61 * j + 61 by omega, a, b]
  intro k
  refine nth_ext (by rw [beatN_len hn, beatN_len hn]) fun i hi => ?_
  rw [beatN_len hn] at hi
  obtain ⟨j, hj, ej, _⟩ := ord i hi
  have := key ms.length (Nat.le_refl _) j hj hj k
  rw [ej, ml] at this
  exact this
theorem Come.le {rs : List Rule} {ns m : List Int} {b T : Nat} (c : Come rs ns m b) (st : beatN rs ns (T + 1) = beatN rs ns T) : b ≤ T := by
  rcases Nat.lt_or_ge T b with z | z
  · exact absurd st.symm (c.2.2 T z)
  · exact z
/-! ### few numbers, few standings -/
def enc (B : Nat) : List Int → Nat
  | [] => 0
  | x :: t => x.toNat + B * enc B t
theorem enc_lt {B : Nat} : ∀ {xs : List Int}, (∀ x ∈ xs, 0 ≤ x ∧ x < (B : Int)) → enc B xs < B ^ xs.length
  | [], _ => by show 0 < 1; decide
  | x :: t, h => by
    have h1 := h x List.mem_cons_self
    have h2 := enc_lt (xs := t) fun y hy => h y (List.mem_cons_of_mem _ hy)
    show x.toNat + B * enc B t < B ^ (t.length + 1)
    have h3 : B * (enc B t + 1) ≤ B * B ^ t.length := Nat.mul_le_mul_left B h2
    rw [Nat.pow_succ, Nat.mul_comm (B ^ t.length) B]
    rw [Nat.mul_add, Nat.mul_one] at h3
    omega
theorem enc_inj {B : Nat} : ∀ {xs ys : List Int}, xs.length = ys.length → (∀ x ∈ xs, 0 ≤ x ∧ x < (B : Int)) → (∀ x ∈ ys, 0 ≤ x ∧ x < (B : Int)) → enc B xs = enc B ys → xs = ys
  | [], [], _, _, _, _ => rfl
  | [], _ :: _, e, _, _, _ => by simp at e
  | _ :: _, [], e, _, _, _ => by simp at e
  | x :: t, y :: u, e, h1, h2, q => by
    have a := h1 x List.mem_cons_self
    have b := h2 y List.mem_cons_self
    have q' : x.toNat + B * enc B t = y.toNat + B * enc B u := q
    have hB : 0 < B := by omega
    have m1 : (x.toNat + B * enc B t) % B = x.toNat := by rw [Nat.add_mul_mod_self_left, Nat.mod_eq_of_lt (by omega)]
    have m2 : (y.toNat + B * enc B u) % B = y.toNat := by rw [Nat.add_mul_mod_self_left, Nat.mod_eq_of_lt (by omega)]
    have d1 : x.toNat = y.toNat := by rw [← m1, ← m2, q']
    have d2 : enc B t = enc B u := by
      have : B * enc B t = B * enc B u := by omega
      exact Nat.eq_of_mul_eq_mul_left hB this
    rw [enc_inj (by simpa using e) (fun z hz => h1 z (List.mem_cons_of_mem _ hz)) (fun z hz => h2 z (List.mem_cons_of_mem _ hz)) d2, show x = y by omega]
theorem beat_distinct {rs : List Rule} {ns m : List Int} {b : Nat} (hn : ns.length = rs.length) (c : Come rs ns m b) {i j : Nat} (hij : i < j) (hj : j ≤ b) : beatN rs ns i ≠ beatN rs ns j := fun e => by
  -- what goes round never rests
  have per : ∀ k, beatN rs ns (i + k) = beatN rs ns (j + k) := fun k => by
    induction k with
    | zero => exact e
    | succ k ih =>
      show beatF rs (beatN rs ns (i + k)) = beatF rs (beatN rs ns (j + k))
      rw [ih]
  have stay : ∀ k, beatN rs ns (b + k) = m := fun k => by
    induction k with
    | zero => exact c.1.symm
    | succ k ih =>
      have s := beatN_step hn (b + k)
      rw [ih] at s
      exact s.unique (by rw [c.1]; exact beatN_len hn b) c.2.1
  have a1 := per (b - j)
  have a2 := per (b - j + 1)
  rw [show j + (b - j) = b + 0 by omega, stay 0] at a1
  rw [show j + (b - j + 1) = b + 1 by omega, stay 1] at a2
  refine c.2.2 (i + (b - j)) (by omega) ?_
  rw [a1]
  exact a2.symm
theorem beats_few {rs : List Rule} {ns m : List Int} {b T B : Nat} (hn : ns.length = rs.length) (c : Come rs ns m b) (sm : ∀ k, T ≤ k → ∀ x ∈ beatN rs ns k, 0 ≤ x ∧ x < (B : Int)) : b ≤ T + B ^ rs.length := by
  rcases Nat.lt_or_ge (T + B ^ rs.length) b with z | z
  · exfalso
    have nd : ((List.range (B ^ rs.length + 1)).map fun k => enc B (beatN rs ns (T + k))).Nodup := by
      rw [List.nodup_iff_pairwise_ne, List.pairwise_map]
      refine List.pairwise_lt_range.imp_of_mem fun {i j} hi hj lt e => ?_
      have hj' := List.mem_range.mp hj
      refine beat_distinct hn c (i := T + i) (j := T + j) (by omega) (by omega) ?_
      exact enc_inj (by rw [beatN_len hn, beatN_len hn]) (sm _ (by omega)) (sm _ (by omega)) e
    have := nodup_len _ (List.range (B ^ rs.length)) nd fun x hx => by
      obtain ⟨k, _, rfl⟩ := List.mem_map.mp hx
      have h := enc_lt (sm (T + k) (by omega))
      rw [beatN_len hn] at h
      exact List.mem_range.mpr h
    rw [List.length_map, List.length_range, List.length_range] at this
    omega
  · exact z
theorem sum_bndW {w : Int} (f : Int → Int) (w0 : 0 ≤ w) (hf : ∀ p, f p ≤ w) (P : Int → Bool) : ∀ xs : List Int, ((xs.filter P).map f).sum ≤ w * xs.length
  | [] => by show (0 : Int) ≤ w * 0; omega
  | x :: t => by
    have ih := sum_bndW f w0 hf P t
    have := hf x
    have e : w * ((x :: t).length : Int) = w * t.length + w := by
      rw [List.length_cons, show ((t.length + 1 : Nat) : Int) = (t.length : Int) + 1 by omega, Int.mul_add, Int.mul_one]
    rw [List.filter_cons, e]
    by_cases c : P x = true
    · rw [if_pos c, List.map_cons, List.sum_cons]; omega
    · rw [if_neg c]; omega
theorem wgt_le {ties : List (Int × Int)} {w : Int} (w0 : 0 ≤ w) (h : ∀ q ∈ ties, q.2 ≤ w) (p : Int) : wgt ties p ≤ w := by
  unfold wgt
  cases e : ties.find? fun q => decide (q.1 = p) with
  | none => exact w0
  | some q => exact h q (List.mem_of_find?_eq_some e)
def isNext : Rule → Prop
  | .next _ => True
  | _ => False
theorem tell_fine {m : Int} {ns : List Int} {h : Int} {r : Rule} {y : Int} (nn : ∀ o : Int, 0 ≤ nth ns o) (h0 : 0 ≤ h) (wf : r.Wf m) (fi : r.Fine 3) (l4 : r.persons.length ≤ 4) (nx : ¬ isNext r) (t : Tell r (lotH r ns h) y) : y ≤ 15 := by
  cases r with
  | held n =>
    have e : y = n := t
    have : n ≤ 6 := fi
    omega
  | sum own ties =>
    have e : y = _ := t
    rw [sum_lot] at e
    have b := sum_bndW (w := 3) (wgt ties) (by decide) (wgt_le (by decide) fi.2) (fun o => decide (nth ns o < h)) (Rule.sum own ties).persons
    have := fi.1
    omega
  | cap own ties most =>
    have e : y = _ := t
    have : most ≤ 5 := fi.2.2
    omega
  | kinds own seen =>
    obtain ⟨ks, n1, m1, e⟩ := t
    have h1 := nodup_len ks ((lotH (.kinds own seen) ns h).map (·.2)) n1 fun x hx => (m1 x).mp hx
    rw [List.length_map] at h1
    have h2 := lotH_len (.kinds own seen) ns h
    have : own ≤ 2 := fi
    omega
  | next seen => exact absurd trivial nx
  | free seen =>
    obtain ⟨b1, b2⟩ := tell_bnd nn h0 wf t
    rcases b2 with z | z
    · have z' : y ≤ (seen.length : Int) := z
      have : seen.length ≤ 4 := l4
      omega
    · obtain ⟨a1, a2, a3⟩ := t
      have h1 := nodup_len ((List.range y.toNat).map fun n : Nat => (n : Int)) ((lotH (.free seen) ns h).map (·.2)) (by
        rw [List.nodup_iff_pairwise_ne]
        exact List.Pairwise.map _ (fun a b z q => z (by omega)) (List.nodup_iff_pairwise_ne.mp List.nodup_range)) (fun x hx => by
          obtain ⟨n, hn, rfl⟩ := List.mem_map.mp hx
          have := List.mem_range.mp hn
          exact a3 n (by omega) (by omega))
      rw [List.length_map, List.length_range, List.length_map] at h1
      have h2 := lotH_len (.free seen) ns h
      omega
theorem few_four {rs : List Rule} (hh : Halls rs) (l4 : rs.length ≤ 4) (fi : ∀ r ∈ rs, r.Fine 3) {ns : List Int} (hn : ns.length = rs.length) (pos : ∀ n ∈ ns, 0 ≤ n) : ∀ k, 5 ≤ k → ∀ p : Nat, p < rs.length → nth (beatN rs ns k) p ≤ 20 := by
  have nn := fun k => nth_pos (beatN_pos hh hn pos k)
  have pl : ∀ p (hp : p < rs.length), rs[p].persons.length ≤ 4 := fun p hp => by
    have := (wf_len (hh.2.2 _ (List.getElem_mem hp)) (by omega) (by omega)).2
    omega
  have tl : ∀ k p (hp : p < rs.length), Tell rs[p] (lotH rs[p] (beatN rs ns k) (nth (beatN rs ns k) p)) (nth (beatN rs ns (k + 1)) p) := fun k p hp => by
    have t := ((beatN_step hn k).2 p hp).1 trivial
    rw [lotI_H] at t
    exact t
  have low : ∀ k p (hp : p < rs.length), ¬ isNext rs[p] → nth (beatN rs ns (k + 1)) p ≤ 15 := fun k p hp nx => tell_fine (nn k) (nn k _) (hh.2.2 _ (List.getElem_mem hp)) (fi _ (List.getElem_mem hp)) (pl p hp) nx (tl k p hp)
  have fall : ∀ k p (hp : p < rs.length), isNext rs[p] → nth (beatN rs ns (k + 1)) p ≤ nth (beatN rs ns k) p := fun k p hp nx => by
    have t := tl k p hp
    have b := (tell_bnd (nn k) (nn k _) (hh.2.2 _ (List.getElem_mem hp)) t).2
    generalize rs[p] = r at nx b
    cases r with
    | next seen =>
      rcases b with z | z
      · exact Int.le_trans z (nn k _)
      · exact z
    | _ => exact nx.elim
  let c : Nat → Nat := fun k => ((List.range rs.length).filter fun p : Nat => decide ((15 : Int) + k < nth (beatN rs ns k) p)).length
  have sub : ∀ k, 1 ≤ k → ∀ p : Nat, p < rs.length → (15 : Int) + ((k + 1 : Nat) : Int) < nth (beatN rs ns (k + 1)) p → (15 : Int) + (k : Nat) < nth (beatN rs ns k) p := fun k hk p hp z => by
    by_cases nx : isNext rs[p]
    · have := fall k p hp nx
      omega
    · have := low k p hp nx
      omega
  have step : ∀ k, 1 ≤ k → c k ≠ 0 → c (k + 1) < c k := fun k hk h0 => by
    have ne : ((List.range rs.length).filter fun p : Nat => decide ((15 : Int) + k < nth (beatN rs ns k) p)) ≠ [] := fun e => h0 (by show List.length _ = 0; rw [e]; rfl)
    obtain ⟨v0, hv0, mn⟩ := min_ex (((List.range rs.length).filter fun p : Nat => decide ((15 : Int) + k < nth (beatN rs ns k) p)).map fun p : Nat => nth (beatN rs ns k) p) (fun e => ne (List.map_eq_nil_iff.mp e))
    obtain ⟨p0, hp0, e0⟩ := List.mem_map.mp hv0
    obtain ⟨q1, q2⟩ := List.mem_filter.mp hp0
    have hp := List.mem_range.mp q1
    have q2' : (15 : Int) + k < nth (beatN rs ns k) p0 := of_decide_eq_true q2
    have key : ¬ (15 : Int) + ((k + 1 : Nat) : Int) < nth (beatN rs ns (k + 1)) p0 := fun z => by
      by_cases nx : isNext rs[p0]
      · have t := tl k p0 hp
        have inr := per_in hh hp
        generalize rs[p0] = r at nx t inr
        cases r with
        | next seen =>
          rcases t with ⟨_, e⟩ | ⟨e, _⟩
          · omega
          · obtain ⟨qq, hq, eq⟩ := List.mem_map.mp e
            obtain ⟨o, ho, rfl⟩ := List.mem_map.mp hq
            obtain ⟨o1, o2⟩ := List.mem_filter.mp ho
            have lt : nth (beatN rs ns k) o < nth (beatN rs ns k) p0 := of_decide_eq_true o2
            have io := inr o o1
            have eq' : nth (beatN rs ns k) o = nth (beatN rs ns (k + 1)) p0 - 1 := eq
            have mo := mn (nth (beatN rs ns k) (o.toNat : Nat)) (List.mem_map.mpr ⟨o.toNat, List.mem_filter.mpr ⟨List.mem_range.mpr (by omega), decide_eq_true (by rw [← nth_nat]; omega)⟩, rfl⟩)
            rw [← nth_nat, ← e0] at mo
            omega
        | _ => exact nx.elim
      · have := low k p0 hp nx
        omega
    obtain ⟨h1, h2⟩ := filter_len_eq' (f := fun p : Nat => decide ((15 : Int) + ((k + 1 : Nat) : Int) < nth (beatN rs ns (k + 1)) p)) (g := fun p : Nat => decide ((15 : Int) + k < nth (beatN rs ns k) p)) (List.range rs.length) (fun p hp' z => decide_eq_true (sub k hk p (List.mem_range.mp hp') (of_decide_eq_true z)))
    rcases Nat.lt_or_ge (c (k + 1)) (c k) with z | z
    · exact z
    · exfalso
      have e := h2 (Nat.le_antisymm h1 z)
      have : p0 ∈ (List.range rs.length).filter fun p : Nat => decide ((15 : Int) + ((k + 1 : Nat) : Int) < nth (beatN rs ns (k + 1)) p) := by rw [e]; exact hp0
      exact key (of_decide_eq_true (List.mem_filter.mp this).2)
  have c1 : c 1 ≤ 4 := Nat.le_trans (List.length_filter_le _ _) (by rw [List.length_range]; exact l4)
  have dec : ∀ j, c (1 + j) ≤ 4 - j := fun j => by
    induction j with
    | zero => exact c1
    | succ j ih =>
      by_cases z : c (1 + j) = 0
      · have : c (1 + j + 1) ≤ c (1 + j) := (filter_len_eq' (f := fun p : Nat => decide ((15 : Int) + ((1 + j + 1 : Nat) : Int) < nth (beatN rs ns (1 + j + 1)) p)) (g := fun p : Nat => decide ((15 : Int) + ((1 + j : Nat) : Int) < nth (beatN rs ns (1 + j)) p)) (List.range rs.length) (fun p hp' z => decide_eq_true (sub (1 + j) (by omega) p (List.mem_range.mp hp') (of_decide_eq_true z)))).1
        show c (1 + j + 1) ≤ _
        omega
      · have := step (1 + j) (by omega) z
        show c (1 + j + 1) ≤ _
        omega
  have at5 : ∀ p : Nat, p < rs.length → nth (beatN rs ns 5) p ≤ 20 := fun p hp => by
    have c5 : c 5 = 0 := Nat.le_zero.mp (dec 4)
    rcases Int.lt_or_le 20 (nth (beatN rs ns 5) p) with z | z
    · exfalso
      have m : p ∈ (List.range rs.length).filter fun p : Nat => decide ((15 : Int) + ((5 : Nat) : Int) < nth (beatN rs ns 5) p) := List.mem_filter.mpr ⟨List.mem_range.mpr hp, decide_eq_true (by omega)⟩
      have := List.length_pos_of_mem m
      have c5' : ((List.range rs.length).filter fun p : Nat => decide ((15 : Int) + ((5 : Nat) : Int) < nth (beatN rs ns 5) p)).length = 0 := c5
      omega
    · exact z
  intro k hk p hp
  obtain ⟨j, rfl⟩ : ∃ j, k = 5 + j := ⟨k - 5, by omega⟩
  induction j with
  | zero => exact at5 p hp
  | succ j ih =>
    have ih' := ih (by omega)
    by_cases nx : isNext rs[p]
    · exact Int.le_trans (fall (5 + j) p hp nx) ih'
    · have := low (5 + j) p hp nx
      show nth (beatN rs ns (5 + j + 1)) p ≤ 20
      omega
/-- halls as they are drawn -/
def Drawn (rs : List Rule) : Prop := (rs.length ≤ 5 ∧ (∀ r ∈ rs, r.Fine 3) ∧ (rs.length = 5 → ∀ r ∈ rs, ∃ own ties, r = .sum own ties ∧ own ≤ 1 ∧ ∀ q ∈ ties, q.2 = 1)) ∨ Flat rs
theorem Come.bound {rs : List Rule} (hh : Halls rs) (dr : Drawn rs) {ns m : List Int} {b : Nat} (hn : ns.length = rs.length) (pos : ∀ n ∈ ns, 0 ≤ n) (c : Come rs ns m b) : b ≤ 200000 := by
  have mem : ∀ k x, x ∈ beatN rs ns k → ∃ p : Nat, p < rs.length ∧ x = nth (beatN rs ns k) p := fun k x hx => by
    obtain ⟨i, hi, e⟩ := List.mem_iff_getElem.mp hx
    have h2 := nth_get (ns := beatN rs ns k) (p := (i : Int)) (by omega) (by omega)
    rw [Int.toNat_natCast, List.getElem?_map, List.getElem?_eq_getElem hi] at h2
    have h3 : (beatN rs ns k)[i] = nth (beatN rs ns k) i := V.int.inj (Option.some.inj h2)
    exact ⟨i, by rw [beatN_len hn] at hi; exact hi, by rw [← e, h3]⟩
  rcases dr with ⟨l5, fi, s5⟩ | fl
  · by_cases e5 : rs.length = 5
    · have sm : ∀ k, 1 ≤ k → ∀ x ∈ beatN rs ns k, 0 ≤ x ∧ x < ((7 : Nat) : Int) := fun k hk x hx => by
        refine ⟨beatN_pos hh hn pos k x hx, ?_⟩
        obtain ⟨p, hp, rfl⟩ := mem k x hx
        obtain ⟨j, rfl⟩ : ∃ j, k = j + 1 := ⟨k - 1, by omega⟩
        have t := ((beatN_step hn j).2 p hp).1 trivial
        obtain ⟨own, ties, er, o1, w1⟩ := s5 e5 _ (List.getElem_mem hp)
        have pl : rs[p].persons.length ≤ 5 := by
          have := (wf_len (hh.2.2 _ (List.getElem_mem hp)) (by omega) (by omega)).2
          omega
        rw [er] at t pl
        rw [lotI_H] at t
        have e : nth (beatN rs ns (j + 1)) p = _ := t
        rw [sum_lot] at e
        have b := sum_bndW (w := 1) (wgt ties) (by decide) (wgt_le (by decide) fun q hq => by rw [w1 q hq]; exact Int.le_refl _) (fun o => decide (nth (beatN rs ns j) o < nth (beatN rs ns j) p)) (Rule.sum own ties).persons
        omega
      have := beats_few hn c sm
      rw [e5] at this
      have : (7 : Nat) ^ 5 = 16807 := by decide
      omega
    · have f4 := few_four hh (by omega) fi hn pos
      have sm : ∀ k, 5 ≤ k → ∀ x ∈ beatN rs ns k, 0 ≤ x ∧ x < ((21 : Nat) : Int) := fun k hk x hx => by
        refine ⟨beatN_pos hh hn pos k x hx, ?_⟩
        obtain ⟨p, hp, rfl⟩ := mem k x hx
        have := f4 k hk p hp
        omega
      have h1 := beats_few hn c sm
      have h2 : (21 : Nat) ^ rs.length ≤ 21 ^ 4 := Nat.pow_le_pow_right (by decide) (by omega)
      have : (21 : Nat) ^ 4 = 194481 := by decide
      omega
  · have st := flat_still hh fl hn pos
    have := c.le (T := 61 * rs.length) (st 1)
    have := hh.2.1
    omega
end Lh

namespace Lh
open PySem PySem.Spec PyProof.Rows L2

def othersL (r : Rule) (p : Nat) : List Int := r.persons.filter fun o => decide (o ≠ (p : Int))
def lotO (r : Rule) (ns : List Int) (p : Nat) (h : Int) : List (Int × Int) := ((othersL r p).filter fun o => decide (nth ns o < h)).map fun o => (o, nth ns o)
theorem othersL_in {r : Rule} {p : Nat} {o : Int} (h : o ∈ othersL r p) : o ∈ r.persons ∧ o ≠ (p : Int) := by
  have := List.mem_filter.mp h
  exact ⟨this.1, of_decide_eq_true this.2⟩
theorem lotO_in {r : Rule} {ns : List Int} {p : Nat} {h : Int} : ∀ q ∈ lotO r ns p h, q.1 ∈ r.persons := fun q hq => by
  obtain ⟨o, ho, rfl⟩ := List.mem_map.mp hq
  exact (othersL_in (List.mem_filter.mp ho).1).1
theorem lotO_congr {r : Rule} {ns ns' : List Int} {p : Nat} {h h' : Int} (c : ∀ o ∈ othersL r p, (nth ns' o < h' ↔ nth ns o < h) ∧ nth ns' o = nth ns o) : lotO r ns' p h' = lotO r ns p h := by
  unfold lotO
  rw [List.filter_congr (p := fun o => decide (nth ns' o < h')) (q := fun o => decide (nth ns o < h)) fun o ho => decide_eq_decide.mpr (c o ho).1]
  exact List.map_congr_left fun o ho => by rw [(c o (List.mem_filter.mp ho).1).2]
theorem lotO_set {r : Rule} {ns : List Int} {p : Nat} {h v : Int} (hp : p < ns.length) (inr : ∀ o ∈ r.persons, 0 ≤ o) (hv : h ≤ v) : lotH r (ns.set p v) h = lotO r ns p h := by
  have st : ∀ o ∈ r.persons, nth (ns.set p v) o = if o.toNat = p then v else nth ns o := fun o ho => by
    have e := nth_set (y := v) hp o.toNat
    rw [Int.toNat_of_nonneg (inr o ho)] at e
    exact e
  unfold lotH lotO othersL
  rw [List.filter_filter]
  rw [List.filter_congr (p := fun o => decide (nth (ns.set p v) o < h)) (q := fun o => decide (nth ns o < h) && decide (o ≠ (p : Int))) fun o ho => ?_]
  · refine List.map_congr_left fun o ho => ?_
    obtain ⟨h1, h2⟩ := List.mem_filter.mp ho
    have h3 : o ≠ (p : Int) := of_decide_eq_true (Bool.and_eq_true_iff.mp h2).2
    have := inr o h1
    rw [st o h1, if_neg (by omega)]
  · have := inr o ho
    rw [st o ho]
    by_cases c : o = (p : Int)
    · rw [if_pos (by omega), decide_eq_false (p := v < h) (by omega), decide_eq_false (p := o ≠ (p : Int)) (fun z => z c), Bool.and_false]
    · rw [if_neg (by omega), decide_eq_true (p := o ≠ (p : Int)) c, Bool.and_true]
theorem lotO_len (r : Rule) (ns : List Int) (p : Nat) (h : Int) : (lotO r ns p h).length ≤ r.persons.length := by
  unfold lotO othersL
  rw [List.length_map]
  exact Nat.le_trans (List.length_filter_le _ _) (List.length_filter_le _ _)
noncomputable def toldO (rs : List Rule) (ns : List Int) (p : Nat) (h : Int) : Int := tellF (rs.getD p (.held 0)) (lotO (rs.getD p (.held 0)) ns p h)
theorem toldO_of {rs : List Rule} {ns : List Int} {p : Nat} {h y : Int} (hp : p < rs.length) (t : Tell rs[p] (lotO rs[p] ns p h) y) : y = toldO rs ns p h := by
  unfold toldO
  rw [getD_at hp]
  exact t.eqF
theorem toldO_ok {rs : List Rule} {ns : List Int} {p : Nat} {h : Int} (hp : p < rs.length) : Tell rs[p] (lotO rs[p] ns p h) (toldO rs ns p h) := by
  unfold toldO
  rw [getD_at hp]
  exact tellF_ok _ _
theorem toldO_congr {rs : List Rule} {ns ns' : List Int} {p : Nat} {h h' : Int} (hp : p < rs.length) (c : ∀ o ∈ othersL rs[p] p, (nth ns' o < h' ↔ nth ns o < h) ∧ nth ns' o = nth ns o) : toldO rs ns' p h' = toldO rs ns p h := by
  unfold toldO
  rw [getD_at hp, lotO_congr c]
theorem toldO_H {rs : List Rule} (hh : Halls rs) {ns : List Int} {p : Nat} {h v : Int} (hp : p < rs.length) (hn : ns.length = rs.length) (hv : h ≤ v) : toldO rs ns p h = toldH rs (ns.set p v) p h := by
  unfold toldO toldH
  rw [getD_at hp, lotO_set (by omega) (fun o ho => (per_in hh hp o ho).1) hv]
theorem set_nn {ns : List Int} {p : Nat} {v : Int} (nn : ∀ n ∈ ns, 0 ≤ n) (h : 0 ≤ v) : ∀ n ∈ ns.set p v, 0 ≤ n := fun n hm => by
  rcases List.mem_or_eq_of_mem_set hm with z | z
  · exact nn n z
  · rw [z]; exact h
theorem toldO_nn {rs : List Rule} (hh : Halls rs) {ns : List Int} {p : Nat} {h : Int} (hp : p < rs.length) (hn : ns.length = rs.length) (nn : ∀ n ∈ ns, 0 ≤ n) (h0 : 0 ≤ h) : 0 ≤ toldO rs ns p h := by
  rw [toldO_H hh hp hn (Int.le_refl _)]
  exact toldH_nn hh hp (set_nn nn h0) h0
theorem toldO_mono {rs : List Rule} (hh : Halls rs) {ns : List Int} {p : Nat} {h h' : Int} (hp : p < rs.length) (hn : ns.length = rs.length) (nn : ∀ n ∈ ns, 0 ≤ n) (h0 : 0 ≤ h') (l : h ≤ h') : toldO rs ns p h ≤ toldO rs ns p h' := by
  rw [toldO_H hh hp hn l, toldO_H hh hp hn (Int.le_refl h')]
  exact toldH_mono hh hp (set_nn nn h0) l
theorem sum_nine {f : Int → Int} (hf : ∀ p, f p ≤ 9) : ∀ lot : List (Int × Int), (lot.map fun q => f q.1).sum ≤ 9 * (lot.length : Int)
  | [] => by simp
  | q :: t => by
    have ih := sum_nine hf t
    have := hf q.1
    rw [List.map_cons, List.sum_cons, List.length_cons]
    omega
theorem tell_small {r : Rule} {lot : List (Int × Int)} {y : Int} (fi : r.Fine 9) (l12 : lot.length ≤ 60) (sm : ∀ q ∈ lot, q.2 ≤ 1000200) (t : Tell r lot y) : y ≤ 1000299 := by
  cases r with
  | held n =>
    have e : y = n := t
    have : n ≤ 6 := fi
    omega
  | sum own ties =>
    have e : y = own + (lot.map fun q => wgt ties q.1).sum := t
    have b := sum_nine (wgt_le (by decide) fi.2) lot
    have := fi.1
    omega
  | cap own ties most =>
    have e : y = min (own + (lot.map fun q => wgt ties q.1).sum) most := t
    have : most ≤ 5 := fi.2.2
    omega
  | kinds own seen =>
    obtain ⟨ks, n1, m1, e⟩ := t
    have h1 := nodup_len ks (lot.map (·.2)) n1 fun x hx => (m1 x).mp hx
    rw [List.length_map] at h1
    have : own ≤ 2 := fi
    omega
  | next seen =>
    rcases t with ⟨_, e⟩ | ⟨h1, _⟩
    · omega
    · obtain ⟨q, hq, e⟩ := List.mem_map.mp h1
      have := sm q hq
      omega
  | free seen =>
    obtain ⟨n1, n2, n3⟩ := t
    have h1 := nodup_len ((List.range y.toNat).map fun k : Nat => (k : Int)) (lot.map (·.2)) (by
      rw [List.nodup_iff_pairwise_ne]
      exact List.Pairwise.map _ (fun a b z q => z (by omega)) (List.nodup_iff_pairwise_ne.mp List.nodup_range)) (fun x hx => by
        obtain ⟨k, hk, rfl⟩ := List.mem_map.mp hx
        have := List.mem_range.mp hk
        exact n3 _ (by omega) (by omega))
    rw [List.length_map, List.length_range, List.length_map] at h1
    omega
theorem rise_ext : ∀ {a b : List Int}, a.Pairwise (· < ·) → b.Pairwise (· < ·) → (∀ x, x ∈ a ↔ x ∈ b) → a = b
  | [], [], _, _, _ => rfl
  | [], y :: b, _, _, h => absurd ((h y).mpr List.mem_cons_self) (by simp)
  | x :: a, [], _, _, h => absurd ((h x).mp List.mem_cons_self) (by simp)
  | x :: a, y :: b, pa, pb, h => by
    have pa2 := List.pairwise_cons.mp pa
    have pb2 := List.pairwise_cons.mp pb
    have e : x = y := by
      rcases List.mem_cons.mp ((h x).mp List.mem_cons_self) with z | z
      · exact z
      · have h1 := pb2.1 x z
        rcases List.mem_cons.mp ((h y).mpr List.mem_cons_self) with w | w
        · exact w.symm
        · have := pa2.1 y w
          omega
    subst e
    rw [rise_ext pa2.2 pb2.2 fun z => ?_]
    constructor
    · intro hz
      rcases List.mem_cons.mp ((h z).mp (List.mem_cons_of_mem _ hz)) with w | w
      · have := pa2.1 z hz
        omega
      · exact w
    · intro hz
      rcases List.mem_cons.mp ((h z).mpr (List.mem_cons_of_mem _ hz)) with w | w
      · have := pb2.1 z hz
        omega
      · exact w
noncomputable def stopsL (rs : List Rule) (ns : List Int) (p : Nat) : List Int := ((List.range 1000300).filter fun v : Nat => decide (toldO rs ns p (v : Int) = (v : Int))).map fun v : Nat => (v : Int)
theorem stopsL_mem {rs : List Rule} {ns : List Int} {p : Nat} {v : Int} : v ∈ stopsL rs ns p ↔ (0 ≤ v ∧ v < 1000300) ∧ toldO rs ns p v = v := by
  unfold stopsL
  constructor
  · intro h
    obtain ⟨k, hk, rfl⟩ := List.mem_map.mp h
    obtain ⟨h1, h2⟩ := List.mem_filter.mp hk
    have := List.mem_range.mp h1
    exact ⟨by omega, of_decide_eq_true h2⟩
  · rintro ⟨h1, h2⟩
    have e : ((v.toNat : Nat) : Int) = v := by omega
    exact List.mem_map.mpr ⟨v.toNat, List.mem_filter.mpr ⟨List.mem_range.mpr (by omega), decide_eq_true (by rw [e]; exact h2)⟩, e⟩
theorem stopsL_rise (rs : List Rule) (ns : List Int) (p : Nat) : (stopsL rs ns p).Pairwise (· < ·) := by
  unfold stopsL
  exact List.Pairwise.map _ (fun a b z => by omega) (List.Pairwise.filter _ List.pairwise_lt_range)
/-- what stands for all that's asked -/
structure Calm (rs : List Rule) (ns : List Int) (p : Nat) : Prop where
  hh : Halls rs
  hp : p < rs.length
  hn : ns.length = rs.length
  nn : ∀ n ∈ ns, 0 ≤ n
  fi : rs[p].Fine 9
  sm : ∀ o ∈ othersL rs[p] p, nth ns o ≤ 1000200
theorem Calm.told {rs : List Rule} {ns : List Int} {p : Nat} (c : Calm rs ns p) {h : Int} (h0 : 0 ≤ h) : 0 ≤ toldO rs ns p h ∧ toldO rs ns p h ≤ 1000299 := by
  refine ⟨toldO_nn c.hh c.hp c.hn c.nn h0, tell_small c.fi (Nat.le_trans (lotO_len _ _ _ _) (c.hh.few c.hp)) (fun q hq => ?_) (toldO_ok c.hp)⟩
  obtain ⟨o, ho, rfl⟩ := List.mem_map.mp hq
  exact c.sm o (List.mem_filter.mp ho).1
theorem Calm.some {rs : List Rule} {ns : List Int} {p : Nat} (c : Calm rs ns p) : stopsL rs ns p ≠ [] := by
  have key : ∀ n : Nat, n < 1000300 → toldO rs ns p (n : Int) ≤ (n : Int) → ∃ v : Nat, v < 1000300 ∧ toldO rs ns p (v : Int) = (v : Int) := by
    intro n
    induction n using Nat.strongRecOn with
    | ind n ih =>
      intro h1000300 hle
      by_cases e : toldO rs ns p (n : Int) = (n : Int)
      · exact ⟨n, h1000300, e⟩
      · have t := c.told (h := (n : Int)) (by omega)
        have ek : (((toldO rs ns p (n : Int)).toNat : Nat) : Int) = toldO rs ns p (n : Int) := by omega
        refine ih (toldO rs ns p (n : Int)).toNat (by omega) (by omega) ?_
        rw [ek]
        exact toldO_mono c.hh c.hp c.hn c.nn (by omega) hle
  obtain ⟨v, v1, v2⟩ := key 1000299 (by decide) (c.told (by decide)).2
  intro e
  have : (v : Int) ∈ stopsL rs ns p := stopsL_mem.mpr ⟨by omega, v2⟩
  rw [e] at this
  cases this
theorem stops_eq {rs : List Rule} {ns : List Int} {p : Nat} (c : Calm rs ns p) {bs ms : List Int} (b0 : ∀ b ∈ bs, 0 ≤ b) (cov : ∀ v : Int, ∃ b ∈ bs, ∀ o ∈ othersL (rs[p]'(c.hp)) p, nth ns o < v ↔ nth ns o < b) (pw : ms.Pairwise (· < ·)) (mm : ∀ v, v ∈ ms ↔ ∃ b ∈ bs, v = toldO rs ns p b) : ms.filter (fun v => decide (toldO rs ns p v = v)) = stopsL rs ns p := by
  refine rise_ext (List.Pairwise.filter _ pw) (stopsL_rise _ _ _) fun v => ?_
  rw [stopsL_mem, List.mem_filter, mm]
  constructor
  · rintro ⟨⟨b, hb, e⟩, h2⟩
    have t := c.told (b0 b hb)
    exact ⟨by omega, of_decide_eq_true h2⟩
  · rintro ⟨h1, h2⟩
    obtain ⟨b, hb, cb⟩ := cov v
    refine ⟨⟨b, hb, ?_⟩, decide_eq_true h2⟩
    rw [← toldO_congr (ns := ns) (ns' := ns) (h := b) (h' := v) c.hp fun o ho => ⟨cb o ho, rfl⟩]
    exact h2.symm
theorem cover_up {ls : List Int} {f : Int → Int} {mx : Int} (hm : ∀ o ∈ ls, f o ≤ mx) (v : Int) : ∃ b ∈ ls.map f ++ [mx + 1], ∀ o ∈ ls, f o < v ↔ f o < b := by
  by_cases c : (ls.map f).filter (fun s => decide (v ≤ s)) = []
  · refine ⟨mx + 1, List.mem_append_right _ (List.mem_singleton_self _), fun o ho => ⟨fun _ => by have := hm o ho; omega, fun _ => ?_⟩⟩
    rcases Int.lt_or_le (f o) v with z | z
    · exact z
    · have : f o ∈ (ls.map f).filter (fun s => decide (v ≤ s)) := List.mem_filter.mpr ⟨List.mem_map_of_mem ho, decide_eq_true z⟩
      rw [c] at this
      cases this
  · obtain ⟨b, b1, b2⟩ := min_ex _ c
    obtain ⟨m1, m2⟩ := List.mem_filter.mp b1
    have m3 : v ≤ b := of_decide_eq_true m2
    refine ⟨b, List.mem_append_left _ m1, fun o ho => ⟨fun z => by omega, fun z => ?_⟩⟩
    rcases Int.lt_or_le (f o) v with y | y
    · exact y
    · have := b2 (f o) (List.mem_filter.mpr ⟨List.mem_map_of_mem ho, decide_eq_true y⟩)
      omega
theorem cover_down {ls : List Int} {f : Int → Int} {top : Int} (nn : ∀ o ∈ ls, 0 ≤ f o) (v : Int) : ∃ b ∈ [0, top] ++ ls.map (fun o => f o + 1), ∀ o ∈ ls, f o < v ↔ f o < b := by
  by_cases c : ((ls.map f).filter (fun s => decide (s < v))).map (fun s => -s) = []
  · refine ⟨0, by simp, fun o ho => ⟨fun z => ?_, fun z => ?_⟩⟩
    · have : f o ∈ (ls.map f).filter (fun s => decide (s < v)) := List.mem_filter.mpr ⟨List.mem_map_of_mem ho, decide_eq_true z⟩
      rw [List.map_eq_nil_iff.mp c] at this
      cases this
    · have := nn o ho
      omega
  · obtain ⟨b, b1, b2⟩ := min_ex _ c
    obtain ⟨s, hs, rfl⟩ := List.mem_map.mp b1
    obtain ⟨m1, m2⟩ := List.mem_filter.mp hs
    obtain ⟨o1, ho1, e1⟩ := List.mem_map.mp m1
    have m3 : s < v := of_decide_eq_true m2
    refine ⟨s + 1, List.mem_append_right _ (List.mem_map.mpr ⟨o1, ho1, by rw [e1]⟩), fun o ho => ⟨fun z => ?_, fun z => by omega⟩⟩
    have := b2 (-(f o)) (List.mem_map.mpr ⟨f o, List.mem_filter.mpr ⟨List.mem_map_of_mem ho, decide_eq_true z⟩, rfl⟩)
    omega
theorem as_range (as : List Int) : as = (List.range as.length).map fun i => as.getD i 0 := by
  refine List.ext_getElem (by rw [List.length_map, List.length_range]) fun i h1 h2 => ?_
  rw [List.getElem_map, List.getElem_range, List.getD_eq_getElem?_getD, List.getElem?_eq_getElem h1]
  rfl
theorem filt_range (as : List Int) (p : Int → Bool) (f : Int → V) : ((List.range as.length).filter fun i => p (as.getD i 0)).map (fun i => f (as.getD i 0)) = (as.filter p).map f := by
  rw [show as.filter p = ((List.range as.length).map fun i => as.getD i 0).filter p from congrArg _ (as_range as), List.filter_map, List.map_map]
  rfl
theorem map_range (as : List Int) (f : Int → V) : (List.range as.length).map (fun i => f (as.getD i 0)) = as.map f := by
  rw [show as.map f = ((List.range as.length).map fun i => as.getD i 0).map f from congrArg _ (as_range as), List.map_map]
  rfl
theorem getD_in {as : List Int} {i : Nat} (h : i < as.length) : as.getD i 0 = as[i] := by
  rw [List.getD_eq_getElem?_getD, List.getElem?_eq_getElem h]
  rfl
theorem v_eq (a b : Int) : decide (V.int a = V.int b) = decide (a = b) := by
  by_cases c : a = b
  · rw [c, decide_eq_true rfl, decide_eq_true rfl]
  · rw [decide_eq_false c, decide_eq_false fun z => c (V.int.inj z)]
theorem pair_at {H : Hp} {ps : List Addr} {lot : List (Int × Int)} (hp : Paired (PairAtH H) ps lot) : ∀ (n : Nat) (h1 : n < ps.length) (h2 : n < lot.length), PairAtH H ps[n] lot[n] := by
  induction hp with
  | nil => intro n h1; exact absurd h1 (by simp)
  | cons r t ih =>
    intro n h1 h2
    cases n with
    | zero => exact r
    | succ n => exact ih n (by simpa using h1) (by simpa using h2)
end Lh

namespace Lh
open PySem PySem.Spec PyProof.Rows L2
/-! ### halls without rounds: orders in which each stands behind all others whom it sees -/
def Topo (rs : List Rule) (od : List Int) : Prop := od.Nodup ∧ od.length = rs.length ∧ (∀ x ∈ od, 0 ≤ x ∧ x < (rs.length : Int)) ∧
  ∀ (i : Nat) (hi : i < od.length) (p : Nat) (hp : p < rs.length), od[i] = (p : Int) → ∀ o ∈ othersL rs[p] p, o ∈ od.take i
def allP (rs : List Rule) : List Int := (List.range rs.length).map fun k : Nat => (k : Int)
theorem allP_mem {rs : List Rule} {x : Int} : x ∈ allP rs ↔ 0 ≤ x ∧ x < (rs.length : Int) := by
  unfold allP
  rw [List.mem_map]
  constructor
  · rintro ⟨k, hk, rfl⟩
    have := List.mem_range.mp hk
    omega
  · intro h
    exact ⟨x.toNat, List.mem_range.mpr (by omega), by omega⟩
theorem allP_nodup (rs : List Rule) : (allP rs).Nodup := (rg_rising (rs.length : Int) (by omega)).nodup
theorem allP_len (rs : List Rule) : (allP rs).length = rs.length := by unfold allP; rw [List.length_map, List.length_range]
def leftL (rs : List Rule) (taken : List Int) : List Int := (allP rs).filter fun x => decide (x ∉ taken)
theorem leftL_mem {rs : List Rule} {taken : List Int} {x : Int} : x ∈ leftL rs taken ↔ (0 ≤ x ∧ x < (rs.length : Int)) ∧ x ∉ taken := by
  unfold leftL
  rw [List.mem_filter, allP_mem, decide_eq_true_iff]
theorem leftL_len (rs : List Rule) (taken : List Int) : (leftL rs taken).length ≤ rs.length := by
  unfold leftL
  exact Nat.le_trans (List.length_filter_le _ _) (by rw [allP_len]; exact Nat.le_refl _)
theorem leftL_some {rs : List Rule} {taken : List Int} (h : taken.length < rs.length) : leftL rs taken ≠ [] := fun e => by
  have h1 := nodup_len (allP rs) taken (allP_nodup rs) (fun x hx => by
    by_cases c : x ∈ taken
    · exact c
    · have : x ∈ leftL rs taken := leftL_mem.mpr ⟨allP_mem.mp hx, c⟩
      rw [e] at this
      exact absurd this (by simp))
  rw [allP_len] at h1
  omega
theorem filter_erase {p : Int → Bool} {x : Int} : ∀ {xs : List Int}, xs.Nodup → (xs.filter fun y => p y && decide (y ≠ x)) = (xs.filter p).erase x
  | [], _ => rfl
  | y :: t, nd => by
    have nt := List.nodup_cons.mp nd
    have ih := filter_erase (p := p) (x := x) nt.2
    rw [List.filter_cons, List.filter_cons]
    by_cases c : p y = true
    · by_cases e : y = x
      · subst e
        rw [if_neg (by simp), if_pos c, List.erase_cons_head, ih]
        refine List.erase_of_not_mem fun h => nt.1 (List.mem_filter.mp h).1
      · rw [if_pos (by simp [c, e]), if_pos c, List.erase_cons_tail (by simpa using e), ih]
    · rw [if_neg (by simp [c]), if_neg c, ih]
theorem leftL_erase {rs : List Rule} {taken : List Int} {x : Int} : leftL rs (taken ++ [x]) = (leftL rs taken).erase x := by
  unfold leftL
  rw [← filter_erase (allP_nodup rs)]
  refine List.filter_congr fun y _ => ?_
  rw [Bool.eq_iff_iff]
  simp
def freeB (rs : List Rule) (left : List Int) (x : Int) : Bool := !((othersL (rs.getD x.toNat (.held 0)) x.toNat).any fun o => decide (o ∈ left))
def firstF (rs : List Rule) (left : List Int) : Option Int := left.find? (freeB rs left)
def peelL (rs : List Rule) : Nat → List Int
  | 0 => []
  | k + 1 => peelL rs k ++ (firstF rs (leftL rs (peelL rs k))).toList
theorem flat_free {rs : List Rule} (fl : Flat rs) {left : List Int} (hl : ∀ x ∈ left, 0 ≤ x ∧ x < (rs.length : Int)) (ne : left ≠ []) : ∃ p ∈ left, freeB rs left p = true := by
  obtain ⟨ms, nd, ml, mi, ord⟩ := fl
  have key : ∀ j (hj : j < ms.length), ms[j] ∈ left → ∃ p ∈ left, freeB rs left p = true := fun j => by
    induction j using Nat.strongRecOn with
    | ind j ih =>
      intro hj hm
      by_cases c : freeB rs left ms[j] = true
      · exact ⟨_, hm, c⟩
      · have io := hl _ hm
        have hp : ms[j].toNat < rs.length := by omega
        unfold freeB at c
        rw [getD_at hp, Bool.not_eq_true, Bool.not_eq_false', List.any_eq_true] at c
        obtain ⟨o, ho, c2⟩ := c
        have ol : o ∈ left := of_decide_eq_true c2
        obtain ⟨j2, hj2, e2, per⟩ := ord ms[j].toNat hp
        have ej : j2 = j := (List.getElem_inj (h₀ := hj2) (h₁ := hj) nd).mp (by rw [e2]; omega)
        subst ej
        obtain ⟨i2, hi2, ei2⟩ := List.mem_iff_getElem.mp (per _ (othersL_in ho).1)
        rw [List.length_take] at hi2
        rw [List.getElem_take] at ei2
        exact ih i2 (by omega) (by omega) (by rw [ei2]; exact ol)
  obtain ⟨x, hx⟩ := List.exists_mem_of_ne_nil left ne
  have io := hl x hx
  obtain ⟨j, hj, ej, _⟩ := ord x.toNat (by omega)
  exact key j hj (by rw [ej, show ((x.toNat : Nat) : Int) = x by omega]; exact hx)
theorem firstF_some {rs : List Rule} (fl : Flat rs) {left : List Int} (hl : ∀ x ∈ left, 0 ≤ x ∧ x < (rs.length : Int)) (ne : left ≠ []) : ∃ p, firstF rs left = some p ∧ p ∈ left ∧ freeB rs left p = true := by
  obtain ⟨p, h1, h2⟩ := flat_free fl hl ne
  cases e : firstF rs left with
  | none =>
    unfold firstF at e
    rw [List.find?_eq_none] at e
    exact absurd h2 (e p h1)
  | some q => exact ⟨q, rfl, List.mem_of_find?_eq_some e, List.find?_some e⟩
/-- the beginning of such an order -/
structure Peel (rs : List Rule) (od : List Int) : Prop where
  nd : od.Nodup
  inr : ∀ x ∈ od, 0 ≤ x ∧ x < (rs.length : Int)
  be : ∀ (i : Nat) (hi : i < od.length) (p : Nat) (hp : p < rs.length), od[i] = (p : Int) → ∀ o ∈ othersL rs[p] p, o ∈ od.take i
theorem Peel.topo {rs : List Rule} {od : List Int} (h : Peel rs od) (l : od.length = rs.length) : Topo rs od := ⟨h.nd, l, h.inr, h.be⟩
theorem Peel.nil (rs : List Rule) : Peel rs [] := ⟨List.nodup_nil, fun x h => absurd h (by simp), fun i hi => absurd hi (by simp)⟩
theorem Peel.snoc {rs : List Rule} (hh : Halls rs) {od : List Int} {x : Int} (h : Peel rs od) (hx : x ∈ leftL rs od) (fr : freeB rs (leftL rs od) x = true) : Peel rs (od ++ [x]) := by
  obtain ⟨ix, nx⟩ := leftL_mem.mp hx
  refine ⟨?_, fun y hy => ?_, fun i hi p hp e o ho => ?_⟩
  · rw [List.nodup_append]
    exact ⟨h.nd, by simp, fun a ha b hb => by rw [List.mem_singleton.mp hb]; exact fun e => nx (by rw [← e]; exact ha)⟩
  · rcases List.mem_append.mp hy with z | z
    · exact h.inr y z
    · rw [List.mem_singleton.mp z]; exact ix
  · by_cases c : i < od.length
    · rw [List.getElem_append_left c] at e
      rw [List.take_append_of_le_length (by omega)]
      exact h.be i c p hp e o ho
    · have ei : i = od.length := by rw [List.length_append] at hi; have : i < od.length + 1 := hi; omega
      subst ei
      rw [List.getElem_append_right (Nat.le_refl _)] at e
      simp only [Nat.sub_self, List.getElem_singleton] at e
      subst e
      rw [List.take_append_of_le_length (Nat.le_refl _), List.take_length]
      have io := per_in hh hp o (othersL_in ho).1
      by_cases c2 : o ∈ od
      · exact c2
      · exfalso
        have ol : o ∈ leftL rs od := leftL_mem.mpr ⟨io, c2⟩
        unfold freeB at fr
        rw [Int.toNat_natCast, getD_at hp, Bool.not_eq_true', List.any_eq_false] at fr
        exact fr o ho (decide_eq_true ol)
theorem peelL_ok {rs : List Rule} (hh : Halls rs) (fl : Flat rs) : ∀ k, k ≤ rs.length → (peelL rs k).length = k ∧ Peel rs (peelL rs k)
  | 0, _ => ⟨rfl, Peel.nil rs⟩
  | k + 1, hk => by
    obtain ⟨h1, h2⟩ := peelL_ok hh fl k (by omega)
    obtain ⟨p, e, m, f⟩ := firstF_some fl (left := leftL rs (peelL rs k)) (fun x hx => (leftL_mem.mp hx).1) (leftL_some (by omega))
    unfold peelL
    rw [e]
    exact ⟨by rw [List.length_append, h1]; rfl, h2.snoc hh m f⟩
theorem peelL_topo {rs : List Rule} (hh : Halls rs) (fl : Flat rs) : Topo rs (peelL rs rs.length) := by
  obtain ⟨h1, h2⟩ := peelL_ok hh fl rs.length (Nat.le_refl _)
  exact h2.topo h1
theorem Topo.mem {rs : List Rule} {od : List Int} (t : Topo rs od) {p : Nat} (hp : p < rs.length) : (p : Int) ∈ od := by
  by_cases c : (p : Int) ∈ od
  · exact c
  · exfalso
    have h1 := nodup_len ((p : Int) :: od) (allP rs) (List.nodup_cons.mpr ⟨c, t.1⟩) (fun x hx => by
      rcases List.mem_cons.mp hx with rfl | hx
      · exact allP_mem.mpr (by omega)
      · exact allP_mem.mpr (t.2.2.1 x hx))
    rw [List.length_cons, allP_len, t.2.1] at h1
    omega
theorem Topo.left {rs : List Rule} {od : List Int} (t : Topo rs od) : leftL rs od = [] := by
  rw [List.eq_nil_iff_forall_not_mem]
  intro x hx
  obtain ⟨ix, nx⟩ := leftL_mem.mp hx
  have := t.mem (p := x.toNat) (by omega)
  rw [show ((x.toNat : Nat) : Int) = x by omega] at this
  exact nx this
/-! ### by which beat each rests -/
def topF (l : List Int) : Int := l.foldl max 0
theorem topF_ge (l : List Int) : 0 ≤ topF l ∧ ∀ y ∈ l, y ≤ topF l := ⟨(foldl_max l 0).2.1, (foldl_max l 0).2.2⟩
theorem topF_mem {l : List Int} (h : l ≠ []) (p : ∀ y ∈ l, 0 ≤ y) : topF l ∈ l := by
  rcases (foldl_max l 0).1 with z | z
  · obtain ⟨y, hy⟩ := List.exists_mem_of_ne_nil l h
    have h1 := (topF_ge l).2 y hy
    have h2 := p y hy
    have h3 : topF l = 0 := z
    rw [h3, show (0 : Int) = y by omega]
    exact hy
  · exact z
def LateF (rs : List Rule) (f : Int → Int) : Prop := ∀ (p : Nat) (hp : p < rs.length), f p = topF ((othersL rs[p] p).map f) + (othersL rs[p] p).length + 1
theorem late_ex {rs : List Rule} {od : List Int} (t : Topo rs od) : ∃ f, LateF rs f := by
  have key : ∀ k, k ≤ od.length → ∃ f : Int → Int, ∀ (i : Nat) (hi : i < od.length), i < k → ∀ (p : Nat) (hp : p < rs.length), od[i] = (p : Int) → f p = topF ((othersL rs[p] p).map f) + (othersL rs[p] p).length + 1 := fun k => by
    induction k with
    | zero => exact fun _ => ⟨fun _ => 0, fun i _ h => absurd h (by omega)⟩
    | succ k ih =>
      intro hk
      obtain ⟨f, hf⟩ := ih (by omega)
      have mk := t.2.2.1 _ (List.getElem_mem (show k < od.length by omega))
      have hpk : od[k].toNat < rs.length := by omega
      refine ⟨fun x => if x = od[k] then topF ((othersL (rs[od[k].toNat]'hpk) od[k].toNat).map f) + (othersL (rs[od[k].toNat]'hpk) od[k].toNat).length + 1 else f x, fun i hi hik p hp e => ?_⟩
      have same : ((othersL rs[p] p).map fun x => if x = od[k] then topF ((othersL (rs[od[k].toNat]'hpk) od[k].toNat).map f) + (othersL (rs[od[k].toNat]'hpk) od[k].toNat).length + 1 else f x) = (othersL rs[p] p).map f := by
        refine List.map_congr_left fun o ho => ?_
        have m := t.2.2.2 i hi p hp e o ho
        obtain ⟨j, hj, ej⟩ := List.mem_iff_getElem.mp m
        rw [List.length_take] at hj
        rw [List.getElem_take] at ej
        rw [if_neg]
        intro z
        have : j = k := (List.getElem_inj t.1).mp (ej.trans z)
        omega
      rw [same]
      dsimp only
      by_cases c : i = k
      · subst c
        have ep : od[i].toNat = p := by omega
        rw [if_pos e.symm]
        subst ep
        rfl
      · rw [if_neg (fun z => c ((List.getElem_inj t.1).mp (e.trans z)))]
        exact hf i hi (by omega) p hp e
  obtain ⟨f, hf⟩ := key od.length (Nat.le_refl _)
  refine ⟨f, fun p hp => ?_⟩
  obtain ⟨i, hi, e⟩ := List.mem_iff_getElem.mp (t.mem hp)
  exact hf i hi hi p hp e
theorem LateF.pos {rs : List Rule} {f : Int → Int} (h : LateF rs f) {p : Nat} (hp : p < rs.length) : 1 ≤ f p := by
  have := h p hp
  have := (topF_ge ((othersL rs[p] p).map f)).1
  omega
theorem LateF.bound {rs : List Rule} (hh : Halls rs) {od : List Int} (t : Topo rs od) {f : Int → Int} (h : LateF rs f) {p : Nat} (hp : p < rs.length) : f p ≤ 5000 := by
  have key : ∀ i (hi : i < od.length) (p : Nat) (hp : p < rs.length), od[i] = (p : Int) → f p ≤ 61 * (i + 1) := fun i => by
    induction i using Nat.strongRecOn with
    | ind i ih =>
      intro hi p hp e
      have few := hh.few hp
      have lo : (othersL rs[p] p).length ≤ 60 := Nat.le_trans (List.length_filter_le _ _) few
      rw [h p hp]
      have : topF ((othersL rs[p] p).map f) ≤ 61 * i := by
        by_cases c : (othersL rs[p] p).map f = []
        · rw [c]; show (0 : Int) ≤ _; omega
        · have m := topF_mem c (fun y hy => by
            obtain ⟨o, ho, rfl⟩ := List.mem_map.mp hy
            have io := per_in hh hp o (othersL_in ho).1
            have := h.pos (p := o.toNat) (by omega)
            rw [show ((o.toNat : Nat) : Int) = o by omega] at this
            omega)
          obtain ⟨o, ho, e2⟩ := List.mem_map.mp m
          have io := per_in hh hp o (othersL_in ho).1
          obtain ⟨j, hj, ej⟩ := List.mem_iff_getElem.mp (t.2.2.2 i hi p hp e o ho)
          rw [List.length_take] at hj
          rw [List.getElem_take] at ej
          have := ih j (by omega) (by omega) o.toNat (by omega) (by rw [ej]; omega)
          rw [show ((o.toNat : Nat) : Int) = o by omega] at this
          rw [← e2]
          omega
      omega
  obtain ⟨i, hi, e⟩ := List.mem_iff_getElem.mp (t.mem hp)
  have := key i hi p hp e
  have := hh.2.1
  have := t.2.1
  omega
/-- behind the last change of those others it sees: one beat more than they are -/
theorem own_still2 {rs : List Rule} (hh : Halls rs) {ns : List Int} (hn : ns.length = rs.length) (pos : ∀ n ∈ ns, 0 ≤ n) {p T : Nat} (hp : p < rs.length) (st : ∀ o ∈ othersL rs[p] p, ∀ k, nth (beatN rs ns (T + k)) o = nth (beatN rs ns T) o) : ∀ k, nth (beatN rs ns (T + ((othersL rs[p] p).length + 1) + k)) p = nth (beatN rs ns (T + ((othersL rs[p] p).length + 1))) p := by
  have lT := beatN_len hn T
  have pT := beatN_pos hh hn pos T
  have vG : ∀ k, nth (beatN rs ns (T + (k + 1))) p = toldO rs (beatN rs ns T) p (max 0 (nth (beatN rs ns (T + k)) p)) := fun k => by
    have t := ((beatN_step hn (T + k)).2 p hp).1 trivial
    have v0 : 0 ≤ nth (beatN rs ns (T + k)) p := nth_pos (beatN_pos hh hn pos _) _
    rw [show max 0 (nth (beatN rs ns (T + k)) p) = nth (beatN rs ns (T + k)) p by omega]
    refine toldO_of hp ?_
    have e : lotO rs[p] (beatN rs ns T) p (nth (beatN rs ns (T + k)) p) = lotI rs[p] (beatN rs ns (T + k)) p := by
      unfold lotO lotI
      have e1 : rs[p].persons.filter (fun o => decide (nth (beatN rs ns (T + k)) o < nth (beatN rs ns (T + k)) p)) = (othersL rs[p] p).filter (fun o => decide (nth (beatN rs ns T) o < nth (beatN rs ns (T + k)) p)) := by
        unfold othersL
        rw [List.filter_filter]
        refine List.filter_congr fun o ho => ?_
        by_cases c : o = (p : Int)
        · subst c
          rw [decide_eq_false (by omega)]
          simp
        · have := st o (List.mem_filter.mpr ⟨ho, decide_eq_true c⟩) k
          rw [this, decide_eq_true c, Bool.and_true]
      rw [e1]
      refine List.map_congr_left fun o ho => ?_
      rw [st o (List.mem_filter.mp ho).1 k]
    rw [e]
    exact t
  have r := runs (G := fun h => toldO rs (beatN rs ns T) p (max 0 h)) (c := fun h => (lotO rs[p] (beatN rs ns T) p (max 0 h)).length) (n := (othersL rs[p] p).length) (fun h => by
    show (lotO _ _ _ _).length ≤ _
    unfold lotO
    rw [List.length_map]
    exact List.length_filter_le _ _) (fun h h' l => by
      have l2 : max 0 h ≤ max 0 h' := by omega
      obtain ⟨c1, c2⟩ := filter_len_eq (f := fun o => decide (nth (beatN rs ns T) o < max 0 h)) (g := fun o => decide (nth (beatN rs ns T) o < max 0 h')) (fun o z => decide_eq_true (by have := of_decide_eq_true z; omega)) (othersL rs[p] p)
      refine ⟨toldO_mono hh hp lT pT (by omega) l2, by unfold lotO; rw [List.length_map, List.length_map]; exact c1, fun e => ?_⟩
      have e' : lotO rs[p] (beatN rs ns T) p (max 0 h) = lotO rs[p] (beatN rs ns T) p (max 0 h') := by
        unfold lotO at e ⊢
        rw [List.length_map, List.length_map] at e
        rw [c2 e]
      unfold toldO
      rw [getD_at hp, e']) (v := fun k => nth (beatN rs ns (T + k)) p) vG
  intro k
  have := r k
  rw [show T + ((othersL rs[p] p).length + 1) + k = T + ((othersL rs[p] p).length + 1 + k) by omega]
  exact this
theorem late_still {rs : List Rule} (hh : Halls rs) {od : List Int} (t : Topo rs od) {f : Int → Int} (lf : LateF rs f) {ns : List Int} (hn : ns.length = rs.length) (pos : ∀ n ∈ ns, 0 ≤ n) {p : Nat} (hp : p < rs.length) : ∀ k, nth (beatN rs ns ((f p).toNat + k)) p = nth (beatN rs ns (f p).toNat) p := by
  have key : ∀ i (hi : i < od.length) (p : Nat) (hp : p < rs.length), od[i] = (p : Int) → ∀ k, nth (beatN rs ns ((f p).toNat + k)) p = nth (beatN rs ns (f p).toNat) p := fun i => by
    induction i using Nat.strongRecOn with
    | ind i ih =>
      intro hi p hp e k
      have m0 := (topF_ge ((othersL rs[p] p).map f)).1
      have s := own_still2 hh hn pos (T := (topF ((othersL rs[p] p).map f)).toNat) hp (fun o ho k => by
        have io := per_in hh hp o (othersL_in ho).1
        obtain ⟨j, hj, ej⟩ := List.mem_iff_getElem.mp (t.2.2.2 i hi p hp e o ho)
        rw [List.length_take] at hj
        rw [List.getElem_take] at ej
        have eo : ((o.toNat : Nat) : Int) = o := by omega
        have h1 := ih j (by omega) (by omega) o.toNat (by omega) (by rw [ej]; omega)
        rw [eo] at h1
        have le : f o ≤ topF ((othersL rs[p] p).map f) := (topF_ge _).2 _ (List.mem_map_of_mem ho)
        have po := lf.pos (p := o.toNat) (by omega)
        rw [eo] at po
        have a := h1 ((topF ((othersL rs[p] p).map f)).toNat + k - (f o).toNat)
        have b := h1 ((topF ((othersL rs[p] p).map f)).toNat - (f o).toNat)
        rw [show (f o).toNat + ((topF ((othersL rs[p] p).map f)).toNat + k - (f o).toNat) = (topF ((othersL rs[p] p).map f)).toNat + k by omega] at a
        rw [show (f o).toNat + ((topF ((othersL rs[p] p).map f)).toNat - (f o).toNat) = (topF ((othersL rs[p] p).map f)).toNat by omega] at b
        rw [a, b])
      have ef : (f p).toNat = (topF ((othersL rs[p] p).map f)).toNat + ((othersL rs[p] p).length + 1) := by
        have := lf p hp
        omega
      rw [ef]
      exact s k
  obtain ⟨i, hi, e⟩ := List.mem_iff_getElem.mp (t.mem hp)
  exact key i hi p hp e
end Lh

namespace Lh
open PySem PySem.Spec PyProof.Rows L2
/-! ### a person's own turns, again and again -/
theorem tell_up {r : Rule} {lot : List (Int × Int)} {y B : Int} (hB : 1000 ≤ B) (fi : r.Fine 9) (l12 : lot.length ≤ 60) (sm : ∀ q ∈ lot, q.2 ≤ B) (t : Tell r lot y) : y ≤ B + 1 := by
  cases r with
  | held n =>
    have e : y = n := t
    have : n ≤ 6 := fi
    omega
  | sum own ties =>
    have e : y = own + (lot.map fun q => wgt ties q.1).sum := t
    have b := sum_nine (wgt_le (by decide) fi.2) lot
    have := fi.1
    omega
  | cap own ties most =>
    have e : y = min (own + (lot.map fun q => wgt ties q.1).sum) most := t
    have : most ≤ 5 := fi.2.2
    omega
  | kinds own seen =>
    obtain ⟨ks, n1, m1, e⟩ := t
    have h1 := nodup_len ks (lot.map (·.2)) n1 fun x hx => (m1 x).mp hx
    rw [List.length_map] at h1
    have : own ≤ 2 := fi
    omega
  | next seen =>
    rcases t with ⟨_, e⟩ | ⟨h1, _⟩
    · omega
    · obtain ⟨q, hq, e⟩ := List.mem_map.mp h1
      have := sm q hq
      omega
  | free seen =>
    obtain ⟨n1, n2, n3⟩ := t
    have h1 := nodup_len ((List.range y.toNat).map fun k : Nat => (k : Int)) (lot.map (·.2)) (by
      rw [List.nodup_iff_pairwise_ne]
      exact List.Pairwise.map _ (fun a b z q => z (by omega)) (List.nodup_iff_pairwise_ne.mp List.nodup_range)) (fun x hx => by
        obtain ⟨k, hk, rfl⟩ := List.mem_map.mp hx
        have := List.mem_range.mp hk
        exact n3 _ (by omega) (by omega))
    rw [List.length_map, List.length_range, List.length_map] at h1
    omega
structure Own (rs : List Rule) (ns : List Int) (p : Nat) : Prop where
  hh : Halls rs
  hp : p < rs.length
  hn : ns.length = rs.length
  nn : ∀ n ∈ ns, 0 ≤ n
noncomputable def itO (rs : List Rule) (ns : List Int) (p : Nat) (v : Int) : Nat → Int
  | 0 => v
  | k + 1 => toldO rs ns p (itO rs ns p v k)
noncomputable def limO (rs : List Rule) (ns : List Int) (p : Nat) (v : Int) : Int := itO rs ns p v 61
section
variable {rs : List Rule} {ns : List Int} {p : Nat} {v : Int}
theorem Own.it_nn (o : Own rs ns p) (v0 : 0 ≤ v) : ∀ k, 0 ≤ itO rs ns p v k
  | 0 => v0
  | k + 1 => toldO_nn o.hh o.hp o.hn o.nn (o.it_nn v0 k)
theorem Own.mono (o : Own rs ns p) {h h' : Int} (h0 : 0 ≤ h') (l : h ≤ h') : toldO rs ns p h ≤ toldO rs ns p h' := toldO_mono o.hh o.hp o.hn o.nn h0 l
theorem Own.it_mono (o : Own rs ns p) {v' : Int} (v0 : 0 ≤ v) (l : v ≤ v') : ∀ k, itO rs ns p v k ≤ itO rs ns p v' k
  | 0 => l
  | k + 1 => o.mono (o.it_nn (by omega) k) (o.it_mono v0 l k)
theorem Own.still (o : Own rs ns p) (v0 : 0 ≤ v) : ∀ k, itO rs ns p v (61 + k) = itO rs ns p v 61 := by
  have lo : (othersL (rs[p]'o.hp) p).length ≤ 60 := Nat.le_trans (List.length_filter_le _ _) (o.hh.few o.hp)
  have r := runs (G := fun h => toldO rs ns p (max 0 h)) (c := fun h => (lotO (rs[p]'o.hp) ns p (max 0 h)).length) (n := (othersL (rs[p]'o.hp) p).length) (fun h => by
    show (lotO _ _ _ _).length ≤ _
    unfold lotO
    rw [List.length_map]
    exact List.length_filter_le _ _) (fun h h' l => by
      have l2 : max 0 h ≤ max 0 h' := by omega
      obtain ⟨c1, c2⟩ := filter_len_eq (f := fun o => decide (nth ns o < max 0 h)) (g := fun o => decide (nth ns o < max 0 h')) (fun o z => decide_eq_true (by have := of_decide_eq_true z; omega)) (othersL (rs[p]'o.hp) p)
      refine ⟨o.mono (by omega) l2, by unfold lotO; rw [List.length_map, List.length_map]; exact c1, fun e => ?_⟩
      have e' : lotO (rs[p]'o.hp) ns p (max 0 h) = lotO (rs[p]'o.hp) ns p (max 0 h') := by
        unfold lotO at e ⊢
        rw [List.length_map, List.length_map] at e
        rw [c2 e]
      unfold toldO
      rw [getD_at o.hp, e']) (v := fun k => itO rs ns p v k) (fun k => by
        show toldO rs ns p _ = toldO rs ns p (max 0 _)
        have := o.it_nn v0 k
        rw [show max 0 (itO rs ns p v k) = itO rs ns p v k by omega])
  intro k
  have a := r (60 - (othersL (rs[p]'o.hp) p).length + k)
  have b := r (60 - (othersL (rs[p]'o.hp) p).length)
  rw [show (othersL (rs[p]'o.hp) p).length + 1 + (60 - (othersL (rs[p]'o.hp) p).length + k) = 61 + k by omega] at a
  rw [show (othersL (rs[p]'o.hp) p).length + 1 + (60 - (othersL (rs[p]'o.hp) p).length) = 61 by omega] at b
  exact a.trans b.symm
theorem Own.lim_stop (o : Own rs ns p) (v0 : 0 ≤ v) : toldO rs ns p (limO rs ns p v) = limO rs ns p v := o.still v0 1
theorem Own.lim_nn (o : Own rs ns p) (v0 : 0 ≤ v) : 0 ≤ limO rs ns p v := o.it_nn v0 61
theorem Own.stop_up (o : Own rs ns p) {s : Int} (s0 : 0 ≤ s) (st : toldO rs ns p s = s) (l : v ≤ s) : ∀ k, itO rs ns p v k ≤ s
  | 0 => l
  | k + 1 => by
    have := o.mono s0 (o.stop_up s0 st l k)
    rw [st] at this
    exact this
theorem Own.stop_down (o : Own rs ns p) {s : Int} (v0 : 0 ≤ v) (st : toldO rs ns p s = s) (l : s ≤ v) : ∀ k, s ≤ itO rs ns p v k
  | 0 => l
  | k + 1 => by
    have := o.mono (o.it_nn v0 k) (o.stop_down v0 st l k)
    rw [st] at this
    exact this
theorem Own.up (o : Own rs ns p) (v0 : 0 ≤ v) (l : v ≤ toldO rs ns p v) : ∀ k, itO rs ns p v k ≤ itO rs ns p v (k + 1)
  | 0 => l
  | k + 1 => o.mono (o.it_nn v0 _) (o.up v0 l k)
theorem Own.down (o : Own rs ns p) (v0 : 0 ≤ v) (l : toldO rs ns p v ≤ v) : ∀ k, itO rs ns p v (k + 1) ≤ itO rs ns p v k
  | 0 => l
  | k + 1 => o.mono (o.it_nn v0 _) (o.down v0 l k)
theorem Own.up_le (o : Own rs ns p) (v0 : 0 ≤ v) (l : v ≤ toldO rs ns p v) (i : Nat) : ∀ k, itO rs ns p v i ≤ itO rs ns p v (i + k)
  | 0 => Int.le_refl _
  | k + 1 => Int.le_trans (o.up_le v0 l i k) (o.up v0 l (i + k))
theorem Own.down_le (o : Own rs ns p) (v0 : 0 ≤ v) (l : toldO rs ns p v ≤ v) (i : Nat) : ∀ k, itO rs ns p v (i + k) ≤ itO rs ns p v i
  | 0 => Int.le_refl _
  | k + 1 => Int.le_trans (o.down v0 l (i + k)) (o.down_le v0 l i k)
theorem it_congr {ns' : List Int} (hp : p < rs.length) (c : ∀ o ∈ othersL rs[p] p, nth ns' o = nth ns o) : ∀ k, itO rs ns' p v k = itO rs ns p v k
  | 0 => rfl
  | k + 1 => by
    show toldO rs ns' p _ = toldO rs ns p _
    rw [it_congr hp c k]
    exact toldO_congr hp fun o ho => ⟨by rw [c o ho], c o ho⟩
theorem lim_congr {ns' : List Int} (hp : p < rs.length) (c : ∀ o ∈ othersL rs[p] p, nth ns' o = nth ns o) : limO rs ns' p v = limO rs ns p v := it_congr hp c 61
theorem lotI_O {r : Rule} {ns : List Int} {p : Nat} : lotI r ns p = lotO r ns p (nth ns p) := by
  unfold lotI lotO othersL
  rw [List.filter_filter]
  refine congrArg _ (List.filter_congr fun o _ => ?_)
  by_cases c : o = (p : Int)
  · subst c
    rw [decide_eq_false (by omega)]
    rfl
  · rw [decide_eq_true c, Bool.and_true]
theorem told_at_O (hp : p < rs.length) {y : Int} (t : Tell rs[p] (lotI rs[p] ns p) y) : y = toldO rs ns p (nth ns p) := by
  rw [lotI_O] at t
  exact toldO_of hp t
/-- where it stops first -/
theorem it_end (o : Own rs ns p) (v0 : 0 ≤ v) {k : Nat} (e : itO rs ns p v (k + 1) = itO rs ns p v k) : limO rs ns p v = itO rs ns p v k := by
  have key : ∀ j, itO rs ns p v (k + j) = itO rs ns p v k := fun j => by
    induction j with
    | zero => rfl
    | succ j ih =>
      show toldO rs ns p (itO rs ns p v (k + j)) = _
      rw [ih]
      exact e
  rcases Nat.lt_or_ge k 61 with c | c
  · have := key (61 - k)
    rw [show k + (61 - k) = 61 by omega] at this
    exact this
  · have := o.still v0 (k - 61)
    rw [show 61 + (k - 61) = k by omega] at this
    exact this.symm
/-- one by one, each to its nearest stop -/
def Swept (rs : List Rule) (ns ms : List Int) : Prop := ms.length = rs.length ∧ (∀ n ∈ ms, 0 ≤ n) ∧ ∀ p : Nat, p < rs.length → nth ms p = limO rs ms p (nth ns p)
theorem Swept.own {ms : List Int} (hh : Halls rs) (s : Swept rs ns ms) (hp : p < rs.length) : Own rs ms p := ⟨hh, hp, s.1, s.2.1⟩
theorem Swept.agree {ns ns' ms ms' : List Int} {od : List Int} (hh : Halls rs) (t : Topo rs od) (a : Swept rs ns ms) (b : Swept rs ns' ms') {q : Nat} (e : ∀ p : Nat, p < rs.length → p ≠ q → nth ns p = nth ns' p) : ∀ i (hi : i < od.length), (∀ j (hj : j < od.length), j ≤ i → od[j] ≠ (q : Int)) → ∀ (p : Nat) (hp : p < rs.length), od[i] = (p : Int) → nth ms p = nth ms' p := fun i => by
  induction i using Nat.strongRecOn with
  | ind i ih =>
    intro hi nq p hp ep
    rw [a.2.2 p hp, b.2.2 p hp, e p hp (fun z => nq i hi (Nat.le_refl _) (by rw [ep, z]))]
    refine lim_congr hp fun o ho => ?_
    have io := per_in hh hp o (othersL_in ho).1
    obtain ⟨j, hj, ej⟩ := List.mem_iff_getElem.mp (t.2.2.2 i hi p hp ep o ho)
    rw [List.length_take] at hj
    rw [List.getElem_take] at ej
    have := ih j (by omega) (by omega) (fun j2 h2 h3 => nq j2 h2 (by omega)) o.toNat (by omega) (by rw [ej]; omega)
    rw [show ((o.toNat : Nat) : Int) = o by omega] at this
    exact this
theorem Swept.unique {ns ms ms' : List Int} {od : List Int} (hh : Halls rs) (t : Topo rs od) (a : Swept rs ns ms) (b : Swept rs ns ms') : ms = ms' := by
  refine nth_ext (a.1.trans b.1.symm) fun p hp => ?_
  rw [a.1] at hp
  obtain ⟨i, hi, e⟩ := List.mem_iff_getElem.mp (t.mem hp)
  exact Swept.agree hh t a b (q := rs.length) (fun _ _ _ => rfl) i hi (fun j hj _ z => by
    have := t.2.2.1 _ (List.getElem_mem hj)
    omega) p hp e
theorem Swept.stop {ns ms : List Int} (hh : Halls rs) (nn : ∀ n ∈ ns, 0 ≤ n) (s : Swept rs ns ms) (hp : p < rs.length) : toldO rs ms p (nth ms p) = nth ms p := by
  rw [s.2.2 p hp]
  exact (s.own hh hp).lim_stop (nth_pos nn _)
theorem Swept.rest {ns ms : List Int} (hh : Halls rs) (nn : ∀ n ∈ ns, 0 ≤ n) (s : Swept rs ns ms) : Rest rs ms := fun i hi => by
  rw [lotI_O]
  have t := toldO_ok (ns := ms) (h := nth ms i) hi
  rw [s.stop hh nn hi] at t
  exact t
theorem Swept.again {ns ms : List Int} (hh : Halls rs) (nn : ∀ n ∈ ns, 0 ≤ n) (s : Swept rs ns ms) : Swept rs ms ms := by
  refine ⟨s.1, s.2.1, fun p hp => ?_⟩
  have st := s.stop hh nn hp
  exact (it_end (s.own hh hp) (nth_pos s.2.1 _) (k := 0) st).symm
theorem Swept.more {ns ns' ms ms' : List Int} {od : List Int} (hh : Halls rs) (t : Topo rs od) (nn : ∀ n ∈ ns, 0 ≤ n) (a : Swept rs ns ms) (b : Swept rs ns' ms') (hp : p < rs.length) (e : ∀ i : Nat, i < rs.length → i ≠ p → nth ns i = nth ns' i) (l : nth ns p ≤ nth ns' p) : nth ms p ≤ nth ms' p := by
  rw [a.2.2 p hp, b.2.2 p hp]
  obtain ⟨i, hi, ei⟩ := List.mem_iff_getElem.mp (t.mem hp)
  have c : limO rs ms p (nth ns p) = limO rs ms' p (nth ns p) := by
    refine lim_congr hp fun o ho => ?_
    have io := per_in hh hp o (othersL_in ho).1
    obtain ⟨j, hj, ej⟩ := List.mem_iff_getElem.mp (t.2.2.2 i hi p hp ei o ho)
    rw [List.length_take] at hj
    rw [List.getElem_take] at ej
    have := Swept.agree hh t a b e j (by omega) (fun j2 h2 h3 z => by
      have : j2 = i := (List.getElem_inj t.1).mp (z.trans ei.symm)
      omega) o.toNat (by omega) (by rw [ej]; omega)
    rw [show ((o.toNat : Nat) : Int) = o by omega] at this
    exact this
  rw [c]
  exact (b.own hh hp).it_mono (nth_pos nn _) l 61
/-- amid the sweep -/
structure Amid (rs : List Rule) (ns od : List Int) (i b : Nat) (hs : List Int) : Prop where
  ln : hs.length = rs.length
  nn : ∀ n ∈ hs, 0 ≤ n
  up : ∀ q : Nat, q < rs.length → nth hs q ≤ 1000000 + b + i
  done : ∀ (j : Nat) (hj : j < od.length) (q : Nat) (hq : q < rs.length), j < i → od[j] = (q : Int) → nth hs q = limO rs hs q (nth ns q)
  rest : ∀ (j : Nat) (hj : j < od.length) (q : Nat) (hq : q < rs.length), i ≤ j → od[j] = (q : Int) → nth hs q = nth ns q
theorem Amid.begin {od : List Int} {b : Nat} (hn : ns.length = rs.length) (sm : ∀ n ∈ ns, 0 ≤ n ∧ n ≤ 1000000 + (b : Int)) : Amid rs ns od 0 b ns :=
  ⟨hn, fun n h => (sm n h).1, fun q hq => by have := (sm _ (nth_mem (ns := ns) (p := q) (by omega))).2; omega, fun j _ _ _ h => absurd h (by omega), fun _ _ _ _ _ _ => rfl⟩
theorem Amid.own {od hs : List Int} {i b : Nat} (hh : Halls rs) (a : Amid rs ns od i b hs) (hp : p < rs.length) : Own rs hs p := ⟨hh, hp, a.ln, a.nn⟩
theorem Amid.small {od hs : List Int} {i b : Nat} (hh : Halls rs) (fi : ∀ r ∈ rs, r.Fine 9) (a : Amid rs ns od i b hs) (hp : p < rs.length) {h : Int} : toldO rs hs p h ≤ 1000000 + b + i + 1 := by
  refine tell_up (by omega) (fi _ (List.getElem_mem hp)) (Nat.le_trans (lotO_len _ _ _ _) (hh.few hp)) (fun q hq => ?_) (toldO_ok hp)
  obtain ⟨o, ho, rfl⟩ := List.mem_map.mp hq
  have io := per_in hh hp o (othersL_in (List.mem_filter.mp ho).1).1
  have := a.up o.toNat (by omega)
  rw [show ((o.toNat : Nat) : Int) = o by omega] at this
  exact this
theorem Topo.apart {od hs : List Int} {i : Nat} {u : Int} (hh : Halls rs) (t : Topo rs od) (hi : i < od.length) (hpl : p < hs.length) (e : od[i] = (p : Int)) : ∀ (j : Nat) (hj : j < od.length) (q : Nat) (hq : q < rs.length), j ≤ i → od[j] = (q : Int) → ∀ o ∈ othersL rs[q] q, nth (hs.set p u) o = nth hs o := fun j hj q hq hji eq o ho => by
  have io := per_in hh hq o (othersL_in ho).1
  obtain ⟨j2, hj2, ej2⟩ := List.mem_iff_getElem.mp (t.2.2.2 j hj q hq eq o ho)
  rw [List.length_take] at hj2
  rw [List.getElem_take] at ej2
  have := nth_set (ms := hs) (y := u) hpl o.toNat
  rw [if_neg (fun z => by
    have : j2 = i := (List.getElem_inj t.1).mp (ej2.trans (by rw [e, ← z]; omega))
    omega)] at this
  rw [show ((o.toNat : Nat) : Int) = o by omega] at this
  exact this
theorem Amid.step {od hs : List Int} {i b : Nat} (hh : Halls rs) (fi : ∀ r ∈ rs, r.Fine 9) (t : Topo rs od) (a : Amid rs ns od i b hs) (hi : i < od.length) (hp : p < rs.length) (e : od[i] = (p : Int)) : Amid rs ns od (i + 1) b (hs.set p (limO rs hs p (nth hs p))) := by
  have r12 := hh.2.1
  have l := t.2.1
  have hpl : p < hs.length := by rw [a.ln]; exact hp
  have v0 : 0 ≤ nth hs p := nth_pos a.nn _
  have o := a.own hh hp
  have ev : nth hs p = nth ns p := a.rest i hi p hp (Nat.le_refl _) e
  have same : ∀ (q : Nat), q ≠ p → nth (hs.set p (limO rs hs p (nth hs p))) q = nth hs q := fun q hq => by rw [nth_set hpl, if_neg hq]
  have lsm : limO rs hs p (nth hs p) ≤ 1000000 + b + i + 1 := a.small hh fi hp
  have oth : ∀ (j : Nat) (hj : j < od.length) (q : Nat) (hq : q < rs.length), j ≤ i → od[j] = (q : Int) → ∀ o ∈ othersL rs[q] q, nth (hs.set p (limO rs hs p (nth hs p))) o = nth hs o := fun j hj q hq hji eq o ho => by
    have io := per_in hh hq o (othersL_in ho).1
    obtain ⟨j2, hj2, ej2⟩ := List.mem_iff_getElem.mp (t.2.2.2 j hj q hq eq o ho)
    rw [List.length_take] at hj2
    rw [List.getElem_take] at ej2
    have := same o.toNat (fun z => by
      have : j2 = i := (List.getElem_inj t.1).mp (ej2.trans (by rw [e, ← z]; omega))
      omega)
    rw [show ((o.toNat : Nat) : Int) = o by omega] at this
    exact this
  refine ⟨by rw [List.length_set]; exact a.ln, set_nn a.nn (o.lim_nn v0), fun q hq => ?_, fun j hj q hq hji eq => ?_, fun j hj q hq hij eq => ?_⟩
  · rw [nth_set hpl]
    by_cases c : q = p
    · rw [if_pos c]; omega
    · rw [if_neg c]; have := a.up q hq; omega
  · rw [lim_congr hq (oth j hj q hq (by omega) eq)]
    by_cases c : q = p
    · subst c
      rw [nth_set hpl, if_pos rfl, ev]
    · rw [same q c]
      refine a.done j hj q hq ?_ eq
      rcases Nat.lt_or_ge j i with z | z
      · exact z
      · have : j = i := by omega
        subst this
        exact absurd (by omega) c
  · rw [same q (fun c => by
      subst c
      have : j = i := (List.getElem_inj t.1).mp (eq.trans e.symm)
      omega)]
    exact a.rest j hj q hq (by omega) eq
theorem Amid.end {od hs : List Int} {b : Nat} (t : Topo rs od) (a : Amid rs ns od od.length b hs) : Swept rs ns hs := by
  refine ⟨a.ln, a.nn, fun p hp => ?_⟩
  obtain ⟨i, hi, e⟩ := List.mem_iff_getElem.mp (t.mem hp)
  exact a.done i hi p hp hi e
end
end Lh

namespace Lh
open PySem PySem.Spec PyProof.Rows L2
section
variable {P : Program} {w : World} {K : PySem.W.Frag} {mg : Str → Option Value} {base : Heap}
def spWeighed : Sp := fun vs H Q _ => ∃ (a t : Addr) (l x0 : V) (own : Int) (more : List V) (ties lot : List (Int × Int)), vs = [.ref a, l] ∧ H a = some (.tup (x0 :: .int own :: .ref t :: more)) ∧ TiesAt H t ties ∧ (ties.map (·.1)).Nodup ∧ LotAt H l lot ∧ (∀ q ∈ lot, q.1 ∈ ties.map (·.1)) ∧
  ∀ H', Same H H' → Q (.int (own + (lot.map fun q => wgt ties q.1).sum)) H'
theorem ok_weighed (T : Txt K mg w) : FnOk P w K mg base CX0 1 T.f_weighed T.fd_weighed p_weighed spWeighed := by
  refine T.F_weighed.ok sc_weighed (fun vs H Q E h => ?_) (fun cdv A outer s H vs Q E hr h => ?_)
  · obtain ⟨a, t, l, x0, own, more, ties, lot, rfl, _⟩ := h
    rfl
  · obtain ⟨a, t, l, x0, own, more, ties, lot, rfl, ha, ⟨o, ps, od, ht, pr⟩, nd, ⟨b, qs, rfl, hb, pq, lq⟩, sub, q⟩ := h
    have i1 : atI (x0 :: V.int own :: .ref t :: more) 1 = some (.int own) := atI_nat (j := 1) rfl
    have i2 : atI (x0 :: V.int own :: .ref t :: more) 2 = some (.ref t) := atI_nat (j := 2) rfl
    rcases hb with hb | hb
    · refine ⟨_, (pss_cons (ps_set (i := 2) sc_weighed.nd rfl (.inr rfl) (pe_callTy (call_dictT rfl) (by rfl) T.m_dict (by decide +kernel) (pa_cons (pe_ix ix_tup (pv 0) pe_int (fun _ _ => rfl)) pa_nil)))
      (pss_one (ps_ret (pe_op op_add (pe_ix ix_tup (pv 0) pe_int (fun _ _ => rfl)) (pe_callB (cr_sum rfl) (by rfl) T.m_sum (by decide +kernel) (pa_cons (pe_lc (own := [("person", 3), ("number", 4)]) (g := gTup K 2 (gCons (gName 3) (gCons (gName 4) gNil))) (by rfl) sc_weighed.nd (pi_list (pv 1)) (blkOk_by (own := [("person", 3), ("number", 4)]) (N := n_weighed) (sc := defScope s_weighed) (by decide +kernel)) (fun _ _ _ _ _ => (pg_tup rfl (pgs_cons (pg_name (i := 3) sc_weighed.nd rfl (.inl rfl) (.inr rfl)) (pgs_cons (pg_name (i := 4) sc_weighed.nd rfl (.inl rfl) (.inr rfl)) pgs_nil)))) (fun _ _ _ _ _ => pts_nil) (fun _ _ _ _ _ => (pe_dget (hu_of hr) (pv 2) (pv 3) (fun _ _ => rfl)))) pa_nil)))))), ?_⟩
      refine ⟨.ref a, rfl, a, _, 2, _, rfl, rfl, .inl (.inl ha), i2, t, o, ps, kvOf ties, rfl, od, ht, pairs_sq pr, fun d hd => ?_⟩
      rw [merge_kv nd]
      have s1 := same_upd (o := .dK (kvOf ties)) hd
      refine ⟨.ref a, rfl, a, _, 1, _, rfl, rfl, .inl (.inl (s1 _ _ ha)), i1, ?_⟩
      refine ⟨.ref b, rfl, b, rfl, ⟨_, .inl (.inl (s1 _ _ hb))⟩, fun D hD => ?_⟩
      refine lc_pairs (fun q => wgt ties q.1) (walk_listR qs) (pairs_keep (Keep.same s1) pq) hD lq (fun H3 s3 => .inl (.inl (s3 _ _ (s1 _ _ hb)))) (fun _ _ => rfl) (fun q hq H3 s3 Q h => ?_) (fun H3 s3 h3 => ?_)
      · refine ⟨.ref d, rfl, .int q.1, rfl, d, _, rfl, ?_, h⟩
        rw [← kv_get (sub q hq)]
        exact DGet.k (k := Sum.inl q.1) (s3 _ _ upd_same)
      · exact ⟨D, _, rfl, .inl (.inl h3), _, _, rfl, rfl, q _ (s1.trans s3)⟩
    · refine ⟨_, (pss_cons (ps_set (i := 2) sc_weighed.nd rfl (.inr rfl) (pe_callTy (call_dictT rfl) (by rfl) T.m_dict (by decide +kernel) (pa_cons (pe_ix ix_tup (pv 0) pe_int (fun _ _ => rfl)) pa_nil)))
      (pss_one (ps_ret (pe_op op_add (pe_ix ix_tup (pv 0) pe_int (fun _ _ => rfl)) (pe_callB (cr_sum rfl) (by rfl) T.m_sum (by decide +kernel) (pa_cons (pe_lc (own := [("person", 3), ("number", 4)]) (g := gTup K 2 (gCons (gName 3) (gCons (gName 4) gNil))) (by rfl) sc_weighed.nd (pi_tup (pv 1)) (blkOk_by (own := [("person", 3), ("number", 4)]) (N := n_weighed) (sc := defScope s_weighed) (by decide +kernel)) (fun _ _ _ _ _ => (pg_tup rfl (pgs_cons (pg_name (i := 3) sc_weighed.nd rfl (.inl rfl) (.inr rfl)) (pgs_cons (pg_name (i := 4) sc_weighed.nd rfl (.inl rfl) (.inr rfl)) pgs_nil)))) (fun _ _ _ _ _ => pts_nil) (fun _ _ _ _ _ => (pe_dget (hu_of hr) (pv 2) (pv 3) (fun _ _ => rfl)))) pa_nil)))))), ?_⟩
      refine ⟨.ref a, rfl, a, _, 2, _, rfl, rfl, .inl (.inl ha), i2, t, o, ps, kvOf ties, rfl, od, ht, pairs_sq pr, fun d hd => ?_⟩
      rw [merge_kv nd]
      have s1 := same_upd (o := .dK (kvOf ties)) hd
      refine ⟨.ref a, rfl, a, _, 1, _, rfl, rfl, .inl (.inl (s1 _ _ ha)), i1, ?_⟩
      refine ⟨.ref b, rfl, b, rfl, ⟨_, (hb.keep (Keep.same s1)).sq⟩, fun D hD => ?_⟩
      refine lc_pairs (fun q => wgt ties q.1) (walk_tupR qs) (pairs_keep (Keep.same s1) pq) hD lq (fun H3 s3 => ((hb.keep (Keep.same s1)).keep (Keep.same s3)).sq) (fun _ _ => rfl) (fun q hq H3 s3 Q h => ?_) (fun H3 s3 h3 => ?_)
      · refine ⟨.ref d, rfl, .int q.1, rfl, d, _, rfl, ?_, h⟩
        rw [← kv_get (sub q hq)]
        exact DGet.k (k := Sum.inl q.1) (s3 _ _ upd_same)
      · exact ⟨D, _, rfl, .inl (.inl h3), _, _, rfl, rfl, q _ (s1.trans s3)⟩
def spLeast (K : PySem.W.Frag) : Sp := fun vs H Q _ => ∃ (a : Addr) (ns : List Int), vs = [.ref a] ∧ SqL K H a (ns.map V.int) ∧ ∀ x, IsMex ns x → Q (.int x) H
theorem ok_least_free (T : Txt K mg w) : FnOk P w K mg base CX0 1 T.f_least_free T.fd_least_free p_least_free (spLeast K) := by
  refine T.F_least_free.ok sc_least_free (fun vs H Q E h => ?_) (fun cdv A outer s H vs Q E hr h => ?_)
  · obtain ⟨a, ns, rfl, _⟩ := h
    rfl
  · obtain ⟨a, ns, rfl, hS, q⟩ := h
    refine ⟨_, (pss_cons (ps_set (i := 1) sc_least_free.nd rfl (.inl rfl) pe_int)
      (pss_cons (ps_while PassesOwn.never (pt_cmpR op_in_seq (pv 1) (pv 0) (by rfl))
        (pss_one (ps_aug (i := 1) sc_least_free.nd rfl (.inl rfl) pe_int ip_add)))
      (pss_one (ps_ret (pv 1))))), ?_⟩
    refine while_by (fun σ H' => ∃ k : Nat, σ = [some (.ref a), some (.int k)] ∧ H' = H ∧ ∀ j : Int, 0 ≤ j → j < k → j ∈ ns) (fun σ _ => match σ with | [_, some (.int k)] => ns.length + 1 - k.toNat | _ => 0) ⟨0, rfl, rfl, fun j h1 h2 => by omega⟩ ?_ ?_
    · rintro σ H' ⟨k, rfl, rfl, hk⟩
      refine ⟨.int k, rfl, .ref a, rfl, a, _, rfl, .inl hS, rfl, flat_ints ns, _, rfl, ?_⟩
      rw [if_neg Bool.false_ne_true, in_ints]
      refine ite2 (fun e => ?_) (fun e => ?_)
      · have e' : (k : Int) ∈ ns := of_decide_eq_true e
        have hk2 : ∀ j : Int, 0 ≤ j → j < (k + 1 : Nat) → j ∈ ns := fun j h1 h2 => by
          by_cases z : j = k
          · rw [z]; exact e'
          · exact hk j h1 (by omega)
        have hle : k + 1 ≤ ns.length := by
          have h := nodup_len ((List.range (k + 1)).map fun n : Nat => (n : Int)) ns (by
            rw [List.nodup_iff_pairwise_ne]
            exact List.Pairwise.map _ (fun a b z q => z (by omega)) (List.nodup_iff_pairwise_ne.mp List.nodup_range)) (fun x hx => by
              obtain ⟨n, hn, rfl⟩ := List.mem_map.mp hx
              exact hk2 n (by omega) (by have := List.mem_range.mp hn; omega))
          rw [List.length_map, List.length_range] at h
          exact h
        refine ⟨.int k, rfl, k, 1, rfl, rfl, ⟨k + 1, rfl, rfl, hk2⟩, ?_⟩
        show ns.length + 1 - ((k : Int) + 1).toNat < ns.length + 1 - (k : Int).toNat
        omega
      · refine ⟨.int k, rfl, q k ⟨?_, by omega, hk⟩⟩
        exact fun z => e (decide_eq_true z)
    · rintro σ H' Q Q' hQ ⟨v, h1, u, h2, p, xs, h3, h4, h5, h6, k, h7, h8⟩
      exact ⟨v, h1, u, h2, p, xs, h3, h4, h5, h6, k, h7, hQ _ _ h8⟩
end
end Lh

namespace Lh
open PySem PySem.Spec PyProof.Rows L2
section
variable {P : Program} {w : World} {K : PySem.W.Frag} {mg : Str → Option Value} {base : Heap}
def spToldOf : Sp := fun vs H Q _ => ∃ (v l : V) (r : Rule) (many : Int) (lot : List (Int × Int)), vs = [v, l] ∧ RuleAt H v r ∧ r.Wf many ∧ LotAt H l lot ∧ (∀ q ∈ lot, q.1 ∈ r.persons) ∧ ∀ (x : Int) (H' : Hp), Same H H' → Tell r lot x → Q (.int x) H'
theorem ok_told_of (T : Txt K mg w) : FnOk P w K mg base CX0 2 T.f_told_of T.fd_told_of p_told_of spToldOf := by
  have G_weighed := ok_weighed (P := P) (w := w) (base := base) T
  have G_least_free := ok_least_free (P := P) (w := w) (base := base) T
  refine T.F_told_of.ok sc_told_of (fun vs H Q E h => ?_) (fun cdv A outer s H vs Q E hr h => ?_)
  · obtain ⟨v, l, r, many, lot, rfl, _⟩ := h
    rfl
  · obtain ⟨v, l, r, many, lot, rfl, hv, wf, ⟨b, qs, rfl, hb, pq, lq⟩, sub, q⟩ := h
    rcases hb with hb | hb
    · refine ⟨_, (pss_cons (ps_set (i := 2) sc_told_of.nd rfl (.inl rfl) (pe_ix ix_tup (pv 0) pe_int (fun _ _ => rfl)))
      (pss_cons (ps_if (pt_cmpR op_eq (pv 2) pe_str (nomark _))
        (pss_one (ps_ret (pe_ix ix_tup (pv 0) pe_int (fun _ _ => rfl))))
        pss_nil)
      (pss_cons (ps_if (pt_cmpR op_eq (pv 2) pe_str (nomark _))
        (pss_one (ps_ret (pe_call G_weighed (hr.mono (by decide)) (by rfl) T.g_weighed T.F_weighed.kp T.b_weighed .nil pass0 (pa_cons (pv 0) (pa_cons (pv 1) pa_nil)))))
        pss_nil)
      (pss_cons (ps_if (pt_cmpR op_eq (pv 2) pe_str (nomark _))
        (pss_one (ps_ret (pe_callB (call_min2 rfl) (by rfl) T.m_min (by decide +kernel) (pa_cons (pe_call G_weighed (hr.mono (by decide)) (by rfl) T.g_weighed T.F_weighed.kp T.b_weighed .nil pass0 (pa_cons (pv 0) (pa_cons (pv 1) pa_nil))) (pa_cons (pe_ix ix_tup (pv 0) pe_int (fun _ _ => rfl)) pa_nil)))))
        pss_nil)
      (pss_cons (ps_setLc (i := 3) (own := [("person", 4), ("number", 5)]) (g := gTup K 2 (gCons (gName 4) (gCons (gName 5) gNil))) (by rfl) sc_told_of.nd rfl rfl (sw_true rfl rfl rfl (by decide +kernel)) (pi_list (pv 1)) (blkOk_by (own := [("person", 4), ("number", 5)]) (N := n_told_of) (sc := defScope s_told_of) (by decide +kernel)) (fun _ _ _ _ _ => (pg_tup rfl (pgs_cons (pg_name (i := 4) sc_told_of.nd rfl (.inl rfl) (.inr rfl)) (pgs_cons (pg_name (i := 5) sc_told_of.nd rfl (.inl rfl) (.inr rfl)) pgs_nil)))) (fun _ _ _ _ _ => pts_nil) (fun _ _ _ _ _ => (pv 5)))
      (pss_cons (ps_if (pt_cmpR op_eq (pv 2) pe_str (nomark _))
        (pss_one (ps_ret (pe_op op_add (pe_ix ix_tup (pv 0) pe_int (fun _ _ => rfl)) (pe_callB cr_lenSet (by rfl) T.m_len (by decide +kernel) (pa_cons (pe_callTy (cr_setL rfl) (by rfl) T.m_set (by decide +kernel) (pa_cons (pv 3) pa_nil)) pa_nil)))))
        pss_nil)
      (pss_cons (ps_if (pt_cmpR op_eq (pv 2) pe_str (nomark _))
        (pss_one (ps_ret (pe_op op_add (pe_callBK (cr_maxD rfl hr.units) (by rfl) T.m_max (by decide +kernel) (pa_cons (pv 3) pa_nil) (pk_cons (pe_un un_neg pe_int) pk_nil)) pe_int)))
        pss_nil)
      (pss_one (ps_ret (pe_call G_least_free (hr.mono (by decide)) (by rfl) T.g_least_free T.F_least_free.kp T.b_least_free .nil pass0 (pa_cons (pv 3) pa_nil))))))))))), ?_⟩
      cases r with
      | held n =>
        obtain ⟨a, rfl, ha⟩ := hv
        refine ⟨.ref a, rfl, a, _, 0, _, rfl, rfl, .inl (.inl ha), rfl, ?_⟩
        refine ⟨_, rfl, rfl, _, rfl, iteP (by decide +kernel) ?_⟩
        exact ⟨.ref a, rfl, a, _, 1, _, rfl, rfl, .inl (.inl ha), rfl, q n H (Same.refl H) rfl⟩
      | sum own ties =>
        obtain ⟨a, t, rfl, ha, hT⟩ := hv
        obtain ⟨_, rs, _⟩ := wf
        refine ⟨.ref a, rfl, a, _, 0, _, rfl, rfl, .inl (.inl ha), rfl, ?_⟩
        refine ⟨_, rfl, rfl, _, rfl, iteN (by decide +kernel) ?_⟩
        refine ⟨_, rfl, rfl, _, rfl, iteP (by decide +kernel) ?_⟩
        refine ⟨.ref a, rfl, .ref b, rfl, a, t, .ref b, _, own, [], ties, lot, rfl, ha, hT, rs.nodup, ⟨b, qs, rfl, .inl hb, pq, lq⟩, sub, fun H3 s3 => ?_⟩
        exact q _ H3 s3 rfl
      | cap own ties most =>
        obtain ⟨a, t, rfl, ha, hT⟩ := hv
        obtain ⟨_, rs, _⟩ := wf
        refine ⟨.ref a, rfl, a, _, 0, _, rfl, rfl, .inl (.inl ha), rfl, ?_⟩
        refine ⟨_, rfl, rfl, _, rfl, iteN (by decide +kernel) ?_⟩
        refine ⟨_, rfl, rfl, _, rfl, iteN (by decide +kernel) ?_⟩
        refine ⟨_, rfl, rfl, _, rfl, iteP (by decide +kernel) ?_⟩
        refine ⟨.ref a, rfl, .ref b, rfl, a, t, .ref b, _, own, [.int most], ties, lot, rfl, ha, hT, rs.nodup, ⟨b, qs, rfl, .inl hb, pq, lq⟩, sub, fun H3 s3 => ?_⟩
        refine ⟨.ref a, rfl, a, _, 3, _, rfl, rfl, .inl (.inl (s3 _ _ ha)), rfl, _, _, rfl, q _ H3 s3 ?_⟩
        show (if most < own + (lot.map fun q => wgt ties q.1).sum then most else own + (lot.map fun q => wgt ties q.1).sum) = min (own + (lot.map fun q => wgt ties q.1).sum) most
        split <;> omega
      | kinds own seen =>
        obtain ⟨a, t, rfl, ha, hT⟩ := hv
        refine ⟨.ref a, rfl, a, _, 0, _, rfl, rfl, .inl (.inl ha), rfl, ?_⟩
        refine ⟨_, rfl, rfl, _, rfl, iteN (by decide +kernel) ?_⟩
        refine ⟨_, rfl, rfl, _, rfl, iteN (by decide +kernel) ?_⟩
        refine ⟨_, rfl, rfl, _, rfl, iteN (by decide +kernel) ?_⟩
        refine ⟨.ref b, rfl, b, rfl, ⟨_, .inl (.inl hb)⟩, fun D hD => ?_⟩
        refine lc_pairs (·.2) (walk_listR qs) pq hD lq (fun H3 s3 => .inl (.inl (s3 _ _ hb))) (fun _ _ => rfl) (fun q _ H3 _ Q h => ⟨_, rfl, h⟩) (fun H3 s3 h3 => ?_)
        have hl3 : (lot.map (·.2)).length ≤ 1000 := by rw [List.length_map, ← pq.length]; exact lq
        refine ⟨_, rfl, rfl, _, rfl, iteP (by decide +kernel) ?_⟩
        refine ⟨.ref a, rfl, a, _, 1, _, rfl, rfl, .inl (.inl (s3 _ _ ha)), rfl, ?_⟩
        refine ⟨.ref D, rfl, D, _, rfl, .inl (.inl h3), hl3, fun p c ks np nd kl cl mem => ⟨p, _, c, rfl, upd_same, by omega, own, c, rfl, rfl, ?_⟩⟩
        exact q _ _ (s3.trans (same_upd np)) ⟨ks, nd, mem, by rw [kl]⟩
      | next seen =>
        obtain ⟨a, t, rfl, ha, hT⟩ := hv
        refine ⟨.ref a, rfl, a, _, 0, _, rfl, rfl, .inl (.inl ha), rfl, ?_⟩
        refine ⟨_, rfl, rfl, _, rfl, iteN (by decide +kernel) ?_⟩
        refine ⟨_, rfl, rfl, _, rfl, iteN (by decide +kernel) ?_⟩
        refine ⟨_, rfl, rfl, _, rfl, iteN (by decide +kernel) ?_⟩
        refine ⟨.ref b, rfl, b, rfl, ⟨_, .inl (.inl hb)⟩, fun D hD => ?_⟩
        refine lc_pairs (·.2) (walk_listR qs) pq hD lq (fun H3 s3 => .inl (.inl (s3 _ _ hb))) (fun _ _ => rfl) (fun q _ H3 _ Q h => ⟨_, rfl, h⟩) (fun H3 s3 h3 => ?_)
        have hl3 : (lot.map (·.2)).length ≤ 1000 := by rw [List.length_map, ← pq.length]; exact lq
        refine ⟨_, rfl, rfl, _, rfl, iteN (by decide +kernel) ?_⟩
        refine ⟨_, rfl, rfl, _, rfl, iteP (by decide +kernel) ?_⟩
        refine ⟨.ref D, rfl, 1, rfl, D, _, -1, rfl, rfl, .inl (.inl h3), fun m h0 h1 => ⟨m, 1, rfl, rfl, q _ _ s3 ?_⟩⟩
        by_cases e : lot.map (·.2) = []
        · exact .inl ⟨List.map_eq_nil_iff.mp e, by rw [h0 e]; rfl⟩
        · obtain ⟨h2, h4⟩ := h1 e
          refine .inr ⟨?_, fun y hy => ?_⟩
          · rw [show m + 1 - 1 = m by omega]; exact h2
          · have := h4 y hy; omega
      | free seen =>
        obtain ⟨a, t, rfl, ha, hT⟩ := hv
        refine ⟨.ref a, rfl, a, _, 0, _, rfl, rfl, .inl (.inl ha), rfl, ?_⟩
        refine ⟨_, rfl, rfl, _, rfl, iteN (by decide +kernel) ?_⟩
        refine ⟨_, rfl, rfl, _, rfl, iteN (by decide +kernel) ?_⟩
        refine ⟨_, rfl, rfl, _, rfl, iteN (by decide +kernel) ?_⟩
        refine ⟨.ref b, rfl, b, rfl, ⟨_, .inl (.inl hb)⟩, fun D hD => ?_⟩
        refine lc_pairs (·.2) (walk_listR qs) pq hD lq (fun H3 s3 => .inl (.inl (s3 _ _ hb))) (fun _ _ => rfl) (fun q _ H3 _ Q h => ⟨_, rfl, h⟩) (fun H3 s3 h3 => ?_)
        have hl3 : (lot.map (·.2)).length ≤ 1000 := by rw [List.length_map, ← pq.length]; exact lq
        refine ⟨_, rfl, rfl, _, rfl, iteN (by decide +kernel) ?_⟩
        refine ⟨_, rfl, rfl, _, rfl, iteN (by decide +kernel) ?_⟩
        exact ⟨.ref D, rfl, D, _, rfl, .inl (.inl h3), fun x hx => q x _ s3 hx⟩
    · refine ⟨_, (pss_cons (ps_set (i := 2) sc_told_of.nd rfl (.inl rfl) (pe_ix ix_tup (pv 0) pe_int (fun _ _ => rfl)))
      (pss_cons (ps_if (pt_cmpR op_eq (pv 2) pe_str (nomark _))
        (pss_one (ps_ret (pe_ix ix_tup (pv 0) pe_int (fun _ _ => rfl))))
        pss_nil)
      (pss_cons (ps_if (pt_cmpR op_eq (pv 2) pe_str (nomark _))
        (pss_one (ps_ret (pe_call G_weighed (hr.mono (by decide)) (by rfl) T.g_weighed T.F_weighed.kp T.b_weighed .nil pass0 (pa_cons (pv 0) (pa_cons (pv 1) pa_nil)))))
        pss_nil)
      (pss_cons (ps_if (pt_cmpR op_eq (pv 2) pe_str (nomark _))
        (pss_one (ps_ret (pe_callB (call_min2 rfl) (by rfl) T.m_min (by decide +kernel) (pa_cons (pe_call G_weighed (hr.mono (by decide)) (by rfl) T.g_weighed T.F_weighed.kp T.b_weighed .nil pass0 (pa_cons (pv 0) (pa_cons (pv 1) pa_nil))) (pa_cons (pe_ix ix_tup (pv 0) pe_int (fun _ _ => rfl)) pa_nil)))))
        pss_nil)
      (pss_cons (ps_setLc (i := 3) (own := [("person", 4), ("number", 5)]) (g := gTup K 2 (gCons (gName 4) (gCons (gName 5) gNil))) (by rfl) sc_told_of.nd rfl rfl (sw_true rfl rfl rfl (by decide +kernel)) (pi_tup (pv 1)) (blkOk_by (own := [("person", 4), ("number", 5)]) (N := n_told_of) (sc := defScope s_told_of) (by decide +kernel)) (fun _ _ _ _ _ => (pg_tup rfl (pgs_cons (pg_name (i := 4) sc_told_of.nd rfl (.inl rfl) (.inr rfl)) (pgs_cons (pg_name (i := 5) sc_told_of.nd rfl (.inl rfl) (.inr rfl)) pgs_nil)))) (fun _ _ _ _ _ => pts_nil) (fun _ _ _ _ _ => (pv 5)))
      (pss_cons (ps_if (pt_cmpR op_eq (pv 2) pe_str (nomark _))
        (pss_one (ps_ret (pe_op op_add (pe_ix ix_tup (pv 0) pe_int (fun _ _ => rfl)) (pe_callB cr_lenSet (by rfl) T.m_len (by decide +kernel) (pa_cons (pe_callTy (cr_setL rfl) (by rfl) T.m_set (by decide +kernel) (pa_cons (pv 3) pa_nil)) pa_nil)))))
        pss_nil)
      (pss_cons (ps_if (pt_cmpR op_eq (pv 2) pe_str (nomark _))
        (pss_one (ps_ret (pe_op op_add (pe_callBK (cr_maxD rfl hr.units) (by rfl) T.m_max (by decide +kernel) (pa_cons (pv 3) pa_nil) (pk_cons (pe_un un_neg pe_int) pk_nil)) pe_int)))
        pss_nil)
      (pss_one (ps_ret (pe_call G_least_free (hr.mono (by decide)) (by rfl) T.g_least_free T.F_least_free.kp T.b_least_free .nil pass0 (pa_cons (pv 3) pa_nil))))))))))), ?_⟩
      cases r with
      | held n =>
        obtain ⟨a, rfl, ha⟩ := hv
        refine ⟨.ref a, rfl, a, _, 0, _, rfl, rfl, .inl (.inl ha), rfl, ?_⟩
        refine ⟨_, rfl, rfl, _, rfl, iteP (by decide +kernel) ?_⟩
        exact ⟨.ref a, rfl, a, _, 1, _, rfl, rfl, .inl (.inl ha), rfl, q n H (Same.refl H) rfl⟩
      | sum own ties =>
        obtain ⟨a, t, rfl, ha, hT⟩ := hv
        obtain ⟨_, rs, _⟩ := wf
        refine ⟨.ref a, rfl, a, _, 0, _, rfl, rfl, .inl (.inl ha), rfl, ?_⟩
        refine ⟨_, rfl, rfl, _, rfl, iteN (by decide +kernel) ?_⟩
        refine ⟨_, rfl, rfl, _, rfl, iteP (by decide +kernel) ?_⟩
        refine ⟨.ref a, rfl, .ref b, rfl, a, t, .ref b, _, own, [], ties, lot, rfl, ha, hT, rs.nodup, ⟨b, qs, rfl, .inr hb, pq, lq⟩, sub, fun H3 s3 => ?_⟩
        exact q _ H3 s3 rfl
      | cap own ties most =>
        obtain ⟨a, t, rfl, ha, hT⟩ := hv
        obtain ⟨_, rs, _⟩ := wf
        refine ⟨.ref a, rfl, a, _, 0, _, rfl, rfl, .inl (.inl ha), rfl, ?_⟩
        refine ⟨_, rfl, rfl, _, rfl, iteN (by decide +kernel) ?_⟩
        refine ⟨_, rfl, rfl, _, rfl, iteN (by decide +kernel) ?_⟩
        refine ⟨_, rfl, rfl, _, rfl, iteP (by decide +kernel) ?_⟩
        refine ⟨.ref a, rfl, .ref b, rfl, a, t, .ref b, _, own, [.int most], ties, lot, rfl, ha, hT, rs.nodup, ⟨b, qs, rfl, .inr hb, pq, lq⟩, sub, fun H3 s3 => ?_⟩
        refine ⟨.ref a, rfl, a, _, 3, _, rfl, rfl, .inl (.inl (s3 _ _ ha)), rfl, _, _, rfl, q _ H3 s3 ?_⟩
        show (if most < own + (lot.map fun q => wgt ties q.1).sum then most else own + (lot.map fun q => wgt ties q.1).sum) = min (own + (lot.map fun q => wgt ties q.1).sum) most
        split <;> omega
      | kinds own seen =>
        obtain ⟨a, t, rfl, ha, hT⟩ := hv
        refine ⟨.ref a, rfl, a, _, 0, _, rfl, rfl, .inl (.inl ha), rfl, ?_⟩
        refine ⟨_, rfl, rfl, _, rfl, iteN (by decide +kernel) ?_⟩
        refine ⟨_, rfl, rfl, _, rfl, iteN (by decide +kernel) ?_⟩
        refine ⟨_, rfl, rfl, _, rfl, iteN (by decide +kernel) ?_⟩
        refine ⟨.ref b, rfl, b, rfl, ⟨_, hb.sq⟩, fun D hD => ?_⟩
        refine lc_pairs (·.2) (walk_tupR qs) pq hD lq (fun H3 s3 => (hb.keep (Keep.same s3)).sq) (fun _ _ => rfl) (fun q _ H3 _ Q h => ⟨_, rfl, h⟩) (fun H3 s3 h3 => ?_)
        have hl3 : (lot.map (·.2)).length ≤ 1000 := by rw [List.length_map, ← pq.length]; exact lq
        refine ⟨_, rfl, rfl, _, rfl, iteP (by decide +kernel) ?_⟩
        refine ⟨.ref a, rfl, a, _, 1, _, rfl, rfl, .inl (.inl (s3 _ _ ha)), rfl, ?_⟩
        refine ⟨.ref D, rfl, D, _, rfl, .inl (.inl h3), hl3, fun p c ks np nd kl cl mem => ⟨p, _, c, rfl, upd_same, by omega, own, c, rfl, rfl, ?_⟩⟩
        exact q _ _ (s3.trans (same_upd np)) ⟨ks, nd, mem, by rw [kl]⟩
      | next seen =>
        obtain ⟨a, t, rfl, ha, hT⟩ := hv
        refine ⟨.ref a, rfl, a, _, 0, _, rfl, rfl, .inl (.inl ha), rfl, ?_⟩
        refine ⟨_, rfl, rfl, _, rfl, iteN (by decide +kernel) ?_⟩
        refine ⟨_, rfl, rfl, _, rfl, iteN (by decide +kernel) ?_⟩
        refine ⟨_, rfl, rfl, _, rfl, iteN (by decide +kernel) ?_⟩
        refine ⟨.ref b, rfl, b, rfl, ⟨_, hb.sq⟩, fun D hD => ?_⟩
        refine lc_pairs (·.2) (walk_tupR qs) pq hD lq (fun H3 s3 => (hb.keep (Keep.same s3)).sq) (fun _ _ => rfl) (fun q _ H3 _ Q h => ⟨_, rfl, h⟩) (fun H3 s3 h3 => ?_)
        have hl3 : (lot.map (·.2)).length ≤ 1000 := by rw [List.length_map, ← pq.length]; exact lq
        refine ⟨_, rfl, rfl, _, rfl, iteN (by decide +kernel) ?_⟩
        refine ⟨_, rfl, rfl, _, rfl, iteP (by decide +kernel) ?_⟩
        refine ⟨.ref D, rfl, 1, rfl, D, _, -1, rfl, rfl, .inl (.inl h3), fun m h0 h1 => ⟨m, 1, rfl, rfl, q _ _ s3 ?_⟩⟩
        by_cases e : lot.map (·.2) = []
        · exact .inl ⟨List.map_eq_nil_iff.mp e, by rw [h0 e]; rfl⟩
        · obtain ⟨h2, h4⟩ := h1 e
          refine .inr ⟨?_, fun y hy => ?_⟩
          · rw [show m + 1 - 1 = m by omega]; exact h2
          · have := h4 y hy; omega
      | free seen =>
        obtain ⟨a, t, rfl, ha, hT⟩ := hv
        refine ⟨.ref a, rfl, a, _, 0, _, rfl, rfl, .inl (.inl ha), rfl, ?_⟩
        refine ⟨_, rfl, rfl, _, rfl, iteN (by decide +kernel) ?_⟩
        refine ⟨_, rfl, rfl, _, rfl, iteN (by decide +kernel) ?_⟩
        refine ⟨_, rfl, rfl, _, rfl, iteN (by decide +kernel) ?_⟩
        refine ⟨.ref b, rfl, b, rfl, ⟨_, hb.sq⟩, fun D hD => ?_⟩
        refine lc_pairs (·.2) (walk_tupR qs) pq hD lq (fun H3 s3 => (hb.keep (Keep.same s3)).sq) (fun _ _ => rfl) (fun q _ H3 _ Q h => ⟨_, rfl, h⟩) (fun H3 s3 h3 => ?_)
        have hl3 : (lot.map (·.2)).length ≤ 1000 := by rw [List.length_map, ← pq.length]; exact lq
        refine ⟨_, rfl, rfl, _, rfl, iteN (by decide +kernel) ?_⟩
        refine ⟨_, rfl, rfl, _, rfl, iteN (by decide +kernel) ?_⟩
        exact ⟨.ref D, rfl, D, _, rfl, .inl (.inl h3), fun x hx => q x _ s3 hx⟩
end
end Lh

namespace Lh
open PySem PySem.Spec PyProof.Rows L2
section
variable {P : Program} {w : World} {K : PySem.W.Frag} {mg : Str → Option Value} {base : Heap}
def spLotBelow (C : Addr) : Sp := fun vs H Q _ => ∃ (x st : Addr) (p : Nat) (h : Int) (rs : List Rule) (ns : List Int) (hp : p < rs.length), vs = [.ref x, .ref st, .int p, .int h] ∧ HallAt C H x rs ∧ Halls rs ∧ TupAt H st (ns.map V.int) ∧ ns.length = rs.length ∧
  ∀ (l : Addr) (ps : List Addr) (H' : Hp), Same H H' → H l = none → H' l = some (.lst (ps.map V.ref)) → Paired (PairAtH H') ps (lotH rs[p] ns h) → Q (.ref l) H'
set_option maxHeartbeats 1000000 in
theorem ok_lot_below (T : Txt K mg w) : FnOk P w K mg base CX0 4 T.f_lot_below T.fd_lot_below p_lot_below (spLotBelow T.C_Hall) := by
  have G_Hall_sees := ok_Hall_sees (P := P) (w := w) (base := base) T
  refine T.F_lot_below.ok sc_lot_below (fun vs H Q E h0 => ?_) (fun cdv A outer s H vs Q E hr h0 => ?_)
  · obtain ⟨x, st, p, h, rs, ns, hp, rfl, _⟩ := h0
    rfl
  · obtain ⟨x, st, p, h, rs, ns, hp, rfl, hA, hh, hS, hn, q⟩ := h0
    obtain ⟨dx, t, vs, hx, ht, hv⟩ := id hA
    have few := hh.few hp
    have inr := per_in hh hp
    refine ⟨_, (pss_one (ps_ret (pe_lc (own := [("other", 4)]) (g := gName 4) (by rfl) sc_lot_below.nd (pi_list (pe_meth (pv 0) T.cl_Hall T.me_Hall_sees G_Hall_sees (hr.mono (by decide)) T.b_Hall_sees .nil pass0 (pa_cons (pv 2) pa_nil))) (blkOk_by (own := [("other", 4)]) (N := n_lot_below) (sc := defScope s_lot_below) (by decide +kernel)) (fun _ _ _ _ _ => (pg_name (i := 4) sc_lot_below.nd rfl (.inl rfl) (.inr rfl))) (fun _ _ _ _ _ => (pts_one (pt_cmpR op_lt (pe_ix (r := rIxT K) ix_tup (pv 1) (pv 4) (fun _ _ => rfl)) (pv 3) (nomark _)))) (fun _ _ _ _ _ => (pe_tup (pa_cons (pv 4) (pa_cons (pe_ix (r := rIxT K) ix_tup (pv 1) (pv 4) (fun _ _ => rfl)) pa_nil))))))), ?_⟩
    refine ⟨.ref x, rfl, x, dx, _, rfl, hx, kept_no _ (by decide +kernel), .int p, rfl, x, p, rs, hp, rfl, hA, hh, fun l H1 s1 nl hl => ?_⟩
    have hS1 := hS.keep (Keep.same s1)
    refine ⟨l, rfl, ⟨_, .inl (.inl hl)⟩, fun D hD => ?_⟩
    refine lc_it (walk_list (xs := rs[p].persons.map V.int)) (fun n H3 => ∃ ps : List Addr, Same H1 H3 ∧ H3 D = some (.lst (ps.map V.ref)) ∧ Paired (PairAtH H3) ps (((rs[p].persons.take n).filter fun o => decide (nth ns o < h)).map fun o => (o, nth ns o))) ⟨[], same_upd hD, upd_same, .nil⟩ ?_ ?_ ?_
    · rintro n H3 _ ⟨ps, s3, _⟩
      exact .inl (.inl (s3 _ _ hl))
    · rintro n y H3 H4 hi ⟨ps, s3, h3, pr⟩ ⟨rfl, hy⟩
      rw [List.length_map] at hi
      rw [List.getElem?_map, List.getElem?_eq_getElem hi] at hy
      cases hy
      have io := inr _ (List.getElem_mem hi)
      have hS3 := hS1.keep (Keep.same s3)
      have tk : rs[p].persons.take (n + 1) = rs[p].persons.take n ++ [rs[p].persons[n]] := by rw [List.take_add_one, List.getElem?_eq_getElem hi]; rfl
      have pl : ps.length ≤ n := by
        rw [pr.length, List.length_map]
        refine Nat.le_trans (List.length_filter_le _ _) ?_
        rw [List.length_take]; omega
      refine ⟨rfl, ?_⟩
      refine ⟨.ref st, rfl, .int rs[p].persons[n], rfl, st, _, _, _, rfl, rfl, hS3.sq, nth_at io.1 (by omega), .int h, rfl, _, _, rfl, rfl, _, rfl, ite2 (fun z => ?_) (fun z => ?_)⟩
      · refine ⟨.int rs[p].persons[n], rfl, .ref st, rfl, .int rs[p].persons[n], rfl, st, _, _, _, rfl, rfl, hS3.sq, nth_at io.1 (by omega), by show 2 ≤ sizeLine; decide, fun u nu => ?_⟩
        have sU := same_upd (o := .tup [.int rs[p].persons[n], .int (nth ns rs[p].persons[n])]) nu
        have h5 := sU _ _ h3
        refine ⟨_, h5, by rw [List.length_map]; exact small1000 (by omega), ps ++ [u], same_mut (s3.trans sU) hD, ?_, ?_⟩
        · rw [upd_same, List.map_append]; rfl
        · rw [tk, List.filter_append, List.map_append, List.filter_cons, if_pos z]
          have kT : Keep (upd H4 u (.tup [.int rs[p].persons[n], .int (nth ns rs[p].persons[n])])) (upd (upd H4 u (.tup [.int rs[p].persons[n], .int (nth ns rs[p].persons[n])])) D (.lst (ps.map V.ref ++ [.ref u]))) := by
            refine ⟨fun a xs h => ?_, fun a o u h => ?_⟩
            · rw [upd_ne (ne_of h h5 (by intro z; cases z))]; exact h
            · rw [upd_ne (ne_of h h5 (by intro z; cases z))]; exact h
          exact Paired.snoc (R := PairAtH _) (show PairAtH _ _ _ from kT.tup _ _ upd_same) (pairs_keep ((Keep.same sU).trans kT) pr)
      · refine ⟨ps, s3, h3, ?_⟩
        rw [tk, List.filter_append, List.filter_cons, if_neg z, List.filter_nil, List.append_nil]
        exact pr
    · rintro H3 ⟨ps, s3, h3, pr⟩
      rw [List.length_map, List.take_length] at pr
      exact q D ps H3 (s1.trans s3) (s1.free hD) h3 pr
def spToldBelow (C : Addr) : Sp := fun vs H Q _ => ∃ (x st : Addr) (p : Nat) (h : Int) (rs : List Rule) (ns : List Int) (hp : p < rs.length), vs = [.ref x, .ref st, .int p, .int h] ∧ HallAt C H x rs ∧ Halls rs ∧ TupAt H st (ns.map V.int) ∧ ns.length = rs.length ∧
  ∀ (y : Int) (H' : Hp), Same H H' → Tell rs[p] (lotH rs[p] ns h) y → Q (.int y) H'
theorem ok_told_below (T : Txt K mg w) : FnOk P w K mg base CX0 5 T.f_told_below T.fd_told_below p_told_below (spToldBelow T.C_Hall) := by
  have G_Hall_rule := ok_Hall_rule (P := P) (w := w) (base := base) T
  have G_lot_below := ok_lot_below (P := P) (w := w) (base := base) T
  have G_told_of := ok_told_of (P := P) (w := w) (base := base) T
  refine T.F_told_below.ok sc_told_below (fun vs H Q E h0 => ?_) (fun cdv A outer s H vs Q E hr h0 => ?_)
  · obtain ⟨x, st, p, h, rs, ns, hp, rfl, _⟩ := h0
    rfl
  · obtain ⟨x, st, p, h, rs, ns, hp, rfl, hA, hh, hS, hn, q⟩ := h0
    obtain ⟨dx, t, vs, hx, ht, hv⟩ := id hA
    have few := hh.few hp
    refine ⟨_, (pss_one (ps_ret (pe_call G_told_of (hr.mono (by decide)) (by rfl) T.g_told_of T.F_told_of.kp T.b_told_of .nil pass0 (pa_cons (pe_meth (pv 0) T.cl_Hall T.me_Hall_rule G_Hall_rule (hr.mono (by decide)) T.b_Hall_rule .nil pass0 (pa_cons (pv 2) pa_nil)) (pa_cons (pe_call G_lot_below (hr.mono (by decide)) (by rfl) T.g_lot_below T.F_lot_below.kp T.b_lot_below .nil pass0 (pa_cons (pv 0) (pa_cons (pv 1) (pa_cons (pv 2) (pa_cons (pv 3) pa_nil))))) pa_nil))))), ?_⟩
    refine ⟨.ref x, rfl, x, dx, _, rfl, hx, kept_no _ (by decide +kernel), .int p, rfl, x, p, rs, hp, rfl, hA, fun v rv => ?_⟩
    refine ⟨.ref x, rfl, .ref st, rfl, .int p, rfl, .int h, rfl, x, st, p, h, rs, ns, hp, rfl, hA, hh, hS, hn, fun l ps H1 s1 nl hl pr => ?_⟩
    refine ⟨v, .ref l, rs[p], rs.length, _, rfl, rv.keep (Keep.same s1), hh.2.2 _ (List.getElem_mem hp), ⟨l, ps, rfl, .inl hl, pr, ?_⟩, lotH_in, fun y H2 s2 tl => q y H2 (s1.trans s2) tl⟩
    rw [pr.length]
    unfold lotH
    rw [List.length_map]
    exact Nat.le_trans (List.length_filter_le _ _) (by omega)
def spToldAt (C : Addr) : Sp := fun vs H Q _ => ∃ (x st : Addr) (p : Nat) (rs : List Rule) (ns : List Int) (h : p < rs.length), vs = [.ref x, .ref st, .int p] ∧ HallAt C H x rs ∧ Halls rs ∧ TupAt H st (ns.map V.int) ∧ ns.length = rs.length ∧
  ∀ (y : Int) (H' : Hp), Same H H' → Tell rs[p] (lotI rs[p] ns p) y → Q (.int y) H'
theorem ok_told_at (T : Txt K mg w) : FnOk P w K mg base CX0 6 T.f_told_at T.fd_told_at p_told_at (spToldAt T.C_Hall) := by
  have G_told_below := ok_told_below (P := P) (w := w) (base := base) T
  refine T.F_told_at.ok sc_told_at (fun vs H Q E h => ?_) (fun cdv A outer s H vs Q E hr h => ?_)
  · obtain ⟨x, st, p, rs, ns, hp, rfl, _⟩ := h
    rfl
  · obtain ⟨x, st, p, rs, ns, hp, rfl, hA, hh, hS, hn, q⟩ := h
    refine ⟨_, (pss_one (ps_ret (pe_call G_told_below (hr.mono (by decide)) (by rfl) T.g_told_below T.F_told_below.kp T.b_told_below .nil pass0 (pa_cons (pv 0) (pa_cons (pv 1) (pa_cons (pv 2) (pa_cons (pe_ix ix_tup (pv 1) (pv 2) (fun _ _ => rfl)) pa_nil))))))), ?_⟩
    exact ⟨.ref x, rfl, .ref st, rfl, .int p, rfl, .ref st, rfl, .int p, rfl, st, _, _, _, rfl, rfl, hS.sq, nth_at (by omega) (by omega), x, st, p, nth ns p, rs, ns, hp, rfl, hA, hh, hS, hn, fun y H1 s1 tl => q y H1 s1 tl⟩
end
end Lh

namespace Lh
open PySem PySem.Spec PyProof.Rows L2
section
variable {P : Program} {w : World} {K : PySem.W.Frag} {mg : Str → Option Value} {base : Heap}
def spTurned (C : Addr) : Sp := fun vs H Q _ => ∃ (x st l : Addr) (rs : List Rule) (ns qs : List Int), vs = [.ref x, .ref st, .ref l] ∧ HallAt C H x rs ∧ Halls rs ∧ TupAt H st (ns.map V.int) ∧ ns.length = rs.length ∧ (H l = some (.lst (qs.map V.int)) ∨ TupAt H l (qs.map V.int)) ∧ (∀ q ∈ qs, 0 ≤ q ∧ q < rs.length) ∧
  ∀ (t : Addr) (ms : List Int) (H' : Hp), Same H H' → H t = none → TupAt H' t (ms.map V.int) → Turned rs ns (fun i => i ∈ qs) ms → Q (.ref t) H'
set_option maxHeartbeats 2000000 in
theorem ok_turned (T : Txt K mg w) : FnOk P w K mg base CX0 7 T.f_turned T.fd_turned p_turned (spTurned T.C_Hall) := by
  have G_told_at := ok_told_at (P := P) (w := w) (base := base) T
  refine T.F_turned.ok sc_turned (fun vs H Q E h => ?_) (fun cdv A outer s H vs Q E hr h => ?_)
  · obtain ⟨x, st, l, rs, ns, qs, rfl, _⟩ := h
    rfl
  · obtain ⟨x, st, l, rs, ns, qs, rfl, hA, hh, hS, hn, hl, hq, q⟩ := h
    rcases hl with hl | hl
    · refine ⟨_, (pss_cons (ps_set (i := 3) sc_turned.nd rfl (.inl rfl) (pe_callTy call_list_of (by rfl) T.m_list (by decide +kernel) (pa_cons (pv 1) pa_nil)))
      (pss_cons (ps_for PassesOwn.never rfl (pi_list (pv 2)) (pg_name (i := 4) sc_turned.nd rfl (.inl rfl))
        (pss_one (ps_asg (pe_call G_told_at (hr.mono (by decide)) (by rfl) T.g_told_at T.F_told_at.kp T.b_told_at .nil pass0 (pa_cons (pv 0) (pa_cons (pv 1) (pa_cons (pv 4) pa_nil)))) (pg_sub (pv 3) (pv 4) set_list))))
      (pss_one (ps_ret (pe_callTy call_tupleF (by rfl) T.m_tuple (by decide +kernel) (pa_cons (pv 3) pa_nil)))))), ?_⟩
      refine ⟨.ref st, rfl, st, _, rfl, .inr hS.sq, fun d nd => ?_⟩
      have s0 := same_upd (o := .lst (ns.map V.int)) nd
      refine ⟨.ref l, rfl, l, rfl, ⟨_, .inl (.inl (s0 _ _ hl))⟩, ?_⟩
      refine for_it (walk_list (xs := qs.map V.int)) (fun i σ H3 => ∃ (y : Option V) (ms : List Int), σ = [some (.ref x), some (.ref st), some (.ref l), some (.ref d), y] ∧ Same H H3 ∧ H3 d = some (.lst (ms.map V.int)) ∧ Turned rs ns (fun j => j ∈ qs.take i) ms) ⟨Option.none, ns, rfl, s0, upd_same, Turned.none fun i z => by simp at z⟩ ?_ ?_ ?_
      · rintro i σ H3 _ ⟨y, ms, rfl, s3, _⟩
        exact .inl (.inl (s3 _ _ hl))
      · rintro i v σ H3 H4 hi ⟨y, ms, rfl, s3, h3, t3⟩ ⟨rfl, hv⟩
        rw [List.length_map] at hi
        rw [List.getElem?_map, List.getElem?_eq_getElem hi] at hv
        cases hv
        have io := hq _ (List.getElem_mem hi)
        obtain ⟨p, ep⟩ : ∃ p : Nat, qs[i] = (p : Int) := ⟨qs[i].toNat, by omega⟩
        have hp : p < rs.length := by omega
        rw [ep]
        refine ⟨.ref x, rfl, .ref st, rfl, .int p, rfl, x, st, p, rs, ns, hp, rfl, hA.keep s3, hh, hS.keep (Keep.same s3), hn, fun z H5 s5 tl => ?_⟩
        refine ⟨.ref d, rfl, .int p, rfl, d, _, _, p, rfl, rfl, s5 _ _ h3, ixN_at (by rw [List.length_map, t3.1]; omega), ?_⟩
        refine ⟨_, ms.set p z, rfl, same_mut (s3.trans s5) nd, by rw [upd_same, List.map_set], t3.step hn hp tl fun j => ?_⟩
        rw [List.take_add_one, List.getElem?_eq_getElem hi, ep]
        simp
        exact ⟨fun h => h.imp_right fun e => by omega, fun h => h.imp_right fun e => by omega⟩
      · rintro σ H3 ⟨y, ms, rfl, s3, h3, t3⟩
        rw [List.length_map, List.take_length] at t3
        refine ⟨.ref d, rfl, d, _, rfl, .inl (.inl h3), fun t o nt od => ?_⟩
        exact q t ms _ (s3.trans (same_upd nt)) (s3.free nt) (.inr ⟨o, od, upd_same⟩) t3
    · refine ⟨_, (pss_cons (ps_set (i := 3) sc_turned.nd rfl (.inl rfl) (pe_callTy call_list_of (by rfl) T.m_list (by decide +kernel) (pa_cons (pv 1) pa_nil)))
      (pss_cons (ps_for PassesOwn.never rfl (pi_tup (pv 2)) (pg_name (i := 4) sc_turned.nd rfl (.inl rfl))
        (pss_one (ps_asg (pe_call G_told_at (hr.mono (by decide)) (by rfl) T.g_told_at T.F_told_at.kp T.b_told_at .nil pass0 (pa_cons (pv 0) (pa_cons (pv 1) (pa_cons (pv 4) pa_nil)))) (pg_sub (pv 3) (pv 4) set_list))))
      (pss_one (ps_ret (pe_callTy call_tupleF (by rfl) T.m_tuple (by decide +kernel) (pa_cons (pv 3) pa_nil)))))), ?_⟩
      refine ⟨.ref st, rfl, st, _, rfl, .inr hS.sq, fun d nd => ?_⟩
      have s0 := same_upd (o := .lst (ns.map V.int)) nd
      refine ⟨.ref l, rfl, l, rfl, ⟨_, (hl.keep (Keep.same s0)).sq⟩, ?_⟩
      refine for_it (walk_tup (xs := qs.map V.int)) (fun i σ H3 => ∃ (y : Option V) (ms : List Int), σ = [some (.ref x), some (.ref st), some (.ref l), some (.ref d), y] ∧ Same H H3 ∧ H3 d = some (.lst (ms.map V.int)) ∧ Turned rs ns (fun j => j ∈ qs.take i) ms) ⟨Option.none, ns, rfl, s0, upd_same, Turned.none fun i z => by simp at z⟩ ?_ ?_ ?_
      · rintro i σ H3 _ ⟨y, ms, rfl, s3, _⟩
        exact (hl.keep (Keep.same s3)).sq
      · rintro i v σ H3 H4 hi ⟨y, ms, rfl, s3, h3, t3⟩ ⟨rfl, hv⟩
        rw [List.length_map] at hi
        rw [List.getElem?_map, List.getElem?_eq_getElem hi] at hv
        cases hv
        have io := hq _ (List.getElem_mem hi)
        obtain ⟨p, ep⟩ : ∃ p : Nat, qs[i] = (p : Int) := ⟨qs[i].toNat, by omega⟩
        have hp : p < rs.length := by omega
        rw [ep]
        refine ⟨.ref x, rfl, .ref st, rfl, .int p, rfl, x, st, p, rs, ns, hp, rfl, hA.keep s3, hh, hS.keep (Keep.same s3), hn, fun z H5 s5 tl => ?_⟩
        refine ⟨.ref d, rfl, .int p, rfl, d, _, _, p, rfl, rfl, s5 _ _ h3, ixN_at (by rw [List.length_map, t3.1]; omega), ?_⟩
        refine ⟨_, ms.set p z, rfl, same_mut (s3.trans s5) nd, by rw [upd_same, List.map_set], t3.step hn hp tl fun j => ?_⟩
        rw [List.take_add_one, List.getElem?_eq_getElem hi, ep]
        simp
        exact ⟨fun h => h.imp_right fun e => by omega, fun h => h.imp_right fun e => by omega⟩
      · rintro σ H3 ⟨y, ms, rfl, s3, h3, t3⟩
        rw [List.length_map, List.take_length] at t3
        refine ⟨.ref d, rfl, d, _, rfl, .inl (.inl h3), fun t o nt od => ?_⟩
        exact q t ms _ (s3.trans (same_upd nt)) (s3.free nt) (.inr ⟨o, od, upd_same⟩) t3
end
end Lh

namespace Lh
open PySem PySem.Spec PyProof.Rows L2
section
variable {P : Program} {w : World} {K : PySem.W.Frag} {mg : Str → Option Value} {base : Heap}
def spBeaten (C : Addr) : Sp := fun vs H Q _ => ∃ (x st : Addr) (rs : List Rule) (ns : List Int), vs = [.ref x, .ref st] ∧ HallAt C H x rs ∧ Halls rs ∧ TupAt H st (ns.map V.int) ∧ ns.length = rs.length ∧
  ∀ (t : Addr) (ms : List Int) (H' : Hp), Same H H' → H t = none → TupAt H' t (ms.map V.int) → Beat rs ns ms → Q (.ref t) H'
theorem ok_beaten (T : Txt K mg w) : FnOk P w K mg base CX0 8 T.f_beaten T.fd_beaten p_beaten (spBeaten T.C_Hall) := by
  have G_turned := ok_turned (P := P) (w := w) (base := base) T
  have G_Hall_len := ok_Hall_len (P := P) (w := w) (base := base) T
  refine T.F_beaten.ok sc_beaten (fun vs H Q E h => ?_) (fun cdv A outer s H vs Q E hr h => ?_)
  · obtain ⟨x, st, rs, ns, rfl, _⟩ := h
    rfl
  · obtain ⟨x, st, rs, ns, rfl, hA, hh, hS, hn, q⟩ := h
    obtain ⟨dx, t0, vs0, hx, ht0, hv0⟩ := id hA
    have r1 := hh.2.1
    refine ⟨_, (pss_one (ps_ret (pe_call G_turned (hr.mono (by decide)) (by rfl) T.g_turned T.F_turned.kp T.b_turned .nil pass0 (pa_cons (pv 0) (pa_cons (pv 1) (pa_cons (pe_listRg (by rfl) (by rfl) T.m_list (prg_1 (by rfl) T.m_range (pe_callB (run_len T.me_Hall_len G_Hall_len T.b_Hall_len (hr.mono (by decide))) (by rfl) T.m_len (by decide +kernel) (pa_cons (pv 0) pa_nil)))) pa_nil)))))), ?_⟩
    refine ⟨.ref x, rfl, .ref st, rfl, .ref x, rfl, x, dx, _, rfl, hx, x, rs, rfl, hA, (rs.length : Int), rfl, by omega, Int.lt_of_le_of_lt (by omega : (rs.length : Int) ≤ 60) (by decide), (rs.length : Int), rfl, RgOk.of_le (by omega) (by omega) (by omega) (by omega), fun l nl => ?_⟩
    have s0 := same_upd (o := .lst (rgV 0 (rs.length : Int))) nl
    refine ⟨x, st, l, rs, ns, (List.range ((rs.length : Int)).toNat).map (fun k : Nat => (k : Int)), rfl, hA.keep s0, hh, hS.keep (Keep.same s0), hn, .inl (by rw [upd_same, rg_ints]), (rg_rising _ (by omega)).2, fun t ms H' s' nt ht tu => ?_⟩
    refine q t ms H' (s0.trans s') (s0.free nt) ht ⟨tu.1, fun i hi => ⟨fun _ => (tu.2 i hi).1 ?_, fun z => absurd trivial z⟩⟩
    exact List.mem_map.mpr ⟨i, List.mem_range.mpr (by omega), rfl⟩
end
end Lh

namespace Lh
open PySem PySem.Spec PyProof.Rows L2
section
variable {P : Program} {w : World} {K : PySem.W.Frag} {mg : Str → Option Value} {base : Heap}
def spRestByBeats (C : Addr) : Sp := fun vs H Q _ => ∃ (x st : Addr) (rs : List Rule) (ns : List Int), vs = [.ref x, .ref st] ∧ HallAt C H x rs ∧ Halls rs ∧ TupAt H st (ns.map V.int) ∧ ns.length = rs.length ∧ (∀ n ∈ ns, 0 ≤ n) ∧
  ∀ (p t : Addr) (m : List Int) (b : Nat) (H' : Hp), Same H H' → H p = none → H' p = some (.tup [.ref t, .int b]) → TupAt H' t (m.map V.int) → Come rs ns m b → Q (.ref p) H'
set_option maxHeartbeats 1000000 in
theorem ok_rest_by_beats (T : Txt K mg w) : FnOk P w K mg base CX0 9 T.f_rest_by_beats T.fd_rest_by_beats p_rest_by_beats (spRestByBeats T.C_Hall) := by
  have G_beaten := ok_beaten (P := P) (w := w) (base := base) T
  refine T.F_rest_by_beats.ok sc_rest_by_beats (fun vs H Q E h => ?_) (fun cdv A outer s H vs Q E hr h => ?_)
  · obtain ⟨x, st, rs, ns, rfl, _⟩ := h
    rfl
  · obtain ⟨x, st, rs, ns, rfl, hA, hh, hS, hn, pos, q⟩ := h
    obtain ⟨N, still, rest⟩ := beat_rest hh hn pos
    refine ⟨_, (pss_cons (ps_set (i := 2) sc_rest_by_beats.nd rfl (.inl rfl) pe_int)
      (pss_cons (ps_set (i := 3) sc_rest_by_beats.nd rfl (.inl rfl) (pv 1))
      (pss_cons (ps_set (i := 4) sc_rest_by_beats.nd rfl (.inl rfl) (pe_call G_beaten (hr.mono (by decide)) (by rfl) T.g_beaten T.F_beaten.kp T.b_beaten .nil pass0 (pa_cons (pv 0) (pa_cons (pv 3) pa_nil))))
      (pss_cons (ps_while PassesOwn.never (pt_cmpR (op_neD hr.units) (pv 4) (pv 3) (nomark _))
        (pss_cons (ps_aug (i := 2) sc_rest_by_beats.nd rfl (.inl rfl) pe_int ip_add)
        (pss_cons (ps_set (i := 3) sc_rest_by_beats.nd rfl (.inl rfl) (pv 4))
        (pss_one (ps_set (i := 4) sc_rest_by_beats.nd rfl (.inl rfl) (pe_call G_beaten (hr.mono (by decide)) (by rfl) T.g_beaten T.F_beaten.kp T.b_beaten .nil pass0 (pa_cons (pv 0) (pa_cons (pv 3) pa_nil))))))))
      (pss_one (ps_ret (pe_tup (pa_cons (pv 3) (pa_cons (pv 2) pa_nil))))))))), ?_⟩
    refine ⟨.ref st, rfl, .ref x, rfl, .ref st, rfl, x, st, rs, ns, rfl, hA, hh, hS, hn, fun t1 m1 H1 s1 n1 h1 be1 => ?_⟩
    have e1 : m1 = beatN rs ns 1 := be1.unique hn (beatN_step hn 0)
    refine while_by (fun σ H3 => ∃ (k : Nat) (t t' : Addr), σ = [some (.ref x), some (.ref st), some (.int (k : Int)), some (.ref t), some (.ref t')] ∧ Same H H3 ∧ TupAt H3 t ((beatN rs ns k).map V.int) ∧ TupAt H3 t' ((beatN rs ns (k + 1)).map V.int) ∧ ∀ i, i < k → beatN rs ns i ≠ beatN rs ns (i + 1))
      (fun σ _ => N - cntOf 2 σ) ⟨0, st, t1, rfl, s1, hS.keep (Keep.same s1), by rw [← e1]; exact h1, fun i h => absurd h (by omega)⟩ ?_ ?_
    · rintro σ H3 ⟨k, t, t', rfl, s3, ht, ht', nw⟩
      refine ⟨.ref t', rfl, .ref t, rfl, _, _, ht'.dp, ht.dp, shaped_tup _, shaped_tup _, _, rfl, ?_⟩
      rw [eqv_tups]
      refine ite2 (fun z => ?_) (fun z => ?_)
      · have ne : ¬ beatN rs ns (k + 1) = beatN rs ns k := by simpa using z
        have lt : k < N := by
          rcases Nat.lt_or_ge k N with c | c
          · exact c
          · exact absurd ((still (k + 1) (by omega)).trans (still k c).symm) ne
        refine ⟨.int k, rfl, _, _, rfl, rfl, .ref t', rfl, .ref x, rfl, .ref t', rfl, x, t', rs, beatN rs ns (k + 1), rfl, hA.keep s3, hh, ht', beatN_len hn _, fun t2 m2 H4 s4 n4 h4 be4 => ?_⟩
        have e4 : m2 = beatN rs ns (k + 2) := be4.unique (beatN_len hn _) (beatN_step hn (k + 1))
        refine ⟨⟨k + 1, t', t2, rfl, s3.trans s4, ht'.keep (Keep.same s4), by rw [← e4]; exact h4, fun i hi => ?_⟩, ?_⟩
        · by_cases c : i = k
          · subst c; exact fun z => ne z.symm
          · exact nw i (by omega)
        · show N - (((k : Nat) : Int) + 1).toNat < N - ((k : Nat) : Int).toNat
          omega
      · have eq : beatN rs ns (k + 1) = beatN rs ns k := by simpa using z
        refine ⟨.ref t, rfl, .int k, rfl, by show 2 ≤ sizeLine; decide, fun p np => ?_⟩
        have sp := same_upd (o := .tup [.ref t, .int (k : Int)]) np
        refine q p t (beatN rs ns k) k _ (s3.trans sp) (s3.free np) upd_same (ht.keep (Keep.same sp)) ⟨rfl, ?_, nw⟩
        have := beatN_step hn k
        rw [eq] at this
        exact this
    · intro σ H3 Q1 Q2 hQ h
      obtain ⟨v, h1, u, h2, d, e, a1, a2, a3, a4, k, e3, h3⟩ := h
      exact ⟨v, h1, u, h2, d, e, a1, a2, a3, a4, k, e3, hQ _ _ h3⟩
end
end Lh

namespace Lh
open PySem PySem.Spec PyProof.Rows L2
section
variable {P : Program} {w : World} {K : PySem.W.Frag} {mg : Str → Option Value} {base : Heap}
def spHistory (C : Addr) : Sp := fun vs H Q _ => ∃ (x st : Addr) (m : Nat) (rs : List Rule) (ns : List Int), vs = [.ref x, .ref st, .int m] ∧ HallAt C H x rs ∧ Halls rs ∧ TupAt H st (ns.map V.int) ∧ ns.length = rs.length ∧ m ≤ 1000000 ∧
  ∀ (l : Addr) (us : List V) (nss : List (List Int)) (H' : Hp), Same H H' → H l = none → H' l = some (.lst us) → StandsAt H' us nss → Way rs ns nss → nss.length = m + 1 → Q (.ref l) H'
set_option maxHeartbeats 1000000 in
theorem ok_history (T : Txt K mg w) : FnOk P w K mg base CX0 9 T.f_history T.fd_history p_history (spHistory T.C_Hall) := by
  have G_beaten := ok_beaten (P := P) (w := w) (base := base) T
  refine T.F_history.ok sc_history (fun vs H Q E h => ?_) (fun cdv A outer s H vs Q E hr h => ?_)
  · obtain ⟨x, st, m, rs, ns, rfl, _⟩ := h
    rfl
  · obtain ⟨x, st, m, rs, ns, rfl, hA, hh, hS, hn, m1, q⟩ := h
    refine ⟨_, (pss_cons (ps_set (i := 3) sc_history.nd rfl (.inl rfl) (pe_lst (pa_cons (pv 1) pa_nil)))
      (pss_cons (ps_while PassesOwn.never (pt_cmpR op_le (pe_callB call_len_seq (by rfl) T.m_len (by decide +kernel) (pa_cons (pv 3) pa_nil)) (pv 2) (nomark _))
        (pss_one (ps_expr (pe_bm PySem.F.plainAttrs_list PySem.F.slot_list_append PySem.F.type_list_append mt_append (pv 3) (pa_cons (pe_call G_beaten (hr.mono (by decide)) (by rfl) T.g_beaten T.F_beaten.kp T.b_beaten .nil pass0 (pa_cons (pv 0) (pa_cons (pe_ix ix_list (pv 3) (pe_un un_neg pe_int) (fun _ _ => rfl)) pa_nil))) pa_nil)))))
      (pss_one (ps_ret (pv 3))))), ?_⟩
    refine ⟨.ref st, rfl, by show 1 ≤ sizeLine; decide, fun l nl => ?_⟩
    have s0 := same_upd (o := .lst [.ref st]) nl
    refine while_by (fun σ H3 => σ = [some (.ref x), some (.ref st), some (.int m), some (.ref l)] ∧ ∃ (us : List V) (nss : List (List Int)), Same H H3 ∧ H3 l = some (.lst us) ∧ StandsAt H3 us nss ∧ Way rs ns nss ∧ nss.length ≤ m + 1)
      (fun _ H3 => match H3 l with | some (.lst us) => m + 1 - us.length | _ => 0) ⟨rfl, _, [ns], s0, upd_same, .cons ⟨st, rfl, hS.keep (Keep.same s0)⟩ .nil, Way.one hn, by show 1 ≤ m + 1; omega⟩ ?_ ?_
    · rintro σ H3 ⟨rfl, us, nss, s3, h3, st3, w3, n3⟩
      have lu : us.length = nss.length := st3.length
      refine ⟨.ref l, rfl, l, _, rfl, .inl (.inl (.inl h3)), .int m, rfl, _, _, rfl, rfl, _, rfl, ite2 (fun z => ?_) (fun z => ?_)⟩
      · have z' : (us.length : Int) ≤ m := of_decide_eq_true z
        have n0 : 0 < nss.length := List.length_pos_of_mem (List.mem_of_getElem? w3.1)
        obtain ⟨a, ha⟩ : ∃ a, nss[nss.length - 1]? = some a := ⟨_, List.getElem?_eq_getElem (by omega)⟩
        obtain ⟨t, ut, ht⟩ := st3.get _ _ ha
        have la : a.length = rs.length := w3.2.1 _ (List.mem_of_getElem? ha)
        refine ⟨.ref l, rfl, .inl ⟨rfl, _, .inl (.inl h3)⟩, .ref x, rfl, .ref l, rfl, 1, rfl, l, us, -1, .ref t, rfl, rfl, .inl (.inl h3), ?_, ?_⟩
        · rw [← lu] at ut
          exact at_end ut
        refine ⟨x, t, rs, a, rfl, hA.keep s3, hh, ht, la, fun t2 ms H5 s5 n5 h5 b5 => ?_⟩
        have hl5 := s5 _ _ h3
        refine ⟨l, us, .ref t2, rfl, rfl, hl5, Nat.lt_of_le_of_lt (by omega : us.length ≤ 1000000) (by decide), ?_⟩
        have kT : Keep H5 (upd H5 l (.lst (us ++ [.ref t2]))) := by
          refine ⟨fun a xs h => ?_, fun a o u h => ?_⟩
          · rw [upd_ne (ne_of h hl5 (by intro z; cases z))]; exact h
          · rw [upd_ne (ne_of h hl5 (by intro z; cases z))]; exact h
        refine ⟨⟨rfl, us ++ [V.ref t2], nss ++ [ms], same_mut (s3.trans s5) nl, upd_same, Paired.snoc (R := StandAt _) ⟨t2, rfl, h5.keep kT⟩ ((st3.keep (Keep.same s5)).keep kT), w3.snoc (by rw [List.getLast?_eq_getElem?]; exact ha) b5, by rw [List.length_append]; show nss.length + 1 ≤ m + 1; omega⟩, ?_⟩
        simp only [upd_same, h3]
        rw [List.length_append]
        show m + 1 - (us.length + 1) < m + 1 - us.length
        omega
      · have z' : ¬ (us.length : Int) ≤ m := of_decide_eq_false (by simpa using z)
        exact ⟨.ref l, rfl, q l us nss H3 s3 nl h3 st3 w3 (by omega)⟩
    · intro σ H3 Q1 Q2 hQ h
      obtain ⟨v, h1, a, xs, e, hs, u, h2, i, j, e1, e2, k, e3, h3⟩ := h
      exact ⟨v, h1, a, xs, e, hs, u, h2, i, j, e1, e2, k, e3, hQ _ _ h3⟩
end
end Lh

namespace Lh
open PySem PySem.Spec PyProof.Rows L2
/-! ### rows swept -/
theorem lessN_mono (f : List Int) {v u : Int} (h : v ≤ u) : lessN f v ≤ lessN f u := by
  unfold lessN
  rw [← List.countP_eq_length_filter, ← List.countP_eq_length_filter]
  exact List.countP_mono_left fun j _ hj => decide_eq_true (by have := of_decide_eq_true hj; omega)
theorem lessN_le (f : List Int) (v : Int) : lessN f v ≤ f.length := List.length_filter_le _ _
def itR (f : List Int) (v : Int) : Nat → Int
  | 0 => v
  | k + 1 => (lessN f (itR f v k) : Int)
noncomputable def limR (f : List Int) (v : Int) : Int := Classical.choose (⟨itR f v 61, rfl⟩ : ∃ x, x = itR f v 61)
theorem limR_eq (f : List Int) (v : Int) : limR f v = itR f v 61 := Classical.choose_spec (⟨itR f v 61, rfl⟩ : ∃ x, x = itR f v 61)
theorem itR_still {f : List Int} {v : Int} (l : f.length ≤ 60) : ∀ k, itR f v (61 + k) = itR f v 61 := by
  have r := runs (G := fun h => (lessN f h : Int)) (c := fun h => lessN f h) (n := f.length) (fun h => lessN_le f h) (fun h h' le => by
    have := lessN_mono f le
    exact ⟨by show (lessN f h : Int) ≤ lessN f h'; omega, this, fun e => by show (lessN f h : Int) = lessN f h'; omega⟩) (v := itR f v) (fun k => rfl)
  intro k
  have a := r (60 - f.length + k)
  have b := r (60 - f.length)
  rw [show f.length + 1 + (60 - f.length + k) = 61 + k by omega] at a
  rw [show f.length + 1 + (60 - f.length) = 61 by omega] at b
  exact a.trans b.symm
theorem limR_stop {f : List Int} {v : Int} (l : f.length ≤ 60) : (lessN f (limR f v) : Int) = limR f v := by
  rw [limR_eq]
  exact itR_still l 1
theorem limR_bnd {f : List Int} {v : Int} : 0 ≤ limR f v ∧ limR f v ≤ f.length := by
  have := lessN_le f (itR f v 60)
  rw [limR_eq]
  show 0 ≤ (lessN f (itR f v 60) : Int) ∧ (lessN f (itR f v 60) : Int) ≤ f.length
  omega
theorem itR_up {f : List Int} {v s : Int} (st : (lessN f s : Int) = s) (l : v ≤ s) : ∀ k, itR f v k ≤ s
  | 0 => l
  | k + 1 => by
    have := lessN_mono f (itR_up st l k)
    show (lessN f (itR f v k) : Int) ≤ s
    omega
theorem itR_down {f : List Int} {v s : Int} (st : (lessN f s : Int) = s) (l : s ≤ v) : ∀ k, s ≤ itR f v k
  | 0 => l
  | k + 1 => by
    have := lessN_mono f (itR_down st l k)
    show s ≤ (lessN f (itR f v k) : Int)
    omega
theorem itR_rise {f : List Int} {v : Int} (l : v ≤ lessN f v) : ∀ k, itR f v k ≤ itR f v (k + 1)
  | 0 => l
  | k + 1 => by
    have := lessN_mono f (itR_rise l k)
    show (lessN f (itR f v k) : Int) ≤ (lessN f (itR f v (k + 1)) : Int)
    omega
theorem itR_fall {f : List Int} {v : Int} (l : (lessN f v : Int) ≤ v) : ∀ k, itR f v (k + 1) ≤ itR f v k
  | 0 => l
  | k + 1 => by
    have := lessN_mono f (itR_fall l k)
    show (lessN f (itR f v (k + 1)) : Int) ≤ (lessN f (itR f v k) : Int)
    omega
theorem itR_riseN {f : List Int} {v : Int} (l : v ≤ lessN f v) (i : Nat) : ∀ k, itR f v i ≤ itR f v (i + k)
  | 0 => Int.le_refl _
  | k + 1 => Int.le_trans (itR_riseN l i k) (itR_rise l (i + k))
theorem itR_fallN {f : List Int} {v : Int} (l : (lessN f v : Int) ≤ v) (i : Nat) : ∀ k, itR f v (i + k) ≤ itR f v i
  | 0 => Int.le_refl _
  | k + 1 => Int.le_trans (itR_fall l (i + k)) (itR_fallN l i k)
theorem itR_end {f : List Int} {v : Int} {k : Nat} (l : f.length ≤ 60) (e : itR f v (k + 1) = itR f v k) : limR f v = itR f v k := by
  rw [limR_eq]
  have key : ∀ j, itR f v (k + j) = itR f v k := fun j => by
    induction j with
    | zero => rfl
    | succ j ih =>
      show (lessN f (itR f v (k + j)) : Int) = _
      rw [ih]
      exact e
  rcases Nat.lt_or_ge k 61 with c | c
  · have := key (61 - k)
    rw [show k + (61 - k) = 61 by omega] at this
    exact this
  · have := itR_still (v := v) l (k - 61)
    rw [show 61 + (k - 61) = k by omega] at this
    exact this.symm
theorem limR_up {f : List Int} {v s : Int} (st : (lessN f s : Int) = s) (l : v ≤ s) : limR f v ≤ s := by
  rw [limR_eq]
  exact itR_up st l 61
theorem limR_down {f : List Int} {v s : Int} (st : (lessN f s : Int) = s) (l : s ≤ v) : s ≤ limR f v := by
  rw [limR_eq]
  exact itR_down st l 61
theorem limR_fall {f : List Int} {v : Int} (l : (lessN f v : Int) ≤ v) : limR f v ≤ v := by
  rw [limR_eq]
  exact itR_fallN l 0 61
theorem limR_rise {f : List Int} {v : Int} (l : v ≤ lessN f v) : (lessN f v : Int) ≤ limR f v := by
  rw [limR_eq]
  exact itR_riseN l 1 60
noncomputable def sweepR (ns : List Int) : List Int := ns.foldl (fun f v => f ++ [limR f v]) []
theorem take_snoc {ns : List Int} {k : Nat} (h : k < ns.length) : ns.take (k + 1) = ns.take k ++ [nth ns k] := by
  rw [List.take_add_one, List.getElem?_eq_getElem h]
  unfold nth
  rw [Int.toNat_natCast, List.getD_eq_getElem?_getD, List.getElem?_eq_getElem h]
  rfl
theorem sweepR_snoc (ns : List Int) (v : Int) : sweepR (ns ++ [v]) = sweepR ns ++ [limR (sweepR ns) v] := by
  unfold sweepR
  rw [List.foldl_append]
  rfl
theorem sweepR_step {ns : List Int} {k : Nat} (h : k < ns.length) : sweepR (ns.take (k + 1)) = sweepR (ns.take k) ++ [limR (sweepR (ns.take k)) (nth ns k)] := by
  rw [take_snoc h, sweepR_snoc]
theorem sweepR_lenT (ns : List Int) : ∀ k, k ≤ ns.length → (sweepR (ns.take k)).length = k
  | 0, _ => rfl
  | k + 1, h => by rw [sweepR_step (by omega), List.length_append, sweepR_lenT ns k (by omega)]; rfl
theorem sweepR_len (ns : List Int) : (sweepR ns).length = ns.length := by
  have := sweepR_lenT ns ns.length (Nat.le_refl _)
  rw [List.take_length] at this
  exact this
theorem sweepR_restT (ns : List Int) (l : ns.length ≤ 60) : ∀ k, k ≤ ns.length → RowRest (sweepR (ns.take k))
  | 0, _ => fun i hi => absurd hi (by show ¬ i < 0; omega)
  | k + 1, h => by
    rw [sweepR_step (by omega)]
    exact (sweepR_restT ns l k (by omega)).snoc (limR_stop (by rw [sweepR_lenT ns k (by omega)]; omega))
theorem sweepR_rest {ns : List Int} (l : ns.length ≤ 60) : RowRest (sweepR ns) := by
  have := sweepR_restT ns l ns.length (Nat.le_refl _)
  rw [List.take_length] at this
  exact this
theorem sweepR_self {ns : List Int} (l : ns.length ≤ 60) (h : RowRest ns) : sweepR ns = ns := by
  have key : ∀ k, k ≤ ns.length → sweepR (ns.take k) = ns.take k := fun k => by
    induction k with
    | zero => exact fun _ => rfl
    | succ k ih =>
      intro hk
      rw [sweepR_step (by omega), ih (by omega), take_snoc (by omega)]
      congr 2
      have e : (lessN (ns.take k) (nth ns k) : Int) = nth ns k := by rw [lessN_take ns (by omega)]; exact (h k (by omega)).symm
      exact itR_end (k := 0) (by rw [List.length_take]; omega) e
  have := key ns.length (Nat.le_refl _)
  rw [List.take_length] at this
  exact this
/-! the hall's own sweep -/
theorem row_others {n p : Nat} (hp : p < (rowR n).length) : othersL (rowR n)[p] p = (List.range p).map fun o : Nat => (o : Int) := by
  unfold othersL
  rw [rowR_get hp, show (Rule.sum 0 (aheadL p)).persons = (aheadL p).map (·.1) from rfl, aheadL_pers]
  refine List.filter_eq_self.mpr fun x hx => ?_
  obtain ⟨k, hk, rfl⟩ := List.mem_map.mp hx
  have := List.mem_range.mp hk
  exact decide_eq_true (by omega)
theorem row_toldO {n p : Nat} {ms : List Int} {h : Int} (hp : p < (rowR n).length) (l : p ≤ ms.length) : toldO (rowR n) ms p h = lessN (ms.take p) h := by
  refine (toldO_of hp ?_).symm
  have e : (lotO (rowR n)[p] ms p h).length = cntL ms p h := by
    unfold lotO cntL
    rw [List.length_map, row_others hp, List.filter_map, List.length_map]
    rfl
  rw [lessN_take ms l, ← e]
  generalize hlot : lotO (rowR n)[p] ms p h = lot
  have per : ∀ q ∈ lot, q.1 ∈ (aheadL p).map (·.1) := fun q hq => by
    rw [← hlot] at hq
    have := lotO_in q hq
    rw [rowR_get hp] at this
    exact this
  rw [rowR_get hp]
  show (lot.length : Int) = (0 : Int) + _
  rw [sum_ones _ (fun q hq => wgt_row (per q hq)), Int.zero_add]
theorem row_itO {n p : Nat} {ms : List Int} {v : Int} (hp : p < (rowR n).length) (l : p ≤ ms.length) : ∀ k, itO (rowR n) ms p v k = itR (ms.take p) v k
  | 0 => rfl
  | k + 1 => by
    show toldO (rowR n) ms p _ = (lessN _ _ : Int)
    rw [row_toldO hp l, row_itO hp l k]
theorem row_swept_eq {n : Nat} {ns ms : List Int} (hn : ns.length = n) (s : Swept (rowR n) ns ms) : ms = sweepR ns := by
  have ml : ms.length = n := by rw [s.1, rowR_len]
  have key : ∀ k, k ≤ n → ms.take k = sweepR (ns.take k) := fun k => by
    induction k with
    | zero => exact fun _ => rfl
    | succ k ih =>
      intro hk
      have hp : k < (rowR n).length := by rw [rowR_len]; omega
      rw [sweepR_step (by omega), ← ih (by omega), take_snoc (by omega), s.2.2 k hp]
      congr 2
      rw [limR_eq]
      exact row_itO hp (by omega) 61
  have := key n (Nat.le_refl _)
  rw [← ml, List.take_length] at this
  rw [this, ml, ← hn, List.take_length]
theorem row_flat (n : Nat) : Flat (rowR n) := by
  refine ⟨(List.range n).map fun k : Nat => (k : Int), ?_, by rw [List.length_map, List.length_range, rowR_len], fun x hx => ?_, fun i hi => ?_⟩
  · have := (rg_rising (n : Int) (by omega)).nodup
    rw [Int.toNat_natCast] at this
    exact this
  · obtain ⟨k, hk, rfl⟩ := List.mem_map.mp hx
    have := List.mem_range.mp hk
    rw [rowR_len]
    omega
  · have hi' : i < n := by rw [rowR_len] at hi; exact hi
    refine ⟨i, by rw [List.length_map, List.length_range]; exact hi', by rw [List.getElem_map, List.getElem_range], fun o ho => ?_⟩
    rw [rowR_get hi, show (Rule.sum 0 (aheadL i)).persons = (aheadL i).map (·.1) from rfl, aheadL_pers] at ho
    rw [← List.map_take, List.take_range, show min i n = i by omega]
    exact ho
theorem row_fine (n : Nat) : ∀ r ∈ rowR n, r.Fine 9 := fun r hr => by
  obtain ⟨p, _, rfl⟩ := List.mem_map.mp hr
  refine ⟨by decide, fun q hq => ?_⟩
  obtain ⟨k, _, rfl⟩ := List.mem_map.mp hq
  show (1 : Int) ≤ 9
  decide
/-! how many fall -/
def fallC (a b : List Int) : Nat := ((List.range a.length).filter fun i : Nat => decide (nth b i < nth a i)).length
def fallsR (ns : List Int) (b : Nat) : List Int := (List.range b).map fun t : Nat => (fallC (rowN ns t) (rowN ns (t + 1)) : Int)
def IsB (ns : List Int) (b : Nat) : Prop := rowN ns (b + 1) = rowN ns b ∧ ∀ i, i < b → rowN ns i ≠ rowN ns (i + 1)
theorem IsB.unique {ns : List Int} {a b : Nat} (x : IsB ns a) (y : IsB ns b) : a = b := by
  rcases Nat.lt_trichotomy a b with c | c | c
  · exact absurd x.1.symm (y.2 a c)
  · exact c
  · exact absurd y.1.symm (x.2 b c)
theorem IsB.of_come {n : Nat} {ns m : List Int} {b : Nat} (hn : ns.length = n) (c : Come (rowR n) ns m b) : IsB ns b ∧ m = rowN ns b := by
  have lnr : ns.length = (rowR n).length := by rw [rowR_len]; exact hn
  have em : m = rowN ns b := by rw [c.1, row_beatN hn]
  refine ⟨⟨?_, fun i hi => ?_⟩, em⟩
  · have h := c.2.1
    rw [em] at h
    exact (row_beat (by rw [rowN_len]; exact hn)).unique (by rw [rowN_len]; exact lnr) h
  · have := c.2.2 i hi
    rw [row_beatN hn, row_beatN hn] at this
    exact this
theorem isB_le {ns : List Int} {b : Nat} (x : IsB ns b) : b ≤ max 1 (ns.length - 1) := by
  have st : rowN ns (max 1 (ns.length - 1) + 1) = rowN ns (max 1 (ns.length - 1)) := row_all (fun i hi => by omega) 1
  rcases Nat.lt_or_ge (max 1 (ns.length - 1)) b with z | z
  · exact absurd st.symm (x.2 _ z)
  · exact z
theorem isB_ex (ns : List Int) : ∃ b, IsB ns b := by
  have st : rowN ns (max 1 (ns.length - 1) + 1) = rowN ns (max 1 (ns.length - 1)) := row_all (fun i hi => by omega) 1
  have key : ∀ m, rowN ns (m + 1) = rowN ns m → ∃ b, IsB ns b := fun m => by
    induction m using Nat.strongRecOn with
    | ind m ih =>
      intro e
      by_cases c : ∃ i, i < m ∧ rowN ns i = rowN ns (i + 1)
      · obtain ⟨i, hi, ei⟩ := c
        exact ih i hi ei.symm
      · exact ⟨m, e, fun i hi z => c ⟨i, hi, z⟩⟩
  exact key _ st
theorem falls_none {ns : List Int} {t : Nat} : fallC (rowN ns (t + 1)) (rowN ns (t + 2)) = 0 := by
  unfold fallC
  rw [List.length_eq_zero_iff, List.filter_eq_nil_iff]
  intro i hi
  have hi' := List.mem_range.mp hi
  have := (rowN_low ns t).up hi'
  have e : nth (rowB (rowN ns (t + 1))) i = nth (rowN ns (t + 2)) i := rfl
  rw [e] at this
  simp
  exact this
theorem isB_rest {ns : List Int} (h : RowRest ns) : IsB ns 0 := ⟨rowRest_iff.mp h, fun i hi => absurd hi (by omega)⟩
end Lh

namespace Lh
open PySem PySem.Spec PyProof.Rows L2
/-! ### lot by lot -/
noncomputable def turnL (rs : List Rule) (ns qs : List Int) : List Int := (List.range rs.length).map fun i : Nat => if (i : Int) ∈ qs then nth (beatF rs ns) i else nth ns i
theorem turnL_len (rs : List Rule) (ns qs : List Int) : (turnL rs ns qs).length = rs.length := by unfold turnL; rw [List.length_map, List.length_range]
theorem turnL_nth {rs : List Rule} {ns qs : List Int} {i : Nat} (hi : i < rs.length) : nth (turnL rs ns qs) i = if (i : Int) ∈ qs then nth (beatF rs ns) i else nth ns i := by
  unfold turnL
  rw [show nth ((List.range rs.length).map fun i : Nat => if (i : Int) ∈ qs then nth (beatF rs ns) i else nth ns i) (i : Int) = _ from rfl]
  unfold nth
  rw [Int.toNat_natCast, List.getD_eq_getElem?_getD, List.getElem?_map, List.getElem?_range hi]
  rfl
theorem turnL_ok {rs : List Rule} {ns qs : List Int} (hn : ns.length = rs.length) : Turned rs ns (fun i => i ∈ qs) (turnL rs ns qs) := by
  refine ⟨by rw [turnL_len, hn], fun i hi => ?_⟩
  rw [turnL_nth hi]
  refine ⟨fun z => ?_, fun z => by rw [if_neg z]⟩
  rw [if_pos z]
  exact ((beatF_ok hn).2 i hi).1 trivial
noncomputable def seqL (rs : List Rule) (ns : List Int) (lots : List (List Int)) : Nat → List Int
  | 0 => ns
  | k + 1 => turnL rs (seqL rs ns lots k) (lots.getD (k % lots.length) [])
theorem seqL_len {rs : List Rule} {ns : List Int} (hn : ns.length = rs.length) (lots : List (List Int)) : ∀ k, (seqL rs ns lots k).length = rs.length
  | 0 => hn
  | k + 1 => turnL_len _ _ _
theorem seqL_step {rs : List Rule} {ns : List Int} (hn : ns.length = rs.length) (lots : List (List Int)) (k : Nat) : Turned rs (seqL rs ns lots k) (fun i => i ∈ lots.getD (k % lots.length) []) (seqL rs ns lots (k + 1)) := turnL_ok (seqL_len hn lots k)
def Covers (n : Nat) (lots : List (List Int)) : Prop := ∀ p : Nat, p < n → ∃ j : Nat, j < lots.length ∧ (p : Int) ∈ lots.getD j []
theorem seqL_rest {rs : List Rule} {ns : List Int} (hh : Halls rs) (hn : ns.length = rs.length) (pos : ∀ n ∈ ns, 0 ≤ n) {lots : List (List Int)} (cv : Covers rs.length lots) : ∃ T, (∀ k, T ≤ k → seqL rs ns lots k = seqL rs ns lots T) ∧ Rest rs (seqL rs ns lots T) := by
  refine Fair.rest (S := fun k i => i ∈ lots.getD (k % lots.length) []) ⟨hh.2.2, seqL_len hn lots, seqL_step hn lots, nth_pos pos, fun k p hp => ?_⟩
  obtain ⟨j, hj, hm⟩ := cv p hp
  refine ⟨k * lots.length + j, ?_, ?_⟩
  · have : k ≤ k * lots.length := Nat.le_mul_of_pos_right k (by omega)
    omega
  · rw [Nat.mul_comm, Nat.mul_add_mod, Nat.mod_eq_of_lt hj]
    exact hm
noncomputable def lastc (rs : List Rule) (ns : List Int) (lots : List (List Int)) : Nat → Nat
  | 0 => 0
  | k + 1 => open Classical in if seqL rs ns lots (k + 1) = seqL rs ns lots k then lastc rs ns lots k else k + 1
theorem lastc_same {rs : List Rule} {ns : List Int} {lots : List (List Int)} {k : Nat} (h : seqL rs ns lots (k + 1) = seqL rs ns lots k) : lastc rs ns lots (k + 1) = lastc rs ns lots k := by
  rw [lastc]; exact if_pos h
theorem lastc_move {rs : List Rule} {ns : List Int} {lots : List (List Int)} {k : Nat} (h : ¬ seqL rs ns lots (k + 1) = seqL rs ns lots k) : lastc rs ns lots (k + 1) = k + 1 := by
  rw [lastc]; exact if_neg h
/-- where lots lead, and behind how many -/
def ByLots (rs : List Rule) (ns : List Int) (lots : List (List Int)) (m : List Int) (c : Nat) : Prop := ∃ r : Nat, m = seqL rs ns lots (r * lots.length) ∧ c = lastc rs ns lots (r * lots.length) ∧ Rest rs m ∧ ∀ r' : Nat, r' < r → ¬ Rest rs (seqL rs ns lots (r' * lots.length))
theorem ByLots.unique {rs : List Rule} {ns m m' : List Int} {lots : List (List Int)} {c c' : Nat} (a : ByLots rs ns lots m c) (b : ByLots rs ns lots m' c') : m = m' ∧ c = c' := by
  obtain ⟨r, a1, a2, a3, a4⟩ := a
  obtain ⟨r', b1, b2, b3, b4⟩ := b
  have e : r = r' := by
    rcases Nat.lt_trichotomy r r' with z | z | z
    · exact absurd (by rw [← a1]; exact a3) (b4 r z)
    · exact z
    · exact absurd (by rw [← b1]; exact b3) (a4 r' z)
  subst e
  exact ⟨a1.trans b1.symm, a2.trans b2.symm⟩
theorem ByLots.rest {rs : List Rule} {ns : List Int} {lots : List (List Int)} (h : Rest rs ns) : ByLots rs ns lots ns 0 := ⟨0, by rw [Nat.zero_mul]; rfl, by rw [Nat.zero_mul]; rfl, h, fun r hr => absurd hr (by omega)⟩
/-- one lot of all: beats -/
theorem seqL_all {rs : List Rule} {ns : List Int} (hn : ns.length = rs.length) {qs : List Int} (al : ∀ p : Nat, p < rs.length → (p : Int) ∈ qs) : ∀ k, seqL rs ns [qs] k = beatN rs ns k
  | 0 => rfl
  | k + 1 => by
    have st := seqL_step hn [qs] k
    rw [seqL_all hn al k] at st
    have e : ([qs] : List (List Int)).getD (k % [qs].length) [] = qs := by
      rw [show [qs].length = 1 from rfl, Nat.mod_one]; rfl
    rw [e] at st
    exact st.unique (beatN_len hn k) (fun i hi => ⟨fun _ => trivial, fun _ => al i hi⟩) (beatN_step hn k)
theorem ByLots.come {rs : List Rule} {ns m : List Int} {c : Nat} (hn : ns.length = rs.length) {qs : List Int} (al : ∀ p : Nat, p < rs.length → (p : Int) ∈ qs) (b : ByLots rs ns [qs] m c) : Come rs ns m c := by
  obtain ⟨r, b1, b2, b3, b4⟩ := b
  rw [show [qs].length = 1 from rfl, Nat.mul_one] at b1 b2
  have nr : ∀ i, i < r → ¬ Rest rs (beatN rs ns i) := fun i hi => by
    have := b4 i hi
    rw [show [qs].length = 1 from rfl, Nat.mul_one, seqL_all hn al] at this
    exact this
  have mv : ∀ i, i < r → beatN rs ns i ≠ beatN rs ns (i + 1) := fun i hi z => nr i hi fun k hk => by
    have t := (beatN_step hn i).2 k hk
    have t1 := t.1 trivial
    rw [← z] at t1
    exact t1
  have lc : ∀ k, k ≤ r → lastc rs ns [qs] k = k := fun k hk => by
    cases k with
    | zero => rfl
    | succ k =>
      unfold lastc
      rw [if_neg]
      rw [seqL_all hn al, seqL_all hn al]
      exact fun z => mv k (by omega) z.symm
  rw [lc r (Nat.le_refl _)] at b2
  subst b2
  rw [seqL_all hn al] at b1
  exact ⟨b1, b3.beat, mv⟩
/-! ### a while by its turns -/
theorem while_idx {c : TT} {tb : TS} {D : Ends} {σ : L2.St} {H : Hp} (T : Nat) (Pv : Nat → L2.St → Hp → Prop) (h0 : Pv 0 σ H)
    (hs : ∀ r σ H, Pv r σ H → c σ H fun b H1 => if b = true then (r < T ∧ tb { D with nx := Pv (r + 1), ct := Pv (r + 1), bk := D.nx } σ H1) else D.nx σ H1)
    (mono : ∀ σ H Q Q', (∀ b H1, Q b H1 → Q' b H1) → c σ H Q → c σ H Q') : tWhile c tb D σ H := by
  refine ⟨fun m σ H => ∃ r, m = T - r ∧ Pv r σ H, ⟨_, 0, rfl, h0⟩, ?_⟩
  rintro m σ H ⟨r, rfl, p⟩
  refine mono σ H _ _ (fun b H1 q => ?_) (hs r σ H p)
  cases b with
  | true =>
    rw [if_pos rfl] at q ⊢
    obtain ⟨lt, t⟩ := q
    exact ⟨Pv (r + 1), fun σ' H' p' => ⟨T - (r + 1), by omega, r + 1, rfl, p'⟩, t⟩
  | false =>
    rw [if_neg Bool.false_ne_true] at q ⊢
    exact q
/-- lots at a place -/
def LotAtL (H : Hp) (v : V) (qs : List Int) : Prop := ∃ a, v = .ref a ∧ H a = some (.lst (qs.map V.int))
def LotsAt (H : Hp) : List V → List (List Int) → Prop := Paired (LotAtL H)
theorem LotsAt.same {H H' : Hp} (s : Same H H') : ∀ {vs : List V} {lots : List (List Int)}, LotsAt H vs lots → LotsAt H' vs lots
  | _, _, .nil => .nil
  | _, _, .cons ⟨a, e, h⟩ r => .cons ⟨a, e, s _ _ h⟩ (LotsAt.same s r)
theorem LotsAt.get {H : Hp} : ∀ {vs : List V} {lots : List (List Int)}, LotsAt H vs lots → ∀ (i : Nat) (h : i < lots.length), ∃ a, vs[i]? = some (.ref a) ∧ H a = some (.lst (lots[i].map V.int))
  | _, _, .nil, i, h => absurd h (by simp)
  | _, _, .cons ⟨a, e, h⟩ r, 0, _ => ⟨a, by rw [e]; rfl, h⟩
  | _, _, .cons _ r, i + 1, h => by
    obtain ⟨a, h1, h2⟩ := LotsAt.get r i (by simpa using h)
    exact ⟨a, by simpa using h1, by simpa using h2⟩
theorem lots_in {n : Nat} {lots : List (List Int)} (hq : ∀ qs ∈ lots, ∀ q ∈ qs, 0 ≤ q ∧ q < (n : Int)) {i : Nat} (hi : i < lots.length) : ∀ q ∈ lots[i], 0 ≤ q ∧ q < (n : Int) := hq _ (List.getElem_mem hi)
theorem idx_mod {r n j : Nat} (hj : j < n) : (r * n + j) % n = j := by rw [Nat.mul_comm, Nat.mul_add_mod, Nat.mod_eq_of_lt hj]
theorem eqv_nil2 (xs : List Int) : PyData.eqv (.list (xs.map PyData.int)) (.list []) = xs.isEmpty := by
  rw [PyData.eqv, show ([] : List PyData) = ([] : List Int).map PyData.int from rfl, eqvAll_ints]
  cases xs with
  | nil => rfl
  | cons x t => exact decide_eq_false (by simp)
end Lh

namespace Lh
open PySem PySem.Spec PyProof.Rows L2
/-! ### rounds of lots -/
theorem seqL_pos {rs : List Rule} (hh : Halls rs) {ns : List Int} (hn : ns.length = rs.length) (pos : ∀ n ∈ ns, 0 ≤ n) (lots : List (List Int)) : ∀ k, ∀ n ∈ seqL rs ns lots k, 0 ≤ n
  | 0 => pos
  | k + 1 => (seqL_step hn lots k).pos hh (seqL_len hn lots k) (seqL_pos hh hn pos lots k)
theorem seqL_fair {rs : List Rule} (hh : Halls rs) {ns : List Int} (hn : ns.length = rs.length) (pos : ∀ n ∈ ns, 0 ≤ n) {lots : List (List Int)} (cv : Covers rs.length lots) : Fair rs (seqL rs ns lots) (fun k i => i ∈ lots.getD (k % lots.length) []) := by
  refine ⟨hh.2.2, seqL_len hn lots, seqL_step hn lots, nth_pos pos, fun k p hp => ?_⟩
  obtain ⟨j, hj, hm⟩ := cv p hp
  refine ⟨k * lots.length + j, ?_, ?_⟩
  · have : k ≤ k * lots.length := Nat.le_mul_of_pos_right k (by omega)
    omega
  · rw [Nat.mul_comm, Nat.mul_add_mod, Nat.mod_eq_of_lt hj]
    exact hm
/-- the same standing at two rounds: the same for ever -/
theorem seqL_again {rs : List Rule} {ns : List Int} {lots : List (List Int)} {i j : Nat} (e : seqL rs ns lots (i * lots.length) = seqL rs ns lots (j * lots.length)) : ∀ k, seqL rs ns lots (i * lots.length + k) = seqL rs ns lots (j * lots.length + k)
  | 0 => e
  | k + 1 => by
    show turnL rs (seqL rs ns lots (i * lots.length + k)) (lots.getD ((i * lots.length + k) % lots.length) []) = turnL rs (seqL rs ns lots (j * lots.length + k)) (lots.getD ((j * lots.length + k) % lots.length) [])
    rw [seqL_again e k, Nat.mul_comm i, Nat.mul_comm j, Nat.mul_add_mod, Nat.mul_add_mod]
theorem round_distinct {rs : List Rule} (hh : Halls rs) {ns : List Int} (hn : ns.length = rs.length) (pos : ∀ n ∈ ns, 0 ≤ n) {lots : List (List Int)} (cv : Covers rs.length lots) (l0 : 0 < lots.length) {i j : Nat} (hij : i < j) (nr : ¬ Rest rs (seqL rs ns lots (i * lots.length))) : seqL rs ns lots (i * lots.length) ≠ seqL rs ns lots (j * lots.length) := fun e => by
  obtain ⟨T, st, re⟩ := seqL_rest hh hn pos cv
  have per : ∀ n : Nat, seqL rs ns lots (i * lots.length) = seqL rs ns lots ((i + n * (j - i)) * lots.length) := fun n => by
    induction n with
    | zero => rw [Nat.zero_mul, Nat.add_zero]
    | succ n ih =>
      have a := seqL_again e (n * (j - i) * lots.length)
      rw [← Nat.add_mul, ← Nat.add_mul] at a
      rw [show i + (n + 1) * (j - i) = j + n * (j - i) by rw [Nat.succ_mul]; omega, ← a]
      exact ih
  have big : T ≤ (i + T * (j - i)) * lots.length := by
    have h1 : T ≤ T * (j - i) := Nat.le_mul_of_pos_right T (by omega)
    have h2 : i + T * (j - i) ≤ (i + T * (j - i)) * lots.length := Nat.le_mul_of_pos_right _ l0
    omega
  refine nr ?_
  rw [per T, st _ big]
  exact re
theorem rounds_few {rs : List Rule} (hh : Halls rs) {ns : List Int} (hn : ns.length = rs.length) (pos : ∀ n ∈ ns, 0 ≤ n) {lots : List (List Int)} (cv : Covers rs.length lots) (l0 : 0 < lots.length) {R T B : Nat} (nr : ∀ r, r < R → ¬ Rest rs (seqL rs ns lots (r * lots.length))) (sm : ∀ k, T ≤ k → ∀ x ∈ seqL rs ns lots (k * lots.length), 0 ≤ x ∧ x < (B : Int)) : R ≤ T + B ^ rs.length := by
  rcases Nat.lt_or_ge (T + B ^ rs.length) R with z | z
  · exfalso
    have nd : ((List.range (B ^ rs.length + 1)).map fun k => enc B (seqL rs ns lots ((T + k) * lots.length))).Nodup := by
      rw [List.nodup_iff_pairwise_ne, List.pairwise_map]
      refine List.pairwise_lt_range.imp_of_mem fun {i j} hi hj lt e => ?_
      have hj' := List.mem_range.mp hj
      refine round_distinct hh hn pos cv l0 (i := T + i) (j := T + j) (by omega) (nr _ (by omega)) ?_
      exact enc_inj (by rw [seqL_len hn, seqL_len hn]) (sm _ (by omega)) (sm _ (by omega)) e
    have := nodup_len _ (List.range (B ^ rs.length)) nd fun x hx => by
      obtain ⟨k, _, rfl⟩ := List.mem_map.mp hx
      have h := enc_lt (sm (T + k) (by omega))
      rw [seqL_len hn] at h
      exact List.mem_range.mpr h
    rw [List.length_map, List.length_range, List.length_range] at this
    omega
  · exact z
/-- what each turn tells of a person, it shows from its first turn on -/
theorem told_on {rs : List Rule} {ns : List Int} (hn : ns.length = rs.length) {lots : List (List Int)} (cv : Covers rs.length lots) {p : Nat} (hp : p < rs.length) {Pr : Int → Prop} (h : ∀ k, (p : Int) ∈ lots.getD (k % lots.length) [] → Pr (nth (seqL rs ns lots (k + 1)) p)) : ∀ k, lots.length ≤ k → Pr (nth (seqL rs ns lots k) p) := by
  obtain ⟨j, hj, hm⟩ := cv p hp
  have at1 : Pr (nth (seqL rs ns lots (j + 1)) p) := h j (by rw [Nat.mod_eq_of_lt hj]; exact hm)
  have on : ∀ i, Pr (nth (seqL rs ns lots (j + 1 + i)) p) := fun i => by
    induction i with
    | zero => exact at1
    | succ i ih =>
      by_cases c : (p : Int) ∈ lots.getD ((j + 1 + i) % lots.length) []
      · exact h _ c
      · show Pr (nth (seqL rs ns lots (j + 1 + i + 1)) p)
        rw [((seqL_step hn lots (j + 1 + i)).2 p hp).2 c]
        exact ih
  intro k hk
  have := on (k - (j + 1))
  rw [show j + 1 + (k - (j + 1)) = k by omega] at this
  exact this
end Lh

namespace Lh
open PySem PySem.Spec PyProof.Rows L2
def numB : PyData → Bool
  | .int i => decide (0 ≤ i)
  | _ => false
section
variable {P : Program} {w : World} {K : PySem.W.Frag} {mg : Str → Option Value} {base : Heap}
theorem fn_weak {k : Nat} {f : Addr} {fd : FuncData} {ps : List Str} {s1 s2 : Sp} (a : FnOk P w K mg base CX0 k f fd ps s1) (b : ∀ vs H Q E, s2 vs H Q E → s1 vs H Q E) : FnOk P w K mg base CX0 k f fd ps s2 :=
  ⟨fun vs H Q E h => a.len vs H Q E (b _ _ _ _ h), fun B out t H args us vs Q E hr e0 hb r h => a.run B out t H args us vs Q E hr e0 hb r (b _ _ _ _ h)⟩
theorem fn_or {k : Nat} {f : Addr} {fd : FuncData} {ps : List Str} {s1 s2 : Sp} (a : FnOk P w K mg base CX0 k f fd ps s1) (b : FnOk P w K mg base CX0 k f fd ps s2) : FnOk P w K mg base CX0 k f fd ps (fun vs H Q E => s1 vs H Q E ∨ s2 vs H Q E) := by
  refine ⟨fun vs H Q E h => ?_, fun B out t H args us vs Q E hr e0 hb r h => ?_⟩
  · rcases h with h | h
    · exact a.len vs H Q E h
    · exact b.len vs H Q E h
  · rcases h with h | h
    · exact a.run B out t H args us vs Q E hr e0 hb r h
    · exact b.run B out t H args us vs Q E hr e0 hb r h
def spIsNumD : Sp := fun vs H Q _ => ∃ (bx : Addr) (v : V) (d : PyData), vs = [v] ∧ Rp bx H v d ∧ Q (.bl (numB d)) H
theorem ok_is_numberD (T : Txt K mg w) : FnOk P w K mg base CX0 1 T.f_is_number T.fd_is_number p_is_number spIsNumD := by
  refine T.F_is_number.ok sc_is_number (fun vs H Q E h => ?_) (fun cdv A outer s H vs Q E hr h => ?_)
  · obtain ⟨bx, v, d, rfl, _⟩ := h
    rfl
  · obtain ⟨bx, v, d, rfl, hv, q⟩ := h
    refine ⟨_, (pss_one (ps_ret (pe_and (pe_callB call_isi (by rfl) T.m_isinstance (by decide +kernel) (pa_cons (pv 0) (pa_cons (pe_bltn (v := .ty "int") (by rfl) T.m_int (by decide +kernel) rfl) pa_nil))) (pe_and (pe_not (pe_callB call_isi (by rfl) T.m_isinstance (by decide +kernel) (pa_cons (pv 0) (pa_cons (pe_bltn (v := .ty "bool") (by rfl) T.m_bool (by decide +kernel) rfl) pa_nil)))) (pe_one (pe_cmpR op_ge (pv 0) pe_int (nomark _))))))), ?_⟩
    have ty := hv.ty (K := K)
    cases d with
    | int i =>
      cases hv
      refine rd_isi (x := .int i) (T := "int") rfl (.base (.int i)) (by decide +kernel : kitB "int" "int" = some true) ⟨_, rfl, iteP rfl ?_⟩
      refine rd_isi (x := .int i) (T := "int") rfl (.base (.int i)) (by decide +kernel : kitB "int" "bool" = some false) ⟨_, rfl, _, rfl, iteP rfl ?_⟩
      exact ⟨.int i, rfl, i, 0, rfl, rfl, q⟩
    | bool b =>
      refine rd_isi (x := v) (T := "bool") rfl ty (by decide +kernel : kitB "bool" "int" = some true) ⟨_, rfl, iteP rfl ?_⟩
      exact rd_isi (x := v) (T := "bool") rfl ty (by decide +kernel : kitB "bool" "bool" = some true) ⟨_, rfl, _, rfl, iteN rfl q⟩
    | none => exact rd_isi (x := v) (T := "NoneType") rfl ty (by decide +kernel : kitB "NoneType" "int" = some false) ⟨_, rfl, iteN rfl q⟩
    | str x => exact rd_isi (x := v) (T := "str") rfl ty (by decide +kernel : kitB "str" "int" = some false) ⟨_, rfl, iteN rfl q⟩
    | list ds => exact rd_isi (x := v) (T := "list") rfl ty (by decide +kernel : kitB "list" "int" = some false) ⟨_, rfl, iteN rfl q⟩
    | tuple ds => exact rd_isi (x := v) (T := "tuple") rfl ty (by decide +kernel : kitB "tuple" "int" = some false) ⟨_, rfl, iteN rfl q⟩
    | _ => cases hv
end
end Lh

namespace Lh
open PySem PySem.Spec PyProof.Rows L2
section
variable {P : Program} {w : World} {K : PySem.W.Frag} {mg : Str → Option Value} {base : Heap}
def spRestless (C : Addr) : Sp := fun vs H Q _ => ∃ (x st : Addr) (rs : List Rule) (ns : List Int), vs = [.ref x, .ref st] ∧ HallAt C H x rs ∧ Halls rs ∧ TupAt H st (ns.map V.int) ∧ ns.length = rs.length ∧
  ∀ (l : Addr) (H' : Hp), Same H H' → H l = none → H' l = some (.lst ((restL rs ns).map V.int)) → Q (.ref l) H'
set_option maxHeartbeats 1000000 in
theorem ok_restless (T : Txt K mg w) : FnOk P w K mg base CX0 7 T.f_restless T.fd_restless p_restless (spRestless T.C_Hall) := by
  have G_told_at := ok_told_at (P := P) (w := w) (base := base) T
  have G_Hall_len := ok_Hall_len (P := P) (w := w) (base := base) T
  refine T.F_restless.ok sc_restless (fun vs H Q E h => ?_) (fun cdv A outer s H vs Q E hr h => ?_)
  · obtain ⟨x, st, rs, ns, rfl, _⟩ := h
    rfl
  · obtain ⟨x, st, rs, ns, rfl, hA, hh, hS, hn, q⟩ := h
    obtain ⟨dx, t0, vs0, hx, ht0, hv0⟩ := id hA
    have r1 := hh.2.1
    have bt := beatF_ok hn
    refine ⟨_, (pss_one (ps_ret (pe_lc (own := [("person", 2)]) (g := gName 2) (by rfl) sc_restless.nd (pi_range1 (by rfl) T.m_range (pa_cons (pe_callB (run_len T.me_Hall_len G_Hall_len T.b_Hall_len (hr.mono (by decide))) (by rfl) T.m_len (by decide +kernel) (pa_cons (pv 0) pa_nil)) pa_nil)) (blkOk_by (own := [("person", 2)]) (N := n_restless) (sc := defScope s_restless) (by decide +kernel)) (fun _ _ _ _ _ => (pg_name (i := 2) sc_restless.nd rfl (.inl rfl) (.inr rfl))) (fun _ _ _ _ _ => (pts_one (pt_cmpR op_ne (pe_call G_told_at (hr.mono (by decide)) (by rfl) T.g_told_at T.F_told_at.kp T.b_told_at .nil pass0 (pa_cons (pv 0) (pa_cons (pv 1) (pa_cons (pv 2) pa_nil)))) (pe_ix (r := rIxT K) ix_tup (pv 1) (pv 2) (fun _ _ => rfl)) (nomark _)))) (fun _ _ _ _ _ => (pv 2))))), ?_⟩
    refine ⟨.ref x, rfl, x, dx, _, rfl, hx, x, rs, rfl, hA, (rs.length : Int), rfl, by omega, Int.lt_of_le_of_lt (by omega : (rs.length : Int) ≤ 60) (by decide), _, rfl, by omega, by omega, fun D hD => ?_⟩
    refine lc_it walk_range (fun i H3 => Same H H3 ∧ H3 D = some (.lst ((((List.range i).filter fun i : Nat => decide (nth (beatF rs ns) i ≠ nth ns i)).map fun k : Nat => (k : Int)).map V.int))) ⟨same_upd hD, upd_same⟩ (fun _ _ _ _ => trivial) ?_ ?_
    · rintro i y H3 H4 hi ⟨s3, h3⟩ ⟨rfl, rfl⟩
      have hi' : i < rs.length := by have : i < (rs.length : Int).toNat := hi; omega
      have zi : (0 : Int) + (i : Int) = i := Int.zero_add _
      have hS3 := hS.keep (Keep.same s3)
      refine ⟨rfl, ?_⟩
      refine ⟨.ref x, rfl, .ref st, rfl, .int (0 + i), rfl, x, st, i, rs, ns, hi', by show [V.ref x, V.ref st, V.int (0 + (i : Int))] = _; rw [zi], hA.keep s3, hh, hS3, hn, fun y H5 s5 tl => ?_⟩
      have ey : y = nth (beatF rs ns) i := tl.unique ((bt.2 i hi').1 trivial)
      subst ey
      refine ⟨.ref st, rfl, .int (0 + i), rfl, st, _, _, _, rfl, rfl, (hS3.keep (Keep.same s5)).sq, nth_at (by omega) (by omega), rfl, _, rfl, ?_⟩
      rw [zi]
      refine ite2 (fun z => ?_) (fun z => ?_)
      · have ne : nth (beatF rs ns) i ≠ nth ns i := by simpa using z
        refine ⟨.int (0 + i), rfl, _, s5 _ _ h3, by rw [List.length_map, List.length_map]; exact small1000 (Nat.le_trans (List.length_filter_le _ _) (by rw [List.length_range]; omega)), same_mut (s3.trans s5) hD, ?_⟩
        rw [upd_same, List.range_succ, List.filter_append, List.map_append, List.map_append, List.filter_cons, if_pos (decide_eq_true ne), zi]
        rfl
      · have eq : nth (beatF rs ns) i = nth ns i := by simpa using z
        refine ⟨s3.trans s5, ?_⟩
        rw [s5 _ _ h3, List.range_succ, List.filter_append, List.filter_cons, if_neg (by simpa using eq), List.filter_nil, List.append_nil]
    · rintro H3 ⟨s3, h3⟩
      rw [Int.toNat_natCast] at h3
      exact q D H3 s3 hD h3
def spIsRest (C : Addr) : Sp := fun vs H Q _ => ∃ (x st : Addr) (rs : List Rule) (ns : List Int), vs = [.ref x, .ref st] ∧ HallAt C H x rs ∧ Halls rs ∧ TupAt H st (ns.map V.int) ∧ ns.length = rs.length ∧
  ∀ H' : Hp, Same H H' → Q (.bl (restL rs ns).isEmpty) H'
theorem ok_is_rest (T : Txt K mg w) : FnOk P w K mg base CX0 8 T.f_is_rest T.fd_is_rest p_is_rest (spIsRest T.C_Hall) := by
  have G_restless := ok_restless (P := P) (w := w) (base := base) T
  refine T.F_is_rest.ok sc_is_rest (fun vs H Q E h => ?_) (fun cdv A outer s H vs Q E hr h => ?_)
  · obtain ⟨x, st, rs, ns, rfl, _⟩ := h
    rfl
  · obtain ⟨x, st, rs, ns, rfl, hA, hh, hS, hn, q⟩ := h
    have e : (!(!((restL rs ns).map V.int).isEmpty)) = (restL rs ns).isEmpty := by rw [Bool.not_not, List.isEmpty_map]
    refine ⟨_, (pss_one (ps_ret (pe_notT (pe_call G_restless (hr.mono (by decide)) (by rfl) T.g_restless T.F_restless.kp T.b_restless .nil pass0 (pa_cons (pv 0) (pa_cons (pv 1) pa_nil)))))), ?_⟩
    refine ⟨.ref x, rfl, .ref st, rfl, x, st, rs, ns, rfl, hA, hh, hS, hn, fun l H1 s1 nl hl => ⟨_, .inl ⟨_, .inl (.inl hl), rfl⟩, ?_⟩⟩
    rw [e]
    exact q H1 s1
end
end Lh

namespace Lh
open PySem PySem.Spec PyProof.Rows L2
/-! ### one by one -/
def lotsQ (q : List Int) : List (List Int) := q.map fun x => [x]
theorem lotsQ_len (q : List Int) : (lotsQ q).length = q.length := List.length_map _
theorem lotsQ_get {q : List Int} {j : Nat} (hj : j < q.length) : (lotsQ q).getD j [] = [q[j]] := by
  unfold lotsQ
  rw [List.getD_eq_getElem?_getD, List.getElem?_map, List.getElem?_eq_getElem hj]
  rfl
theorem lotsQ_cov {q : List Int} {n : Nat} (h : ∀ p : Nat, p < n → (p : Int) ∈ q) : Covers n (lotsQ q) := fun p hp => by
  obtain ⟨j, hj, e⟩ := List.mem_iff_getElem.mp (h p hp)
  refine ⟨j, by rw [lotsQ_len]; exact hj, ?_⟩
  rw [lotsQ_get hj, e]
  exact List.mem_singleton_self _
/-- whom turns changed -/
noncomputable def chgL (rs : List Rule) (ns q : List Int) : Nat → List Int
  | 0 => []
  | k + 1 => open Classical in if seqL rs ns (lotsQ q) (k + 1) = seqL rs ns (lotsQ q) k then chgL rs ns q k else chgL rs ns q k ++ [q.getD (k % q.length) 0]
theorem chgL_same {rs : List Rule} {ns q : List Int} {k : Nat} (h : seqL rs ns (lotsQ q) (k + 1) = seqL rs ns (lotsQ q) k) : chgL rs ns q (k + 1) = chgL rs ns q k := by
  rw [chgL]; exact if_pos h
theorem chgL_move {rs : List Rule} {ns q : List Int} {k : Nat} (h : ¬ seqL rs ns (lotsQ q) (k + 1) = seqL rs ns (lotsQ q) k) : chgL rs ns q (k + 1) = chgL rs ns q k ++ [q.getD (k % q.length) 0] := by
  rw [chgL]; exact if_neg h
theorem chgL_len (rs : List Rule) (ns q : List Int) : ∀ k, (chgL rs ns q k).length ≤ k
  | 0 => Nat.le_refl _
  | k + 1 => by
    have ih := chgL_len rs ns q k
    by_cases h : seqL rs ns (lotsQ q) (k + 1) = seqL rs ns (lotsQ q) k
    · rw [chgL_same h]; omega
    · rw [chgL_move h, List.length_append]
      show _ + 1 ≤ _
      omega
/-- where turns in an order lead, and whom they changed -/
def ByOrder (rs : List Rule) (ns q m cs : List Int) : Prop := ∃ r : Nat, m = seqL rs ns (lotsQ q) (r * q.length) ∧ cs = chgL rs ns q (r * q.length) ∧ Rest rs m ∧ ∀ r' : Nat, r' < r → ¬ Rest rs (seqL rs ns (lotsQ q) (r' * q.length))
theorem ByOrder.unique {rs : List Rule} {ns q m m' cs cs' : List Int} (a : ByOrder rs ns q m cs) (b : ByOrder rs ns q m' cs') : m = m' ∧ cs = cs' := by
  obtain ⟨r, a1, a2, a3, a4⟩ := a
  obtain ⟨r', b1, b2, b3, b4⟩ := b
  have e : r = r' := by
    rcases Nat.lt_trichotomy r r' with z | z | z
    · exact absurd (by rw [← a1]; exact a3) (b4 r z)
    · exact z
    · exact absurd (by rw [← b1]; exact b3) (a4 r' z)
  subst e
  exact ⟨a1.trans b1.symm, a2.trans b2.symm⟩
theorem ByOrder.rest {rs : List Rule} {ns q : List Int} (h : Rest rs ns) : ByOrder rs ns q ns [] := ⟨0, by rw [Nat.zero_mul]; rfl, by rw [Nat.zero_mul]; rfl, h, fun r hr => absurd hr (by omega)⟩
section
variable {P : Program} {w : World} {K : PySem.W.Frag} {mg : Str → Option Value} {base : Heap}
def spRestByG (C : Addr) : Sp := fun us H Q _ => ∃ (x st l : Addr) (rs : List Rule) (ns q : List Int), us = [.ref x, .ref st, .ref l] ∧ HallAt C H x rs ∧ Halls rs ∧ TupAt H st (ns.map V.int) ∧ ns.length = rs.length ∧ (∀ n ∈ ns, 0 ≤ n) ∧ (H l = some (.lst (q.map V.int)) ∨ TupAt H l (q.map V.int)) ∧ 1 ≤ q.length ∧ q.length ≤ 1000 ∧ (∀ r : Nat, (∀ r', r' < r → ¬ Rest rs (seqL rs ns (lotsQ q) (r' * q.length))) → r * q.length ≤ 8000000) ∧ (∀ p : Nat, p < rs.length → (p : Int) ∈ q) ∧ (∀ x ∈ q, 0 ≤ x ∧ x < (rs.length : Int)) ∧
  ∀ (p t c : Addr) (m cs : List Int) (H' : Hp), Same H H' → H p = none → H c = none → c ≠ p → H' p = some (.tup [.ref t, .ref c]) → TupAt H' t (m.map V.int) → H' c = some (.lst (cs.map V.int)) → ByOrder rs ns q m cs → Q (.ref p) H'
set_option maxHeartbeats 4000000 in
theorem ok_rest_byG (T : Txt K mg w) : FnOk P w K mg base CX0 9 T.f_rest_by T.fd_rest_by p_rest_by (spRestByG T.C_Hall) := by
  have G_is_rest := ok_is_rest (P := P) (w := w) (base := base) T
  have G_turned := ok_turned (P := P) (w := w) (base := base) T
  refine T.F_rest_by.ok sc_rest_by (fun vs H Q E h => ?_) (fun cdv A outer s H us Q E hr h => ?_)
  · obtain ⟨x, st, l, rs, ns, q, rfl, _⟩ := h
    rfl
  · obtain ⟨x, st, l, rs, ns, q, rfl, hA, hh, hS, hn, pos, hl, q1, q40, few, cv, hq, qk⟩ := h
    obtain ⟨N, still, rest⟩ := seqL_rest hh hn pos (lotsQ_cov cv)
    have lq := lotsQ_len q
    rcases hl with hl | hl
    · refine ⟨_, (pss_cons (ps_set (i := 3) sc_rest_by.nd rfl (.inl rfl) (pv 1))
      (pss_cons (ps_set (i := 4) sc_rest_by.nd rfl (.inl rfl) (pe_lst pa_nil))
      (pss_cons (ps_while PassesOwn.never (pt_not (pt_val (pe_call G_is_rest (hr.mono (by decide)) (by rfl) T.g_is_rest T.F_is_rest.kp T.b_is_rest .nil pass0 (pa_cons (pv 0) (pa_cons (pv 3) pa_nil)))))
        (pss_one (ps_for PassesOwn.never rfl (pi_list (pv 2)) (pg_name (i := 5) sc_rest_by.nd rfl (.inl rfl))
          (pss_cons (ps_set (i := 6) sc_rest_by.nd rfl (.inl rfl) (pe_call G_turned (hr.mono (by decide)) (by rfl) T.g_turned T.F_turned.kp T.b_turned .nil pass0 (pa_cons (pv 0) (pa_cons (pv 3) (pa_cons (pe_lst (pa_cons (pv 5) pa_nil)) pa_nil)))))
          (pss_one (ps_if (pt_cmpR (op_neD hr.units) (pv 6) (pv 3) (nomark _))
            (pss_cons (ps_expr (pe_bm PySem.F.plainAttrs_list PySem.F.slot_list_append PySem.F.type_list_append mt_append (pv 4) (pa_cons (pv 5) pa_nil)))
            (pss_one (ps_set (i := 3) sc_rest_by.nd rfl (.inl rfl) (pv 6))))
            pss_nil))))))
      (pss_one (ps_ret (pe_tup (pa_cons (pv 3) (pa_cons (pv 4) pa_nil)))))))), ?_⟩
      refine ⟨.ref st, rfl, Nat.zero_le _, fun c nc => ?_⟩
      have sc0 := same_upd (o := .lst []) nc
      refine while_idx N (fun r σ H3 => ∃ (t : Addr) (y5 y6 : Option V), σ = [some (.ref x), some (.ref st), some (.ref l), some (.ref t), some (.ref c), y5, y6] ∧ Same H H3 ∧ TupAt H3 t ((seqL rs ns (lotsQ q) (r * q.length)).map V.int) ∧ H3 c = some (.lst ((chgL rs ns q (r * q.length)).map V.int)) ∧ ∀ r', r' < r → ¬ Rest rs (seqL rs ns (lotsQ q) (r' * q.length)))
        ⟨st, none, none, rfl, sc0, by rw [Nat.zero_mul]; exact hS.keep (Keep.same sc0), by rw [Nat.zero_mul]; exact upd_same, fun r hr => absurd hr (by omega)⟩ ?_ ?_
      · rintro r σ H3 ⟨t, y5, y6, rfl, s3, ht, hc3, nr⟩
        refine ⟨.ref x, rfl, .ref t, rfl, x, t, rs, seqL rs ns (lotsQ q) (r * q.length), rfl, hA.keep s3, hh, ht, seqL_len hn (lotsQ q) _, fun H4 s4 => ⟨_, rfl, ?_⟩⟩
        have s34 := s3.trans s4
        have ht4 := ht.keep (Keep.same s4)
        refine ite2 (fun z => ?_) (fun z => ?_)
        · have nre : ¬ Rest rs (seqL rs ns (lotsQ q) (r * q.length)) := fun y => by rw [(restL_nil (seqL_len hn (lotsQ q) _)).mpr y] at z; cases z
          have rb : (r + 1) * q.length ≤ 8000000 := few (r + 1) fun r' hr' => by
            by_cases e : r' = r
            · rw [e]; exact nre
            · exact nr r' (by omega)
          have rq : r * q.length ≤ 200000 * 40 := Nat.le_trans (Nat.mul_le_mul_right _ (Nat.le_succ r)) rb
          refine ⟨?_, ?_⟩
          · rcases Nat.lt_or_ge r N with c | c
            · exact c
            · refine absurd ?_ nre
              have : N ≤ r * q.length := Nat.le_trans c (Nat.le_mul_of_pos_right r (by omega))
              rw [still _ this]
              exact rest
          refine ⟨.ref l, rfl, l, rfl, ⟨_, .inl (.inl (s34 _ _ hl))⟩, ?_⟩
          refine for_it (walk_list (xs := q.map V.int)) (fun j σ H5 => ∃ (t : Addr) (y5 y6 : Option V), σ = [some (.ref x), some (.ref st), some (.ref l), some (.ref t), some (.ref c), y5, y6] ∧ Same H H5 ∧ TupAt H5 t ((seqL rs ns (lotsQ q) (r * q.length + j)).map V.int) ∧ H5 c = some (.lst ((chgL rs ns q (r * q.length + j)).map V.int))) ⟨t, y5, y6, rfl, s34, ht4, s4 _ _ hc3⟩ ?_ ?_ ?_
          · rintro j σ H5 _ ⟨t, y5, y6, rfl, s5, _⟩
            exact .inl (.inl (s5 _ _ hl))
          · rintro j v σ H5 H6 hj ⟨t, y5, y6, rfl, s5, ht5, hc5⟩ ⟨rfl, hv⟩
            have hj' : j < q.length := by rw [List.length_map] at hj; exact hj
            rw [List.getElem?_map, List.getElem?_eq_getElem hj'] at hv
            cases hv
            refine ⟨.ref x, rfl, .ref t, rfl, .int q[j], rfl, by show 1 ≤ sizeLine; decide, fun a na => ?_⟩
            have sa := same_upd (o := .lst [.int q[j]]) na
            have s5a := s5.trans sa
            refine ⟨x, t, a, rs, seqL rs ns (lotsQ q) (r * q.length + j), [q[j]], rfl, hA.keep s5a, hh, ht5.keep (Keep.same sa), seqL_len hn (lotsQ q) _, .inl upd_same, fun k hk => by rw [List.mem_singleton.mp hk]; exact hq _ (List.getElem_mem hj'), fun t2 ms H7 s7 n7 h7 tu => ?_⟩
            have em : ms = seqL rs ns (lotsQ q) (r * q.length + j + 1) := by
              have st1 := seqL_step hn (lotsQ q) (r * q.length + j)
              rw [lq, idx_mod hj', lotsQ_get hj'] at st1
              exact tu.unique (seqL_len hn (lotsQ q) _) (fun _ _ => Iff.rfl) st1
            subst em
            have ht7 := (ht5.keep (Keep.same sa)).keep (Keep.same s7)
            have hc7 := s7 _ _ (sa _ _ hc5)
            have s57 := s5a.trans s7
            refine ⟨.ref t2, rfl, .ref t, rfl, _, _, h7.dp, ht7.dp, shaped_tup _, shaped_tup _, _, rfl, ?_⟩
            rw [eqv_tups]
            refine ite2 (fun z => ?_) (fun z => ?_)
            · have ne : ¬ seqL rs ns (lotsQ q) (r * q.length + j + 1) = seqL rs ns (lotsQ q) (r * q.length + j) := by simpa using z
              have cl := chgL_len rs ns q (r * q.length + j)
              refine ⟨.ref c, rfl, .inl ⟨rfl, _, .inl (.inl hc7)⟩, .int q[j], rfl, c, _, .int q[j], rfl, rfl, hc7, Nat.lt_of_le_of_lt (by rw [List.length_map]; omega : ((chgL rs ns q (r * q.length + j)).map V.int).length ≤ 8001000) (by decide), ?_⟩
              have kT : Keep H7 (upd H7 c (.lst ((chgL rs ns q (r * q.length + j)).map V.int ++ [.int q[j]]))) := by
                refine ⟨fun a xs h => ?_, fun a o u h => ?_⟩
                · rw [upd_ne (ne_of h hc7 (by intro z; cases z))]; exact h
                · rw [upd_ne (ne_of h hc7 (by intro z; cases z))]; exact h
              refine ⟨.ref t2, rfl, t2, some (.int q[j]), some (.ref t2), rfl, same_mut s57 nc, h7.keep kT, ?_⟩
              rw [upd_same, show r * q.length + (j + 1) = r * q.length + j + 1 from rfl, chgL_move ne, idx_mod hj', List.map_append, List.getD_eq_getElem?_getD, List.getElem?_eq_getElem hj']
              rfl
            · have eq : seqL rs ns (lotsQ q) (r * q.length + j + 1) = seqL rs ns (lotsQ q) (r * q.length + j) := by simpa using z
              refine ⟨t, some (.int q[j]), some (.ref t2), rfl, s57, ?_, ?_⟩
              · show TupAt H7 t ((seqL rs ns (lotsQ q) (r * q.length + j + 1)).map V.int)
                rw [eq]; exact ht7
              · rw [show r * q.length + (j + 1) = r * q.length + j + 1 from rfl, chgL_same eq]
                exact hc7
          · rintro σ H5 ⟨t, y5, y6, rfl, s5, ht5, hc5⟩
            have em : r * q.length + (q.map V.int).length = (r + 1) * q.length := by rw [List.length_map, Nat.succ_mul]
            rw [em] at ht5 hc5
            refine ⟨t, y5, y6, rfl, s5, ht5, hc5, fun r' hr' => ?_⟩
            by_cases c : r' = r
            · rw [c]; exact nre
            · exact nr r' (by omega)
        · have re : Rest rs (seqL rs ns (lotsQ q) (r * q.length)) := by
            refine (restL_nil (seqL_len hn (lotsQ q) _)).mp ?_
            cases e : (restL rs (seqL rs ns (lotsQ q) (r * q.length))).isEmpty with
            | true => rfl
            | false => rw [e] at z; exact absurd rfl z
          refine ⟨.ref t, rfl, .ref c, rfl, by show 2 ≤ sizeLine; decide, fun p np => ?_⟩
          have sp := same_upd (o := .tup [.ref t, .ref c]) np
          have hc4 := s4 _ _ hc3
          exact qk p t c _ _ _ (s34.trans sp) (s34.free np) nc (ne_of_none hc4 np) upd_same (ht4.keep (Keep.same sp)) (sp _ _ hc4) ⟨r, rfl, rfl, re, nr⟩
      · intro σ H3 Q1 Q2 hQ h
        obtain ⟨v, h1, u, h2, x', st', rs', ns', e, a1, a2, a3, a4, g⟩ := h
        refine ⟨v, h1, u, h2, x', st', rs', ns', e, a1, a2, a3, a4, fun H' s' => ?_⟩
        obtain ⟨k, e3, h3⟩ := g H' s'
        exact ⟨k, e3, hQ _ _ h3⟩
    · refine ⟨_, (pss_cons (ps_set (i := 3) sc_rest_by.nd rfl (.inl rfl) (pv 1))
      (pss_cons (ps_set (i := 4) sc_rest_by.nd rfl (.inl rfl) (pe_lst pa_nil))
      (pss_cons (ps_while PassesOwn.never (pt_not (pt_val (pe_call G_is_rest (hr.mono (by decide)) (by rfl) T.g_is_rest T.F_is_rest.kp T.b_is_rest .nil pass0 (pa_cons (pv 0) (pa_cons (pv 3) pa_nil)))))
        (pss_one (ps_for PassesOwn.never rfl (pi_tup (pv 2)) (pg_name (i := 5) sc_rest_by.nd rfl (.inl rfl))
          (pss_cons (ps_set (i := 6) sc_rest_by.nd rfl (.inl rfl) (pe_call G_turned (hr.mono (by decide)) (by rfl) T.g_turned T.F_turned.kp T.b_turned .nil pass0 (pa_cons (pv 0) (pa_cons (pv 3) (pa_cons (pe_lst (pa_cons (pv 5) pa_nil)) pa_nil)))))
          (pss_one (ps_if (pt_cmpR (op_neD hr.units) (pv 6) (pv 3) (nomark _))
            (pss_cons (ps_expr (pe_bm PySem.F.plainAttrs_list PySem.F.slot_list_append PySem.F.type_list_append mt_append (pv 4) (pa_cons (pv 5) pa_nil)))
            (pss_one (ps_set (i := 3) sc_rest_by.nd rfl (.inl rfl) (pv 6))))
            pss_nil))))))
      (pss_one (ps_ret (pe_tup (pa_cons (pv 3) (pa_cons (pv 4) pa_nil)))))))), ?_⟩
      refine ⟨.ref st, rfl, Nat.zero_le _, fun c nc => ?_⟩
      have sc0 := same_upd (o := .lst []) nc
      refine while_idx N (fun r σ H3 => ∃ (t : Addr) (y5 y6 : Option V), σ = [some (.ref x), some (.ref st), some (.ref l), some (.ref t), some (.ref c), y5, y6] ∧ Same H H3 ∧ TupAt H3 t ((seqL rs ns (lotsQ q) (r * q.length)).map V.int) ∧ H3 c = some (.lst ((chgL rs ns q (r * q.length)).map V.int)) ∧ ∀ r', r' < r → ¬ Rest rs (seqL rs ns (lotsQ q) (r' * q.length)))
        ⟨st, none, none, rfl, sc0, by rw [Nat.zero_mul]; exact hS.keep (Keep.same sc0), by rw [Nat.zero_mul]; exact upd_same, fun r hr => absurd hr (by omega)⟩ ?_ ?_
      · rintro r σ H3 ⟨t, y5, y6, rfl, s3, ht, hc3, nr⟩
        refine ⟨.ref x, rfl, .ref t, rfl, x, t, rs, seqL rs ns (lotsQ q) (r * q.length), rfl, hA.keep s3, hh, ht, seqL_len hn (lotsQ q) _, fun H4 s4 => ⟨_, rfl, ?_⟩⟩
        have s34 := s3.trans s4
        have ht4 := ht.keep (Keep.same s4)
        refine ite2 (fun z => ?_) (fun z => ?_)
        · have nre : ¬ Rest rs (seqL rs ns (lotsQ q) (r * q.length)) := fun y => by rw [(restL_nil (seqL_len hn (lotsQ q) _)).mpr y] at z; cases z
          have rb : (r + 1) * q.length ≤ 8000000 := few (r + 1) fun r' hr' => by
            by_cases e : r' = r
            · rw [e]; exact nre
            · exact nr r' (by omega)
          have rq : r * q.length ≤ 200000 * 40 := Nat.le_trans (Nat.mul_le_mul_right _ (Nat.le_succ r)) rb
          refine ⟨?_, ?_⟩
          · rcases Nat.lt_or_ge r N with c | c
            · exact c
            · refine absurd ?_ nre
              have : N ≤ r * q.length := Nat.le_trans c (Nat.le_mul_of_pos_right r (by omega))
              rw [still _ this]
              exact rest
          refine ⟨.ref l, rfl, l, rfl, ⟨_, (hl.keep (Keep.same s34)).sq⟩, ?_⟩
          refine for_it (walk_tup (xs := q.map V.int)) (fun j σ H5 => ∃ (t : Addr) (y5 y6 : Option V), σ = [some (.ref x), some (.ref st), some (.ref l), some (.ref t), some (.ref c), y5, y6] ∧ Same H H5 ∧ TupAt H5 t ((seqL rs ns (lotsQ q) (r * q.length + j)).map V.int) ∧ H5 c = some (.lst ((chgL rs ns q (r * q.length + j)).map V.int))) ⟨t, y5, y6, rfl, s34, ht4, s4 _ _ hc3⟩ ?_ ?_ ?_
          · rintro j σ H5 _ ⟨t, y5, y6, rfl, s5, _⟩
            exact (hl.keep (Keep.same s5)).sq
          · rintro j v σ H5 H6 hj ⟨t, y5, y6, rfl, s5, ht5, hc5⟩ ⟨rfl, hv⟩
            have hj' : j < q.length := by rw [List.length_map] at hj; exact hj
            rw [List.getElem?_map, List.getElem?_eq_getElem hj'] at hv
            cases hv
            refine ⟨.ref x, rfl, .ref t, rfl, .int q[j], rfl, by show 1 ≤ sizeLine; decide, fun a na => ?_⟩
            have sa := same_upd (o := .lst [.int q[j]]) na
            have s5a := s5.trans sa
            refine ⟨x, t, a, rs, seqL rs ns (lotsQ q) (r * q.length + j), [q[j]], rfl, hA.keep s5a, hh, ht5.keep (Keep.same sa), seqL_len hn (lotsQ q) _, .inl upd_same, fun k hk => by rw [List.mem_singleton.mp hk]; exact hq _ (List.getElem_mem hj'), fun t2 ms H7 s7 n7 h7 tu => ?_⟩
            have em : ms = seqL rs ns (lotsQ q) (r * q.length + j + 1) := by
              have st1 := seqL_step hn (lotsQ q) (r * q.length + j)
              rw [lq, idx_mod hj', lotsQ_get hj'] at st1
              exact tu.unique (seqL_len hn (lotsQ q) _) (fun _ _ => Iff.rfl) st1
            subst em
            have ht7 := (ht5.keep (Keep.same sa)).keep (Keep.same s7)
            have hc7 := s7 _ _ (sa _ _ hc5)
            have s57 := s5a.trans s7
            refine ⟨.ref t2, rfl, .ref t, rfl, _, _, h7.dp, ht7.dp, shaped_tup _, shaped_tup _, _, rfl, ?_⟩
            rw [eqv_tups]
            refine ite2 (fun z => ?_) (fun z => ?_)
            · have ne : ¬ seqL rs ns (lotsQ q) (r * q.length + j + 1) = seqL rs ns (lotsQ q) (r * q.length + j) := by simpa using z
              have cl := chgL_len rs ns q (r * q.length + j)
              refine ⟨.ref c, rfl, .inl ⟨rfl, _, .inl (.inl hc7)⟩, .int q[j], rfl, c, _, .int q[j], rfl, rfl, hc7, Nat.lt_of_le_of_lt (by rw [List.length_map]; omega : ((chgL rs ns q (r * q.length + j)).map V.int).length ≤ 8001000) (by decide), ?_⟩
              have kT : Keep H7 (upd H7 c (.lst ((chgL rs ns q (r * q.length + j)).map V.int ++ [.int q[j]]))) := by
                refine ⟨fun a xs h => ?_, fun a o u h => ?_⟩
                · rw [upd_ne (ne_of h hc7 (by intro z; cases z))]; exact h
                · rw [upd_ne (ne_of h hc7 (by intro z; cases z))]; exact h
              refine ⟨.ref t2, rfl, t2, some (.int q[j]), some (.ref t2), rfl, same_mut s57 nc, h7.keep kT, ?_⟩
              rw [upd_same, show r * q.length + (j + 1) = r * q.length + j + 1 from rfl, chgL_move ne, idx_mod hj', List.map_append, List.getD_eq_getElem?_getD, List.getElem?_eq_getElem hj']
              rfl
            · have eq : seqL rs ns (lotsQ q) (r * q.length + j + 1) = seqL rs ns (lotsQ q) (r * q.length + j) := by simpa using z
              refine ⟨t, some (.int q[j]), some (.ref t2), rfl, s57, ?_, ?_⟩
              · show TupAt H7 t ((seqL rs ns (lotsQ q) (r * q.length + j + 1)).map V.int)
                rw [eq]; exact ht7
              · rw [show r * q.length + (j + 1) = r * q.length + j + 1 from rfl, chgL_same eq]
                exact hc7
          · rintro σ H5 ⟨t, y5, y6, rfl, s5, ht5, hc5⟩
            have em : r * q.length + (q.map V.int).length = (r + 1) * q.length := by rw [List.length_map, Nat.succ_mul]
            rw [em] at ht5 hc5
            refine ⟨t, y5, y6, rfl, s5, ht5, hc5, fun r' hr' => ?_⟩
            by_cases c : r' = r
            · rw [c]; exact nre
            · exact nr r' (by omega)
        · have re : Rest rs (seqL rs ns (lotsQ q) (r * q.length)) := by
            refine (restL_nil (seqL_len hn (lotsQ q) _)).mp ?_
            cases e : (restL rs (seqL rs ns (lotsQ q) (r * q.length))).isEmpty with
            | true => rfl
            | false => rw [e] at z; exact absurd rfl z
          refine ⟨.ref t, rfl, .ref c, rfl, by show 2 ≤ sizeLine; decide, fun p np => ?_⟩
          have sp := same_upd (o := .tup [.ref t, .ref c]) np
          have hc4 := s4 _ _ hc3
          exact qk p t c _ _ _ (s34.trans sp) (s34.free np) nc (ne_of_none hc4 np) upd_same (ht4.keep (Keep.same sp)) (sp _ _ hc4) ⟨r, rfl, rfl, re, nr⟩
      · intro σ H3 Q1 Q2 hQ h
        obtain ⟨v, h1, u, h2, x', st', rs', ns', e, a1, a2, a3, a4, g⟩ := h
        refine ⟨v, h1, u, h2, x', st', rs', ns', e, a1, a2, a3, a4, fun H' s' => ?_⟩
        obtain ⟨k, e3, h3⟩ := g H' s'
        exact ⟨k, e3, hQ _ _ h3⟩
end
end Lh

namespace Lh
open PySem PySem.Spec PyProof.Rows L2
/-! ### turns of a row, in any order -/
theorem row_turn {n : Nat} {ns qs : List Int} (hn : ns.length = n) {i : Nat} (hi : i < n) : nth (turnL (rowR n) ns qs) i = if (i : Int) ∈ qs then (cntL ns i (nth ns i) : Int) else nth ns i := by
  rw [turnL_nth (by rw [rowR_len]; exact hi)]
  have e : beatF (rowR n) ns = rowB ns := row_beatN hn 1
  rw [e, rowB_nth ns (by omega)]
theorem row_turnLen (n : Nat) (ns qs : List Int) : (turnL (rowR n) ns qs).length = n := by rw [turnL_len, rowR_len]
theorem Low.turn {n : Nat} {ns qs : List Int} (hn : ns.length = n) (h : Low ns) : ∀ i : Nat, i < n → nth ns i ≤ nth (turnL (rowR n) ns qs) i := fun i hi => by
  rw [row_turn hn hi]
  by_cases c : (i : Int) ∈ qs
  · rw [if_pos c]
    have := h.up (i := i) (by omega)
    rw [rowB_nth ns (by omega)] at this
    exact this
  · rw [if_neg c]; exact Int.le_refl _
theorem rowL_len {n : Nat} {ns : List Int} (hn : ns.length = n) (lots : List (List Int)) (k : Nat) : (seqL (rowR n) ns lots k).length = n := by
  rw [seqL_len (by rw [rowR_len]; exact hn), rowR_len]
theorem rowL_low {n : Nat} {ns : List Int} (hn : ns.length = n) {lots : List (List Int)} (cv : Covers n lots) {k : Nat} (hk : lots.length ≤ k) : Low (seqL (rowR n) ns lots k) := fun i hi => by
  rw [rowL_len hn] at hi
  refine told_on (rs := rowR n) (by rw [rowR_len]; exact hn) (by rw [rowR_len]; exact cv) (p := i) (by rw [rowR_len]; exact hi) (Pr := fun v => 0 ≤ v ∧ v ≤ (i : Int)) (fun k hm => ?_) k hk
  have e : nth (seqL (rowR n) ns lots (k + 1)) i = (cntL (seqL (rowR n) ns lots k) i (nth (seqL (rowR n) ns lots k) i) : Int) := by
    show nth (turnL (rowR n) (seqL (rowR n) ns lots k) _) i = _
    rw [row_turn (rowL_len hn lots k) hi, if_pos hm]
  have := cntL_le (seqL (rowR n) ns lots k) i (nth (seqL (rowR n) ns lots k) i)
  show 0 ≤ nth _ _ ∧ nth _ _ ≤ _
  rw [e]
  omega
theorem rowL_up {n : Nat} {ns : List Int} (hn : ns.length = n) {lots : List (List Int)} (cv : Covers n lots) {k : Nat} (hk : lots.length ≤ k) : ∀ j (i : Nat), i < n → nth (seqL (rowR n) ns lots k) i ≤ nth (seqL (rowR n) ns lots (k + j)) i
  | 0, _, _ => Int.le_refl _
  | j + 1, i, hi => Int.le_trans (rowL_up hn cv hk j i hi) (Low.turn (rowL_len hn lots (k + j)) (rowL_low hn cv (by omega)) i hi)
theorem sum_up : ∀ (a b : List Int), a.length = b.length → (∀ i (h1 : i < a.length) (h2 : i < b.length), a[i] ≤ b[i]) → a.sum ≤ b.sum ∧ (a ≠ b → a.sum + 1 ≤ b.sum)
  | [], [], _, _ => ⟨Int.le_refl _, fun h => absurd rfl h⟩
  | [], _ :: _, h, _ => by simp at h
  | _ :: _, [], h, _ => by simp at h
  | x :: a, y :: b, hl, h => by
    have hl' : a.length = b.length := by simpa using hl
    obtain ⟨i1, i2⟩ := sum_up a b hl' fun i h1 h2 => h (i + 1) (by simpa using h1) (by simpa using h2)
    have h0 : x ≤ y := h 0 (by simp) (by simp)
    rw [List.sum_cons, List.sum_cons]
    refine ⟨by omega, fun ne => ?_⟩
    by_cases e : x = y
    · have := i2 fun z => ne (by rw [e, z])
      omega
    · omega
theorem sum_upN {a b : List Int} (l : a.length = b.length) (h : ∀ i : Nat, i < a.length → nth a i ≤ nth b i) : a.sum ≤ b.sum ∧ (a ≠ b → a.sum + 1 ≤ b.sum) := sum_up a b l fun i h1 h2 => by
  have := h i h1
  unfold nth at this
  rw [Int.toNat_natCast, List.getD_eq_getElem?_getD, List.getD_eq_getElem?_getD, List.getElem?_eq_getElem h1, List.getElem?_eq_getElem h2] at this
  exact this
theorem sum_bndM {M : Nat} : ∀ {ns : List Int}, (∀ x ∈ ns, 0 ≤ x ∧ x ≤ (M : Int)) → 0 ≤ ns.sum ∧ ns.sum ≤ ((ns.length * M : Nat) : Int)
  | [], _ => by simp
  | x :: t, h => by
    have ih := sum_bndM fun y hy => h y (List.mem_cons_of_mem _ hy)
    have hx := h x List.mem_cons_self
    rw [List.sum_cons, List.length_cons, Nat.succ_mul]
    omega
theorem Low.sum {ns : List Int} (h : Low ns) : 0 ≤ ns.sum ∧ ns.sum ≤ ((ns.length * ns.length : Nat) : Int) := sum_bndM fun x hx => by
  obtain ⟨i, hi, e⟩ := List.mem_iff_getElem.mp hx
  have := h i hi
  unfold nth at this
  rw [Int.toNat_natCast, List.getD_eq_getElem?_getD, List.getElem?_eq_getElem hi] at this
  have e2 : (some ns[i]).getD 0 = x := e
  rw [e2] at this
  omega
theorem row_rounds {n : Nat} (n1 : 1 ≤ n) (n60 : n ≤ 60) {ns : List Int} (hn : ns.length = n) (pos : ∀ x ∈ ns, 0 ≤ x) {lots : List (List Int)} (cv : Covers n lots) (l0 : 0 < lots.length) {r : Nat} (nr : ∀ r', r' < r → ¬ Rest (rowR n) (seqL (rowR n) ns lots (r' * lots.length))) : r ≤ n * n + 1 := by
  have key : ∀ s, 1 + s ≤ r → (s : Int) ≤ (seqL (rowR n) ns lots ((1 + s) * lots.length)).sum := fun s => by
    induction s with
    | zero => exact fun _ => (rowL_low hn cv (by omega)).sum.1
    | succ s ih =>
      intro hs
      have h1 := ih (by omega)
      have hk : lots.length ≤ (1 + s) * lots.length := Nat.le_mul_of_pos_left _ (by omega)
      have e : (1 + (s + 1)) * lots.length = (1 + s) * lots.length + lots.length := by rw [show 1 + (s + 1) = (1 + s) + 1 from rfl, Nat.succ_mul]
      have up := rowL_up hn cv hk lots.length
      rw [← e] at up
      have ne := round_distinct (rs := rowR n) (rowR_halls n1 n60) (by rw [rowR_len]; exact hn) pos (by rw [rowR_len]; exact cv) l0 (i := 1 + s) (j := 1 + (s + 1)) (by omega) (nr (1 + s) (by omega))
      have := (sum_upN (by rw [rowL_len hn, rowL_len hn]) (fun i hi => up i (by rw [rowL_len hn] at hi; exact hi))).2 ne
      omega
  rcases Nat.eq_zero_or_pos r with z | z
  · omega
  · have h1 := key (r - 1) (by omega)
    have lo := (rowL_low hn cv (k := (1 + (r - 1)) * lots.length) (Nat.le_mul_of_pos_left _ (by omega))).sum.2
    rw [rowL_len hn] at lo
    omega
theorem row_chg {n : Nat} {ns : List Int} (hn : ns.length = n) {q : List Int} (cv : ∀ p : Nat, p < n → (p : Int) ∈ q) : ∀ k, ((chgL (rowR n) ns q (q.length + k)).length : Int) ≤ q.length + (seqL (rowR n) ns (lotsQ q) (q.length + k)).sum
  | 0 => by
    have a := chgL_len (rowR n) ns q q.length
    have b := (rowL_low hn (lotsQ_cov cv) (k := q.length + 0) (by rw [lotsQ_len]; omega)).sum.1
    show ((chgL (rowR n) ns q q.length).length : Int) ≤ _
    omega
  | k + 1 => by
    have ih := row_chg hn cv k
    have lo := rowL_low hn (lotsQ_cov cv) (k := q.length + k) (by rw [lotsQ_len]; omega)
    have up := sum_upN (a := seqL (rowR n) ns (lotsQ q) (q.length + k)) (b := seqL (rowR n) ns (lotsQ q) (q.length + k + 1)) (by rw [rowL_len hn, rowL_len hn]) (fun i hi => Low.turn (rowL_len hn _ _) lo i (by rw [rowL_len hn] at hi; exact hi))
    by_cases c : seqL (rowR n) ns (lotsQ q) (q.length + k + 1) = seqL (rowR n) ns (lotsQ q) (q.length + k)
    · show ((chgL (rowR n) ns q (q.length + k + 1)).length : Int) ≤ q.length + (seqL (rowR n) ns (lotsQ q) (q.length + k + 1)).sum
      rw [chgL_same c, c]
      exact ih
    · have u2 := up.2 (fun z => c z.symm)
      show ((chgL (rowR n) ns q (q.length + k + 1)).length : Int) ≤ q.length + (seqL (rowR n) ns (lotsQ q) (q.length + k + 1)).sum
      rw [chgL_move c, List.length_append]
      show ((_ + 1 : Nat) : Int) ≤ _
      omega
theorem row_few {n : Nat} {ns : List Int} (hn : ns.length = n) {q : List Int} (cv : ∀ p : Nat, p < n → (p : Int) ∈ q) (k : Nat) : (chgL (rowR n) ns q k).length ≤ q.length + n * n := by
  rcases Nat.lt_or_ge k q.length with c | c
  · have := chgL_len (rowR n) ns q k
    omega
  · have h := row_chg hn cv (k - q.length)
    have lo := (rowL_low hn (lotsQ_cov cv) (k := q.length + (k - q.length)) (by rw [lotsQ_len]; omega)).sum.2
    rw [rowL_len hn] at lo
    rw [show q.length + (k - q.length) = k by omega] at h lo
    omega
/-! ### the first persons' own row -/
noncomputable def ranT (s : Nat) (ns l : List Int) : List Int := l.foldl (fun h p => turnL (rowR s) h [p]) ns
theorem ranT_len {s : Nat} : ∀ {l ns : List Int}, ns.length = s → (ranT s ns l).length = s
  | [], _, h => h
  | p :: l, ns, h => ranT_len (l := l) (ns := turnL (rowR s) ns [p]) (row_turnLen _ _ _)
theorem ranT_snoc (s : Nat) (ns l : List Int) (p : Int) : ranT s ns (l ++ [p]) = turnL (rowR s) (ranT s ns l) [p] := by
  unfold ranT
  rw [List.foldl_append]
  rfl
theorem nth_take {ns : List Int} {s i : Nat} (h : i < s) : nth (ns.take s) i = nth ns i := by
  unfold nth
  rw [Int.toNat_natCast, List.getD_eq_getElem?_getD, List.getD_eq_getElem?_getD, List.getElem?_take_of_lt h]
theorem turn_take {n s : Nat} (hs : s ≤ n) {ns : List Int} (hn : ns.length = n) {p : Int} : (turnL (rowR n) ns [p]).take s = if p < s then turnL (rowR s) (ns.take s) [p] else ns.take s := by
  have lt : (ns.take s).length = s := by rw [List.length_take]; omega
  by_cases c : p < s
  · rw [if_pos c]
    refine nth_ext (by rw [List.length_take, row_turnLen, row_turnLen]; omega) fun i hi => ?_
    rw [List.length_take, row_turnLen] at hi
    rw [nth_take (by omega), row_turn hn (by omega), row_turn lt (by omega), nth_take (by omega)]
    rw [cntL_congr (ns := ns) (ms := ns.take s) fun j hj => nth_take (by omega)]
  · rw [if_neg c]
    refine nth_ext (by rw [List.length_take, List.length_take, row_turnLen]; omega) fun i hi => ?_
    rw [List.length_take, row_turnLen] at hi
    rw [nth_take (by omega), row_turn hn (by omega), nth_take (by omega), if_neg (by rw [List.mem_singleton]; omega)]
theorem seq_take {n s : Nat} (hs : s ≤ n) {ns : List Int} (hn : ns.length = n) {q : List Int} (q1 : 1 ≤ q.length) : ∀ k, (seqL (rowR n) ns (lotsQ q) k).take s = ranT s (ns.take s) ((chgL (rowR n) ns q k).filter fun p => decide (p < (s : Int)))
  | 0 => rfl
  | k + 1 => by
    have ih := seq_take hs hn q1 k
    have hk : k % q.length < q.length := Nat.mod_lt _ (by omega)
    have st : seqL (rowR n) ns (lotsQ q) (k + 1) = turnL (rowR n) (seqL (rowR n) ns (lotsQ q) k) [q[k % q.length]] := by
      show turnL _ _ ((lotsQ q).getD (k % (lotsQ q).length) []) = _
      rw [lotsQ_len, lotsQ_get hk]
    by_cases c : seqL (rowR n) ns (lotsQ q) (k + 1) = seqL (rowR n) ns (lotsQ q) k
    · rw [chgL_same c, c]; exact ih
    · have e : q.getD (k % q.length) 0 = q[k % q.length] := by rw [List.getD_eq_getElem?_getD, List.getElem?_eq_getElem hk]; rfl
      rw [chgL_move c, st, turn_take hs (rowL_len hn _ _), e, List.filter_append]
      by_cases z : q[k % q.length] < (s : Int)
      · rw [if_pos z, List.filter_cons, if_pos (decide_eq_true z), List.filter_nil, ranT_snoc, ih]
      · rw [if_neg z, List.filter_cons, if_neg (by rw [decide_eq_false z]; exact Bool.false_ne_true), List.filter_nil, List.append_nil]
        exact ih
theorem chgL_pos {rs : List Rule} {ns q : List Int} (h : ∀ x ∈ q, 0 ≤ x) : ∀ k, ∀ x ∈ chgL rs ns q k, 0 ≤ x
  | 0, x, hx => absurd hx (by show ¬ x ∈ []; simp)
  | k + 1, x, hx => by
    by_cases c : seqL rs ns (lotsQ q) (k + 1) = seqL rs ns (lotsQ q) k
    · rw [chgL_same c] at hx; exact chgL_pos h k x hx
    · rw [chgL_move c] at hx
      rcases List.mem_append.mp hx with z | z
      · exact chgL_pos h k x z
      · rw [List.mem_singleton.mp z, List.getD_eq_getElem?_getD]
        by_cases d : k % q.length < q.length
        · rw [List.getElem?_eq_getElem d]; exact h _ (List.getElem_mem d)
        · rw [List.getElem?_eq_none (by omega)]; exact Int.le_refl _
theorem ByOrder.first {n s : Nat} (hs : s ≤ n) {ns q m cs : List Int} (hn : ns.length = n) (q1 : 1 ≤ q.length) (b : ByOrder (rowR n) ns q m cs) : m.take s = ranT s (ns.take s) (cs.filter fun p => decide (p < (s : Int))) := by
  obtain ⟨r, rfl, rfl, _⟩ := b
  exact seq_take hs hn q1 _
theorem ByOrder.few {n : Nat} {ns q m cs : List Int} (hn : ns.length = n) (cv : ∀ p : Nat, p < n → (p : Int) ∈ q) (b : ByOrder (rowR n) ns q m cs) : cs.length ≤ q.length + n * n := by
  obtain ⟨r, rfl, rfl, _⟩ := b
  exact row_few hn cv _
theorem ByOrder.len {n : Nat} {ns q m cs : List Int} (hn : ns.length = n) (b : ByOrder (rowR n) ns q m cs) : m.length = n := by
  obtain ⟨r, rfl, rfl, _⟩ := b
  exact rowL_len hn _ _
theorem row_rest {n : Nat} {ns : List Int} (hn : ns.length = n) (h : Rest (rowR n) ns) : RowRest ns := fun i hi => by
  have hp : i < (rowR n).length := by rw [rowR_len]; omega
  exact (row_tell hp).mp (h i hp)
/-! ### the first to the last, again and again -/
theorem itR_lim {f : List Int} {v : Int} (l : f.length ≤ 60) {k : Nat} (hk : f.length + 1 ≤ k) : itR f v k = limR f v := by
  have r := runs (G := fun h => (lessN f h : Int)) (c := fun h => lessN f h) (n := f.length) (fun h => lessN_le f h) (fun h h' le => by
    have := lessN_mono f le
    exact ⟨by show (lessN f h : Int) ≤ lessN f h'; omega, this, fun e => by show (lessN f h : Int) = lessN f h'; omega⟩) (v := itR f v) (fun k => rfl)
  have a := r (k - (f.length + 1))
  have b := r (k - (f.length + 1) + 1)
  rw [show f.length + 1 + (k - (f.length + 1)) = k by omega] at a
  rw [show f.length + 1 + (k - (f.length + 1) + 1) = k + 1 by omega] at b
  exact (itR_end l (b.trans a.symm)).symm
theorem row_turn_at {n : Nat} {f t : List Int} {v : Int} (hn : (f ++ [v] ++ t).length = n) : turnL (rowR n) (f ++ [v] ++ t) [(f.length : Int)] = f ++ [(lessN f v : Int)] ++ t := by
  have nf : ∀ {i : Nat} {x : Int}, i < f.length → nth (f ++ [x] ++ t) i = nth f i := fun {i x} h => by
    unfold nth
    rw [Int.toNat_natCast, List.getD_eq_getElem?_getD, List.getD_eq_getElem?_getD, List.append_assoc, List.getElem?_append_left h]
  have nv : ∀ x : Int, nth (f ++ [x] ++ t) (f.length : Nat) = x := fun x => by
    unfold nth
    rw [Int.toNat_natCast, List.getD_eq_getElem?_getD, List.append_assoc, List.getElem?_append_right (Nat.le_refl _), Nat.sub_self]
    rfl
  have nt : ∀ {i : Nat} {x y : Int}, f.length < i → nth (f ++ [x] ++ t) i = nth (f ++ [y] ++ t) i := fun {i x y} h => by
    unfold nth
    rw [Int.toNat_natCast, List.getD_eq_getElem?_getD, List.getD_eq_getElem?_getD, List.getElem?_append_right (by rw [List.length_append]; exact h), List.getElem?_append_right (by rw [List.length_append]; exact h)]
    rw [List.length_append, List.length_append]
    rfl
  refine nth_ext ?_ fun i hi => ?_
  · rw [row_turnLen, ← hn, List.length_append, List.length_append, List.length_append, List.length_append]; rfl
  · rw [row_turnLen] at hi
    rw [row_turn hn hi]
    rcases Nat.lt_trichotomy i f.length with c | c | c
    · rw [if_neg (by rw [List.mem_singleton]; omega), nf c, nf c]
    · subst c
      rw [if_pos (List.mem_singleton_self _), nv, nv, cntL_congr (ns := f) fun j hj => nf hj, ← lessN_take f (Nat.le_refl _), List.take_length]
    · rw [if_neg (by rw [List.mem_singleton]; omega), nt c]
def slowM (m : Nat) (n : Nat) : List Int := (List.range n).flatMap fun p : Nat => List.replicate m (p : Int)
theorem slowM_succ (m n : Nat) : slowM m (n + 1) = slowM m n ++ List.replicate m (n : Int) := by
  unfold slowM
  rw [List.range_succ, List.flatMap_append]
  simp
theorem slowM_len (m : Nat) : ∀ n, (slowM m n).length = n * m
  | 0 => by simp [slowM]
  | n + 1 => by rw [slowM_succ, List.length_append, slowM_len m n, List.length_replicate, Nat.succ_mul]
theorem slowM_get {m j : Nat} (hj : j < m) : ∀ {n p : Nat}, p < n → (slowM m n)[p * m + j]? = some (p : Int)
  | 0, p, h => absurd h (by omega)
  | n + 1, p, h => by
    have l := slowM_len m n
    rw [slowM_succ]
    by_cases c : p = n
    · subst c
      rw [List.getElem?_append_right (by omega), l, Nat.add_sub_cancel_left, List.getElem?_replicate, if_pos hj]
    · have hp : p < n := by omega
      have : p * m + j < n * m := by
        have : (p + 1) * m ≤ n * m := Nat.mul_le_mul_right m hp
        rw [Nat.succ_mul] at this
        omega
      rw [List.getElem?_append_left (by omega)]
      exact slowM_get hj hp
theorem slowM_mem {m n : Nat} {x : Int} : x ∈ slowM m n → 0 ≤ x ∧ x < (n : Int) := fun h => by
  unfold slowM at h
  obtain ⟨p, hp, hx⟩ := List.mem_flatMap.mp h
  have := List.mem_range.mp hp
  have := List.eq_of_mem_replicate hx
  omega
theorem slowM_sorted (m : Nat) : ∀ n, (slowM m n).Pairwise (· ≤ ·)
  | 0 => by simp [slowM]
  | n + 1 => by
    rw [slowM_succ, List.pairwise_append]
    refine ⟨slowM_sorted m n, ?_, fun a ha b hb => ?_⟩
    · rw [List.pairwise_replicate]; exact .inr (Int.le_refl _)
    · have := slowM_mem ha
      rw [List.eq_of_mem_replicate hb]
      omega
theorem count_rep {a : Int} {l : List Int} : ∀ m, ((List.replicate m l).flatten).count a = m * l.count a
  | 0 => by simp
  | m + 1 => by rw [List.replicate_succ, List.flatten_cons, List.count_append, count_rep m, Nat.succ_mul, Nat.add_comm]
theorem slowM_count (m : Nat) (a : Int) : ∀ n, (slowM m n).count a = m * ((List.range n).map fun k : Nat => (k : Int)).count a
  | 0 => by simp [slowM]
  | n + 1 => by
    rw [slowM_succ, List.count_append, slowM_count m a n, List.range_succ, List.map_append, List.count_append, Nat.mul_add, List.count_replicate, List.map_cons, List.map_nil, List.count_singleton]
    by_cases c : (n : Int) = a
    · rw [if_pos (by simpa using c), if_pos (by simpa using c), Nat.mul_one]
    · rw [if_neg (by simpa using c), if_neg (by simpa using c), Nat.mul_zero]
theorem slowM_perm (m n : Nat) : (slowM m n).Perm ((List.replicate m ((List.range n).map fun k : Nat => (k : Int))).flatten) := by
  rw [List.perm_iff_count]
  intro a
  rw [count_rep, slowM_count]
theorem slow_in {n : Nat} {ns : List Int} (n60 : n ≤ 60) (hn : ns.length = n) {p : Nat} (hp : p < n) (ih : seqL (rowR n) ns (lotsQ (slowM (n + 1) n)) (p * (n + 1)) = sweepR (ns.take p) ++ ns.drop p) : ∀ j, j ≤ n + 1 → seqL (rowR n) ns (lotsQ (slowM (n + 1) n)) (p * (n + 1) + j) = sweepR (ns.take p) ++ [itR (sweepR (ns.take p)) (nth ns p) j] ++ ns.drop (p + 1)
  | 0, _ => by
    show seqL (rowR n) ns (lotsQ (slowM (n + 1) n)) (p * (n + 1)) = _
    rw [ih, List.drop_eq_getElem_cons (by omega), List.append_assoc]
    have e : ns[p]'(by omega) = nth ns p := by
      unfold nth
      rw [Int.toNat_natCast, List.getD_eq_getElem?_getD, List.getElem?_eq_getElem (by omega)]
      rfl
    rw [e]
    rfl
  | j + 1, hj => by
    have lf : (sweepR (ns.take p)).length = p := sweepR_lenT ns p (by omega)
    have i2 := slow_in n60 hn hp ih j (by omega)
    have ls := slowM_len (n + 1) n
    have lt : p * (n + 1) + j < n * (n + 1) := by
      have : (p + 1) * (n + 1) ≤ n * (n + 1) := Nat.mul_le_mul_right _ hp
      rw [Nat.succ_mul] at this
      omega
    show turnL (rowR n) (seqL (rowR n) ns (lotsQ (slowM (n + 1) n)) (p * (n + 1) + j)) ((lotsQ (slowM (n + 1) n)).getD ((p * (n + 1) + j) % (lotsQ (slowM (n + 1) n)).length) []) = _
    have hm : (p * (n + 1) + j) % (lotsQ (slowM (n + 1) n)).length = p * (n + 1) + j := by rw [lotsQ_len, ls, Nat.mod_eq_of_lt lt]
    have g := slowM_get (m := n + 1) (j := j) (by omega) hp
    have hl : p * (n + 1) + j < (slowM (n + 1) n).length := by omega
    rw [List.getElem?_eq_getElem hl] at g
    rw [hm, lotsQ_get hl, i2, Option.some.inj g]
    have := row_turn_at (n := n) (f := sweepR (ns.take p)) (t := ns.drop (p + 1)) (v := itR (sweepR (ns.take p)) (nth ns p) j) (by rw [List.length_append, List.length_append, lf, List.length_drop]; show p + 1 + _ = n; omega)
    rw [lf] at this
    exact this
theorem slow_seq {n : Nat} {ns : List Int} (n60 : n ≤ 60) (hn : ns.length = n) : ∀ p, p ≤ n → seqL (rowR n) ns (lotsQ (slowM (n + 1) n)) (p * (n + 1)) = sweepR (ns.take p) ++ ns.drop p
  | 0, _ => by rw [Nat.zero_mul]; rfl
  | p + 1, hp => by
    have lf : (sweepR (ns.take p)).length = p := sweepR_lenT ns p (by omega)
    have := slow_in n60 hn (by omega : p < n) (slow_seq n60 hn p (by omega)) (n + 1) (Nat.le_refl _)
    rw [itR_lim (by omega) (by omega), ← sweepR_step (by omega)] at this
    rw [Nat.succ_mul]
    exact this
theorem ByOrder.slow {n : Nat} {ns m cs : List Int} (n60 : n ≤ 60) (hn : ns.length = n) (b : ByOrder (rowR n) ns (slowM (n + 1) n) m cs) : m = sweepR ns := by
  have at1 := slow_seq n60 hn n (Nat.le_refl _)
  rw [List.take_of_length_le (by omega), List.drop_of_length_le (by omega), List.append_nil] at at1
  obtain ⟨r, rfl, rfl, rest, nr⟩ := b
  have rr := sweepR_rest (ns := ns) (by omega)
  rw [slowM_len] at *
  rcases Nat.lt_trichotomy r 1 with z | z | z
  · have : r = 0 := by omega
    subst this
    rw [Nat.zero_mul] at rest ⊢
    exact (sweepR_self (by omega) (row_rest hn rest)).symm
  · subst z
    rw [Nat.one_mul]
    exact at1
  · have h1 := nr 1 z
    rw [Nat.one_mul, at1] at h1
    refine absurd (fun i hi => ?_) h1
    have hi' : i < n := by rw [rowR_len] at hi; exact hi
    exact (row_tell hi).mpr (rr i (by rw [sweepR_len]; omega))
end Lh

namespace Lh
open PySem PySem.Spec PyProof.Rows L2
/-! ### the slowest rows -/
def upL (a : Int) (n : Nat) : List Int := (List.range n).map fun k : Nat => a + (k : Int)
def fst66 (n : Nat) (f : Int) : List Int := upL f (n - 2) ++ [f - 5, f - 3]
def std66 (n : Nat) (s k : Int) : List Int := upL 0 (n - 2) ++ [s, k]
theorem upL_len (a : Int) (n : Nat) : (upL a n).length = n := by unfold upL; rw [List.length_map, List.length_range]
theorem up_nth {a x y : Int} {n i : Nat} (h : i < n) : nth (upL a n ++ [x, y]) i = a + i := by
  unfold nth
  rw [Int.toNat_natCast, List.getD_eq_getElem?_getD, List.getElem?_append_left (by rw [upL_len]; exact h)]
  unfold upL
  rw [List.getElem?_map, List.getElem?_range h]
  rfl
theorem up_nth1 {a x y : Int} {n : Nat} : nth (upL a n ++ [x, y]) (n : Nat) = x := by
  unfold nth
  rw [Int.toNat_natCast, List.getD_eq_getElem?_getD, List.getElem?_append_right (by rw [upL_len]; exact Nat.le_refl _), upL_len, Nat.sub_self]
  rfl
theorem up_nth2 {a x y : Int} {n : Nat} : nth (upL a n ++ [x, y]) (n + 1 : Nat) = y := by
  unfold nth
  rw [Int.toNat_natCast, List.getD_eq_getElem?_getD, List.getElem?_append_right (by rw [upL_len]; omega), upL_len, show n + 1 - n = 1 by omega]
  rfl
theorem cnt_run {ns : List Int} {a v : Int} : ∀ (i : Nat), (∀ j : Nat, j < i → nth ns j = a + j) → (cntL ns i v : Int) = max 0 (min (i : Int) (v - a))
  | 0, _ => by unfold cntL; simp; omega
  | i + 1, h => by
    have ih := cnt_run (v := v) i fun j hj => h j (by omega)
    have hi := h i (by omega)
    rw [cntL_step, hi]
    by_cases c : a + (i : Int) < v
    · rw [if_pos c]; omega
    · rw [if_neg c]; omega
theorem up_len {a x y : Int} {n : Nat} (n3 : 2 ≤ n) : (upL a (n - 2) ++ [x, y]).length = n := by rw [List.length_append, upL_len]; show n - 2 + 2 = n; omega
/-- what a beat makes of such a standing -/
theorem up_beat {a x y : Int} {n : Nat} (n3 : 3 ≤ n) : rowB (upL a (n - 2) ++ [x, y]) = upL 0 (n - 2) ++ [max 0 (min ((n - 2 : Nat) : Int) (x - a)), max 0 (min ((n - 2 : Nat) : Int) (y - a)) + (if x < y then 1 else 0)] := by
  refine nth_ext (by rw [rowB_len, up_len (by omega), up_len (by omega)]) fun i hi => ?_
  rw [rowB_len, up_len (by omega)] at hi
  rw [rowB_nth _ (by rw [up_len (by omega)]; exact hi)]
  have run : ∀ m : Nat, m ≤ n - 2 → ∀ j : Nat, j < m → nth (upL a (n - 2) ++ [x, y]) j = a + j := fun m hm j hj => up_nth (by omega)
  rcases (by omega : i < n - 2 ∨ i = n - 2 ∨ i = n - 2 + 1) with c | c | c
  · rw [up_nth c, up_nth c, cnt_run (a := a) i (run i (by omega))]
    omega
  · subst c
    rw [up_nth1, up_nth1, cnt_run (a := a) (n - 2) (run _ (Nat.le_refl _))]
  · subst c
    rw [up_nth2, up_nth2, cntL_step, up_nth1]
    have := cnt_run (a := a) (v := y) (n - 2) (run _ (Nat.le_refl _))
    by_cases z : x < y
    · rw [if_pos z, if_pos z]; omega
    · rw [if_neg z, if_neg z]; omega
theorem fst_beat {n : Nat} {f : Int} (n3 : 3 ≤ n) : rowB (fst66 n f) = std66 n 0 1 := by
  unfold fst66 std66
  rw [up_beat n3, if_pos (by omega), show max 0 (min ((n - 2 : Nat) : Int) (f - 5 - f)) = 0 by omega, show max 0 (min ((n - 2 : Nat) : Int) (f - 3 - f)) + 1 = 1 by omega]
theorem std_beat {n : Nat} {k : Int} (n3 : 3 ≤ n) (k1 : 1 ≤ k) : rowB (std66 n 0 k) = std66 n 0 (min (k + 1) ((n : Int) - 1)) := by
  unfold std66
  rw [up_beat n3, if_pos (by omega), show max 0 (min ((n - 2 : Nat) : Int) (0 - 0)) = 0 by omega, show max 0 (min ((n - 2 : Nat) : Int) (k - 0)) + 1 = min (k + 1) ((n : Int) - 1) by omega]
theorem fst_beats {n : Nat} {f : Int} (n3 : 3 ≤ n) : ∀ k : Nat, rowN (fst66 n f) (k + 1) = std66 n 0 (min ((k : Int) + 1) ((n : Int) - 1))
  | 0 => by
    show rowB (fst66 n f) = _
    rw [fst_beat n3, show min (((0 : Nat) : Int) + 1) ((n : Int) - 1) = 1 by omega]
  | k + 1 => by
    show rowB (rowN (fst66 n f) (k + 1)) = _
    rw [fst_beats n3 k, std_beat n3 (by omega)]
    congr 1
    omega
theorem std_inj {n : Nat} {s k l : Int} (h : std66 n s k = std66 n s l) : k = l := by
  have := congrArg (fun z => nth z (n - 2 + 1 : Nat)) h
  simp only [std66] at this
  rw [up_nth2, up_nth2] at this
  exact this
theorem fst_isB {n : Nat} {f : Int} (n3 : 3 ≤ n) (f10 : 10 ≤ f) : IsB (fst66 n f) (n - 1) := by
  refine ⟨?_, fun i hi e => ?_⟩
  · rw [fst_beats n3, show n - 1 = (n - 2) + 1 by omega, fst_beats n3]
    congr 1
    omega
  · cases i with
    | zero =>
      have h := congrArg (fun z => nth z (n - 2 + 1 : Nat)) e
      have h1 : nth (fst66 n f) (n - 2 + 1 : Nat) = nth (rowN (fst66 n f) (0 + 1)) (n - 2 + 1 : Nat) := h
      rw [fst_beats n3] at h1
      unfold fst66 std66 at h1
      rw [up_nth2, up_nth2] at h1
      omega
    | succ i =>
      rw [fst_beats n3, fst_beats n3] at e
      have := std_inj e
      omega
/-! ### from the last on: a round is a beat -/
def backQ (n : Nat) : List Int := ((List.range n).map fun k : Nat => (k : Int)).reverse
theorem backQ_len (n : Nat) : (backQ n).length = n := by unfold backQ; rw [List.length_reverse, List.length_map, List.length_range]
theorem backQ_get {n j : Nat} (h : j < n) : (backQ n)[j]'(by rw [backQ_len]; exact h) = ((n - 1 - j : Nat) : Int) := by
  unfold backQ
  rw [List.getElem_reverse, List.getElem_map, List.getElem_range]
  rw [List.length_map, List.length_range]
theorem backQ_mem {n : Nat} {x : Int} : x ∈ backQ n ↔ 0 ≤ x ∧ x < (n : Int) := by
  unfold backQ
  rw [List.mem_reverse, List.mem_map]
  constructor
  · rintro ⟨k, hk, rfl⟩
    have := List.mem_range.mp hk
    omega
  · intro h
    exact ⟨x.toNat, List.mem_range.mpr (by omega), by omega⟩
theorem seqL_one {n : Nat} {ns q : List Int} {k : Nat} (q1 : 1 ≤ q.length) : seqL (rowR n) ns (lotsQ q) (k + 1) = turnL (rowR n) (seqL (rowR n) ns (lotsQ q) k) [q[k % q.length]'(Nat.mod_lt _ (by omega))] := by
  show turnL _ _ ((lotsQ q).getD (k % (lotsQ q).length) []) = _
  rw [lotsQ_len, lotsQ_get (Nat.mod_lt _ (by omega))]
theorem back_in {n : Nat} {ns : List Int} (n1 : 1 ≤ n) (hn : ns.length = n) {k : Nat} : ∀ j, j ≤ n → ∀ i : Nat, i < n → nth (seqL (rowR n) ns (lotsQ (backQ n)) (k * n + j)) i = if i < n - j then nth (seqL (rowR n) ns (lotsQ (backQ n)) (k * n)) i else nth (rowB (seqL (rowR n) ns (lotsQ (backQ n)) (k * n))) i
  | 0, _, i, hi => by rw [if_pos (by omega)]; rfl
  | j + 1, hj, i, hi => by
    have ih := back_in n1 hn (k := k) j (by omega)
    have lq := backQ_len n
    have ls := rowL_len hn (lotsQ (backQ n)) (k * n + j)
    have ls0 := rowL_len hn (lotsQ (backQ n)) (k * n)
    have hm : (k * n + j) % (backQ n).length = j := by rw [lq, Nat.mul_comm, Nat.mul_add_mod, Nat.mod_eq_of_lt (by omega)]
    have e : (backQ n)[(k * n + j) % (backQ n).length]'(Nat.mod_lt _ (by omega)) = ((n - 1 - j : Nat) : Int) := by
      have := backQ_get (n := n) (j := j) (by omega)
      simp only [hm]
      exact this
    show nth (seqL (rowR n) ns (lotsQ (backQ n)) (k * n + j + 1)) i = _
    rw [seqL_one (by omega), e, row_turn ls hi]
    by_cases c : i = n - 1 - j
    · rw [if_pos (by rw [List.mem_singleton, c]), if_neg (by omega), rowB_nth _ (by omega)]
      rw [ih i hi, if_pos (by omega), cntL_congr (ns := seqL (rowR n) ns (lotsQ (backQ n)) (k * n)) fun z hz => by rw [ih z (by omega), if_pos (by omega)]]
    · rw [if_neg (by rw [List.mem_singleton]; omega), ih i hi]
      by_cases d : i < n - j
      · rw [if_pos d, if_pos (by omega)]
      · rw [if_neg d, if_neg (by omega)]
theorem back_round {n : Nat} {ns : List Int} (n1 : 1 ≤ n) (hn : ns.length = n) : ∀ k, seqL (rowR n) ns (lotsQ (backQ n)) (k * n) = rowN ns k
  | 0 => by rw [Nat.zero_mul]; rfl
  | k + 1 => by
    show _ = rowB (rowN ns k)
    rw [← back_round n1 hn k]
    refine nth_ext (by rw [rowB_len, rowL_len hn, rowL_len hn]) fun i hi => ?_
    rw [rowL_len hn] at hi
    have := back_in n1 hn (k := k) n (Nat.le_refl _) i hi
    rw [Nat.sub_self, if_neg (Nat.not_lt_zero _)] at this
    rw [Nat.succ_mul]
    exact this
theorem std_rest {n : Nat} {k : Int} (n3 : 3 ≤ n) (k1 : 1 ≤ k) (k2 : k ≤ (n : Int) - 1) : RowRest (std66 n 0 k) ↔ k = (n : Int) - 1 := by
  rw [rowRest_iff, std_beat n3 k1]
  constructor
  · intro h
    have := std_inj h
    omega
  · rintro rfl
    congr 1
    omega
theorem fst_len {n : Nat} {f : Int} (n3 : 3 ≤ n) : (fst66 n f).length = n := up_len (by omega)
theorem std_len {n : Nat} {s k : Int} (n3 : 3 ≤ n) : (std66 n s k).length = n := up_len (by omega)
theorem fst_no {n : Nat} {f : Int} (n3 : 3 ≤ n) (f10 : 10 ≤ f) : ¬ RowRest (fst66 n f) := fun h => by
  have := h 0 (by rw [fst_len n3]; omega)
  have e := cntL_le (fst66 n f) 0 (nth (fst66 n f) (0 : Nat))
  have g : nth (fst66 n f) (0 : Nat) = f + (0 : Nat) := up_nth (by omega)
  rw [g] at this e
  omega
theorem back_end {n : Nat} {f : Int} {m cs : List Int} (n3 : 3 ≤ n) (f10 : 10 ≤ f) (b : ByOrder (rowR n) (fst66 n f) (backQ n) m cs) : m = std66 n 0 ((n : Int) - 1) ∧ cs.head? = some ((n : Int) - 1) := by
  obtain ⟨r, rfl, rfl, rest, _⟩ := b
  have ln := fst_len (f := f) n3
  rw [backQ_len] at *
  have rr := row_rest (rowL_len ln _ _) rest
  have eq := back_round (by omega) ln r
  rw [eq] at rr ⊢
  cases r with
  | zero => exact absurd rr (fst_no n3 f10)
  | succ r =>
    rw [fst_beats n3] at rr ⊢
    have := (std_rest n3 (by omega) (by omega)).mp rr
    refine ⟨by rw [this], ?_⟩
    -- the first change
    have hd : ∀ k, (chgL (rowR n) (fst66 n f) (backQ n) (k + 1)).head? = some ((n : Int) - 1) := fun k => by
      induction k with
      | zero =>
        have ne : ¬ seqL (rowR n) (fst66 n f) (lotsQ (backQ n)) (0 + 1) = seqL (rowR n) (fst66 n f) (lotsQ (backQ n)) 0 := fun e => by
          have h1 := congrArg (fun z => nth z (n - 2 + 1 : Nat)) e
          have h2 := back_in (by omega) ln (k := 0) 1 (by omega) (n - 2 + 1) (by omega)
          rw [if_neg (by omega), Nat.zero_mul] at h2
          have h3 : nth (seqL (rowR n) (fst66 n f) (lotsQ (backQ n)) (0 + 1)) (n - 2 + 1 : Nat) = nth (rowB (fst66 n f)) (n - 2 + 1 : Nat) := h2
          have h4 : nth (seqL (rowR n) (fst66 n f) (lotsQ (backQ n)) (0 + 1)) (n - 2 + 1 : Nat) = nth (fst66 n f) (n - 2 + 1 : Nat) := h1
          rw [h3, fst_beat n3] at h4
          unfold fst66 std66 at h4
          rw [up_nth2, up_nth2] at h4
          omega
        rw [chgL_move ne]
        have l0 := backQ_len n
        have g0 := backQ_get (n := n) (j := 0) (by omega)
        show (chgL _ _ _ 0 ++ _).head? = _
        rw [show chgL (rowR n) (fst66 n f) (backQ n) 0 = [] from rfl, List.nil_append, List.head?_cons, Nat.zero_mod, List.getD_eq_getElem?_getD, List.getElem?_eq_getElem (by omega)]
        rw [g0]
        show some ((n - 1 - 0 : Nat) : Int) = _
        congr 1
        omega
      | succ k ih =>
        by_cases c : seqL (rowR n) (fst66 n f) (lotsQ (backQ n)) (k + 1 + 1) = seqL (rowR n) (fst66 n f) (lotsQ (backQ n)) (k + 1)
        · rw [chgL_same c]; exact ih
        · rw [chgL_move c, List.head?_append, ih]; rfl
    have e1 : (r + 1) * n = ((r + 1) * n - 1) + 1 := by
      have : n ≤ (r + 1) * n := Nat.le_mul_of_pos_left _ (by omega)
      omega
    rw [e1]
    exact hd _
/-! ### from the first on -/
def forQ (n : Nat) : List Int := (List.range n).map fun k : Nat => (k : Int)
theorem forQ_len (n : Nat) : (forQ n).length = n := by unfold forQ; rw [List.length_map, List.length_range]
theorem forQ_get {n j : Nat} (h : j < n) : (forQ n)[j]'(by rw [forQ_len]; exact h) = (j : Int) := by
  unfold forQ
  rw [List.getElem_map, List.getElem_range]
def s66 (n : Nat) (f : Int) : Int := min ((n : Int) - 2) (f - 5)
/-- those who had turns as they stand then, the others as they stood -/
theorem for_in {n : Nat} {f : Int} (n3 : 3 ≤ n) (f10 : 10 ≤ f) : ∀ j, j ≤ n - 1 → ∀ i : Nat, i < n → nth (seqL (rowR n) (fst66 n f) (lotsQ (forQ n)) j) i = if i < j then nth (std66 n (s66 n f) 0) i else nth (fst66 n f) i
  | 0, _, i, hi => by rw [if_neg (by omega)]; rfl
  | j + 1, hj, i, hi => by
    have ih := for_in n3 f10 j (by omega)
    have ln := fst_len (f := f) n3
    have lq := forQ_len n
    have ls := rowL_len ln (lotsQ (forQ n)) j
    have hm : j % (forQ n).length = j := by rw [lq, Nat.mod_eq_of_lt (by omega)]
    have e : (forQ n)[j % (forQ n).length]'(Nat.mod_lt _ (by omega)) = (j : Int) := by
      have := forQ_get (n := n) (j := j) (by omega)
      simp only [hm]
      exact this
    rw [seqL_one (by omega), e, row_turn ls hi]
    by_cases c : i = j
    · rw [if_pos (by rw [List.mem_singleton, c]), if_pos (by omega), ih i hi, if_neg (by omega)]
      subst c
      have run : ∀ z : Nat, z < min i (n - 2) → nth (seqL (rowR n) (fst66 n f) (lotsQ (forQ n)) i) z = 0 + z := fun z hz => by
        rw [ih z (by omega), if_pos (by omega)]
        exact up_nth (by omega)
      have cr := cnt_run (a := 0) (v := nth (fst66 n f) i) (min i (n - 2)) run
      rw [show min i (n - 2) = i by omega] at cr
      rw [cr]
      rcases (by omega : i < n - 2 ∨ i = n - 2) with d | d
      · have g1 : nth (fst66 n f) i = f + i := up_nth d
        have g2 : nth (std66 n (s66 n f) 0) i = 0 + i := up_nth d
        rw [g1, g2]
        omega
      · subst d
        have g1 : nth (fst66 n f) (n - 2 : Nat) = f - 5 := up_nth1
        have g2 : nth (std66 n (s66 n f) 0) (n - 2 : Nat) = s66 n f := up_nth1
        rw [g1, g2]
        unfold s66
        omega
    · rw [if_neg (by rw [List.mem_singleton]; omega), ih i hi]
      by_cases d : i < j
      · rw [if_pos d, if_pos (by omega)]
      · rw [if_neg d, if_neg (by omega)]
theorem std_last {n : Nat} {s v : Int} (n3 : 3 ≤ n) (s0 : 0 ≤ s) (s1 : s ≤ (n : Int) - 2) (v1 : s < v) : ∀ i : Nat, i < n → (cntL (std66 n s v) i (nth (std66 n s v) i) : Int) = if i = n - 1 then min ((n : Int) - 2) v + 1 else nth (std66 n s v) i := fun i hi => by
  have b := up_beat (a := 0) (x := s) (y := v) n3
  have e := congrArg (fun z => nth z (i : Nat)) b
  have e' : nth (rowB (std66 n s v)) i = nth (upL 0 (n - 2) ++ [max 0 (min ((n - 2 : Nat) : Int) (s - 0)), max 0 (min ((n - 2 : Nat) : Int) (v - 0)) + (if s < v then 1 else 0)]) i := e
  rw [rowB_nth _ (by rw [std_len n3]; exact hi), if_pos v1] at e'
  rw [e']
  rcases (by omega : i < n - 2 ∨ i = n - 2 ∨ i = n - 2 + 1) with c | c | c
  · rw [if_neg (by omega), up_nth c]
    exact (up_nth c).symm
  · subst c
    rw [if_neg (by omega), up_nth1]
    have g2 : nth (std66 n s v) (n - 2 : Nat) = s := up_nth1
    rw [g2]
    omega
  · subst c
    rw [if_pos (by omega), up_nth2]
    omega
theorem for_late {n : Nat} {f : Int} (n3 : 3 ≤ n) (f10 : 10 ≤ f) : ∀ k, ∃ v : Int, s66 n f < v ∧ seqL (rowR n) (fst66 n f) (lotsQ (forQ n)) (n - 1 + k) = std66 n (s66 n f) v := by
  have ln := fst_len (f := f) n3
  have lq := forQ_len n
  have s0 : 0 ≤ s66 n f := by unfold s66; omega
  have s1 : s66 n f ≤ (n : Int) - 2 := by unfold s66; omega
  intro k
  induction k with
  | zero =>
    refine ⟨f - 3, by unfold s66; omega, nth_ext (by rw [rowL_len ln, std_len n3]) fun i hi => ?_⟩
    rw [rowL_len ln] at hi
    rw [Nat.add_zero, for_in n3 f10 (n - 1) (Nat.le_refl _) i hi]
    rcases (by omega : i < n - 2 ∨ i = n - 2 ∨ i = n - 2 + 1) with c | c | c
    · rw [if_pos (by omega)]
      exact (up_nth c).trans (up_nth c).symm
    · subst c
      rw [if_pos (by omega)]
      exact up_nth1.trans up_nth1.symm
    · subst c
      rw [if_neg (by omega)]
      exact up_nth2.trans up_nth2.symm
  | succ k ih =>
    obtain ⟨v, v1, e⟩ := ih
    have st := seqL_one (n := n) (ns := fst66 n f) (q := forQ n) (k := n - 1 + k) (by omega)
    have hm : (n - 1 + k) % (forQ n).length < n := by rw [lq]; exact Nat.mod_lt _ (by omega)
    obtain ⟨p, hp⟩ : ∃ p, p = (n - 1 + k) % (forQ n).length := ⟨_, rfl⟩
    have ep : (forQ n)[(n - 1 + k) % (forQ n).length]'(Nat.mod_lt _ (by omega)) = (p : Int) := by
      have := forQ_get (n := n) (j := p) (by omega)
      simp only [← hp]
      exact this
    rw [ep, e] at st
    have lst := std_len (s := s66 n f) (k := v) n3
    have bl := std_last n3 s0 s1 v1
    by_cases c : p = n - 1
    · refine ⟨min ((n : Int) - 2) v + 1, by omega, ?_⟩
      rw [show n - 1 + (k + 1) = n - 1 + k + 1 from rfl, st]
      refine nth_ext (by rw [row_turnLen, std_len n3]) fun i hi => ?_
      rw [row_turnLen] at hi
      rw [row_turn lst hi]
      by_cases d : i = p
      · rw [if_pos (by rw [List.mem_singleton, d]), bl i hi, if_pos (by omega), d, c]
        have : nth (std66 n (s66 n f) (min ((n : Int) - 2) v + 1)) (n - 2 + 1 : Nat) = min ((n : Int) - 2) v + 1 := up_nth2
        rw [show n - 1 = n - 2 + 1 by omega]
        exact this.symm
      · rw [if_neg (by rw [List.mem_singleton]; omega)]
        rcases (by omega : i < n - 2 ∨ i = n - 2) with z | z
        · exact (up_nth z).trans (up_nth z).symm
        · subst z
          exact up_nth1.trans up_nth1.symm
    · refine ⟨v, v1, ?_⟩
      rw [show n - 1 + (k + 1) = n - 1 + k + 1 from rfl, st]
      refine nth_ext (by rw [row_turnLen, std_len n3]) fun i hi => ?_
      rw [row_turnLen] at hi
      rw [row_turn lst hi]
      by_cases d : i = p
      · rw [if_pos (by rw [List.mem_singleton, d]), bl i hi, if_neg (by omega)]
      · rw [if_neg (by rw [List.mem_singleton]; omega)]
theorem for_end {n : Nat} {f : Int} {m cs : List Int} (n3 : 3 ≤ n) (f10 : 10 ≤ f) (b : ByOrder (rowR n) (fst66 n f) (forQ n) m cs) : m = std66 n (s66 n f) ((n : Int) - 1) := by
  obtain ⟨r, rfl, rfl, rest, _⟩ := b
  have ln := fst_len (f := f) n3
  have s0 : 0 ≤ s66 n f := by unfold s66; omega
  have s1 : s66 n f ≤ (n : Int) - 2 := by unfold s66; omega
  rw [forQ_len] at *
  have rr := row_rest (rowL_len ln _ _) rest
  cases r with
  | zero =>
    rw [Nat.zero_mul] at rr
    exact absurd rr (fst_no n3 f10)
  | succ r =>
    have g : n ≤ (r + 1) * n := Nat.le_mul_of_pos_left _ (by omega)
    obtain ⟨v, v1, e⟩ := for_late (n := n) (f := f) n3 f10 ((r + 1) * n - (n - 1))
    rw [show n - 1 + ((r + 1) * n - (n - 1)) = (r + 1) * n by omega] at e
    rw [e] at rr ⊢
    have h := rr (n - 1) (by rw [std_len n3]; omega)
    have bl := std_last n3 s0 s1 v1 (n - 1) (by omega)
    rw [if_pos rfl, ← h] at bl
    have g2 : nth (std66 n (s66 n f) v) (n - 2 + 1 : Nat) = v := up_nth2
    rw [show n - 1 = n - 2 + 1 by omega, g2] at bl
    congr 1
    omega
end Lh

namespace Lh
open PySem PySem.Spec PyProof.Rows L2
theorem okD_ints {n : Nat} {ns : List Int} (h : ns.length ≤ 8388608) : okD (n + 1) (.tuple (ns.map PyData.int)) := by
  refine ⟨by rw [List.length_map]; exact h, fun d hd => ?_⟩
  obtain ⟨x, _, rfl⟩ := List.mem_map.mp hd
  cases n <;> trivial
def wayD (nss : List (List Int)) : PyData := .list (nss.map fun ms => .tuple (ms.map PyData.int))
theorem okD_way {n : Nat} {nss : List (List Int)} (h : nss.length ≤ 8388608) (h2 : ∀ ms ∈ nss, ms.length ≤ 8388608) : okD (n + 2) (wayD nss) := by
  refine ⟨by rw [List.length_map]; exact h, fun d hd => ?_⟩
  obtain ⟨x, hx, rfl⟩ := List.mem_map.mp hd
  exact okD_ints (h2 x hx)
theorem tup_nb {bx : Addr} {c : Int} {H : Hp} {t : Addr} {xs : List V} (b : Box bx c H) (h : TupAt H t xs) : t ≠ bx := by
  obtain ⟨_, _, _, hb, _⟩ := b
  rcases h with h | ⟨o, _, h⟩
  · exact ne_of h hb (by intro z; cases z)
  · exact ne_of h hb (by intro z; cases z)
theorem StandsAt.rp {bx : Addr} {c : Int} {H : Hp} (b : Box bx c H) : ∀ {vs : List V} {nss : List (List Int)}, StandsAt H vs nss → RpAll bx H vs (nss.map fun ms => .tuple (ms.map PyData.int))
  | _, _, .nil => .nil
  | _, _, .cons ⟨t, e, h⟩ r => by
    subst e
    exact .cons (.tup h (tup_nb b h) (RpAll.ints _)) (StandsAt.rp b r)
theorem StandsAt.drop {H : Hp} : ∀ {vs : List V} {nss : List (List Int)} (k : Nat), StandsAt H vs nss → StandsAt H (vs.drop k) (nss.drop k)
  | _, _, 0, h => h
  | _, _, k + 1, .nil => .nil
  | _, _, k + 1, .cons _ r => StandsAt.drop k r
theorem StandsAt.take {H : Hp} : ∀ {vs : List V} {nss : List (List Int)} (k : Nat), StandsAt H vs nss → StandsAt H (vs.take k) (nss.take k)
  | _, _, 0, h => .nil
  | _, _, k + 1, .nil => .nil
  | _, _, k + 1, .cons h r => .cons h (StandsAt.take k r)
/-- what stands while a hall is asked -/
structure F7 (C bx : Addr) (c : Int) (H0 : Hp) (l x t : Addr) (us : List V) (rs : List Rule) (ns : List Int) (Hk : Hp) : Prop where
  e : Ext bx H0 Hk
  b : Box bx c Hk
  hl : Hk l = some (.lst us)
  ra : RulesAt Hk us rs
  hA : HallAt C Hk x rs
  hS : TupAt Hk t (ns.map V.int)
theorem F7.same {C bx : Addr} {c : Int} {H0 : Hp} {l x t : Addr} {us : List V} {rs : List Rule} {ns : List Int} {Hk H' : Hp} (f : F7 C bx c H0 l x t us rs ns Hk) (s : Same Hk H') : F7 C bx c H0 l x t us rs ns H' :=
  ⟨f.e.trans (Ext.of s), f.b.same s, s _ _ f.hl, f.ra.keep (Keep.same s), f.hA.keep s, f.hS.keep (Keep.same s)⟩
theorem F7.draw {C bx : Addr} {c c' : Int} {H0 : Hp} {l x t : Addr} {us : List V} {rs : List Rule} {ns : List Int} {Hk H' : Hp} (f : F7 C bx c H0 l x t us rs ns Hk) (nl : l ≠ bx) (e : Ext bx Hk H') (b : Box bx c' H') : F7 C bx c' H0 l x t us rs ns H' :=
  ⟨f.e.trans e, b, e _ _ nl f.hl, f.ra.keep (Keep.ext e f.b), f.hA.ext e f.b, f.hS.keep (Keep.ext e f.b)⟩
theorem F7.lst {C bx : Addr} {c : Int} {H0 : Hp} {l x t d : Addr} {us ys zs : List V} {rs : List Rule} {ns : List Int} {Hk : Hp} (f : F7 C bx c H0 l x t us rs ns Hk) (hd : Hk d = some (.lst ys)) (n1 : d ≠ bx) (n2 : l ≠ d) (n0 : H0 d = none) : F7 C bx c H0 l x t us rs ns (upd Hk d (.lst zs)) := by
  have kT := keep_lst (ys := zs) hd
  refine ⟨f.e.new n0, f.b.at n1, by rw [upd_ne n2]; exact f.hl, f.ra.keep kT, ?_, f.hS.keep kT⟩
  obtain ⟨dx, t', vs, h1, h2, h3⟩ := f.hA
  refine ⟨dx, t', vs, ?_, h2.keep kT, h3.keep kT⟩
  rw [upd_ne (ne_of h1 hd (by intro z; cases z))]
  exact h1
def tupD (ms : List Int) : PyData := .tuple (ms.map PyData.int)
theorem TupAt.rpI {bx : Addr} {c : Int} {H : Hp} (b : Box bx c H) {t : Addr} {ms : List Int} (h : TupAt H t (ms.map V.int)) : Rp bx H (.ref t) (tupD ms) := .tup h (tup_nb b h) (RpAll.ints _)
theorem okD_tups {n : Nat} {ds : List (List Int)} (h : ds.length ≤ 8388608) (h2 : ∀ ms ∈ ds, ms.length ≤ 8388608) : okD (n + 2) (.list (ds.map tupD)) := okD_way h h2
theorem okD_intsL {n : Nat} {ns : List Int} (h : ns.length ≤ 8388608) : okD (n + 1) (.list (ns.map PyData.int)) := by
  refine ⟨by rw [List.length_map]; exact h, fun d hd => ?_⟩
  obtain ⟨x, _, rfl⟩ := List.mem_map.mp hd
  cases n <;> trivial
def spRight : Sp := fun vs H Q _ => ∃ bx : Addr, vs = [.ref bx] ∧ Box bx 0 H ∧ ∀ H', Ext bx H H' → Q (.bl true) H'
end Lh

namespace Lh
open PySem PySem.Spec PyProof.Rows L2
/-! ### an exception that a suite keeps under another name -/
/-- at a: an exception that was caught, of that class, its fields at d -/
def exK (a : Addr) (cls : Value) (d : Option Addr) : HO := .ext fun h => ∃ (oe : Obj) (vs : Array Value), h.get? a = some oe ∧ Zc cls d oe ∧ oe.data = .fields vs
theorem exK_at {P : Program} {w : World} {H : Hp} {h : Heap} {a : Addr} {cls : Value} {d : Option Addr} (hok : HOk P w H h) (e : H a = some (exK a cls d)) :
    ∃ (oe : Obj) (vs : Array Value), h.get? a = some oe ∧ Zc cls d oe ∧ oe.data = .fields vs := by
  have x : ObjOk P w H h a (.ext fun h => ∃ (oe : Obj) (vs : Array Value), h.get? a = some oe ∧ Zc cls d oe ∧ oe.data = .fields vs) := hok a _ e
  exact x.1
theorem Inv_track {X : Cx} {pins : List (Addr × Obj)} {σ : L2.St} {H : Hp} {s : Shared} {a : Addr} {oe : Obj} {vs : Array Value} {cls : Value} {d : Option Addr} (I : Inv X pins σ H s) (ha : s.heap.get? a = some oe)
    (hz : Zc cls d oe) (hd : oe.data = .fields vs) (na : H a = none) (n0 : X.s_0.heap.get? a = none) (hp : ∀ p ∈ X.pn ++ pins, p.1 ≠ a) : Inv X pins σ (upd H a (exK a cls d)) s := by
  have nL : a ≠ X.env.locals := by
    intro z
    obtain ⟨m, ⟨o, es, ep, ho, hdd, _⟩, _⟩ := I.loc
    rw [← z, ha] at ho
    cases ho
    rw [hd] at hdd
    cases hdd
  have nC : ∀ x c, X.env.cells.lookup x = some c → c ≠ a := by
    intro x c e z
    obtain ⟨v, o, ho, hc⟩ := I.cell x c e
    rw [z, ha] at ho
    cases ho
    rw [hd] at hc
    cases hc
  have ne0 : ∀ b o, X.s_0.heap.get? b = some o → b ≠ a := fun b o e z => by
    rw [z, n0] at e
    cases e
  have neS : ∀ {b : Addr} {u : HO}, H b = some u → b ≠ a := fun e => ne_of_none e na
  refine ⟨I.ok, I.os, I.bare, ⟨I.base.keep, I.base.slot, fun b o e n hx => by rw [upd_ne (ne0 b o e)]; exact I.base.free b o e n hx, I.base.there, fun b xs e => ?_, fun b o u e => ?_, fun b ps e => ?_⟩, I.loc, I.cell,
    by rw [upd_ne nL.symm]; exact I.free, fun x c e => by rw [upd_ne (nC x c e)]; exact I.freeC x c e, fun p h => ?_, fun b u e => ?_, I.len⟩
  · exact (upd_ne (neS (I.base.tups b xs e))).trans (I.base.tups b xs e)
  · exact (upd_ne (neS (I.base.frzs b o u e))).trans (I.base.frzs b o u e)
  · exact let ⟨m, q⟩ := I.base.tbls b ps e; ⟨m, (upd_ne (neS q)).trans q⟩
  · obtain ⟨e, n, r⟩ := I.pin p h
    exact ⟨e, by rw [upd_ne (hp p h)]; exact n, r⟩
  · by_cases hb : b = a
    · subst hb
      rw [upd_same] at e
      cases e
      exact ⟨⟨oe, vs, ha, hz, hd⟩, ⟨oe, ha⟩, fun h1 h2 ⟨o, v, q, r⟩ k => ⟨o, v, k o q, r⟩⟩
    · rw [upd_ne hb] at e
      exact (I.hok b u e).stay (fun c v hc q => q) (fun c q => by rw [upd_ne (neS q)]; exact q) fun c xs q => by rw [upd_ne (neS q)]; exact q
theorem fly_keeps {base h h' : Heap} {l : List Env} {e : Addr} {Z : Obj → Prop} (k : ∀ b o, h.get? b = some o → h'.get? b = some o) (f : HandSPX.FlyingZ base l e Z h) : HandSPX.FlyingZ base l e Z h' := by
  obtain ⟨f1, f2, f3, oe, vs, T, oT, ts, he, hz, hd, h1, hn, hT, hoT, hdT, h3⟩ := f
  exact ⟨fun b o q => k b o (f1 b o q), f2, f3.of_keeps (fun b o q _ => ⟨o, k b o q, rfl⟩), oe, vs, T, oT, ts, k _ _ he, hz, hd, h1, hn, hT, k _ _ hoT, hdT, h3⟩
/-- what 'except (x, ..) as n: suite' wishes of an exception whose class the test meets; behind it the exception is kept -/
def wKeep (Mt : Value → Prop) (i : Nat) (ts : Addr → Value → Option Addr → TS) (D : Ends) : WX := fun cls d σ H =>
  Mt cls ∧ ∀ a, H a = none → ts a cls d { nx := fun σ' H' => D.nx (σ'.set i none) (upd H' a (exK a cls d)), rt := fun _ _ => False, bk := fun _ _ => False, ct := fun _ _ => False } (σ.set i (some (.ref a))) H
section
variable {X : Cx} {pins : List (Addr × Obj)} {σ : L2.St} {H : Hp} {sI : Shared} {B h3 : Heap} {a : Addr} {Z : Obj → Prop}
/-- where an exception that landed stands: on no frame, on no pin, and it is new to the def -/
structure Apart (X : Cx) (pins : List (Addr × Obj)) (a : Addr) : Prop where
  loc : a ≠ X.env.locals
  fs : a ∉ X.fs
  new : X.s_0.heap.get? a = none
  pin : ∀ p ∈ X.pn ++ pins, p.1 ≠ a
theorem Apart.of (hst : X.stack = X.env :: X.outer) (hfm : X.env.frame = some X.env.locals) (hex : X.ex = []) (J : Inv X pins σ H sI) (ground : ∀ b o, sI.heap.get? b = some o → b ∉ frs X.stack → B.get? b = some o)
    (fl : HandSPX.FlyingZ B (X.env :: X.outer) a Z h3) : Apart X pins a := by
  obtain ⟨oa, va, ga, _, da⟩ := fl.there
  have off : a ∉ frs (X.env :: X.outer) := by
    intro hm
    obtain ⟨_, u, gu, hu⟩ := fl.2.2.1.mem hm
    cases ga.symm.trans gu
    exact hu _ da
  have other : ∀ {b o}, sI.heap.get? b = some o → b ∉ frs X.stack → b ≠ a := by
    intro b o gb nb z
    cases (ground b o gb nb).symm.trans (z ▸ fl.2.1)
  constructor
  · exact fun z => off (List.mem_filterMap.mpr ⟨X.env, .head _, hfm.trans (congrArg some z.symm)⟩)
  · exact fun z => let ⟨v, hv, q⟩ := List.mem_filterMap.mp z; off (List.mem_filterMap.mpr ⟨v, .tail _ hv, q⟩)
  · match g0 : X.s_0.heap.get? a with
    | none => rfl
    | some o =>
      obtain ⟨u, gu⟩ := J.base.there a o g0 (by simp [hex])
      exact absurd rfl (other gu (hst ▸ off))
  · intro p hp
    obtain ⟨gp, _, n1, n2, _⟩ := J.pin p hp
    exact other gp fun z => (List.mem_cons.mp (J.stkSub _ z)).elim n1 n2
variable {x y z n : Str} {c1 c2 c3 : Value} {i : Nat} {body suite : List Stmt} {b₀ : Stmt} {p1 p2 p3 pt pos pos' : Pos} {tb : WX → TS} {ts : Addr → Value → Option Addr → TS}
/-- a class by its name, read while an exception is handled -/
theorem named {s : Shared} {oa : Obj} {va : Array Value} (J : Inv X pins σ H s) (ga : s.heap.get? a = some oa) (da : oa.data = .fields va) (na : H a = none) (ap : Apart X pins a) {z : Str} {c : Value} {np : Pos} (hz : Names X z c)
    {Q E : Value → Shared → Prop} (q : Q c s) : wpAny (model X.prog X.w) (X.A.mark (some (.ref a))) (eval (.Name z np) X.env) Q E s := by
  have S := J.suite ga da na ap.loc ap.fs
  rcases hz with ⟨g1, g2, g3 | ⟨g3, g4, g5⟩⟩
  · exact ld_glob (X := X.suite a ((a, oa) :: (X.pn ++ pins))) S g1 g3 q g2
  · exact ld_blt (X := X.suite a ((a, oa) :: (X.pn ++ pins))) S g1 g3 g4 q g5 g2
/-- behind the suite the exception is tracked -/
theorem kept_on (ok : X.Ok) (hN : X.N.Nodup) (hi : X.N[i]? = some n) (hln : X.env.kindOf n = some .local) (ap : Apart X pins a) {oa : Obj} {va : Array Value} {cls : Value} {d : Option Addr} (hz : Zc cls d oa) (da : oa.data = .fields va)
    {σ6 : L2.St} {H6 : Hp} {s6 : Shared} (S : Inv (X.suite a ((a, oa) :: (X.pn ++ pins))) [] σ6 H6 s6) {Q : Shared → Prop} {E : Value → Shared → Prop} (q : ∀ s7, Inv X pins (σ6.set i none) (upd H6 a (exK a cls d)) s7 → Q s7) :
    wpAny (model X.prog X.w) X.A (do bindName X.env n .none; unbindBehindTheSuite X.env n pos') (fun _ s7 => Q s7) E s6 := by
  have pin' : ∀ p ∈ X.pn ++ ((a, oa) :: pins), p ∈ ((a, oa) :: (X.pn ++ pins)) ++ [] := fun p hp => by
    simp only [List.mem_append, List.mem_cons, List.append_nil] at hp ⊢
    rcases hp with z | z | z
    · exact .inr (.inl z)
    · exact .inl z
    · exact .inr (.inr z)
  have J : Inv X ((a, oa) :: pins) σ6 H6 s6 := ⟨ok, S.os, S.bare, S.base, S.loc, S.cell, S.free, S.freeC, fun p hp => S.pin p (pin' p hp), S.hok, S.len⟩
  refine gone_ok J hN hi hln fun s7 J7 => ?_
  have here := J7.pin (a, oa) (by simp)
  exact q s7 (Inv_track (J7.pins_of fun p hp => J7.pin p (by simp [hp])) here.1 hz da here.2.1 ap.new ap.pin)
/-- a clause's test says yes to exceptions of the classes Mt, and changes nothing but that it makes something -/
def Tests (X : Cx) (tst : Expr) (Mt : Value → Prop) : Prop := ∀ {pins : List (Addr × Obj)} {σ : L2.St} {H : Hp} {s : Shared} {a : Addr} {oa : Obj} {va : Array Value} {cls : Value} {d : Option Addr}, Inv X pins σ H s → s.heap.get? a = some oa → Zc cls d oa →
  oa.data = .fields va → H a = none → Apart X pins a → Mt cls → ∀ {R : Bool → Shared → Prop} {E : Value → Shared → Prop}, (∀ g, (∀ b o, s.heap.get? b = some o → g.get? b = some o) → R true { s with heap := g }) →
  wpAny (model X.prog X.w) (X.A.mark (some (.ref a))) (eval tst X.env) (fun c t => wpAny (model X.prog X.w) (X.A.mark (some (.ref a))) (excMatches (.ref a) c) R E t) E s
theorem tests2 (hc1 : Names X x c1) (hc2 : Names X y c2) {cx : Nat} : Tests X (.Tuple [.Name x p1, .Name y p2] cx pt) (fun cls => PySem.W.exmAny X.K cls [c1, c2] = some true) := by
  intro pins σ H s a oa va cls d I ga za da na ap one R E q
  refine wpAny_Tuple_spliced ?_
  show wpAny _ _ (spliced [(false, eval (.Name x p1) X.env), (false, eval (.Name y p2) X.env)]) _ _ _
  refine Calls.spliced_cons (named I ga da na ap hc1 (Calls.spliced_cons (named I ga da na ap hc2 (Calls.spliced_nil ⟨by show 2 ≤ sizeLine; decide, ?_⟩))))
  have old : ∀ b o, s.heap.get? b = some o → (s.heap.push { cls := .type "tuple", data := .seq [c1, c2].toArray }).get? b = some o := fun _ _ z => Heap.get?_push_of_some _ z
  have knd : PySem.W.Looks (model X.prog X.w) (s.heap.push { cls := .type "tuple", data := .seq [c1, c2].toArray }) (typeOf (.ref a)) cls := fun _ _ _ _ k q => wpAny_typeOf_ref (k _ _ (old _ _ ga)) (za.1.symm ▸ q)
  exact (PySem.W.exm_tup2 (M := model X.prog X.w) (I.kIn.keeps old) knd (Heap.get?_push_size s.heap rfl) one).here (q _ old)
theorem tests3 (hc1 : Names X x c1) (hc2 : Names X y c2) (hc3 : Names X z c3) {cx : Nat} : Tests X (.Tuple [.Name x p1, .Name y p2, .Name z p3] cx pt) (fun cls => PySem.W.exmAny X.K cls [c1, c2, c3] = some true) := by
  intro pins σ H s a oa va cls d I ga za da na ap one R E q
  refine wpAny_Tuple_spliced ?_
  show wpAny _ _ (spliced [(false, eval (.Name x p1) X.env), (false, eval (.Name y p2) X.env), (false, eval (.Name z p3) X.env)]) _ _ _
  refine Calls.spliced_cons (named I ga da na ap hc1 (Calls.spliced_cons (named I ga da na ap hc2 (Calls.spliced_cons (named I ga da na ap hc3 (Calls.spliced_nil ⟨by show 3 ≤ sizeLine; decide, ?_⟩))))))
  have old : ∀ b o, s.heap.get? b = some o → (s.heap.push { cls := .type "tuple", data := .seq [c1, c2, c3].toArray }).get? b = some o := fun _ _ z => Heap.get?_push_of_some _ z
  have knd : PySem.W.Looks (model X.prog X.w) (s.heap.push { cls := .type "tuple", data := .seq [c1, c2, c3].toArray }) (typeOf (.ref a)) cls := fun _ _ _ _ k q => wpAny_typeOf_ref (k _ _ (old _ _ ga)) (za.1.symm ▸ q)
  exact (PySem.W.exm_tup3 (M := model X.prog X.w) (I.kIn.keeps old) knd (Heap.get?_push_size s.heap rfl) one).here (q _ old)
set_option maxHeartbeats 2000000 in
theorem ps_try_keep {tst : Expr} {Mt : Value → Prop} (hst : X.stack = X.env :: X.outer) (hfm : X.env.frame = some X.env.locals) (hex : X.ex = []) (hN : X.N.Nodup) (hi : X.N[i]? = some n) (hln : X.env.kindOf n = some .local) (htst : Tests X tst Mt)
    (hbody : ∀ (W : WX) (pn : List (Addr × Obj)) (xe : Value → Shared → Prop), Takes (X.tr pn xe) W → PassesOwn (model X.prog X.w) X.A X.env xe → PSs (X.tr pn xe) body (tb W))
    (hsuite : ∀ (a : Addr) (oa : Obj) (cls : Value) (d : Option Addr) (pn : List (Addr × Obj)), Zc cls d oa → (∃ va, oa.data = .fields va) → PSs (X.suite a ((a, oa) :: pn)) (b₀ :: suite) (ts a cls d)) :
    PS X (.Try body [.ExceptHandler (some tst) (some n) (b₀ :: suite) pos'] [] [] pos) (fun D σ H => tb (wKeep Mt i ts D) D σ H) := by
  constructor
  intro pins s σ H D I want
  have ok := I.ok
  have frm : X.A.frames = some (X.env :: X.outer) := ok.frames.trans (congrArg some hst)
  refine wpAny_Try_except (wpAny_mono ((hbody (wKeep Mt i ts D) (X.pn ++ pins)
      (fun e t1 => wpAny (model X.prog X.w) X.A (noteFrame e X.env) (fun _ t2 => wpAny (model X.prog X.w) X.A (setFlight e none) (fun _ t3 => wpAny (model X.prog X.w) X.A (handleBy e X.env
        [.ExceptHandler (some tst) (some n) (b₀ :: suite) pos']) (SP X pins D) X.xe t3) X.xe t2) X.xe t1)
      (fun u t air => ?_) PassesOwn.looking).run [] s σ H D (I.toTry _) want) (fun fl t fin => ?_) fun _ _ z => z)
  case refine_2 =>
    cases fl with
    | next => exact let ⟨σ1, H1, I1, q⟩ := fin; wpAny_execs_nil ⟨σ1, H1, I1.ofTry ok, q⟩
    | brk => exact let ⟨σ1, H1, I1, q⟩ := fin; ⟨σ1, H1, I1.ofTry ok, q⟩
    | cont => exact let ⟨σ1, H1, I1, q⟩ := fin; ⟨σ1, H1, I1.ofTry ok, q⟩
    | ret u => exact let ⟨v, σ1, H1, I1, r, q⟩ := fin; ⟨v, σ1, H1, I1.ofTry ok, r, q⟩
  case refine_1 =>
    obtain ⟨a, B, t0, _, σ1, H1, cls, d, rfl, I0, ground, up, sky, na, os, bare, one, then_⟩ := air
    have I1 : Inv X pins σ1 H1 t0 := I0.ofTry ok
    refine Sky.land (L := X.env.locals) Zc.steady frm hfm (hst ▸ sky) fun g fl upg => ?_
    have ap := Apart.of hst hfm hex I1 ground fl
    have I3 : Inv X pins σ1 H1 { t with heap := g } := I1.landed ground fl.1 (up.trans upg) os bare
    obtain ⟨oa, va, ga, za, da⟩ := fl.there
    refine wpAny_handleBy_cons (codeAny_handlers_test (htst I3 ga za da na ap one fun g' old => ?_)) (fun z => nomatch z)
    refine codeAny_handlers_suite_as ?_
    refine HandSPX.lands_againZ (fly_keeps old fl) fun g4 fl4 up4 => ?_
    have I4 : Inv X pins σ1 H1 { t with heap := g4 } := I1.landed ground fl4.1 (((up.trans upg).trans (.of_keeps old)).trans up4) os bare
    obtain ⟨ob, vb, gb, zb, db⟩ := fl4.there
    refine store_ok (X := X.suite a ((a, ob) :: (X.pn ++ pins))) (v := .ref a) (I4.suite gb db na ap.loc ap.fs) hN hi (.inl hln) rfl (fun s5 S5 => ?_) (.inr hln)
    refine wpAny_mono ((hsuite a ob cls d (X.pn ++ pins) zb ⟨_, db⟩).run [] s5 _ H1 _ S5 (then_ a na)) (fun fw s6 fin => ?_) fun _ _ z => False.elim z
    cases fw with
    | next => exact let ⟨σ6, H6, S6, q⟩ := fin; kept_on ok hN hi hln ap zb db S6 fun s7 I7 => ⟨_, _, I7, q⟩
    | brk => exact let ⟨_, _, _, q⟩ := fin; q.elim
    | cont => exact let ⟨_, _, _, q⟩ := fin; q.elim
    | ret u => exact let ⟨_, _, _, _, _, q⟩ := fin; q.elim
end
section
variable {X : Cx}
/-- an exception that is kept, with its fields, as the library's words have it -/
theorem inst_of {pins : List (Addr × Obj)} {σ : L2.St} {H : Hp} {s : Shared} {a C dd : Addr} {fs : List (Str × V)} (I : Inv X pins σ H s) (ha : H a = some (exK a (.ref C) (some dd))) (hd : H dd = some (.xd fs)) :
    ∃ (ox od : Obj) (mA : Str → Option Value), PySem.W.InstAt s.heap a ox C (some od) ∧ (∀ f, RelO (fs.lookup f) (mA f)) ∧ ∀ f, PySem.W.lookIn f od = some (mA f) := by
  obtain ⟨oe, vs, he, hz, hdat⟩ := exK_at I.hok ha
  obtain ⟨mA, hns, hr⟩ : ∃ mA, s.heap.Ns1 dd mA ∧ ∀ f, RelO (fs.lookup f) (mA f) := I.hok dd _ hd
  obtain ⟨od, ho, hl⟩ := lookIn_ns hns
  exact ⟨oe, od, mA, ⟨he, hz.1, by unfold PySem.W.notCls; rw [hdat] <;> rfl, by rw [hz.2]; exact ho⟩, hr, hl⟩
/-- isinstance(e, c), e an exception that is kept -/
def rIsX (K : PySem.W.Frag) : List V → Hp → VK → Prop := fun xs H Q => ∃ (a C dd : Addr) (fs : List (Str × V)) (c : V) (cv : Value) (b : Bool), xs = [.ref a, c] ∧ H a = some (exK a (.ref C) (some dd)) ∧ H dd = some (.xd fs) ∧ ExcC K C ∧
  (∀ u, RelV c u → u = cv) ∧ PySem.W.kitOne K (.ref C) cv = some b ∧ Q (.bl b) H
theorem call_isX : CallR X (.builtin "isinstance") (rIsX X.K) := by
  intro pins s σ H xs us Q I r h
  obtain ⟨a, C, dd, fs, c, cv, b, rfl, ha, hd, F, hcv, e, q⟩ := h
  obtain ⟨ox, od, mA, J, _⟩ := inst_of I ha hd
  cases r with
  | cons rx rr =>
    cases rr with
    | cons rt rr =>
      cases rr
      cases rx
      cases hcv _ rt
      have F1 := PySem.W.any_some F.hd
      obtain ⟨cd, hc, _⟩ := F1
      exact PySem.W.kia_one (PySem.W.kitx_exc (by rw [hc]; rfl) F.hg F.hk F.hs F.ha F.hn F.ht F.hm) I.kIn J e (fun z => nomatch z) fun tk => ⟨.bl b, H, I.kept (t' := tk) fun _ _ z => z, rfl, q⟩
/-- isinstance(e, (c, ..)) -/
def rIsXT (K : PySem.W.Frag) : List V → Hp → VK → Prop := fun xs H Q => ∃ (a C dd p : Addr) (fs : List (Str × V)) (cs : List V) (cvs : List Value) (b : Bool), xs = [.ref a, .ref p] ∧ H a = some (exK a (.ref C) (some dd)) ∧ H dd = some (.xd fs) ∧ ExcC K C ∧ H p = some (.tup cs) ∧
  (∀ us, Vals cs us → us = cvs) ∧ PySem.W.kitAny K (.ref C) cvs = some b ∧ Q (.bl b) H
theorem call_isXT : CallR X (.builtin "isinstance") (rIsXT X.K) := by
  intro pins s σ H xs us Q I r h
  obtain ⟨a, C, dd, p, fs, cs, cvs, b, rfl, ha, hd, F, hp, hcv, e, q⟩ := h
  obtain ⟨ox, od, mA, J, _⟩ := inst_of I ha hd
  cases r with
  | cons rx rr =>
    cases rr with
    | cons rt rr =>
      cases rr
      cases rx
      cases rt
      obtain ⟨its, rv, o, ho, hc, n, hdat⟩ := (I.hok p _ hp).2
      cases hcv _ rv
      obtain ⟨oc, od', oda, osl⟩ := o
      dsimp only at hc hdat
      subst hc hdat
      obtain ⟨cd, hcl, _⟩ := PySem.W.any_some F.hd
      exact PySem.W.kia_tup (PySem.W.kitx_exc (by rw [hcl]; rfl) F.hg F.hk F.hs F.ha F.hn F.ht F.hm) I.kIn J ho e (fun z => nomatch z) fun tk => ⟨.bl b, H, I.kept (t' := tk) fun _ _ z => z, rfl, q⟩
/-- two words of one call, whichever is at hand -/
theorem call_or {f : Value} {r1 r2 : List V → Hp → VK → Prop} (h1 : CallR X f r1) (h2 : CallR X f r2) : CallR X f (fun xs H Q => r1 xs H Q ∨ r2 xs H Q) := by
  intro pins s σ H xs us Q I r h
  exact h.elim (h1 pins s σ H xs us Q I r) (h2 pins s σ H xs us Q I r)
/-- e.f, e an exception that is kept -/
def tXk (K : PySem.W.Frag) (f : Str) (te : TE) : TE := fun σ H Q => te σ H fun x H1 => ∃ (a C dd : Addr) (fs : List (Str × V)) (v : V), x = .ref a ∧ H1 a = some (exK a (.ref C) (some dd)) ∧ H1 dd = some (.xd fs) ∧ XfC K C ∧
  PySem.W.findIn K (.ref C) f = some none ∧ fs.lookup f = some v ∧ Q v H1
theorem pe_xk {e : Expr} {te : TE} {pos : Pos} {f : Str} (he : PE X e te) (hb : attributeBase e f X.env (eval e X.env) = eval e X.env := by rfl) : PE X (.Attribute e f pos) (tXk X.K f te) := by
  refine ⟨fun pins s σ H Q I h => attr_of hb (thn (he.run pins s σ H _ I h) fun u s1 hh => ?_)⟩
  obtain ⟨x, H1, I1, rx, a, C, dd, fs, v, rfl, ha, hd, T, hno, l, q⟩ := hh
  cases rx
  obtain ⟨ox, od, mA, J, hr, hl⟩ := inst_of I1 ha hd
  obtain ⟨u, hu, ru⟩ := RelO.some_of (v := v) (o := mA f) (by rw [← l]; exact hr f)
  have fo := PySem.W.findObj_own T.hdC hno rfl ((hl f).trans (congrArg some hu))
  exact HandSPX.exc_get I1.kIn J T.ga T.gg T.exC fo (handed_of ru) ⟨v, H1, I1.tok _, ru, q⟩
/-- what lets no exception out, of a def that may -/
theorem pass_none : Passes (L2.CX X.prog X.w) X (fun _ _ _ => False) := fun _ _ _ _ _ _ _ c => by
  obtain ⟨_, _, _, _, _, _, _, _, _, _, _, _, w⟩ := c
  exact w.elim
end
theorem kit_not {K : PySem.W.Frag} {C D : Addr} (hd : PySem.W.hasDictIn K D = true) (ht : PySem.W.typeIn K (.ref D) = some (.type "type")) (h : PySem.W.subIn K (.ref C) (.ref D) = some false) (hs : PySem.W.subIn K (.ref C) (.ref C) = some true) :
    PySem.W.kitOne K (.ref C) (.ref D) = some false := by
  have ne : (Value.ref C == Value.ref D) = false := by
    refine Bool.eq_false_iff.mpr fun z => ?_
    rw [← beq_iff_eq.mp z, hs] at h
    cases h
  obtain ⟨cd, hc, _⟩ := PySem.W.any_some hd
  unfold PySem.W.kitOne PySem.W.kitCls
  rw [ne, if_neg Bool.false_ne_true]
  dsimp only
  rw [hc, ht]
  exact h
theorem kit_type {K : PySem.W.Frag} {C : Addr} {T : String} {b : Bool} (hm : PySem.W.kitMeta T = true) (h : PySem.W.subIn K (.ref C) (.type T) = some b) : PySem.W.kitOne K (.ref C) (.type T) = some b := by
  have ne : (Value.ref C == Value.type T) = false := by simp
  unfold PySem.W.kitOne PySem.W.kitCls
  rw [ne, if_neg Bool.false_ne_true]
  dsimp only
  rw [hm, if_pos rfl]
  exact h
/-- a def that may raise, called where it doesn't -/
theorem fn_calm {P : Program} {w : World} {K : PySem.W.Frag} {mg : Str → Option Value} {base : Heap} {k : Nat} {f : Addr} {fd : FuncData} {ps : List Str} {sp : Sp} (F : FnOk P w K mg base (L2.CX P w) k f fd ps sp) :
    FnOk P w K mg base CX0 k f fd ps (fun vs H Q _ => sp vs H Q (fun _ _ _ => False)) := by
  refine ⟨fun vs H Q _ q => F.len vs H Q _ q, fun B out t H args us vs Q E a b c d e => codeAny_mono (F.run B out t H args us vs Q _ a b c d e) fun r t' h => ?_⟩
  cases r with
  | ok fl =>
    cases fl with
    | ret u => exact h
    | next => exact h
    | brk => exact h
    | cont => exact h
  | error e =>
    obtain ⟨_, _, _, _, _, _, _, _, _, _, _, _, no⟩ := h
    exact no.elim
theorem exm_three {K : PySem.W.Frag} {cls c1 c2 c3 : Value} {b1 b2 b3 : Bool} (h1 : PySem.W.exmOne K cls c1 = some b1) (h2 : PySem.W.exmOne K cls c2 = some b2) (h3 : PySem.W.exmOne K cls c3 = some b3) : PySem.W.exmAny K cls [c1, c2, c3] = some (b1 || (b2 || b3)) := by
  unfold PySem.W.exmAny
  rw [h1]
  unfold PySem.W.exmAny
  rw [h2]
  unfold PySem.W.exmAny
  rw [h3]
  unfold PySem.W.exmAny
  simp
theorem exm_two {K : PySem.W.Frag} {cls c1 c2 : Value} {b1 b2 : Bool} (h1 : PySem.W.exmOne K cls c1 = some b1) (h2 : PySem.W.exmOne K cls c2 = some b2) : PySem.W.exmAny K cls [c1, c2] = some (b1 || b2) := by
  unfold PySem.W.exmAny
  rw [h1]
  unfold PySem.W.exmAny
  rw [h2]
  unfold PySem.W.exmAny
  simp
/-- __init__(self, v): nothing but ValueError's own and self.f = v -/
def spInitF (C : Addr) (f : Str) : Sp := fun vs H Q _ => ∃ (a : Addr) (v : V), vs = [.ref a, v] ∧ H a = some (exo a C none) ∧ ∀ dx, H dx = none → dx ≠ a → Q .non (upd (upd H dx (exd dx [(f, v)])) a (exo a C (some dx)))
end Lh

namespace Lh
open PySem PySem.Spec PyProof.Rows L2
/-! ### more words around exceptions: one class in a clause, keywords and methods within a suite -/
theorem seq_useN {t u : TS} {D : Ends} {σ : L2.St} {H : Hp} (Φ : L2.St → Hp → Prop) (a : ∀ N : L2.St → Hp → Prop, (∀ σ H, Φ σ H → N σ H) → t { D with nx := N } σ H) (b : ∀ σ H, Φ σ H → u D σ H) : tSeq t u D σ H := a (u D) b
theorem gname_step {i : Nat} {v : V} {σ : L2.St} {H : Hp} {D : L2.St → Hp → Prop} (h : D (σ.set i (some v)) H) : gName i v σ H D := h
theorem seq_asg {v : V} {i : Nat} {u : TS} {D : Ends} {σ : L2.St} {H : Hp} (h : u D (σ.set i (some v)) H) : tSeq (tAsg (tC v) (gName i)) u D σ H := h
section
variable {X : Cx} {x : Str} {c1 : Value} {p1 : Pos}
theorem tests1 (hc1 : Names X x c1) : Tests X (.Name x p1) (fun cls => PySem.W.exmOne X.K cls c1 = some true) := by
  intro pins σ H s a oa va cls d I ga za da na ap one R E q
  refine named I ga da na ap hc1 ?_
  have knd : PySem.W.Looks (model X.prog X.w) s.heap (typeOf (.ref a)) cls := fun _ _ _ _ k q => wpAny_typeOf_ref (k _ _ ga) (za.1.symm ▸ q)
  exact (PySem.W.exm_one (M := model X.prog X.w) I.kIn knd one).here (q s.heap fun _ _ z => z)
end
section
variable {X : Cx} {CX : CXT} {k n : Nat} {f : Addr} {fd : FuncData} {ps ks : List Str} {sp : Sp} {E : L2.St → XK} {x : Str} {p pos : Pos} {e : Expr} {es : List Expr} {kws : List Keyword} {t tk : TA} {g : List Value → List Value → List Value} {gV : List V → List V → List V}
def tCallNS (n m : Nat) (sp : Sp) (gV : List V → List V → List V) (E : L2.St → XK) (t tk : TA) : TE := fun σ H Q => t σ H fun vs H1 => tk σ H1 fun zs H2 => vs.length = n ∧ zs.length = m ∧ sp (gV vs zs) H2 Q (E σ)
/-- f(e, .., k = v, ..) where what it may let out is caught by the slots -/
theorem pe_callNS (F : FnOk X.prog X.w X.K X.mg X.base CX k f fd ps sp) (hr : Room k X.A) (hg : Gl X x) (hm : X.mg x = some (.ref f)) (hk : PySem.W.keepIn X.K (.ref f) = true) (hb : KBn X.K fd ps n ks g gV) (hx : ∀ σ, PassesAt CX X σ (E σ))
    (ha : PA X (e :: es) t) (hkw : PK X kws tk) (hall : (backToKw pos (keywordEach kws X.env)).all (·.1.isSome) = true := by rfl) (hks : (backToKw pos (keywordEach kws X.env)).filterMap (·.1) = ks := by rfl)
    (hdb : (x == ("__debug__" : Str)) = false := by decide) (he : starEach (e :: es) X.env = (false, eval e X.env) :: starEach es X.env := by rfl)
    (hpl : ((backTo pos (starEach (e :: es) X.env)).any (·.1) || (backToKw pos (keywordEach kws X.env)).any (·.1.isNone)) = false := by rfl) :
    PE X (.Call (.Name x p) (e :: es) kws pos) (tCallNS n ks.length sp gV E t tk) := by
  constructor
  intro pins s σ H Q I h
  refine wpAny_Call_Name_kw (ld_glob I hg hm ?_ hdb)
  refine PySem.W.callWith_KW (h₀ := X.base) I.ok.mod.kin hk hall (thn (ha.run pos pins s σ H _ I h) ?_) hpl he
  rintro us s1 ⟨vs, H1, I1, r, q⟩
  refine thn (hkw.run pos pins s1 σ H1 _ I1 q) ?_
  rintro ws s2 ⟨zs, H2, I2, rz, l1, l2, q2⟩
  refine ⟨I2.kIn, ?_⟩
  rw [hks]
  have r2 := hb.rel r rz
  refine wpAny_call (codeAny_mono (F.run X.A X.stack s2 H2 ⟨us, ks.zip ws⟩ (g us ws) (gV vs zs) Q (E σ) hr I2.env0 (hb.to s2 us ws I2.kIn (r.length.symm.trans l1) (rz.length.symm.trans l2)) r2 q2) ?_)
  intro z s3 hq
  match z with
  | .error er => exact hx σ pins H2 s2 er s3 I2 hq
  | .ok (.ret u) => exact I2.after hq
  | .ok .next => exact hq.elim
  | .ok .brk => exact hq.elim
  | .ok .cont => exact hq.elim
end
section
variable {X : Cx} {CX : CXT} {k n : Nat} {f C : Addr} {fd : FuncData} {ps ks : List Str} {sp : Sp} {E : L2.St → XK} {m : Str} {apos pos : Pos} {e o : Expr} {es : List Expr} {kw : Keyword} {kws : List Keyword} {ta : TE} {t tk : TA} {g : List Value → List Value → List Value} {gV : List V → List V → List V}
def tMethS (C : Addr) (m : Str) (sp : Sp) (E : L2.St → XK) (ta : TE) (t : TA) : TE := fun σ H Q => ta σ H fun x H1 => ∃ (a dx : Addr) (fs : List (Str × V)), x = .ref a ∧ H1 a = some (.ins C dx fs) ∧ fs.lookup m = none ∧ t σ H1 fun vs H2 => sp (.ref a :: vs) H2 Q (E σ)
/-- o.m(e, ..) where what it may let out is caught by the slots -/
theorem pe_methS {pl : Sem Bool} (he : PE X o ta) (c : Cls X.K C) (hm : Meth X.K C m f) (F : FnOk X.prog X.w X.K X.mg X.base CX k f fd ps sp) (hr : Room k X.A) (hb : Binds X.K fd ps []) (hx : ∀ σ, PassesAt CX X σ (E σ)) (ha : PA X (e :: es) t)
    (hst : starEach (e :: es) X.env = (false, eval e X.env) :: starEach es X.env := by rfl) (hpl : (backTo pos (starEach es X.env)).any (·.1) = false := by rfl)
    (ht : eval (.Call (.Attribute o m apos) (e :: es) [] pos) X.env = (do
      let ov ← eval o X.env
      standAt apos.atName
      let (f, first) ← holding [ov] (getMethod ov m pl)
      callWith pos f first (backTo pos (starEach (e :: es) X.env)) (backToKw pos (keywordEach [] X.env))) := by rfl) :
    PE X (.Call (.Attribute o m apos) (e :: es) [] pos) (tMethS C m sp E ta t) := by
  constructor
  intro pins s σ H Q I h
  refine PySem.W.methodCall_KW (pl := pl) (thn (he.run pins s σ H _ I h) ?_) ht
  rintro u s1 ⟨x, H1, I1, rx, a, dx, fs, ex, ea, l, q⟩
  subst ex
  cases (show u = Value.ref a from rx)
  refine getmeth_ok I1 ea c hm l ?_
  refine PySem.W.callWith_K (first := [.ref a]) (h₀ := X.base) I.ok.mod.kin hm.kp (thn (ha.run pos pins s1 σ H1 _ I1 q) ?_) hst hpl
  rintro us s2 ⟨vs, H2, I2, r, q2⟩
  exact ⟨I2.kIn, run_fnS (us := .ref a :: us) (vs := .ref a :: vs) F hr hb (hx σ) I2 (.cons rfl r) q2⟩
end
end Lh

namespace Lh
open PySem PySem.Spec PyProof.Rows L2
theorem up_mem {n : Nat} {x : Int} : x ∈ upL 0 n ↔ 0 ≤ x ∧ x < (n : Int) := by
  unfold upL
  rw [List.mem_map]
  constructor
  · rintro ⟨k, hk, rfl⟩
    have := List.mem_range.mp hk
    omega
  · intro h
    exact ⟨x.toNat, List.mem_range.mpr (by omega), by omega⟩
theorem turn_set {n : Nat} {h : List Int} {p : Nat} (hn : h.length = n) (hp : p < n) : turnL (rowR n) h [(p : Int)] = h.set p (lessN (h.take p) (nth h p) : Int) := by
  refine nth_ext (by rw [row_turnLen, List.length_set, hn]) fun i hi => ?_
  rw [row_turnLen] at hi
  rw [row_turn hn hi]
  by_cases c : i = p
  · subst c
    rw [if_pos (List.mem_singleton_self _), lessN_take h (by omega)]
    generalize (cntL h i (nth h i) : Int) = z
    show z = (h.set i z).getD ((i : Int)).toNat 0
    rw [Int.toNat_natCast, List.getD_eq_getElem?_getD, List.getElem?_set_self (by omega)]
    rfl
  · rw [if_neg (by rw [List.mem_singleton]; omega)]
    unfold nth
    rw [Int.toNat_natCast, List.getD_eq_getElem?_getD, List.getD_eq_getElem?_getD, List.getElem?_set_ne (by omega)]
section
variable {P : Program} {w : World} {K : PySem.W.Frag} {mg : Str → Option Value} {base : Heap}
def spStop : Sp := fun vs H Q _ => ∃ (l : Addr) (ss : List Int) (v r : Int), vs = [.ref l, .int v] ∧ H l = some (.lst (ss.map V.int)) ∧ ss.length ≤ 900 ∧ r ∈ ss ∧ v ≤ r ∧ (∀ y ∈ ss, v ≤ y → r ≤ y) ∧ ∀ H', Same H H' → Q (.int r) H'
theorem ok_stop (T : Txt K mg w) : FnOk P w K mg base CX0 1 T.f_stop T.fd_stop p_stop spStop := by
  refine T.F_stop.ok sc_stop (fun vs H Q E h0 => ?_) (fun cdv A outer s H vs Q E hr h0 => ?_)
  · obtain ⟨l, ss, v, r, rfl, _⟩ := h0
    rfl
  · obtain ⟨l, ss, v, r, rfl, hl, ls, r1, r2, r3, q⟩ := h0
    refine ⟨_, (pss_one (ps_ret (pe_callB (cr_min rfl) (by rfl) T.m_min (by decide +kernel) (pa_cons (pe_lc (own := [("_law_stop_here", 2)]) (g := gName 2) (by rfl) sc_stop.nd (pi_list (pv 0)) (blkOk_by (own := [("_law_stop_here", 2)]) (N := n_stop) (sc := defScope s_stop) (by decide +kernel)) (fun _ _ _ _ _ => (pg_name (i := 2) sc_stop.nd rfl (.inl rfl) (.inr rfl))) (fun _ _ _ _ _ => (pts_one (pt_cmpR op_ge (pv 2) (pv 1) (nomark _)))) (fun _ _ _ _ _ => (pv 2))) pa_nil)))), ?_⟩
    refine ⟨.ref l, rfl, l, rfl, ⟨_, .inl (.inl hl)⟩, fun D hD => ?_⟩
    refine lc_filt (walk_list (xs := ss.map V.int)) (fun i => decide (ss.getD i 0 ≥ v)) (fun i => .int (ss.getD i 0)) hD (by rw [List.length_map]; omega) (fun H3 s3 => .inl (.inl (s3 _ _ hl))) ?_ ?_
    · rintro i y H3 H4 hi s3 ⟨rfl, hy⟩ Q' Z hQ hZ
      rw [List.length_map] at hi
      rw [List.getElem?_map, List.getElem?_eq_getElem hi] at hy
      cases hy
      rw [getD_inR hi] at hQ hZ
      refine ⟨rfl, .int ss[i], rfl, .int v, rfl, _, _, rfl, rfl, _, rfl, ite2 (fun z => ?_) (fun z => ?_)⟩
      · exact ⟨.int ss[i], rfl, hQ z _ (Same.refl _)⟩
      · exact hZ (Bool.eq_false_iff.mpr z) _ (Same.refl _)
    intro H3 s3 h3
    rw [List.length_map, filt_rangeR _ (fun o => decide (o ≥ v)) V.int] at h3
    refine ⟨D, _, rfl, .inl (.inl h3), List.length_pos_of_mem (List.mem_filter.mpr ⟨r1, decide_eq_true r2⟩), fun m m1 m2 => ?_⟩
    have h1 := m2 r (List.mem_filter.mpr ⟨r1, decide_eq_true r2⟩)
    obtain ⟨h2, h4⟩ := List.mem_filter.mp m1
    have h5 := r3 m h2 (of_decide_eq_true h4)
    rw [show m = r by omega]
    exact q H3 s3
def spSwept66 : Sp := fun vs H Q _ => ∃ (t : Addr) (n : Nat) (f : Int), vs = [.ref t] ∧ 3 ≤ n ∧ n ≤ 30 ∧ 10 ≤ f ∧ TupAt H t ((fst66 n f).map V.int) ∧ ∀ (t2 : Addr) (H' : Hp), Same H H' → TupAt H' t2 ((std66 n (s66 n f) ((n : Int) - 1)).map V.int) → Q (.ref t2) H'
set_option maxHeartbeats 2000000 in
theorem ok_swept (T : Txt K mg w) : FnOk P w K mg base CX0 2 T.f_swept T.fd_swept p_swept spSwept66 := by
  have G_stop := ok_stop (P := P) (w := w) (base := base) T
  refine T.F_swept.ok sc_swept (fun vs H Q E h0 => ?_) (fun cdv A outer s H vs Q E hr h0 => ?_)
  · obtain ⟨t, n, f, rfl, _⟩ := h0
    rfl
  · obtain ⟨t, n, f, rfl, n3, n30, f10, ht, q⟩ := h0
    have lfs := fst_len (f := f) n3
    have lst := std_len (s := s66 n f) (k := (n : Int) - 1) n3
    have s0 : 0 ≤ s66 n f := by unfold s66; omega
    have s1 : s66 n f ≤ (n : Int) - 2 := by unfold s66; omega
    refine ⟨_, (pss_cons (ps_par (i := 1) (j := 2) (by rfl) sc_swept.nd rfl rfl (by decide) rfl rfl (pa_cons (pe_lst pa_nil) (pa_cons (pe_lst (pa_cons pe_int pa_nil)) pa_nil)) (by rfl))
      (pss_cons (ps_for PassesOwn.never rfl (pi_enumT (by rfl) T.m_enumerate (pa_cons (pv 0) pa_nil)) (pg_tup rfl (pgs_cons (pg_name (i := 3) sc_swept.nd rfl (.inl rfl)) (pgs_cons (pg_name (i := 4) sc_swept.nd rfl (.inl rfl)) pgs_nil)))
        (pss_cons (ps_set (i := 5) sc_swept.nd rfl (.inr rfl) (pe_call G_stop (hr.mono (by decide)) (by rfl) T.g_stop T.F_stop.kp T.b_stop .nil pass0 (pa_cons (pv 2) (pa_cons (pe_callB (call_min2 rfl) (by rfl) T.m_min (by decide +kernel) (pa_cons (pv 4) (pa_cons (pv 3) pa_nil))) pa_nil))))
        (pss_one (ps_par (i := 1) (j := 2) (by rfl) sc_swept.nd rfl rfl (by decide) rfl rfl (pa_cons (pe_op op_cat (pv 1) (pe_lst (pa_cons (pv 5) pa_nil))) (pa_cons (pe_op op_cat (pe_lc (own := [("_law_stop_here", 6)]) (g := gName 6) (by rfl) sc_swept.nd (pi_list (pv 2)) (blkOk_by (own := [("_law_stop_here", 6)]) (N := n_swept) (sc := defScope s_swept) (by decide +kernel)) (fun _ _ _ _ _ => (pg_name (i := 6) sc_swept.nd rfl (.inl rfl) (.inr rfl))) (fun _ _ _ _ _ => (pts_one (pt_cmpR op_le (pv 6) (pv 5) (nomark _)))) (fun _ _ _ _ _ => (pv 6))) (pe_lst (pa_cons (pe_op op_add (pv 3) pe_int) pa_nil))) pa_nil)) (by rfl)))))
      (pss_one (ps_ret (pe_callTy call_tuple_of (by rfl) T.m_tuple (by decide +kernel) (pa_cons (pv 1) pa_nil)))))), ?_⟩
    refine ⟨Nat.zero_le _, fun fo0 nfo0 => ⟨by show 1 ≤ sizeLine; decide, fun g0 ng0 => ?_⟩⟩
    have sf := same_upd (o := .lst []) nfo0
    have sg0 := same_upd (o := .lst [.int 0]) ng0
    refine ⟨_, _, rfl, ?_⟩
    refine ⟨.ref t, rfl, t, _, rfl, ((ht.keep (Keep.same sf)).keep (Keep.same sg0)).sq, ?_⟩
    refine for_it (walk_enumT (xs := (fst66 n f).map V.int)) (fun k σ H5 => ∃ (fo g : Addr) (S : List Int) (y3 y4 y5 y6 : Option V), σ = [some (.ref t), some (.ref fo), some (.ref g), y3, y4, y5, y6] ∧ Same H H5 ∧ H5 fo = some (.lst (((std66 n (s66 n f) ((n : Int) - 1)).take k).map V.int)) ∧ H5 g = some (.lst (S.map V.int)) ∧ S.length ≤ k + 1 ∧ (k ≤ n - 2 → ∀ x, x ∈ S ↔ 0 ≤ x ∧ x ≤ (k : Int)) ∧ (k = n - 1 → ∀ x, x ∈ S ↔ (0 ≤ x ∧ x ≤ s66 n f) ∨ x = (n : Int) - 1))
      ⟨fo0, g0, [0], none, none, none, none, rfl, sf.trans sg0, sg0 _ _ upd_same, upd_same, Nat.le_refl _, fun _ x => by rw [List.mem_singleton]; omega, fun h => absurd h (by omega)⟩ ?_ ?_ ?_
    · rintro k σ H5 _ ⟨fo, g, S, y3, y4, y5, y6, rfl, s5, _⟩
      exact (ht.keep (Keep.same s5)).sq
    · rintro k y σ H5 H6 hk ⟨fo, g, S, y3, y4, y5, y6, rfl, s5, hfo, hg, lS, m1, m2⟩ ⟨u, x1, x2, rfl, nu, rfl, e1, e2⟩
      rw [List.length_map, lfs] at hk
      have e1' : x1 = .int (k : Nat) := (Option.some.inj e1).symm
      have e2' : x2 = .int (nth (fst66 n f) k) := by
        have h1 := nth_get (ns := fst66 n f) (p := (k : Int)) (by omega) (by omega)
        rw [Int.toNat_natCast] at h1
        exact Option.some.inj (e2.symm.trans h1)
      subst e1' e2'
      have sU := same_upd (o := .tup [.int (k : Nat), .int (nth (fst66 n f) k)]) nu
      refine ⟨u, _, rfl, .inl (.inl upd_same), rfl, _, _, rfl, _, _, rfl, rfl, ?_⟩
      simp only [List.set_cons_zero, List.set_cons_succ]
      have hgU := sU _ _ hg
      obtain ⟨v, hv⟩ : ∃ v, v = (if (k : Int) < nth (fst66 n f) k then (k : Int) else nth (fst66 n f) k) := ⟨_, rfl⟩
      obtain ⟨r, hr'⟩ : ∃ r, r = nth (std66 n (s66 n f) ((n : Int) - 1)) k := ⟨_, rfl⟩
      have cond : r ∈ S ∧ v ≤ r ∧ (∀ y ∈ S, v ≤ y → r ≤ y) ∧ (k ≤ n - 2 → r ≤ k) ∧ 0 ≤ r ∧ (k ≤ n - 3 → r = k) ∧ (k = n - 2 → r = s66 n f) := by
        rcases (by omega : k < n - 2 ∨ k = n - 2 ∨ k = n - 2 + 1) with c | c | c
        · have g1 : nth (fst66 n f) k = f + k := up_nth c
          have g2 : nth (std66 n (s66 n f) ((n : Int) - 1)) k = 0 + k := up_nth c
          rw [g1, if_pos (by omega)] at hv
          rw [g2] at hr'
          refine ⟨(m1 (by omega) r).mpr (by omega), by omega, fun y hy h => ?_, by omega, by omega, by omega, by omega⟩
          omega
        · subst c
          have g1 : nth (fst66 n f) (n - 2 : Nat) = f - 5 := up_nth1
          have g2 : nth (std66 n (s66 n f) ((n : Int) - 1)) (n - 2 : Nat) = s66 n f := up_nth1
          rw [g1] at hv
          rw [g2] at hr'
          have ev : v = s66 n f := by
            rw [hv]
            unfold s66
            by_cases z : ((n - 2 : Nat) : Int) < f - 5
            · rw [if_pos z]; omega
            · rw [if_neg z]; omega
          refine ⟨(m1 (by omega) r).mpr (by omega), by omega, fun y hy h => by omega, by omega, by omega, by omega, fun _ => hr'⟩
        · subst c
          have g1 : nth (fst66 n f) (n - 2 + 1 : Nat) = f - 3 := up_nth2
          have g2 : nth (std66 n (s66 n f) ((n : Int) - 1)) (n - 2 + 1 : Nat) = (n : Int) - 1 := up_nth2
          rw [g1] at hv
          rw [g2] at hr'
          have ev : s66 n f < v ∧ v ≤ (n : Int) - 1 := by
            rw [hv]
            unfold s66
            by_cases z : ((n - 2 + 1 : Nat) : Int) < f - 3
            · rw [if_pos z]; omega
            · rw [if_neg z]; omega
          refine ⟨(m2 (by omega) r).mpr (.inr hr'), by omega, fun y hy h => ?_, by omega, by omega, by omega, by omega⟩
          rcases (m2 (by omega) y).mp hy with z | z <;> omega
      obtain ⟨c1, c2, c3, c4, c5, c6, c7⟩ := cond
      refine ⟨.ref g, rfl, .int (nth (fst66 n f) k), rfl, .int (k : Nat), rfl, _, _, rfl, ?_⟩
      rw [← hv]
      refine ⟨g, S, v, r, rfl, hgU, by omega, c1, c2, c3, fun H7 s7 => ?_⟩
      refine gname_step ?_
      simp only [List.set_cons_zero, List.set_cons_succ]
      have hg7 := s7 _ _ hgU
      have hfo7 := s7 _ _ (sU _ _ hfo)
      refine ⟨.ref fo, rfl, .int r, rfl, by show 1 ≤ sizeLine; decide, fun l1 nl1 => ?_⟩
      have sl1 := same_upd (o := .lst [.int r]) nl1
      refine ⟨fo, l1, _, _, rfl, rfl, sl1 _ _ hfo7, upd_same, Nat.le_of_lt (small1000 (by rw [List.length_map, List.length_take, lst]; show _ + 1 ≤ 1000; omega)), fun fo2 nfo2 => ?_⟩
      have sfo2 := same_upd (o := .lst (((std66 n (s66 n f) ((n : Int) - 1)).take k).map V.int ++ [.int r])) nfo2
      have hfo2 : (upd (upd H7 l1 (.lst [.int r])) fo2 (.lst (((std66 n (s66 n f) ((n : Int) - 1)).take k).map V.int ++ [.int r]))) fo2 = some (.lst (((std66 n (s66 n f) ((n : Int) - 1)).take (k + 1)).map V.int)) := by
        rw [upd_same, take_snoc (by omega), ← hr', List.map_append]
        rfl
      have hg8 := sfo2 _ _ (sl1 _ _ hg7)
      have sA := sl1.trans sfo2
      generalize upd (upd H7 l1 (.lst [.int r])) fo2 (.lst (((std66 n (s66 n f) ((n : Int) - 1)).take k).map V.int ++ [.int r])) = H8 at hfo2 hg8 sA ⊢
      refine ⟨.ref g, rfl, g, rfl, ⟨_, .inl (.inl hg8)⟩, fun D hD => ?_⟩
      refine lc_filt (walk_list (xs := S.map V.int)) (fun i => decide (S.getD i 0 ≤ r)) (fun i => .int (S.getD i 0)) hD (by rw [List.length_map]; omega) (fun H3 s3 => .inl (.inl (s3 _ _ hg8))) ?_ ?_
      · rintro i y H3 H4 hi s3 ⟨rfl, hy⟩ Q' Z hQ hZ
        rw [List.length_map] at hi
        rw [List.getElem?_map, List.getElem?_eq_getElem hi] at hy
        cases hy
        rw [getD_inR hi] at hQ hZ
        refine ⟨rfl, .int S[i], rfl, .int r, rfl, _, _, rfl, rfl, _, rfl, ite2 (fun z => ?_) (fun z => ?_)⟩
        · exact ⟨.int S[i], rfl, hQ z _ (Same.refl _)⟩
        · exact hZ (Bool.eq_false_iff.mpr z) _ (Same.refl _)
      intro H9 s9 h9
      rw [List.length_map, filt_rangeR _ (fun o => decide (o ≤ r)) V.int] at h9
      refine ⟨.int (k : Nat), rfl, _, _, rfl, rfl, by show 1 ≤ sizeLine; decide, fun l2 nl2 => ?_⟩
      have sl2 := same_upd (o := .lst [.int ((k : Int) + 1)]) nl2
      have lf := List.length_filter_le (fun o => decide (o ≤ r)) S
      refine ⟨D, l2, _, _, rfl, rfl, sl2 _ _ h9, upd_same, Nat.le_of_lt (small1000 (by rw [List.length_map]; show _ + 1 ≤ 1000; omega)), fun g2 ng2 => ?_⟩
      have sg2 := same_upd (o := .lst ((S.filter fun o => decide (o ≤ r)).map V.int ++ [.int ((k : Int) + 1)])) ng2
      refine ⟨_, _, rfl, ?_⟩
      have memN : ∀ x, x ∈ S.filter (fun o => decide (o ≤ r)) ++ [(k : Int) + 1] ↔ (x ∈ S ∧ x ≤ r) ∨ x = (k : Int) + 1 := fun x => by
        rw [List.mem_append, List.mem_filter, List.mem_singleton, decide_eq_true_iff]
      refine ⟨fo2, g2, S.filter (fun o => decide (o ≤ r)) ++ [(k : Int) + 1], _, _, _, _, rfl, ((s5.trans sU).trans s7).trans (sA.trans (s9.trans (sl2.trans sg2))), sg2 _ _ (sl2 _ _ (s9 _ _ hfo2)), by rw [upd_same, List.map_append]; rfl, by rw [List.length_append]; show _ + 1 ≤ _; omega, fun h x => ?_, fun h x => ?_⟩
      · rw [memN, m1 (by omega) x]
        have := c6 (by omega)
        omega
      · rw [memN, m1 (by omega) x]
        have := c7 (by omega)
        have := c4 (by omega)
        omega
    · rintro σ H5 ⟨fo, g, S, y3, y4, y5, y6, rfl, s5, hfo, _⟩
      rw [List.length_map, lfs, List.take_of_length_le (by omega)] at hfo
      refine ⟨.ref fo, rfl, fo, _, rfl, .inl ⟨.inl (.inl hfo), fun t2 nt2 => ?_⟩⟩
      exact q t2 _ (s5.trans (same_upd nt2)) (.inl upd_same)
def spBackDue : Sp := fun vs H Q _ => ∃ (n : Nat) (f : Int), vs = [.int n, .int f] ∧ 3 ≤ n ∧ n ≤ 30 ∧ 10 ≤ f ∧ ∀ (t2 : Addr) (H' : Hp), Same H H' → TupAt H' t2 ((std66 n 0 ((n : Int) - 1)).map V.int) → Q (.ref t2) H'
set_option maxHeartbeats 2000000 in
theorem ok_back_due (T : Txt K mg w) : FnOk P w K mg base CX0 1 T.f_back_due T.fd_back_due p_back_due spBackDue := by
  refine T.F_back_due.ok sc_back_due (fun vs H Q E h0 => ?_) (fun cdv A outer s H vs Q E hr h0 => ?_)
  · obtain ⟨n, f, rfl, _⟩ := h0
    rfl
  · obtain ⟨n, f, rfl, n3, n30, f10, q⟩ := h0
    have lfs := fst_len (f := f) n3
    refine ⟨_, (pss_cons (ps_set (i := 2) sc_back_due.nd rfl (.inr rfl) (pe_op op_cat (pe_lc (own := [("_law_one", 3)]) (g := gName 3) (by rfl) sc_back_due.nd (pi_range1 (by rfl) T.m_range (pa_cons (pe_op op_sub (pv 0) pe_int) pa_nil)) (blkOk_by (own := [("_law_one", 3)]) (N := n_back_due) (sc := defScope s_back_due) (by decide +kernel)) (fun _ _ _ _ _ => (pg_name (i := 3) sc_back_due.nd rfl (.inl rfl) (.inr rfl))) (fun _ _ _ _ _ => pts_nil) (fun _ _ _ _ _ => (pe_op op_add (pv 1) (pv 3)))) (pe_lst (pa_cons (pe_op op_sub (pv 1) pe_int) (pa_cons (pe_op op_sub (pv 1) pe_int) pa_nil)))))
      (pss_cons (ps_for PassesOwn.never rfl (pi_range1 (by rfl) T.m_range (pa_cons (pe_op op_add (pv 0) pe_int) pa_nil)) (pg_name (i := 4) sc_back_due.nd rfl (.inl rfl))
        (pss_one (ps_for PassesOwn.never rfl (pi_list (pe_revL (pe_listRg (by rfl) (by rfl) T.m_list (prg_1 (by rfl) T.m_range (pv 0))))) (pg_name (i := 3) sc_back_due.nd rfl (.inr rfl))
          (pss_one (ps_asg (pe_callB call_len_seq (by rfl) T.m_len (by decide +kernel) (pa_cons (pe_lc (own := [("_law_number", 5)]) (g := gName 5) (by rfl) sc_back_due.nd (pi_list (pe_slice sl_list (pv 2) po_none (po_some (pv 3)))) (blkOk_by (own := [("_law_number", 5)]) (N := n_back_due) (sc := defScope s_back_due) (by decide +kernel)) (fun _ _ _ _ _ => (pg_name (i := 5) sc_back_due.nd rfl (.inl rfl) (.inr rfl))) (fun _ _ _ _ _ => (pts_one (pt_cmpR op_lt (pv 5) (pe_ix (r := rIxL K) ix_list (pv 2) (pv 3) (fun _ _ => rfl)) (nomark _)))) (fun _ _ _ _ _ => (pv 5))) pa_nil)) (pg_sub (pv 2) (pv 3) set_list))))))
      (pss_one (ps_ret (pe_callTy call_tuple_of (by rfl) T.m_tuple (by decide +kernel) (pa_cons (pv 2) pa_nil)))))), ?_⟩
    refine ⟨.int n, rfl, _, _, rfl, rfl, _, rfl, by omega, by omega, fun D hD => ?_⟩
    refine lc_map walk_range (fun k => .int (f + (k : Nat))) hD (by omega) (fun _ _ => trivial) ?_ ?_
    · rintro k v H3 H4 hk s3 ⟨rfl, rfl⟩ Q' Z hQ
      refine ⟨rfl, yes (iteT ?_)⟩
      rw [← Int.zero_add (k : Int)] at hQ
      exact ⟨.int f, rfl, .int (0 + k), rfl, _, _, rfl, rfl, hQ _ (Same.refl _)⟩
    intro H3 s3 h3
    rw [show ((n : Int) - 2).toNat = n - 2 by omega] at h3
    refine ⟨.int f, rfl, _, _, rfl, rfl, .int f, rfl, _, _, rfl, rfl, by show 2 ≤ sizeLine; decide, fun l1 nl1 => ?_⟩
    have sl1 := same_upd (o := .lst [.int (f - 5), .int (f - 3)]) nl1
    refine ⟨D, l1, _, _, rfl, rfl, sl1 _ _ h3, upd_same, Nat.le_of_lt (small1000 (by rw [List.length_map, List.length_range]; show n - 2 + 2 ≤ 1000; omega)), fun g ng => ?_⟩
    have eg : (List.range (n - 2)).map (fun k : Nat => V.int (f + (k : Nat))) ++ [V.int (f - 5), V.int (f - 3)] = (fst66 n f).map V.int := by
      unfold fst66 upL
      rw [List.map_append, List.map_map]
      rfl
    have sg := same_upd (o := .lst ((List.range (n - 2)).map (fun k : Nat => V.int (f + (k : Nat))) ++ [V.int (f - 5), V.int (f - 3)])) ng
    have hg : (upd (upd H3 l1 (.lst [.int (f - 5), .int (f - 3)])) g (.lst ((List.range (n - 2)).map (fun k : Nat => V.int (f + (k : Nat))) ++ [V.int (f - 5), V.int (f - 3)]))) g = some (.lst ((fst66 n f).map V.int)) := by rw [upd_same, eg]
    have s0 : Same H (upd (upd H3 l1 (.lst [.int (f - 5), .int (f - 3)])) g (.lst ((List.range (n - 2)).map (fun k : Nat => V.int (f + (k : Nat))) ++ [V.int (f - 5), V.int (f - 3)]))) := s3.trans (sl1.trans sg)
    have ngH : H g = none := (s3.trans sl1).free ng
    generalize upd (upd H3 l1 (.lst [.int (f - 5), .int (f - 3)])) g (.lst ((List.range (n - 2)).map (fun k : Nat => V.int (f + (k : Nat))) ++ [V.int (f - 5), V.int (f - 3)])) = H4 at hg s0 ⊢
    refine gname_step ?_
    show tSeq _ _ _ [some (.int n), some (.int f), some (.ref g), none, none, none] _
    have erg : rgV 0 ((n : Nat) : Int) = ((List.range n).map fun k : Nat => (k : Int)).map V.int := by rw [rg_ints, show ((n : Nat) : Int).toNat = n by omega]
    refine ⟨.int n, rfl, _, _, rfl, rfl, _, rfl, by omega, by omega, ?_⟩
    refine for_it walk_range (fun k σ H5 => ∃ y3 y4 y5 : Option V, σ = [some (.int n), some (.int f), some (.ref g), y3, y4, y5] ∧ Same H H5 ∧ H5 g = some (.lst ((seqL (rowR n) (fst66 n f) (lotsQ (backQ n)) (k * n)).map V.int))) ⟨_, _, _, rfl, s0, by rw [Nat.zero_mul]; exact hg⟩ (fun _ _ _ _ _ => trivial) ?_ ?_
    · rintro k v σ H5 H5' hk ⟨y3, y4, y5, rfl, s5, hg5⟩ ⟨rfl, rfl⟩
      refine gname_step ?_
      simp only [List.set_cons_zero, List.set_cons_succ]
      refine ⟨.int n, rfl, _, rfl, RgOk.of_le (by omega) (by omega) (by omega) (by omega), fun pa npa => ?_⟩
      have spa := same_upd (o := .lst (rgV 0 (n : Int))) npa
      have hpa : (upd H5' pa (.lst (rgV 0 (n : Int)))) pa = some (.lst (((List.range n).map fun k : Nat => (k : Int)).map V.int)) := by rw [upd_same, erg]
      have hg6 := spa _ _ hg5
      have s6 := s5.trans spa
      generalize upd H5' pa (.lst (rgV 0 (n : Int))) = H6 at spa hpa hg6 s6 ⊢
      refine ⟨pa, _, rfl, .inl (.inl hpa), fun pb npb => ?_⟩
      have spb := same_upd (o := .lst (((List.range n).map fun k : Nat => (k : Int)).map V.int).reverse) npb
      have hpb : (upd H6 pb (.lst (((List.range n).map fun k : Nat => (k : Int)).map V.int).reverse)) pb = some (.lst ((backQ n).map V.int)) := by rw [upd_same, backQ, List.map_reverse]
      have hg7 := spb _ _ hg6
      have s7 := s6.trans spb
      have ngpb : g ≠ pb := ne_of_none hg6 npb
      generalize upd H6 pb (.lst (((List.range n).map fun k : Nat => (k : Int)).map V.int).reverse) = H7 at hpb hg7 s7 ⊢
      refine ⟨pb, rfl, ⟨_, .inl (.inl hpb)⟩, ?_⟩
      refine for_it (walk_list (xs := (backQ n).map V.int)) (fun j σ H8 => ∃ y3 y5 : Option V, σ = [some (.int n), some (.int f), some (.ref g), y3, some (.int (0 + (k : Int))), y5] ∧ Same H H8 ∧ H8 pb = some (.lst ((backQ n).map V.int)) ∧ H8 g = some (.lst ((seqL (rowR n) (fst66 n f) (lotsQ (backQ n)) (k * n + j)).map V.int))) ⟨y3, y5, rfl, s7, hpb, hg7⟩ (fun _ _ _ _ ⟨_, _, _, _, h, _⟩ => .inl (.inl h)) ?_ ?_
      · rintro j y σ H8 H8' hj ⟨z3, z5, rfl, s8, hb8, hg8⟩ ⟨rfl, hy⟩
        rw [List.length_map, backQ_len] at hj
        have lq := backQ_len n
        have eq := backQ_get (n := n) (j := j) hj
        rw [List.getElem?_map, List.getElem?_eq_getElem (by omega), eq] at hy
        cases hy
        obtain ⟨p, hp⟩ : ∃ p : Nat, n - 1 - j = p := ⟨_, rfl⟩
        rw [hp] at eq ⊢
        have pn : p < n := by omega
        have lh := rowL_len lfs (lotsQ (backQ n)) (k * n + j)
        have hm : (k * n + j) % (backQ n).length = j := by rw [lq, Nat.mul_comm, Nat.mul_add_mod, Nat.mod_eq_of_lt (by omega)]
        have e : (backQ n)[(k * n + j) % (backQ n).length]'(Nat.mod_lt _ (by omega)) = (p : Int) := by
          simp only [hm]
          exact eq
        have next : seqL (rowR n) (fst66 n f) (lotsQ (backQ n)) (k * n + (j + 1)) = (seqL (rowR n) (fst66 n f) (lotsQ (backQ n)) (k * n + j)).set p (lessN ((seqL (rowR n) (fst66 n f) (lotsQ (backQ n)) (k * n + j)).take p) (nth (seqL (rowR n) (fst66 n f) (lotsQ (backQ n)) (k * n + j)) p) : Int) := by
          rw [show k * n + (j + 1) = k * n + j + 1 from rfl, seqL_one (by omega), e, turn_set lh pn]
        rw [next]
        clear next e hm
        generalize seqL (rowR n) (fst66 n f) (lotsQ (backQ n)) (k * n + j) = h at hg8 lh ⊢
        refine gname_step ?_
        simp only [List.set_cons_zero, List.set_cons_succ]
        have atp : (h.map V.int)[p]? = some (.int (nth h p)) := by
          have h1 := nth_get (ns := h) (p := (p : Int)) (by omega) (by omega)
          rw [Int.toNat_natCast] at h1
          exact h1
        refine ⟨.ref g, rfl, ?_⟩
        dsimp only [tNoPart]
        refine ⟨.int p, rfl, _, rfl, g, _, rfl, .inl (.inl hg8), fun c nc => ?_⟩
        rw [cutV_id, cut_to _ _ (by rw [List.length_map]; omega), ← List.map_take]
        have sc := same_upd (o := .lst ((h.take p).map V.int)) nc
        have hc := upd_same (H := H8') (a := c) (o := HO.lst ((h.take p).map V.int))
        generalize upd H8' c (.lst ((h.take p).map V.int)) = H9 at sc hc ⊢
        have hg9 := sc _ _ hg8
        refine ⟨c, rfl, ⟨_, .inl (.inl hc)⟩, fun D2 hD2 => ?_⟩
        refine lc_filt (walk_list (xs := (h.take p).map V.int)) (fun i => decide ((h.take p).getD i 0 < nth h p)) (fun i => .int ((h.take p).getD i 0)) hD2 (by rw [List.length_map, List.length_take]; omega) (fun H3 s3 => .inl (.inl (s3 _ _ hc))) ?_ ?_
        · rintro i y H3 H4 hi s3 ⟨rfl, hy⟩ Q' Z hQ hZ
          rw [List.length_map] at hi
          rw [List.getElem?_map, List.getElem?_eq_getElem hi] at hy
          cases hy
          rw [getD_inR hi] at hQ hZ
          refine ⟨rfl, .int (h.take p)[i], rfl, .ref g, rfl, .int p, rfl, g, _, (p : Int), _, rfl, rfl, .inl (.inl (s3 _ _ hg9)), atI_nat atp, _, _, rfl, rfl, _, rfl, ite2 (fun z => ?_) (fun z => ?_)⟩
          · exact ⟨.int (h.take p)[i], rfl, hQ z _ (Same.refl _)⟩
          · exact hZ (Bool.eq_false_iff.mpr z) _ (Same.refl _)
        intro HA sA hA
        rw [List.length_map, filt_rangeR _ (fun o => decide (o < nth h p)) V.int] at hA
        refine ⟨D2, _, rfl, .inl (.inl (.inl hA)), ?_⟩
        rw [List.length_map]
        have hgA := sA _ _ hg9
        refine ⟨.ref g, rfl, .int p, rfl, g, _, _, p, rfl, rfl, hgA, ixN_at (by rw [List.length_map]; omega), ?_⟩
        refine ⟨_, _, rfl, same_mut ((s8.trans sc).trans sA) ngH, by rw [upd_ne ngpb.symm]; exact sA _ _ (sc _ _ hb8), ?_⟩
        rw [upd_same, List.map_set]
        rfl
      · rintro σ H8 ⟨z3, z5, rfl, s8, hb8, hg8⟩
        rw [List.length_map, backQ_len] at hg8
        refine ⟨_, _, _, rfl, s8, ?_⟩
        rw [Nat.succ_mul]
        exact hg8
    · rintro σ H5 ⟨y3, y4, y5, rfl, s5, hg5⟩
      have en : seqL (rowR n) (fst66 n f) (lotsQ (backQ n)) (((n : Int) + 1).toNat * n) = std66 n 0 ((n : Int) - 1) := by
        rw [back_round (by omega) lfs, show ((n : Int) + 1).toNat = n + 1 by omega, fst_beats n3]
        congr 1
        omega
      rw [en] at hg5
      refine ⟨.ref g, rfl, g, _, rfl, .inl ⟨.inl (.inl hg5), fun t2 nt2 => ?_⟩⟩
      exact q t2 _ (s5.trans (same_upd nt2)) (.inl upd_same)
end
end Lh

namespace Lh
open PySem PySem.Spec PyProof.Rows L2
section
variable {X : Cx}
/-- set(numbers) of a tuple of ints -/
def rSetT (K : PySem.W.Frag) (w : World) : List V → Hp → VK → Prop := fun xs H Q => ∃ (a : Addr) (ns : List Int), xs = [.ref a] ∧ SqT K H a (ns.map V.int) ∧ ns.length ≤ 1000 ∧
  ∀ (p : Addr) (c : Nat) (ks : List Int), H p = none → ks.Nodup → ks.length = c → c ≤ ns.length → (∀ k, k ∈ ks ↔ k ∈ ns) → Q (.ref p) (upd H p (SetO w p (fun j => decide (j ∈ ns)) c))
theorem cr_setT (hc : X.calm = true) : CallR X (.type "set") (rSetT X.K X.w) := by
  intro pins s σ H xs us Q I r h
  obtain ⟨a, ns, rfl, hs, hl, q⟩ := h
  obtain ⟨its, rv, pl, _⟩ := I.tuple hs
  rw [Vals.ref1 r]
  refine call_set_tupI ns (I.ok.hd hc) pl (by simpa using RZ.intsAre_vals rv) (by unfold scanBound; omega) ?_
  intro h' tk c R hle hk
  have R' := R
  obtain ⟨o, es, ep, t, ho, _, _, _, nd, hm, _, _, hn, _⟩ := R'
  refine ⟨.ref s.heap.objs.size, upd H s.heap.objs.size (SetO X.w s.heap.objs.size (fun j => decide (j ∈ ns)) c), I.laid (t' := tk) hk (Nat.le_refl _) (setO_new R), rfl, ?_⟩
  refine q _ c (es.toList.map keyOf) (I.hok.fresh (Nat.le_refl _)) nd (by rw [List.length_map, Array.length_toList]; exact hn) hle fun k => ?_
  rw [← hm k]
  exact decide_eq_true_iff
end
section
variable {P : Program} {w : World} {K : PySem.W.Frag} {mg : Str → Option Value} {base : Heap}
def spKeepsLine (C : Addr) : Sp := fun vs H Q _ => ∃ (x st : Addr) (p : Nat) (h : Int) (rs : List Rule) (ns : List Int) (hp : p < rs.length), vs = [.ref x, .ref st, .int p, .int h] ∧ HallAt C H x rs ∧ Halls rs ∧ TupAt H st (ns.map V.int) ∧ ns.length = rs.length ∧
  ∀ H' : Hp, Same H H' → Q (.bl (keepB rs ns h p)) H'
theorem ok_keeps_line (T : Txt K mg w) : FnOk P w K mg base CX0 7 T.f_keeps_line T.fd_keeps_line p_keeps_line (spKeepsLine T.C_Hall) := by
  have G_told_at := ok_told_at (P := P) (w := w) (base := base) T
  have G_told_below := ok_told_below (P := P) (w := w) (base := base) T
  refine T.F_keeps_line.ok sc_keeps_line (fun vs H Q E h => ?_) (fun cdv A outer s H vs Q E hr h => ?_)
  · obtain ⟨x, st, p, h, rs, ns, hp, rfl, _⟩ := h
    rfl
  · obtain ⟨x, st, p, h, rs, ns, hp, rfl, hA, hh, hS, hn, q⟩ := h
    refine ⟨_, (pss_cons (ps_if (pt_cmpR op_lt (pe_ix ix_tup (pv 1) (pv 2) (fun _ _ => rfl)) (pv 3) (nomark _))
        (pss_one (ps_ret (pe_cmpR op_eq (pe_call G_told_at (hr.mono (by decide)) (by rfl) T.g_told_at T.F_told_at.kp T.b_told_at .nil pass0 (pa_cons (pv 0) (pa_cons (pv 1) (pa_cons (pv 2) pa_nil)))) (pe_ix ix_tup (pv 1) (pv 2) (fun _ _ => rfl)) (nomark _))))
        pss_nil)
      (pss_one (ps_ret (pe_cmpR op_ge (pe_call G_told_below (hr.mono (by decide)) (by rfl) T.g_told_below T.F_told_below.kp T.b_told_below .nil pass0 (pa_cons (pv 0) (pa_cons (pv 1) (pa_cons (pv 2) (pa_cons (pv 3) pa_nil))))) (pv 3) (nomark _))))), ?_⟩
    refine ⟨.ref st, rfl, .int p, rfl, st, _, _, _, rfl, rfl, hS.sq, nth_at (by omega) (by omega), .int h, rfl, _, _, rfl, rfl, _, rfl, ite2 (fun z => ?_) (fun z => ?_)⟩
    · have z' : nth ns p < h := of_decide_eq_true z
      refine ⟨.ref x, rfl, .ref st, rfl, .int p, rfl, x, st, p, rs, ns, hp, rfl, hA, hh, hS, hn, fun y H1 s1 tl => ?_⟩
      refine ⟨.ref st, rfl, .int p, rfl, st, _, _, _, rfl, rfl, (hS.keep (Keep.same s1)).sq, nth_at (by omega) (by omega), rfl, ?_⟩
      have ey := toldH_at hp tl
      have qq := q H1 s1
      unfold keepB at qq
      rw [if_pos z', ← ey] at qq
      refine blC ?_ qq
      by_cases c : y = nth ns p
      · rw [decide_eq_true c, decide_eq_true (by rw [c])]
      · rw [decide_eq_false c, decide_eq_false (fun z => c (V.int.inj z))]
    · have z' : ¬ nth ns p < h := fun y => by rw [decide_eq_true y] at z; exact absurd z (by simp)
      refine ⟨.ref x, rfl, .ref st, rfl, .int p, rfl, .int h, rfl, x, st, p, h, rs, ns, hp, rfl, hA, hh, hS, hn, fun y H1 s1 tl => ?_⟩
      have ey := toldH_of hp tl
      have qq := q H1 s1
      unfold keepB at qq
      rw [if_neg z', ← ey] at qq
      exact ⟨.int h, rfl, y, h, rfl, rfl, qq⟩
def spIsLine (C : Addr) : Sp := fun vs H Q _ => ∃ (x st : Addr) (h : Int) (rs : List Rule) (ns : List Int), vs = [.ref x, .ref st, .int h] ∧ HallAt C H x rs ∧ Halls rs ∧ TupAt H st (ns.map V.int) ∧ ns.length = rs.length ∧ 0 ≤ h ∧
  ∀ H' : Hp, Same H H' → Q (.bl (lineB rs ns h)) H'
set_option maxHeartbeats 1000000 in
theorem ok_is_line (T : Txt K mg w) : FnOk P w K mg base CX0 8 T.f_is_line T.fd_is_line p_is_line (spIsLine T.C_Hall) := by
  have G_is_number := ok_is_number (P := P) (w := w) (base := base) T
  have G_keeps_line := ok_keeps_line (P := P) (w := w) (base := base) T
  have G_Hall_len := ok_Hall_len (P := P) (w := w) (base := base) T
  refine T.F_is_line.ok sc_is_line (fun vs H Q E h => ?_) (fun cdv A outer s H vs Q E hr h => ?_)
  · obtain ⟨x, st, h, rs, ns, rfl, _⟩ := h
    rfl
  · obtain ⟨x, st, h, rs, ns, rfl, hA, hh, hS, hn, h0, q⟩ := h
    obtain ⟨dx, t0, vs0, hx, ht0, hv0⟩ := id hA
    have r1 := hh.2.1
    refine ⟨_, (pss_cons (ps_if (pt_not (pt_val (pe_call G_is_number (hr.mono (by decide)) (by rfl) T.g_is_number T.F_is_number.kp T.b_is_number .nil pass0 (pa_cons (pv 2) pa_nil))))
        (pss_one (ps_ret pe_bl))
        pss_nil)
      (pss_one (ps_ret (pe_callB (cr_all rfl) (by rfl) T.m_all (by decide +kernel) (pa_cons (pe_lc (own := [("person", 3)]) (g := gName 3) (by rfl) sc_is_line.nd (pi_range1 (by rfl) T.m_range (pa_cons (pe_callB (run_len T.me_Hall_len G_Hall_len T.b_Hall_len (hr.mono (by decide))) (by rfl) T.m_len (by decide +kernel) (pa_cons (pv 0) pa_nil)) pa_nil)) (blkOk_by (own := [("person", 3)]) (N := n_is_line) (sc := defScope s_is_line) (by decide +kernel)) (fun _ _ _ _ _ => (pg_name (i := 3) sc_is_line.nd rfl (.inl rfl) (.inr rfl))) (fun _ _ _ _ _ => pts_nil) (fun _ _ _ _ _ => (pe_call G_keeps_line (hr.mono (by decide)) (by rfl) T.g_keeps_line T.F_keeps_line.kp T.b_keeps_line .nil pass0 (pa_cons (pv 0) (pa_cons (pv 1) (pa_cons (pv 3) (pa_cons (pv 2) pa_nil))))))) pa_nil))))), ?_⟩
    refine ⟨.int h, rfl, h, rfl, h0, _, rfl, iteN rfl ?_⟩
    refine ⟨.ref x, rfl, x, dx, _, rfl, hx, x, rs, rfl, hA, (rs.length : Int), rfl, by omega, Int.lt_of_le_of_lt (by omega : (rs.length : Int) ≤ 60) (by decide), _, rfl, by omega, by omega, fun D hD => ?_⟩
    refine lc_map walk_range (fun i => .bl (keepB rs ns h i)) hD (by omega) (fun _ _ => trivial) ?_ ?_
    · rintro i y H3 H4 hi s3 ⟨rfl, rfl⟩ Q' Z hQ
      have hi' : i < rs.length := by have : i < (rs.length : Int).toNat := hi; omega
      have zi : (0 : Int) + (i : Int) = i := Int.zero_add _
      refine ⟨rfl, yes (iteT ?_)⟩
      exact ⟨.ref x, rfl, .ref st, rfl, .int (0 + i), rfl, .int h, rfl, x, st, i, h, rs, ns, hi', by show [V.ref x, V.ref st, V.int (0 + (i : Int)), V.int h] = _; rw [zi], hA.keep s3, hh, hS.keep (Keep.same s3), hn, hQ⟩
    · intro H3 s3 h3
      rw [Int.toNat_natCast] at h3
      refine ⟨D, (List.range rs.length).map fun i => keepB rs ns h i, rfl, .inl (.inl (by rw [h3, List.map_map]; rfl)), ?_⟩
      have e : ((List.range rs.length).map fun i => keepB rs ns h i).all id = lineB rs ns h := by unfold lineB; rw [List.all_map]; rfl
      rw [e]
      exact q H3 s3
end
end Lh

namespace Lh
open PySem PySem.Spec PyProof.Rows L2
section
variable {P : Program} {w : World} {K : PySem.W.Frag} {mg : Str → Option Value} {base : Heap}
def spMostUp (C : Addr) : Sp := fun vs H Q _ => ∃ (x st : Addr) (h : Int) (rs : List Rule) (ns : List Int), vs = [.ref x, .ref st, .int h] ∧ HallAt C H x rs ∧ Halls rs ∧ TupAt H st (ns.map V.int) ∧ ns.length = rs.length ∧
  ∀ H' : Hp, Same H H' → Q (.int (topM rs ns h)) H'
set_option maxHeartbeats 1000000 in
theorem ok_most_up_to (T : Txt K mg w) : FnOk P w K mg base CX0 6 T.f_most_up_to T.fd_most_up_to p_most_up_to (spMostUp T.C_Hall) := by
  have G_told_below := ok_told_below (P := P) (w := w) (base := base) T
  refine T.F_most_up_to.ok sc_most_up_to (fun vs H Q E h => ?_) (fun cdv A outer s H vs Q E hr h => ?_)
  · obtain ⟨x, st, h, rs, ns, rfl, _⟩ := h
    rfl
  · obtain ⟨x, st, h, rs, ns, rfl, hA, hh, hS, hn, q⟩ := h
    have r1 := hh.2.1
    refine ⟨_, (pss_cons (ps_setLc (i := 3) (own := [("person", 4), ("shown", 5)]) (g := gTup K 2 (gCons (gName 4) (gCons (gName 5) gNil))) (by rfl) sc_most_up_to.nd rfl rfl (sw_true rfl rfl rfl (by decide +kernel)) (pi_enumT (by rfl) T.m_enumerate (pa_cons (pv 1) pa_nil)) (blkOk_by (own := [("person", 4), ("shown", 5)]) (N := n_most_up_to) (sc := defScope s_most_up_to) (by decide +kernel)) (fun _ _ _ _ _ => (pg_tup rfl (pgs_cons (pg_name (i := 4) sc_most_up_to.nd rfl (.inl rfl) (.inr rfl)) (pgs_cons (pg_name (i := 5) sc_most_up_to.nd rfl (.inl rfl) (.inr rfl)) pgs_nil)))) (fun _ _ _ _ _ => (pts_one (pt_cmpR op_ge (pv 5) (pv 2) (nomark _)))) (fun _ _ _ _ _ => (pe_call G_told_below (hr.mono (by decide)) (by rfl) T.g_told_below T.F_told_below.kp T.b_told_below .nil pass0 (pa_cons (pv 0) (pa_cons (pv 1) (pa_cons (pv 4) (pa_cons (pv 2) pa_nil)))))))
      (pss_one (ps_ret (pe_callB (cr_min rfl) (by rfl) T.m_min (by decide +kernel) (pa_cons (pe_lst (pa_cons (pv 2) (StX.pa_star (pv 3) pa_nil))) pa_nil))))), ?_⟩
    refine ⟨.ref st, rfl, st, _, rfl, hS.sq, fun D hD => ?_⟩
    refine lc_filt (walk_enumT (xs := ns.map V.int)) (fun p => decide (h ≤ nth ns p)) (fun p => .int (toldH rs ns p h)) hD (by rw [List.length_map]; omega) (fun H3 s3 => (hS.keep (Keep.same s3)).sq) ?_ ?_
    · rintro i y H3 H4 hi s3 ⟨u, x1, x2, rfl, nu, rfl, e1, e2⟩ Q' Z hQ hZ
      rw [List.length_map] at hi
      have hi' : i < rs.length := by omega
      have e1' : x1 = .int (i : Nat) := (Option.some.inj e1).symm
      have e2' : x2 = .int (nth ns i) := by
        have h1 := nth_get (ns := ns) (p := (i : Int)) (by omega) (by omega)
        rw [Int.toNat_natCast] at h1
        exact Option.some.inj (e2.symm.trans h1)
      subst e1' e2'
      have sU := same_upd (o := .tup [.int (i : Nat), .int (nth ns i)]) nu
      have s4 := s3.trans sU
      refine ⟨u, _, rfl, .inl (.inl upd_same), rfl, _, _, rfl, _, _, rfl, rfl, rfl, ?_⟩
      refine ⟨.int (nth ns i), rfl, .int h, rfl, _, _, rfl, rfl, _, rfl, ite2 (fun z => ?_) (fun z => ?_)⟩
      · refine ⟨.ref x, rfl, .ref st, rfl, .int (i : Nat), rfl, .int h, rfl, x, st, i, h, rs, ns, hi', rfl, hA.keep s4, hh, hS.keep (Keep.same s4), hn, fun y H1 s1 tl => ?_⟩
        rw [toldH_of hi' tl]
        exact hQ z H1 (sU.trans s1)
      · exact hZ (Bool.eq_false_iff.mpr z) _ sU
    · intro H3 s3 h3
      rw [List.length_map, hn] at h3
      have h3' : H3 D = some (.lst ((((List.range rs.length).filter fun p : Nat => decide (h ≤ nth ns p)).map fun p => toldH rs ns p h).map V.int)) := by rw [h3, List.map_map]; rfl
      refine ⟨.int h, rfl, .ref D, rfl, D, _, rfl, .inr (.inl (.inl h3')), ?_⟩
      have lk : (((List.range rs.length).filter fun p : Nat => decide (h ≤ nth ns p)).map fun p => toldH rs ns p h).length ≤ 60 := by
        rw [List.length_map]
        exact Nat.le_trans (List.length_filter_le _ _) (by rw [List.length_range]; exact r1)
      refine ⟨by show (V.int h :: (_ ++ [])).length ≤ sizeLine; rw [List.append_nil, List.length_cons, List.length_map]; exact Nat.le_of_lt (small1000 (by omega)), fun lb nlb => ?_⟩
      refine ⟨lb, topL rs ns h, rfl, .inl (.inl (by show upd _ lb (HO.lst (V.int h :: (_ ++ []))) lb = _; rw [upd_same, List.append_nil]; rfl)), by unfold topL; rw [List.length_cons]; omega, fun m h1 h2 => ?_⟩
      have em : m = topM rs ns h := IsMin.eq ⟨h1, h2⟩
      rw [em]
      exact q _ (s3.trans (same_upd nlb))
def spWaterline (C : Addr) : Sp := fun vs H Q _ => ∃ (x st : Addr) (rs : List Rule) (ns : List Int), vs = [.ref x, .ref st] ∧ HallAt C H x rs ∧ Halls rs ∧ TupAt H st (ns.map V.int) ∧ ns.length = rs.length ∧ (∀ n ∈ ns, 0 ≤ n) ∧
  ∀ (o : Option Int) (H' : Hp), Same H H' → Wl rs ns o → Q (vO o) H'
set_option maxHeartbeats 1000000 in
theorem ok_waterline (T : Txt K mg w) : FnOk P w K mg base CX0 9 T.f_waterline T.fd_waterline p_waterline (spWaterline T.C_Hall) := by
  have G_is_rest := ok_is_rest (P := P) (w := w) (base := base) T
  have G_most_up_to := ok_most_up_to (P := P) (w := w) (base := base) T
  have G_is_line := ok_is_line (P := P) (w := w) (base := base) T
  refine T.F_waterline.ok sc_waterline (fun vs H Q E h => ?_) (fun cdv A outer s H vs Q E hr h => ?_)
  · obtain ⟨x, st, rs, ns, rfl, _⟩ := h
    rfl
  · obtain ⟨x, st, rs, ns, rfl, hA, hh, hS, hn, pos, q⟩ := h
    have r1 := hh.2.1
    have bt := beatF_ok hn
    refine ⟨_, (pss_cons (ps_if (pt_val (pe_call G_is_rest (hr.mono (by decide)) (by rfl) T.g_is_rest T.F_is_rest.kp T.b_is_rest .nil pass0 (pa_cons (pv 0) (pa_cons (pv 1) pa_nil))))
        (pss_one (ps_ret pe_non))
        pss_nil)
      (pss_cons (ps_setLc (i := 2) (own := [("top", 3)]) (g := gName 3) (by rfl) sc_waterline.nd rfl rfl (sw_true rfl rfl rfl (by decide +kernel)) (pi_list (pe_callB (r := rSortedSet w) (cr_sortedSet rfl) (by rfl) T.m_sorted (by decide +kernel) (pa_cons (pe_callTy (r := rSetT K w) (cr_setT rfl) (by rfl) T.m_set (by decide +kernel) (pa_cons (pv 1) pa_nil)) pa_nil))) (blkOk_by (own := [("top", 3)]) (N := n_waterline) (sc := defScope s_waterline) (by decide +kernel)) (fun _ _ _ _ _ => (pg_name (i := 3) sc_waterline.nd rfl (.inl rfl) (.inr rfl))) (fun _ _ _ _ _ => pts_nil) (fun _ _ _ _ _ => (pe_call G_most_up_to (hr.mono (by decide)) (by rfl) T.g_most_up_to T.F_most_up_to.kp T.b_most_up_to .nil pass0 (pa_cons (pv 0) (pa_cons (pv 1) (pa_cons (pv 3) pa_nil))))))
      (pss_one (ps_ret (pe_callB (cr_max rfl) (by rfl) T.m_max (by decide +kernel) (pa_cons (pe_lc (own := [("number", 4)]) (g := gName 4) (by rfl) sc_waterline.nd (pi_list (pv 2)) (blkOk_by (own := [("number", 4)]) (N := n_waterline) (sc := defScope s_waterline) (by decide +kernel)) (fun _ _ _ _ _ => (pg_name (i := 4) sc_waterline.nd rfl (.inl rfl) (.inr rfl))) (fun _ _ _ _ _ => (pts_one (pt_val (pe_call G_is_line (hr.mono (by decide)) (by rfl) T.g_is_line T.F_is_line.kp T.b_is_line .nil pass0 (pa_cons (pv 0) (pa_cons (pv 1) (pa_cons (pv 4) pa_nil))))))) (fun _ _ _ _ _ => (pv 4))) pa_nil)))))), ?_⟩
    refine ⟨.ref x, rfl, .ref st, rfl, x, st, rs, ns, rfl, hA, hh, hS, hn, fun H1 s1 => ⟨_, rfl, ite2 (fun z => ?_) (fun z => ?_)⟩⟩
    · exact q none H1 s1 ((restL_nil hn).mp z)
    have nr : ¬ Rest rs ns := fun r => z ((restL_nil hn).mpr r)
    have hS1 := hS.keep (Keep.same s1)
    have hA1 := hA.keep s1
    refine ⟨.ref st, rfl, st, ns, rfl, hS1.sq, by omega, fun p c ks np nd kl cl mem => ⟨p, _, c, rfl, upd_same, by omega, fun ms zz pw mm0 ml nz => ?_⟩⟩
    have mm : ∀ k, k ∈ ms ↔ k ∈ ns := fun k => (mm0 k).trans decide_eq_true_iff
    have mlen : ms.length ≤ 60 := by omega
    have s2 := (same_upd (o := SetO w p (fun j => decide (j ∈ ns)) c) np).trans (same_upd (o := .lst (ms.map V.int)) nz)
    have s12 := s1.trans s2
    refine ⟨zz, rfl, ⟨_, .inl (.inl upd_same)⟩, fun D hD => ?_⟩
    refine lc_map (walk_list (xs := ms.map V.int)) (fun i => .int (topM rs ns (ms.getD i 0))) hD (by rw [List.length_map]; omega) (fun H3 s3 => .inl (.inl (s3 _ _ upd_same))) ?_ ?_
    · rintro i y H3 H4 hi s3 ⟨rfl, hy⟩ Q' Z hQ
      rw [List.length_map] at hi
      rw [List.getElem?_map, List.getElem?_eq_getElem hi] at hy
      cases hy
      have s4 := s12.trans s3
      refine ⟨rfl, yes (iteT ?_)⟩
      rw [List.getD_eq_getElem?_getD, List.getElem?_eq_getElem hi] at hQ
      exact ⟨.ref x, rfl, .ref st, rfl, .int ms[i], rfl, x, st, ms[i], rs, ns, rfl, hA.keep s4, hh, hS.keep (Keep.same s4), hn, hQ⟩
    intro H3 s3 h3
    rw [List.length_map] at h3
    have h3' : H3 D = some (.lst (((List.range ms.length).map fun i => topM rs ns (ms.getD i 0)).map V.int)) := by rw [h3, List.map_map]; rfl
    have s13 := s12.trans s3
    refine ⟨.ref D, rfl, D, rfl, ⟨_, .inl (.inl h3')⟩, fun D2 hD2 => ?_⟩
    have lg : ∀ (i : Nat), i < ms.length → ((List.range ms.length).map fun i => topM rs ns (ms.getD i 0))[i]? = some (topM rs ns (ms.getD i 0)) := fun i hi => by
      rw [List.getElem?_map, List.getElem?_range hi]; rfl
    refine lc_filt (walk_list (xs := ((List.range ms.length).map fun i => topM rs ns (ms.getD i 0)).map V.int)) (fun i => lineB rs ns (topM rs ns (ms.getD i 0))) (fun i => .int (topM rs ns (ms.getD i 0))) hD2 (by rw [List.length_map, List.length_map, List.length_range]; omega) (fun H4 s4 => .inl (.inl (s4 _ _ h3'))) ?_ ?_
    · rintro i y H4 H5 hi s4 ⟨rfl, hy⟩ Q' Z hQ hZ
      rw [List.length_map, List.length_map, List.length_range] at hi
      rw [List.getElem?_map, lg i hi] at hy
      cases hy
      have s5 := s13.trans s4
      have mi : ms.getD i 0 ∈ ns := by
        rw [List.getD_eq_getElem?_getD, List.getElem?_eq_getElem hi]
        exact (mm _).mp (List.getElem_mem hi)
      refine ⟨rfl, ?_⟩
      refine ⟨.ref x, rfl, .ref st, rfl, .int (topM rs ns (ms.getD i 0)), rfl, x, st, topM rs ns (ms.getD i 0), rs, ns, rfl, hA.keep s5, hh, hS.keep (Keep.same s5), hn, topM_nn hh pos (pos _ mi), fun H6 s6 => ⟨_, rfl, ite2 (fun z => ?_) (fun z => ?_)⟩⟩
      · exact ⟨_, rfl, hQ z H6 s6⟩
      · exact hZ (Bool.eq_false_iff.mpr z) H6 s6
    · intro H4 s4 h4
      rw [List.length_map, List.length_map, List.length_range] at h4
      have h4' : H4 D2 = some (.lst ((((List.range ms.length).filter fun i => lineB rs ns (topM rs ns (ms.getD i 0))).map fun i => topM rs ns (ms.getD i 0)).map V.int)) := by rw [h4, List.map_map]; rfl
      obtain ⟨t0, ht0, hl0⟩ := line_least hh hn
      obtain ⟨i0, hi0, ei0⟩ := List.mem_iff_getElem.mp ((mm t0).mpr ht0)
      have gi : ∀ i, (hi : i < ms.length) → ms.getD i 0 = ms[i] := fun i hi => by rw [List.getD_eq_getElem?_getD, List.getElem?_eq_getElem hi]; rfl
      have inl : ∀ i, i < ms.length → lineB rs ns (topM rs ns (ms.getD i 0)) = true → topM rs ns (ms.getD i 0) ∈ ((List.range ms.length).filter fun i => lineB rs ns (topM rs ns (ms.getD i 0))).map fun i => topM rs ns (ms.getD i 0) := fun i hi hl => List.mem_map.mpr ⟨i, List.mem_filter.mpr ⟨List.mem_range.mpr hi, hl⟩, rfl⟩
      refine ⟨D2, _, rfl, .inl (.inl h4'), List.length_pos_of_mem (inl i0 hi0 (by rw [gi i0 hi0, ei0]; exact hl0)), fun m h1 h2 => ?_⟩
      refine q (some m) H4 (s13.trans s4) ⟨nr, ?_, fun top ht hl => ?_⟩
      · obtain ⟨i, hi, e⟩ := List.mem_map.mp h1
        obtain ⟨hi1, hi2⟩ := List.mem_filter.mp hi
        have hi3 := List.mem_range.mp hi1
        refine ⟨ms[i], (mm _).mp (List.getElem_mem hi3), by rw [← gi i hi3]; exact e.symm, by rw [← e]; exact hi2⟩
      · obtain ⟨i, hi, e⟩ := List.mem_iff_getElem.mp ((mm top).mpr ht)
        have e2 : ms.getD i 0 = top := by rw [gi i hi, e]
        have h3 := h2 _ (inl i hi (by rw [e2]; exact hl))
        rw [e2] at h3
        exact h3
def spIsFirm (C : Addr) : Sp := fun vs H Q _ => ∃ (x st : Addr) (p : Nat) (h : Int) (rs : List Rule) (ns : List Int) (hp : p < rs.length), vs = [.ref x, .ref st, .int p, .int h] ∧ HallAt C H x rs ∧ Halls rs ∧ TupAt H st (ns.map V.int) ∧ ns.length = rs.length ∧
  ∀ H' : Hp, Same H H' → Q (.bl (firmB rs ns h p)) H'
theorem ok_is_firm (T : Txt K mg w) : FnOk P w K mg base CX0 7 T.f_is_firm T.fd_is_firm p_is_firm (spIsFirm T.C_Hall) := by
  have G_told_at := ok_told_at (P := P) (w := w) (base := base) T
  refine T.F_is_firm.ok sc_is_firm (fun vs H Q E h => ?_) (fun cdv A outer s H vs Q E hr h => ?_)
  · obtain ⟨x, st, p, h, rs, ns, hp, rfl, _⟩ := h
    rfl
  · obtain ⟨x, st, p, h, rs, ns, hp, rfl, hA, hh, hS, hn, q⟩ := h
    refine ⟨_, (pss_cons (ps_if (pt_cmpR op_eq (pe_ix ix_tup (pv 1) (pv 2) (fun _ _ => rfl)) (pv 3) (nomark _))
        (pss_one (ps_ret (pe_cmpR op_eq (pe_call G_told_at (hr.mono (by decide)) (by rfl) T.g_told_at T.F_told_at.kp T.b_told_at .nil pass0 (pa_cons (pv 0) (pa_cons (pv 1) (pa_cons (pv 2) pa_nil)))) (pv 3) (nomark _))))
        pss_nil)
      (pss_one (ps_ret (pe_cmpR op_lt (pe_ix ix_tup (pv 1) (pv 2) (fun _ _ => rfl)) (pv 3) (nomark _))))), ?_⟩
    refine ⟨.ref st, rfl, .int p, rfl, st, _, _, _, rfl, rfl, hS.sq, nth_at (by omega) (by omega), .int h, rfl, rfl, _, rfl, ite2 (fun z => ?_) (fun z => ?_)⟩
    · have z' : nth ns p = h := by simpa using z
      refine ⟨.ref x, rfl, .ref st, rfl, .int p, rfl, x, st, p, rs, ns, hp, rfl, hA, hh, hS, hn, fun y H1 s1 tl => ?_⟩
      refine ⟨.int h, rfl, rfl, ?_⟩
      have ey := toldH_at hp tl
      have qq := q H1 s1
      unfold firmB at qq
      rw [if_pos z', ← ey] at qq
      refine blC ?_ qq
      by_cases c : y = h
      · rw [decide_eq_true c, decide_eq_true (by rw [c])]
      · rw [decide_eq_false c, decide_eq_false (fun z => c (V.int.inj z))]
    · have z' : ¬ nth ns p = h := by simpa using z
      have qq := q H (Same.refl H)
      unfold firmB at qq
      rw [if_neg z'] at qq
      exact ⟨.ref st, rfl, .int p, rfl, st, _, _, _, rfl, rfl, hS.sq, nth_at (by omega) (by omega), .int h, rfl, _, _, rfl, rfl, qq⟩
def spFirmOf (C : Addr) : Sp := fun vs H Q _ => ∃ (x st : Addr) (rs : List Rule) (ns : List Int), vs = [.ref x, .ref st] ∧ HallAt C H x rs ∧ Halls rs ∧ TupAt H st (ns.map V.int) ∧ ns.length = rs.length ∧ (∀ n ∈ ns, 0 ≤ n) ∧
  ∀ (o : Option Int) (l : Addr) (H' : Hp), Same H H' → Wl rs ns o → H l = none → H' l = some (.lst ((firmL rs ns o).map V.int)) → Q (.ref l) H'
set_option maxHeartbeats 1000000 in
theorem ok_firm_of (T : Txt K mg w) : FnOk P w K mg base CX0 10 T.f_firm_of T.fd_firm_of p_firm_of (spFirmOf T.C_Hall) := by
  have G_waterline := ok_waterline (P := P) (w := w) (base := base) T
  have G_is_firm := ok_is_firm (P := P) (w := w) (base := base) T
  have G_Hall_len := ok_Hall_len (P := P) (w := w) (base := base) T
  refine T.F_firm_of.ok sc_firm_of (fun vs H Q E h => ?_) (fun cdv A outer s H vs Q E hr h => ?_)
  · obtain ⟨x, st, rs, ns, rfl, _⟩ := h
    rfl
  · obtain ⟨x, st, rs, ns, rfl, hA, hh, hS, hn, pos, q⟩ := h
    have r1 := hh.2.1
    refine ⟨_, (pss_cons (ps_set (i := 2) sc_firm_of.nd rfl (.inr rfl) (pe_call G_waterline (hr.mono (by decide)) (by rfl) T.g_waterline T.F_waterline.kp T.b_waterline .nil pass0 (pa_cons (pv 0) (pa_cons (pv 1) pa_nil))))
      (pss_cons (ps_if (pt_cmpR op_isN (pv 2) pe_non (nomark _))
        (pss_one (ps_ret (pe_listRg (by rfl) (by rfl) T.m_list (prg_1 (by rfl) T.m_range (pe_callB (run_len T.me_Hall_len G_Hall_len T.b_Hall_len (hr.mono (by decide))) (by rfl) T.m_len (by decide +kernel) (pa_cons (pv 0) pa_nil))))))
        pss_nil)
      (pss_one (ps_ret (pe_lc (own := [("person", 3)]) (g := gName 3) (by rfl) sc_firm_of.nd (pi_range1 (by rfl) T.m_range (pa_cons (pe_callB (run_len T.me_Hall_len G_Hall_len T.b_Hall_len (hr.mono (by decide))) (by rfl) T.m_len (by decide +kernel) (pa_cons (pv 0) pa_nil)) pa_nil)) (blkOk_by (own := [("person", 3)]) (N := n_firm_of) (sc := defScope s_firm_of) (by decide +kernel)) (fun _ _ _ _ _ => (pg_name (i := 3) sc_firm_of.nd rfl (.inl rfl) (.inr rfl))) (fun _ _ _ _ _ => (pts_one (pt_val (pe_call G_is_firm (hr.mono (by decide)) (by rfl) T.g_is_firm T.F_is_firm.kp T.b_is_firm .nil pass0 (pa_cons (pv 0) (pa_cons (pv 1) (pa_cons (pv 3) (pa_cons (pv 2) pa_nil)))))))) (fun _ _ _ _ _ => (pv 3))))))), ?_⟩
    refine ⟨.ref x, rfl, .ref st, rfl, x, st, rs, ns, rfl, hA, hh, hS, hn, pos, fun o H1 s1 wl => ?_⟩
    have hA1 := hA.keep s1
    obtain ⟨dx, t0, vs0, hx, ht0, hv0⟩ := id hA1
    cases o with
    | none =>
      refine ⟨.non, rfl, rfl, _, rfl, iteP rfl ?_⟩
      refine ⟨.ref x, rfl, x, dx, _, rfl, hx, x, rs, rfl, hA1, (rs.length : Int), rfl, by omega, Int.lt_of_le_of_lt (by omega : (rs.length : Int) ≤ 60) (by decide), (rs.length : Int), rfl, RgOk.of_le (by omega) (by omega) (by omega) (by omega), fun l nl => ?_⟩
      refine q none l _ (s1.trans (same_upd nl)) wl (s1.free nl) ?_
      rw [upd_same, rg_ints, Int.toNat_natCast]
      rfl
    | some h =>
      refine ⟨.int h, rfl, rfl, _, rfl, iteN rfl ?_⟩
      refine ⟨.ref x, rfl, x, dx, _, rfl, hx, x, rs, rfl, hA1, (rs.length : Int), rfl, by omega, Int.lt_of_le_of_lt (by omega : (rs.length : Int) ≤ 60) (by decide), _, rfl, by omega, by omega, fun D hD => ?_⟩
      refine lc_filt walk_range (fun p => firmB rs ns h p) (fun p => .int (p : Nat)) hD (by omega) (fun _ _ => trivial) ?_ ?_
      · rintro i y H3 H4 hi s3 ⟨rfl, rfl⟩ Q' Z hQ hZ
        have hi' : i < rs.length := by have : i < (rs.length : Int).toNat := hi; omega
        have zi : (0 : Int) + (i : Int) = i := Int.zero_add _
        have s4 := s1.trans s3
        refine ⟨rfl, ?_⟩
        refine ⟨.ref x, rfl, .ref st, rfl, .int (0 + i), rfl, .int h, rfl, x, st, i, h, rs, ns, hi', by show [V.ref x, V.ref st, V.int (0 + (i : Int)), V.int h] = _; rw [zi], hA.keep s4, hh, hS.keep (Keep.same s4), hn, fun H5 s5 => ⟨_, rfl, ite2 (fun z => ?_) (fun z => ?_)⟩⟩
        · refine ⟨.int (0 + i), rfl, ?_⟩
          rw [zi]
          exact hQ z H5 s5
        · exact hZ (Bool.eq_false_iff.mpr z) H5 s5
      · intro H3 s3 h3
        rw [Int.toNat_natCast] at h3
        refine q (some h) D H3 (s1.trans s3) wl (s1.free hD) ?_
        rw [h3]
        unfold firmL
        rw [List.map_map]
        rfl
end
end Lh

namespace Lh
open PySem PySem.Spec PyProof.Rows L2
section
variable {P : Program} {w : World} {K : PySem.W.Frag} {mg : Str → Option Value} {base : Heap}
def spSame : Nat → Sp
  | 0 => fun _ _ _ _ => False
  | n + 1 => fun vs H Q _ => ∃ (bx : Addr) (v u : V) (d : PyData), vs = [v, u] ∧ Rp bx H v d ∧ Rp bx H u d ∧ okD n d ∧ ∀ H', Same H H' → Q (.bl true) H'
theorem ok_same (T : Txt K mg w) : ∀ n, FnOk P w K mg base CX0 n T.f_same T.fd_same p_same (spSame n)
  | 0 => ⟨fun _ _ _ _ h => h.elim, fun _ _ _ _ _ _ _ _ _ _ _ _ _ h => h.elim⟩
  | n + 1 => by
    have G_same : FnOk P w K mg base CX0 n T.f_same T.fd_same p_same (spSame n) := ok_same T n
    refine T.F_same.ok sc_same (fun vs H Q E h => ?_) (fun cdv A outer s H vs Q E hr h => ?_)
    · obtain ⟨bx, v, u, d, rfl, _⟩ := h
      rfl
    · obtain ⟨bx, v, u, d, rfl, hv, hu, hd, q⟩ := h
      refine ⟨_, (pss_cons (ps_if (pt_val (pe_callB call_isiT (by rfl) T.m_isinstance (by decide +kernel) (pa_cons (pv 1) (pa_cons (pe_tup (pa_cons (pe_bltn (v := .ty "list") (by rfl) T.m_list (by decide +kernel) rfl) (pa_cons (pe_bltn (v := .ty "tuple") (by rfl) T.m_tuple (by decide +kernel) rfl) pa_nil))) pa_nil))))
        (pss_cons (ps_if (PW.pt (pw_or (pt_cmpR op_ne (pe_callB call_isi (by rfl) T.m_isinstance (by decide +kernel) (pa_cons (pv 0) (pa_cons (pe_bltn (v := .ty "list") (by rfl) T.m_list (by decide +kernel) rfl) pa_nil))) (pe_callB call_isi (by rfl) T.m_isinstance (by decide +kernel) (pa_cons (pv 1) (pa_cons (pe_bltn (v := .ty "list") (by rfl) T.m_list (by decide +kernel) rfl) pa_nil))) (nomark _)) (pw_or1 (pt_cmpR op_ne (pe_callB call_isi (by rfl) T.m_isinstance (by decide +kernel) (pa_cons (pv 0) (pa_cons (pe_bltn (v := .ty "tuple") (by rfl) T.m_tuple (by decide +kernel) rfl) pa_nil))) (pe_callB call_isi (by rfl) T.m_isinstance (by decide +kernel) (pa_cons (pv 1) (pa_cons (pe_bltn (v := .ty "tuple") (by rfl) T.m_tuple (by decide +kernel) rfl) pa_nil))) (nomark _)))))
          (pss_one (ps_ret pe_bl))
          pss_nil)
        (pss_one (ps_ret (pe_and (pe_cmpR op_eq (pe_callB call_len_seq (by rfl) T.m_len (by decide +kernel) (pa_cons (pv 0) pa_nil)) (pe_callB call_len_seq (by rfl) T.m_len (by decide +kernel) (pa_cons (pv 1) pa_nil)) (nomark _)) (pe_one (pe_callB (cr_all rfl) (by rfl) T.m_all (by decide +kernel) (pa_cons (pe_lc (own := [("_law_one", 2), ("_law_two", 3)]) (g := gTup K 2 (gCons (gName 2) (gCons (gName 3) gNil))) (by rfl) sc_same.nd (RZ.pi_zipA (by rfl) T.m_zip (pa_cons (pv 0) (pa_cons (pv 1) pa_nil))) (blkOk_by (own := [("_law_one", 2), ("_law_two", 3)]) (N := n_same) (sc := defScope s_same) (by decide +kernel)) (fun _ _ _ _ _ => (pg_tup rfl (pgs_cons (pg_name (i := 2) sc_same.nd rfl (.inl rfl) (.inr rfl)) (pgs_cons (pg_name (i := 3) sc_same.nd rfl (.inl rfl) (.inr rfl)) pgs_nil)))) (fun _ _ _ _ _ => pts_nil) (fun _ _ _ _ _ => (pe_call G_same hr (by rfl) T.g_same T.F_same.kp T.b_same .nil pass0 (pa_cons (pv 2) (pa_cons (pv 3) pa_nil))))) pa_nil)))))))
        pss_nil)
      (pss_cons (ps_if (PW.pt (pw_or (pt_cmpR op_isN (pv 1) pe_non (nomark _)) (pw_or1 (pt_cmpR op_isN (pv 0) pe_non (nomark _)))))
        (pss_one (ps_ret (pe_and (pe_cmpR op_isN (pv 1) pe_non (nomark _)) (pe_one (pe_cmpR op_isN (pv 0) pe_non (nomark _))))))
        pss_nil)
      (pss_cons (ps_if (PW.pt (pw_or (pt_val (pe_callB call_isi (by rfl) T.m_isinstance (by decide +kernel) (pa_cons (pv 1) (pa_cons (pe_bltn (v := .ty "bool") (by rfl) T.m_bool (by decide +kernel) rfl) pa_nil)))) (pw_or1 (pt_val (pe_callB call_isi (by rfl) T.m_isinstance (by decide +kernel) (pa_cons (pv 1) (pa_cons (pe_bltn (v := .ty "str") (by rfl) T.m_str (by decide +kernel) rfl) pa_nil)))))))
        (pss_one (ps_ret (pe_and (pe_cmpR op_eq (pe_callB call_isi (by rfl) T.m_isinstance (by decide +kernel) (pa_cons (pv 0) (pa_cons (pe_bltn (v := .ty "bool") (by rfl) T.m_bool (by decide +kernel) rfl) pa_nil))) (pe_callB call_isi (by rfl) T.m_isinstance (by decide +kernel) (pa_cons (pv 1) (pa_cons (pe_bltn (v := .ty "bool") (by rfl) T.m_bool (by decide +kernel) rfl) pa_nil))) (nomark _)) (pe_one (pe_cmpR op_eq (pv 0) (pv 1) (nomark _))))))
        pss_nil)
      (pss_one (ps_ret (pe_and (pe_callB call_isi (by rfl) T.m_isinstance (by decide +kernel) (pa_cons (pv 0) (pa_cons (pe_bltn (v := .ty "int") (by rfl) T.m_int (by decide +kernel) rfl) pa_nil))) (pe_and (pe_not (pe_callB call_isi (by rfl) T.m_isinstance (by decide +kernel) (pa_cons (pv 0) (pa_cons (pe_bltn (v := .ty "bool") (by rfl) T.m_bool (by decide +kernel) rfl) pa_nil)))) (pe_one (pe_cmpR op_eq (pv 0) (pv 1) (nomark _)))))))))), ?_⟩
      have ty : ∀ {H' : Hp} {x : V}, Same H H' → Rp bx H x d → TyX K H' x (.type (tyD d)) := fun s h => (h.ext (Ext.of s)).ty
      have sz : ∀ {m : Nat}, m ≤ 8388608 → m < sizeLine := fun h => Nat.lt_of_le_of_lt h (by decide)
      cases d with
      | none =>
        cases hv
        cases hu
        refine rd_isi2 (x := .non) (T := "NoneType") rfl (.base .non) (by decide +kernel : kitB "NoneType" "list" = some false) (by decide +kernel : kitB "NoneType" "tuple" = some false) (fun p hp => ?_) (fun p hp => .base .non)
        refine ⟨_, rfl, iteN rfl ?_⟩
        refine ⟨.non, rfl, rfl, _, rfl, iteP (decide_eq_true rfl) (iteP rfl ?_)⟩
        refine ⟨.non, rfl, rfl, _, rfl, iteP (decide_eq_true rfl) ?_⟩
        exact ⟨.non, rfl, rfl, blT (decide_eq_true rfl) (q _ (same_upd hp))⟩
      | bool b =>
        cases hv
        cases hu
        refine rd_isi2 (x := .bl b) (T := "bool") rfl (.base (.bl b)) (by decide +kernel : kitB "bool" "list" = some false) (by decide +kernel : kitB "bool" "tuple" = some false) (fun p hp => ?_) (fun p hp => .base (.bl b))
        refine ⟨_, rfl, iteN rfl ?_⟩
        refine ⟨.bl b, rfl, rfl, _, rfl, iteN (decide_eq_false (by intro z; cases z)) ⟨.bl b, rfl, rfl, _, rfl, iteN (decide_eq_false (by intro z; cases z)) ?_⟩⟩
        refine rd_isi (x := .bl b) (T := "bool") rfl (.base (.bl b)) (by decide +kernel : kitB "bool" "bool" = some true) ⟨_, rfl, iteP rfl (iteP rfl ?_)⟩
        refine rd_isi (x := .bl b) (T := "bool") rfl (.base (.bl b)) (by decide +kernel : kitB "bool" "bool" = some true) ?_
        refine rd_isi (x := .bl b) (T := "bool") rfl (.base (.bl b)) (by decide +kernel : kitB "bool" "bool" = some true) ⟨rfl, _, rfl, iteP (decide_eq_true rfl) ?_⟩
        exact ⟨.bl b, rfl, .bl b, rfl, rfl, blT (decide_eq_true rfl) (q _ (same_upd hp))⟩
      | int i =>
        cases hv
        cases hu
        refine rd_isi2 (x := .int i) (T := "int") rfl (.base (.int i)) (by decide +kernel : kitB "int" "list" = some false) (by decide +kernel : kitB "int" "tuple" = some false) (fun p hp => ?_) (fun p hp => .base (.int i))
        refine ⟨_, rfl, iteN rfl ?_⟩
        refine ⟨.int i, rfl, rfl, _, rfl, iteN (decide_eq_false (by intro z; cases z)) ⟨.int i, rfl, rfl, _, rfl, iteN (decide_eq_false (by intro z; cases z)) ?_⟩⟩
        refine rd_isi (x := .int i) (T := "int") rfl (.base (.int i)) (by decide +kernel : kitB "int" "bool" = some false) ⟨_, rfl, iteN rfl ?_⟩
        refine rd_isi (x := .int i) (T := "int") rfl (.base (.int i)) (by decide +kernel : kitB "int" "str" = some false) ⟨_, rfl, iteN rfl ?_⟩
        refine rd_isi (x := .int i) (T := "int") rfl (.base (.int i)) (by decide +kernel : kitB "int" "int" = some true) ⟨_, rfl, iteP rfl ?_⟩
        refine rd_isi (x := .int i) (T := "int") rfl (.base (.int i)) (by decide +kernel : kitB "int" "bool" = some false) ⟨_, rfl, _, rfl, iteP rfl ?_⟩
        exact ⟨.int i, rfl, .int i, rfl, rfl, blT (decide_eq_true rfl) (q _ (same_upd hp))⟩
      | str x =>
        cases hv
        cases hu
        refine rd_isi2 (x := .str x) (T := "str") rfl (.base (.str x)) (by decide +kernel : kitB "str" "list" = some false) (by decide +kernel : kitB "str" "tuple" = some false) (fun p hp => ?_) (fun p hp => .base (.str x))
        refine ⟨_, rfl, iteN rfl ?_⟩
        refine ⟨.str x, rfl, rfl, _, rfl, iteN (decide_eq_false (by intro z; cases z)) ⟨.str x, rfl, rfl, _, rfl, iteN (decide_eq_false (by intro z; cases z)) ?_⟩⟩
        refine rd_isi (x := .str x) (T := "str") rfl (.base (.str x)) (by decide +kernel : kitB "str" "bool" = some false) ⟨_, rfl, iteN rfl ?_⟩
        refine rd_isi (x := .str x) (T := "str") rfl (.base (.str x)) (by decide +kernel : kitB "str" "str" = some true) ⟨_, rfl, iteP rfl ?_⟩
        refine rd_isi (x := .str x) (T := "str") rfl (.base (.str x)) (by decide +kernel : kitB "str" "bool" = some false) ?_
        refine rd_isi (x := .str x) (T := "str") rfl (.base (.str x)) (by decide +kernel : kitB "str" "bool" = some false) ⟨rfl, _, rfl, iteP (decide_eq_true rfl) ?_⟩
        exact ⟨.str x, rfl, .str x, rfl, rfl, blT (decide_eq_true rfl) (q _ (same_upd hp))⟩
      | list ds =>
        cases n with
        | zero => exact hd.elim
        | succ n =>
        obtain ⟨hlen, hds⟩ := hd
        refine rd_isi2 (x := u) (T := "list") rfl hu.ty (by decide +kernel : kitB "list" "list" = some true) (by decide +kernel : kitB "list" "tuple" = some false) (fun p hp => ?_) (fun p hp => ty (same_upd hp) hu)
        have s1 := same_upd (o := .tup [.ty "list", .ty "tuple"]) hp
        refine ⟨_, rfl, iteP rfl ?_⟩
        refine rd_isi (x := v) (T := "list") rfl (ty s1 hv) (by decide +kernel : kitB "list" "list" = some true) ?_
        refine rd_isi (x := u) (T := "list") rfl (ty s1 hu) (by decide +kernel : kitB "list" "list" = some true) ⟨rfl, _, rfl, iteN rfl ?_⟩
        refine rd_isi (x := v) (T := "list") rfl (ty s1 hv) (by decide +kernel : kitB "list" "tuple" = some false) ?_
        refine rd_isi (x := u) (T := "list") rfl (ty s1 hu) (by decide +kernel : kitB "list" "tuple" = some false) ⟨rfl, _, rfl, iteN rfl ?_⟩
        have hv1 := hv.ext (Ext.of s1)
        have hu1 := hu.ext (Ext.of s1)
        generalize hH1 : upd H p (.tup [.ty "list", .ty "tuple"]) = H1 at *
        cases hv1 with
        | @lst a xs _ ha na rx =>
        cases hu1 with
        | @lst b ys _ hb nb ry =>
        have ex : xs.length = ds.length := rx.length
        have ey : ys.length = ds.length := ry.length
        refine ⟨.ref a, rfl, a, _, rfl, .inl (.inl (.inl ha)), .ref b, rfl, b, _, rfl, .inl (.inl (.inl hb)), rfl, _, rfl, iteP (decide_eq_true (by rw [ex, ey])) ?_⟩
        refine ⟨.ref a, rfl, .ref b, rfl, a, b, xs, ys, rfl, .inl ⟨.inl (.inl ha), .inl (.inl hb), fun D hD => ?_⟩⟩
        refine lc_it (walk_zip (xs := xs) (ys := ys) (n := ds.length) (by rw [ex, ey, Nat.min_self])) (fun i H3 => Same H1 H3 ∧ H3 D = some (.lst (List.replicate i (.bl true)))) ⟨same_upd hD, upd_same⟩ ?_ ?_ ?_
        · rintro i H3 _ ⟨sm, _⟩
          exact ⟨.inl (.inl (sm _ _ ha)), .inl (.inl (sm _ _ hb))⟩
        · rintro i x H3 H4 hi ⟨sm, hD3⟩ ⟨t, x1, x2, rfl, nt, rfl, e1, e2⟩
          have sT := same_upd (o := .tup [x1, x2]) nt
          refine ⟨t, _, rfl, .inl (.inl upd_same), rfl, _, _, rfl, _, _, rfl, rfl, rfl, yes (iteT ?_)⟩
          obtain ⟨z1, f1, r1⟩ := rx.get (List.getElem?_eq_getElem hi)
          obtain ⟨z2, f2, r2⟩ := ry.get (List.getElem?_eq_getElem hi)
          have g1 : x1 = z1 := Option.some.inj (e1.symm.trans f1)
          have g2 : x2 = z2 := Option.some.inj (e2.symm.trans f2)
          subst g1 g2
          refine ⟨x1, rfl, x2, rfl, bx, x1, x2, ds[i], rfl, r1.ext (Ext.of (sm.trans sT)), r2.ext (Ext.of (sm.trans sT)), hds _ (List.getElem_mem hi), fun H5 s5 => ?_⟩
          refine ⟨_, s5 _ _ (sT _ _ hD3), by rw [List.length_replicate]; exact sz (by omega), same_mut (sm.trans (sT.trans s5)) hD, ?_⟩
          rw [upd_same, List.replicate_succ']
        · rintro H3 ⟨sm, hD3⟩
          refine ⟨D, List.replicate ds.length true, rfl, .inl (.inl (by rw [hD3, List.map_replicate])), blT ?_ (q _ (s1.trans sm))⟩
          rw [List.all_eq_true]
          intro z hz
          rw [List.eq_of_mem_replicate hz]
          rfl
      | tuple ds =>
        cases n with
        | zero => exact hd.elim
        | succ n =>
        obtain ⟨hlen, hds⟩ := hd
        refine rd_isi2 (x := u) (T := "tuple") rfl hu.ty (by decide +kernel : kitB "tuple" "list" = some false) (by decide +kernel : kitB "tuple" "tuple" = some true) (fun p hp => ?_) (fun p hp => ty (same_upd hp) hu)
        have s1 := same_upd (o := .tup [.ty "list", .ty "tuple"]) hp
        refine ⟨_, rfl, iteP rfl ?_⟩
        refine rd_isi (x := v) (T := "tuple") rfl (ty s1 hv) (by decide +kernel : kitB "tuple" "list" = some false) ?_
        refine rd_isi (x := u) (T := "tuple") rfl (ty s1 hu) (by decide +kernel : kitB "tuple" "list" = some false) ⟨rfl, _, rfl, iteN rfl ?_⟩
        refine rd_isi (x := v) (T := "tuple") rfl (ty s1 hv) (by decide +kernel : kitB "tuple" "tuple" = some true) ?_
        refine rd_isi (x := u) (T := "tuple") rfl (ty s1 hu) (by decide +kernel : kitB "tuple" "tuple" = some true) ⟨rfl, _, rfl, iteN rfl ?_⟩
        have hv1 := hv.ext (Ext.of s1)
        have hu1 := hu.ext (Ext.of s1)
        generalize hH1 : upd H p (.tup [.ty "list", .ty "tuple"]) = H1 at *
        cases hv1 with
        | @tup a xs _ ha na rx =>
        cases hu1 with
        | @tup b ys _ hb nb ry =>
        have ex : xs.length = ds.length := rx.length
        have ey : ys.length = ds.length := ry.length
        refine ⟨.ref a, rfl, a, _, rfl, .inr ha.sq, .ref b, rfl, b, _, rfl, .inr hb.sq, rfl, _, rfl, iteP (decide_eq_true (by rw [ex, ey])) ?_⟩
        refine ⟨.ref a, rfl, .ref b, rfl, a, b, xs, ys, rfl, .inr ⟨ha.sq, hb.sq, fun D hD => ?_⟩⟩
        refine lc_it (walk_zipT (xs := xs) (ys := ys) (n := ds.length) ex ey) (fun i H3 => Same H1 H3 ∧ H3 D = some (.lst (List.replicate i (.bl true)))) ⟨same_upd hD, upd_same⟩ ?_ ?_ ?_
        · rintro i H3 _ ⟨sm, _⟩
          exact ⟨(ha.ext (Ext.of (bx := bx) sm) na).sq, (hb.ext (Ext.of (bx := bx) sm) nb).sq⟩
        · rintro i x H3 H4 hi ⟨sm, hD3⟩ ⟨t, x1, x2, rfl, nt, rfl, e1, e2⟩
          have sT := same_upd (o := .tup [x1, x2]) nt
          refine ⟨t, _, rfl, .inl (.inl upd_same), rfl, _, _, rfl, _, _, rfl, rfl, rfl, yes (iteT ?_)⟩
          obtain ⟨z1, f1, r1⟩ := rx.get (List.getElem?_eq_getElem hi)
          obtain ⟨z2, f2, r2⟩ := ry.get (List.getElem?_eq_getElem hi)
          have g1 : x1 = z1 := Option.some.inj (e1.symm.trans f1)
          have g2 : x2 = z2 := Option.some.inj (e2.symm.trans f2)
          subst g1 g2
          refine ⟨x1, rfl, x2, rfl, bx, x1, x2, ds[i], rfl, r1.ext (Ext.of (sm.trans sT)), r2.ext (Ext.of (sm.trans sT)), hds _ (List.getElem_mem hi), fun H5 s5 => ?_⟩
          refine ⟨_, s5 _ _ (sT _ _ hD3), by rw [List.length_replicate]; exact sz (by omega), same_mut (sm.trans (sT.trans s5)) hD, ?_⟩
          rw [upd_same, List.replicate_succ']
        · rintro H3 ⟨sm, hD3⟩
          refine ⟨D, List.replicate ds.length true, rfl, .inl (.inl (by rw [hD3, List.map_replicate])), blT ?_ (q _ (s1.trans sm))⟩
          rw [List.all_eq_true]
          intro z hz
          rw [List.eq_of_mem_replicate hz]
          rfl
      | dict kvs => cases hv
end
end Lh

namespace Lh
open PySem PySem.Spec PyProof.Rows L2
theorem cutI_headN {α : Type} (xs : List α) : (cutI xs none (some 3)).length = min 3 xs.length := by
  unfold cutI
  rw [HT.sIx_none, show HT.sIx xs.length xs.length (some 3) = min 3 xs.length from HT.sIx_nat xs.length _ 3, List.length_take, List.length_drop]
  omega
theorem cutI_tailN {α : Type} (xs : List α) (h : xs.length ≤ 3) : (cutI xs (some 3) (some 63)).length = 0 := by
  unfold cutI
  rw [show HT.sIx xs.length 0 (some 3) = min 3 xs.length from HT.sIx_nat xs.length _ 3, List.length_take, List.length_drop]
  omega
section
variable {P : Program} {w : World} {K : PySem.W.Frag} {mg : Str → Option Value} {base : Heap}
def spFoldedN (K : PySem.W.Frag) : Sp := fun vs H Q _ => ∃ (a : Addr) (ns : List Int), vs = [.ref a, .int 3] ∧ SqL K H a (ns.map V.int) ∧ ns.length ≤ 63 ∧
  ∀ (p : Addr) (ms : List Int) (H' : Hp), Same H H' → H p = none → H' p = some (.lst (ms.map V.int)) → ms.length ≤ 3 → Q (.ref p) H'
theorem ok_foldedN (T : Txt K mg w) : FnOk P w K mg base CX0 1 T.f_folded T.fd_folded p_folded (spFoldedN K) := by
  refine T.F_folded.ok sc_folded (fun vs H Q E h => ?_) (fun cdv A outer s H vs Q E hr h => ?_)
  · obtain ⟨a, ns, rfl, _⟩ := h
    rfl
  · obtain ⟨a, ns, rfl, hS, hl, q⟩ := h
    refine ⟨_, (pss_cons (ps_set (i := 2) sc_folded.nd rfl (.inl rfl) (pe_callTy call_list_of (by rfl) T.m_list (by decide +kernel) (pa_cons (pe_slice sl_list (pv 0) po_none (po_some (pv 1))) pa_nil)))
      (pss_cons (ps_for PassesOwn.never rfl (pi_enum (by rfl) T.m_enumerate (pa_cons (pe_slice sl_list (pv 0) (po_some (pv 1)) (po_some pe_int)) pa_nil)) (pg_tup rfl (pgs_cons (pg_name (i := 3) sc_folded.nd rfl (.inl rfl)) (pgs_cons (pg_name (i := 4) sc_folded.nd rfl (.inl rfl)) pgs_nil)))
        (pss_one (ps_asg (pe_op op_add (pe_ix ix_list (pv 2) (pe_op op_mod (pv 3) (pv 1)) (fun _ _ => rfl)) (pe_op op_mul (pv 4) (pe_op op_add (pv 3) pe_int))) (pg_sub (pv 2) (pe_op op_mod (pv 3) (pv 1)) set_list))))
      (pss_one (ps_ret (pv 2))))), ?_⟩
    -- the cells
    refine ⟨.ref a, rfl, .int 3, rfl, 3, rfl, a, _, rfl, hS, fun c nc => ?_⟩
    have s1 := same_upd (o := .lst (cutV (ns.map V.int) none (some 3))) nc
    refine ⟨c, _, rfl, .inl (.inl (.inl upd_same)), fun l nl => ?_⟩
    have s2 := s1.trans (same_upd (o := .lst (cutV (ns.map V.int) none (some 3))) nl)
    have nlH : H l = none := s1.free nl
    -- the rest of the script
    refine ⟨.ref a, rfl, .int 3, rfl, 3, rfl, 63, rfl, a, _, rfl, s2.seq hS, fun d nd => ?_⟩
    have s3 := s2.trans (same_upd (o := .lst (cutV (ns.map V.int) (some 3) (some 63))) nd)
    have nld : l ≠ d := ne_of_none upd_same nd
    refine ⟨d, _, rfl, .inl (.inl upd_same), ?_⟩
    rw [cut_map V.int, cut_map V.int] at *
    refine for_it (walk_enum (xs := (cutI ns (some 3) (some 63)).map V.int)) (fun i σ H3 => ∃ (y3 y4 : Option V) (ms : List Int), σ = [some (.ref a), some (.int 3), some (.ref l), y3, y4] ∧ Same H H3 ∧ H3 d = some (.lst ((cutI ns (some 3) (some 63)).map V.int)) ∧ H3 l = some (.lst (ms.map V.int)) ∧ ms.length = min 3 ns.length) ?_ ?_ ?_ ?_
    · refine ⟨none, none, cutI ns none (some 3), rfl, s3, upd_same, ?_, cutI_headN ns⟩
      rw [upd_ne nld, upd_same]
    · rintro i σ H3 _ ⟨y3, y4, ms, rfl, _, hd, _⟩
      exact .inl (.inl hd)
    · rintro i x σ H3 H4 hi ⟨y3, y4, ms, rfl, sm, hd, hl3, hm⟩ ⟨t, x1, x2, rfl, nt, rfl, e1, e2⟩
      rw [List.length_map] at hi
      have e1' : V.int (i : Nat) = x1 := Option.some.inj e1
      subst e1'
      have e2' : x2 = .int (cutI ns (some 3) (some 63))[i] := by
        have : ((cutI ns (some 3) (some 63)).map V.int)[i]? = some x2 := e2
        rw [List.getElem?_map, List.getElem?_eq_getElem hi] at this
        exact (Option.some.inj this).symm
      subst e2'
      have h3 : ms.length = 3 := by
        by_cases hc : ns.length ≤ 3
        · rw [cutI_tailN ns hc] at hi; omega
        · omega
      have nlt : l ≠ t := ne_of_none hl3 nt
      have hl4 : (upd H3 t (.tup [.int (i : Nat), .int (cutI ns (some 3) (some 63))[i]])) l = some (.lst (ms.map V.int)) := by rw [upd_ne nlt]; exact hl3
      have hlt : ((i : Int) % 3).toNat < ms.length := by omega
      refine ⟨t, _, rfl, .inl (.inl upd_same), rfl, _, _, rfl, _, _, rfl, rfl, ?_⟩
      refine ⟨.ref l, rfl, .int i, rfl, .int 3, rfl, i, 3, rfl, rfl, by show (0 : Int) < 3; decide, l, _, _, .int ms[((i : Int) % 3).toNat], rfl, rfl, .inl (.inl hl4), ?_, ?_⟩
      · refine at_of (j := ((i : Int) % 3).toNat) (by omega) ?_
        rw [List.getElem?_map, List.getElem?_eq_getElem hlt]; rfl
      refine ⟨_, rfl, .int i, rfl, i, 2, rfl, rfl, _, _, rfl, rfl, .inr ⟨by omega, ?_⟩, _, _, rfl, rfl, .ref l, rfl, .int i, rfl, .int 3, rfl, i, 3, rfl, rfl, by show (0 : Int) < 3; decide, l, _, _, ((i : Int) % 3).toNat, rfl, rfl, hl4, ?_, ?_⟩
      · have : (cutI ns (some 3) (some 63)).length ≤ ns.length := by
          unfold cutI; rw [List.length_take, List.length_drop]; omega
        omega
      · show ixN (ms.map V.int).length ((i : Int) % 3) = some _
        unfold ixN
        rw [List.length_map, if_pos (by omega), if_pos (by omega)]
      · refine ⟨_, _, ms.set ((i : Int) % 3).toNat (ms[((i : Int) % 3).toNat] + (cutI ns (some 3) (some 63))[i] * ((i : Int) + 2)), rfl, ?_, ?_, ?_, ?_⟩
        · exact fun b o e => by
            rw [upd_ne (ne_of_none e nlH), upd_ne (ne_of_none (sm b o e) nt)]
            exact sm b o e
        · rw [upd_ne nld.symm, upd_ne (ne_of_none hd nt)]
          exact hd
        · rw [upd_same, List.map_set]
        · rw [List.length_set]; exact hm
    · rintro σ H3 ⟨y3, y4, ms, rfl, sm, hd, hl3, hm⟩
      exact ⟨.ref l, rfl, q l ms H3 sm nlH hl3 (by omega)⟩
end
end Lh

namespace Lh
open PySem PySem.Spec PyProof.Rows L2
theorem start66 (bx : Addr) : L2.start n_right [V.ref bx] = [some (V.ref bx), none, none, none, none, none, none, none, none, none, none, none, none, none] := rfl
theorem firm_mem {rs : List Rule} {k0 : List Int} {o : Option Int} {x : Int} (hx : x ∈ firmL rs k0 o) : ∃ p : Nat, x = (p : Int) ∧ p < rs.length ∧ ∀ h, o = some h → firmB rs k0 h p = true := by
  cases o with
  | none =>
    obtain ⟨p, hp, rfl⟩ := List.mem_map.mp hx
    exact ⟨p, rfl, List.mem_range.mp hp, fun h e => by cases e⟩
  | some h0 =>
    obtain ⟨p, hp, rfl⟩ := List.mem_map.mp hx
    have := List.mem_filter.mp hp
    exact ⟨p, rfl, List.mem_range.mp this.1, fun h e => by cases e; exact this.2⟩
theorem way_rows {n : Nat} {ns : List Int} (hn : ns.length = n) (m : Nat) : Way (rowR n) ns ((List.range (m + 1)).map (rowN ns)) := by
  refine ⟨by rw [List.getElem?_map, List.getElem?_range (by omega)]; rfl, fun ms hm => ?_, fun i a b h1 h2 => ?_⟩
  · obtain ⟨k, _, rfl⟩ := List.mem_map.mp hm
    rw [rowN_len, rowR_len]
    exact hn
  · rw [List.getElem?_map] at h1 h2
    have l2 : i + 1 < m + 1 := by
      by_cases c : i + 1 < m + 1
      · exact c
      · rw [List.getElem?_eq_none (by rw [List.length_range]; omega)] at h2
        cases h2
    rw [List.getElem?_range (by omega)] at h1
    rw [List.getElem?_range l2] at h2
    cases h1
    cases h2
    exact row_beat (by rw [rowN_len]; exact hn)
theorem cut_mid {α : Type} (xs : List α) {j k : Nat} (hj : j ≤ k) (hk : k ≤ xs.length) : cutI xs (some (j : Int)) (some (k : Int)) = (xs.drop j).take (k - j) := by
  unfold cutI
  rw [HT.sIx_nat, HT.sIx_nat, Nat.min_eq_left hk, Nat.min_eq_left (by omega)]
theorem eqv_lsts (a : List Int) : PyData.eqv (.list (a.map PyData.int)) (.list (a.map PyData.int)) = true := by rw [PyData.eqv, eqvAll_ints]; exact decide_eq_true rfl
theorem row_roundsS {n : Nat} (n3 : 3 ≤ n) (n30 : n ≤ 30) {ns : List Int} (hn : ns.length = n) (pos : ∀ x ∈ ns, 0 ≤ x) {q : List Int} (cv : ∀ p : Nat, p < n → (p : Int) ∈ q) (q1 : 1 ≤ q.length) (q2 : q.length ≤ 30) (r : Nat) (nr : ∀ r', r' < r → ¬ Rest (rowR n) (seqL (rowR n) ns (lotsQ q) (r' * q.length))) : r * q.length ≤ 8000000 := by
  have l := lotsQ_len q
  have := row_rounds (n := n) (by omega) (by omega) hn pos (lotsQ_cov cv) (by omega) (r := r) (by rw [l]; exact nr)
  have n2 : n * n ≤ 30 * 30 := Nat.mul_le_mul n30 n30
  have : r * q.length ≤ 901 * 30 := Nat.mul_le_mul (by omega) q2
  omega
def bd66 (m : List Int) (c : Int) : PyData := .tuple [tupD m, .int c]
theorem bd_rp {bx : Addr} {c : Int} {H : Hp} (bo : Box bx c H) {p t : Addr} {m : List Int} {b : Int} (hp : H p = some (.tup [.ref t, .int b])) (ht : TupAt H t (m.map V.int)) : Rp bx H (.ref p) (bd66 m b) := .tup (.inl hp) (bo.neT hp) (.cons (ht.rpI bo) (.cons (.int _) .nil))
theorem bd_ok {n : Nat} {m : List Int} {b : Int} (h : m.length ≤ 8388608) : okD (n + 2) (bd66 m b) := by
  refine ⟨by show 2 ≤ _; decide, fun d hd => ?_⟩
  rcases List.mem_cons.mp hd with rfl | hd
  · exact okD_ints h
  · rw [List.mem_singleton.mp hd]; trivial
section
variable {P : Program} {w : World} {K : PySem.W.Frag} {mg : Str → Option Value} {base : Heap}
set_option maxHeartbeats 16000000 in
theorem ok_right (T : Txt K mg w) : FnG P w K mg base 11 T.f_right T.fd_right p_right spRight := by
  have G_take := ok_take (P := P) (w := w) (base := base) T
  have G_row_hall := ok_row_hall (P := P) (w := w) (base := base) T
  have G_rest_by_beats := ok_rest_by_beats (P := P) (w := w) (base := base) T
  have G_history := ok_history (P := P) (w := w) (base := base) T
  have G_waterline := ok_waterline (P := P) (w := w) (base := base) T
  have G_firm_of := ok_firm_of (P := P) (w := w) (base := base) T
  have G_is_line := ok_is_line (P := P) (w := w) (base := base) T
  have G_rest_by := ok_rest_byG (P := P) (w := w) (base := base) T
  have G_swept := ok_swept (P := P) (w := w) (base := base) T
  have G_back_due := ok_back_due (P := P) (w := w) (base := base) T
  have G_same := ok_same (P := P) (w := w) (base := base) T 6
  refine okG T.F_right sc_right (fun vs H Q E h => ?_) (fun cdv A outer s H vs Q E hr hG h => ?_)
  · obtain ⟨bx, rfl, _⟩ := h
    rfl
  · obtain ⟨bx, rfl, hB, q⟩ := h
    refine ⟨_, (pss_cons (ps_asg (pe_tup (pa_cons (pe_op op_add pe_int (pe_call G_take (hr.mono (by decide)) (by rfl) T.g_take T.F_take.kp T.b_take .nil pass0 (pa_cons (pv 0) (pa_cons pe_int pa_nil)))) (pa_cons (pe_op op_add pe_int (pe_call G_take (hr.mono (by decide)) (by rfl) T.g_take T.F_take.kp T.b_take .nil pass0 (pa_cons (pv 0) (pa_cons pe_int pa_nil)))) pa_nil))) (pg_tup rfl (pgs_cons (pg_name (i := 1) sc_right.nd rfl (.inl rfl)) (pgs_cons (pg_name (i := 2) sc_right.nd rfl (.inr rfl)) pgs_nil))))
      (pss_cons (ps_set (i := 3) sc_right.nd rfl (.inl rfl) (pe_call G_row_hall (hr.mono (by decide)) (by rfl) T.g_row_hall T.F_row_hall.kp T.b_row_hall .nil pass0 (pa_cons (pv 1) pa_nil)))
      (pss_cons (ps_set (i := 4) sc_right.nd rfl (.inl rfl) (pe_op op_catA (pe_callTy call_tupleF (by rfl) T.m_tuple (by decide +kernel) (pa_cons (pe_lc (own := [("_law_one", 5)]) (g := gName 5) (by rfl) sc_right.nd (pi_range1 (by rfl) T.m_range (pa_cons (pe_op op_sub (pv 1) pe_int) pa_nil)) (blkOk_by (own := [("_law_one", 5)]) (N := n_right) (sc := defScope s_right) (by decide +kernel)) (fun _ _ _ _ _ => (pg_name (i := 5) sc_right.nd rfl (.inl rfl) (.inr rfl))) (fun _ _ _ _ _ => pts_nil) (fun _ _ _ _ _ => (pe_op op_add (pv 2) (pv 5)))) pa_nil)) (pe_tup (pa_cons (pe_op op_sub (pv 2) pe_int) (pa_cons (pe_op op_sub (pv 2) pe_int) pa_nil)))))
      (pss_cons (ps_asg (pe_tup (pa_cons (pe_call G_rest_by_beats (hr.mono (by decide)) (by rfl) T.g_rest_by_beats T.F_rest_by_beats.kp T.b_rest_by_beats .nil pass0 (pa_cons (pv 3) (pa_cons (pv 4) pa_nil))) (pa_cons (pe_op op_catA (pe_tupRg (by rfl) (by rfl) T.m_tuple (prg_1 (by rfl) T.m_range (pe_op op_sub (pv 1) pe_int))) (pe_tup (pa_cons pe_int (pa_cons (pe_op op_sub (pv 1) pe_int) pa_nil)))) pa_nil))) (pg_tup rfl (pgs_cons (pg_name (i := 6) sc_right.nd rfl (.inl rfl)) (pgs_cons (pg_name (i := 7) sc_right.nd rfl (.inr rfl)) pgs_nil))))
      (pss_cons (ps_if (pt_not (pt_val (pe_call G_same (hr.mono (by decide)) (by rfl) T.g_same T.F_same.kp T.b_same .nil pass0 (pa_cons (pv 6) (pa_cons (pe_tup (pa_cons (pv 7) (pa_cons (pe_op op_sub (pv 1) pe_int) pa_nil))) pa_nil)))))
        (pss_one (ps_ret pe_bl))
        pss_nil)
      (pss_cons (ps_set (i := 8) sc_right.nd rfl (.inr rfl) (pe_call G_history (hr.mono (by decide)) (by rfl) T.g_history T.F_history.kp T.b_history .nil pass0 (pa_cons (pv 3) (pa_cons (pv 4) (pa_cons (pv 1) pa_nil)))))
      (pss_cons (ps_if (PW.pt (pw_or (pt_cmpR (op_neD hr.units) (pe_lc (own := [("_law_shown", 9)]) (g := gName 9) (by rfl) sc_right.nd (pi_list (pe_slice sl_list (pv 8) (po_some pe_int) (po_some (pv 1)))) (blkOk_by (own := [("_law_shown", 9)]) (N := n_right) (sc := defScope s_right) (by decide +kernel)) (fun _ _ _ _ _ => (pg_name (i := 9) sc_right.nd rfl (.inl rfl) (.inr rfl))) (fun _ _ _ _ _ => pts_nil) (fun _ _ _ _ _ => (pe_ix (r := rIxT K) ix_tup (pv 9) (pe_un un_neg pe_int) (fun _ _ => rfl)))) (pe_listRg (by rfl) (by rfl) T.m_list (prg_2 (by rfl) T.m_range pe_int (pv 1))) (nomark _)) (pw_or1 (pt_cmpR (op_neD hr.units) (pe_ix ix_list (pv 8) (pv 1) (fun _ _ => rfl)) (pv 7) (nomark _)))))
        (pss_one (ps_ret pe_bl))
        pss_nil)
      (pss_cons (ps_for PassesOwn.never rfl (pi_tup (pe_tup (pa_cons pe_int (pa_cons (pe_op op_add pe_int (pe_call G_take (hr.mono (by decide)) (by rfl) T.g_take T.F_take.kp T.b_take .nil pass0 (pa_cons (pv 0) (pa_cons (pe_op op_sub (pv 1) pe_int) pa_nil)))) (pa_cons (pe_op op_sub (pv 1) pe_int) pa_nil))))) (pg_name (i := 10) sc_right.nd rfl (.inr rfl))
        (pss_cons (ps_set (i := 11) sc_right.nd rfl (.inl rfl) (pe_call G_waterline (hr.mono (by decide)) (by rfl) T.g_waterline T.F_waterline.kp T.b_waterline .nil pass0 (pa_cons (pv 3) (pa_cons (pe_ix ix_list (pv 8) (pv 10) (fun _ _ => rfl)) pa_nil))))
        (pss_cons (ps_set (i := 12) sc_right.nd rfl (.inl rfl) (pe_call G_firm_of (hr.mono (by decide)) (by rfl) T.g_firm_of T.F_firm_of.kp T.b_firm_of .nil pass0 (pa_cons (pv 3) (pa_cons (pe_ix ix_list (pv 8) (pv 10) (fun _ _ => rfl)) pa_nil))))
        (pss_cons (ps_if (PW.pt (pw_or (pt_cmpR op_ne (pe_cmpR op_isN (pv 11) pe_non (nomark _)) (pe_cmpR op_eq (pv 10) (pe_op op_sub (pv 1) pe_int) (nomark _)) (nomark _)) (pw_or1 (PW.pt (pw_and (pt_cmpR op_notN (pv 11) pe_non (nomark _)) (pw_and1 (pt_not (pt_val (pe_call G_is_line (hr.mono (by decide)) (by rfl) T.g_is_line T.F_is_line.kp T.b_is_line .nil pass0 (pa_cons (pv 3) (pa_cons (pe_ix ix_list (pv 8) (pv 10) (fun _ _ => rfl)) (pa_cons (pv 11) pa_nil))))))))))))
          (pss_one (ps_ret pe_bl))
          pss_nil)
        (pss_one (ps_if (pt_val (pe_callB (cr_any rfl) (by rfl) T.m_any (by decide +kernel) (pa_cons (pe_lc (own := [("_law_one", 5)]) (g := gName 5) (by rfl) sc_right.nd (pi_list (pv 12)) (blkOk_by (own := [("_law_one", 5)]) (N := n_right) (sc := defScope s_right) (by decide +kernel)) (fun _ _ _ _ _ => (pg_name (i := 5) sc_right.nd rfl (.inl rfl) (.inr rfl))) (fun _ _ _ _ _ => pts_nil) (fun _ _ _ _ _ => (pe_cmpR op_ne (pe_ix (r := rIxT K) ix_tup (pe_ix (r := rIxL K) ix_list (pv 8) (pv 10) (fun _ _ => rfl)) (pv 5) (fun _ _ => rfl)) (pe_ix (r := rIxT K) ix_tup (pv 7) (pv 5) (fun _ _ => rfl)) (nomark _)))) pa_nil)))
          (pss_one (ps_ret pe_bl))
          pss_nil))))))
      (pss_cons (ps_if (pt_cmpR (op_neD hr.units) (pe_ix ix_tup (pe_call G_rest_by (hr.mono (by decide)) (by rfl) T.g_rest_by T.F_rest_by.kp T.b_rest_by .nil pass0 (pa_cons (pv 3) (pa_cons (pv 4) (pa_cons (pe_listRg (by rfl) (by rfl) T.m_list (prg_1 (by rfl) T.m_range (pv 1))) pa_nil)))) pe_int (fun _ _ => rfl)) (pe_call G_swept (hr.mono (by decide)) (by rfl) T.g_swept T.F_swept.kp T.b_swept .nil pass0 (pa_cons (pv 4) pa_nil)) (nomark _))
        (pss_one (ps_ret pe_bl))
        pss_nil)
      (pss_cons (ps_set (i := 13) sc_right.nd rfl (.inl rfl) (pe_call G_rest_by (hr.mono (by decide)) (by rfl) T.g_rest_by T.F_rest_by.kp T.b_rest_by .nil pass0 (pa_cons (pv 3) (pa_cons (pv 4) (pa_cons (pe_revL (pe_listRg (by rfl) (by rfl) T.m_list (prg_1 (by rfl) T.m_range (pv 1)))) pa_nil)))))
      (pss_one (ps_ret (pe_and (pe_call G_same (hr.mono (by decide)) (by rfl) T.g_same T.F_same.kp T.b_same .nil pass0 (pa_cons (pe_ix ix_tup (pv 13) pe_int (fun _ _ => rfl)) (pa_cons (pe_call G_back_due (hr.mono (by decide)) (by rfl) T.g_back_due T.F_back_due.kp T.b_back_due .nil pass0 (pa_cons (pv 1) (pa_cons (pv 2) pa_nil))) pa_nil))) (pe_one (pe_cmpR op_eq (pe_ix ix_list (pe_ix ix_tup (pv 13) pe_int (fun _ _ => rfl)) pe_int (fun _ _ => rfl)) (pe_op op_sub (pv 1) pe_int) (nomark _)))))))))))))))), ?_⟩
    rw [start66]
    refine seq_useN (fun σ H2 => ∃ (n : Nat) (f : Int), σ = [some (.ref bx), some (.int n), some (.int f), none, none, none, none, none, none, none, none, none, none, none] ∧ Ext bx H H2 ∧ Box bx 2 H2 ∧ 3 ≤ n ∧ n ≤ 30 ∧ 10 ≤ f ∧ f ≤ 100) (fun N hN => ?_) ?_
    · refine ⟨.ref bx, rfl, bx, _, 28, rfl, by decide, by decide, by omega, hB, fun r1 H1 r10 r11 e1 b1 => ⟨_, _, rfl, rfl, .ref bx, rfl, bx, _, 90, rfl, by decide, by decide, by omega, b1, fun r2 H2 r20 r21 e2 b2 => ⟨_, _, rfl, rfl, by show 2 ≤ sizeLine; decide, fun tp ntp => ?_⟩⟩⟩
      have stp := same_upd (o := .tup [.int (3 + r1), .int (10 + r2)]) ntp
      refine ⟨tp, _, rfl, .inl (.inl upd_same), rfl, _, _, rfl, _, _, rfl, rfl, ?_⟩
      refine hN _ _ ⟨(3 + r1).toNat, 10 + r2, ?_, (e1.trans e2).trans (Ext.of stp), (b2.same stp).mono (by omega), by omega, by omega, by omega, by omega⟩
      rw [show (((3 + r1).toNat : Nat) : Int) = 3 + r1 by omega]
      rfl
    rintro σ H2 ⟨n, f, rfl, e2, b2, n3, n30, f10, f100⟩
    have lfs := fst_len (f := f) n3
    have hh := rowR_halls (by omega : 1 ≤ n) (by omega : n ≤ 60)
    have lnr : (fst66 n f).length = (rowR n).length := by rw [rowR_len]; exact lfs
    have pos : ∀ y ∈ fst66 n f, 0 ≤ y := fun y hy => by
      unfold fst66 upL at hy
      rcases List.mem_append.mp hy with z | z
      · obtain ⟨k, _, rfl⟩ := List.mem_map.mp z; omega
      · simp only [List.mem_cons, List.not_mem_nil, or_false] at z; omega
    refine seq_useN (fun σ H3 => ∃ x : Addr, σ = [some (.ref bx), some (.int n), some (.int f), some (.ref x), none, none, none, none, none, none, none, none, none, none] ∧ Ext bx H H3 ∧ Box bx 2 H3 ∧ HallAt T.C_Hall H3 x (rowR n)) (fun N hN => ?_) ?_
    · refine ⟨.int n, rfl, n, rfl, by omega, by omega, fun x H3 s3 hA => ?_⟩
      exact hN _ _ ⟨x, rfl, e2.trans (Ext.of s3), b2.same s3, hA⟩
    rintro σ H3 ⟨x, rfl, e3, b3, hA3⟩
    clear e2 b2
    refine seq_useN (fun σ H4 => ∃ t : Addr, σ = [some (.ref bx), some (.int n), some (.int f), some (.ref x), some (.ref t), none, none, none, none, none, none, none, none, none] ∧ Same H3 H4 ∧ TupAt H4 t ((fst66 n f).map V.int)) (fun N hN => ?_) ?_
    · refine ⟨.int n, rfl, _, _, rfl, rfl, _, rfl, by omega, by omega, fun D hD => ?_⟩
      refine lc_map walk_range (fun k => .int (f + (k : Nat))) hD (by omega) (fun _ _ => trivial) ?_ ?_
      · rintro k v H4 H5 hk s4 ⟨rfl, rfl⟩ Q' Z hQ
        refine ⟨rfl, yes (iteT ?_)⟩
        rw [← Int.zero_add (k : Int)] at hQ
        exact ⟨.int f, rfl, .int (0 + k), rfl, _, _, rfl, rfl, hQ _ (Same.refl _)⟩
      intro H4 s4 h4
      rw [show ((n : Int) - 2).toNat = n - 2 by omega] at h4
      refine ⟨D, _, rfl, .inl (.inl h4), fun ta o nta od => ?_⟩
      refine ⟨.int f, rfl, _, _, rfl, rfl, .int f, rfl, _, _, rfl, rfl, by show 2 ≤ sizeLine; decide, fun tb ntb => ?_⟩
      have sta := same_upd (o := .frz o (.tup ((List.range (n - 2)).map fun k : Nat => V.int (f + (k : Nat))))) nta
      have stb := same_upd (o := .tup [.int (f - 5), .int (f - 3)]) ntb
      have hta : TupAt (upd H4 ta (.frz o (.tup ((List.range (n - 2)).map fun k : Nat => V.int (f + (k : Nat)))))) ta ((upL f (n - 2)).map V.int) := .inr ⟨o, od, by rw [upd_same]; unfold upL; rw [List.map_map]; rfl⟩
      refine cat_use (hta.keep (Keep.same stb)) (.inl upd_same) (Nat.le_trans (by rw [List.length_map, upL_len]; show n - 2 + 2 ≤ 100; omega : _ ≤ 100) (by decide)) fun c H5 sc hc => ?_
      refine hN _ _ ⟨c, rfl, s4.trans (sta.trans (stb.trans sc)), ?_⟩
      unfold fst66
      rw [List.map_append]
      exact hc
    rintro σ H4 ⟨t, rfl, s34, ht4⟩
    have b4 := b3.same s34
    have e4 := e3.trans (Ext.of s34)
    have hA4 := hA3.keep s34
    clear e3 b3 hA3 s34
    obtain ⟨E, hE⟩ : ∃ E, E = std66 n 0 ((n : Int) - 1) := ⟨_, rfl⟩
    have lE : E.length = n := by rw [hE]; exact std_len n3
    have rowEnd : ∀ k : Nat, n - 1 ≤ k → rowN (fst66 n f) k = E := fun k hk => by
      rw [hE, show k = (k - 1) + 1 by omega, fst_beats n3]
      congr 1
      omega
    refine seq_useN (fun σ H5 => ∃ td te : Addr, σ = [some (.ref bx), some (.int n), some (.int f), some (.ref x), some (.ref t), none, some (.ref td), some (.ref te), none, none, none, none, none, none] ∧ Same H4 H5 ∧ (∃ tm, H5 td = some (.tup [.ref tm, .int ((n - 1 : Nat) : Int)]) ∧ TupAt H5 tm (E.map V.int)) ∧ TupAt H5 te (E.map V.int)) (fun N hN => ?_) ?_
    · refine ⟨.ref x, rfl, .ref t, rfl, x, t, rowR n, fst66 n f, rfl, hA4, hh, ht4, lnr, pos, fun p tm m b H5 s5 n5 h5 hm5 cm => ?_⟩
      obtain ⟨ib, em⟩ := IsB.of_come lfs cm
      have eb := ib.unique (fst_isB n3 f10)
      subst eb
      rw [rowEnd _ (Nat.le_refl _)] at em
      subst em
      refine ⟨.int n, rfl, _, _, rfl, rfl, _, rfl, RgOk.of_le (by omega) (by omega) (by omega) (by omega), fun q1 nq1 => ?_⟩
      have sq1 := same_upd (o := .tup (rgV 0 ((n : Int) - 2))) nq1
      refine ⟨.int n, rfl, _, _, rfl, rfl, by show 2 ≤ sizeLine; decide, fun q2 nq2 => ?_⟩
      have sq2 := same_upd (o := .tup [.int 0, .int ((n : Int) - 1)]) nq2
      have eu : rgV 0 ((n : Int) - 2) = (upL 0 (n - 2)).map V.int := by
        unfold rgV upL
        rw [List.map_map, show (((n : Int) - 2) - 0).toNat = n - 2 by omega]
        rfl
      have hq1 : TupAt (upd H5 q1 (.tup (rgV 0 ((n : Int) - 2)))) q1 ((upL 0 (n - 2)).map V.int) := .inl (by rw [upd_same, eu])
      refine cat_use (hq1.keep (Keep.same sq2)) (.inl upd_same) (Nat.le_trans (by rw [List.length_map, upL_len]; show n - 2 + 2 ≤ 100; omega : _ ≤ 100) (by decide)) fun te H6 s6 hte => ?_
      have sA := sq1.trans (sq2.trans s6)
      refine ⟨by show 2 ≤ sizeLine; decide, fun tp ntp => ?_⟩
      have stp := same_upd (o := .tup [.ref p, .ref te]) ntp
      refine ⟨tp, _, rfl, .inl (.inl upd_same), rfl, _, _, rfl, _, _, rfl, rfl, ?_⟩
      refine hN _ _ ⟨p, te, rfl, s5.trans (sA.trans stp), ⟨tm, (sA.trans stp) _ _ h5, hm5.keep (Keep.same (sA.trans stp))⟩, ?_⟩
      rw [hE]
      unfold std66
      rw [List.map_append]
      exact hte.keep (Keep.same stp)
    rintro σ H5 ⟨td, te, rfl, s5, ⟨tm, htd, htm⟩, hte⟩
    refine seq_useN (fun σ H6 => σ = [some (.ref bx), some (.int n), some (.int f), some (.ref x), some (.ref t), none, some (.ref td), some (.ref te), none, none, none, none, none, none] ∧ Same H4 H6 ∧ TupAt H6 te (E.map V.int)) (fun N hN => ?_) ?_
    · refine ⟨.ref td, rfl, .ref te, rfl, .int n, rfl, _, _, rfl, rfl, by show 2 ≤ sizeLine; decide, fun tq ntq => ?_⟩
      have stq := same_upd (o := .tup [.ref te, .int ((n : Int) - 1)]) ntq
      have b6 := (b4.same s5).same stq
      have r1 := bd_rp b6 (stq _ _ htd) (htm.keep (Keep.same stq))
      have r2 := bd_rp b6 upd_same (hte.keep (Keep.same stq))
      rw [show ((n - 1 : Nat) : Int) = (n : Int) - 1 by omega] at r1
      refine ⟨bx, _, _, bd66 E ((n : Int) - 1), rfl, r1, r2, bd_ok (by omega), fun H7 s7 => ⟨_, rfl, iteN rfl ?_⟩⟩
      exact hN _ _ ⟨rfl, s5.trans (stq.trans s7), hte.keep (Keep.same (stq.trans s7))⟩
    rintro σ H6 ⟨rfl, s6, hte6⟩
    have b6 := b4.same s6
    have e6 := e4.trans (Ext.of s6)
    have hA6 := hA4.keep s6
    have ht6 := ht4.keep (Keep.same s6)
    clear b4 e4 hA4 ht4 s5 htd htm hte s6
    refine seq_useN (fun σ H7 => ∃ (l : Addr) (us : List V), σ = [some (.ref bx), some (.int n), some (.int f), some (.ref x), some (.ref t), none, some (.ref td), some (.ref te), some (.ref l), none, none, none, none, none] ∧ Same H6 H7 ∧ l ≠ bx ∧ H7 l = some (.lst us) ∧ us.length = n + 1 ∧ ∀ i, i ≤ n → ∃ u, us[i]? = some (.ref u) ∧ TupAt H7 u ((rowN (fst66 n f) i).map V.int)) (fun N hN => ?_) ?_
    · refine ⟨.ref x, rfl, .ref t, rfl, .int n, rfl, x, t, n, rowR n, fst66 n f, rfl, hA6, hh, ht6, lnr, by omega, fun l us nss H7 s7 nl hl st wy ln => ?_⟩
      have eqs : nss = (List.range (n + 1)).map (rowN (fst66 n f)) := wy.unique (way_rows lfs n) (by rw [ln, List.length_map, List.length_range])
      subst eqs
      have lv : us.length = n + 1 := by rw [st.length, List.length_map, List.length_range]
      exact hN _ _ ⟨l, us, rfl, s7, b6.ne nl, hl, lv, fun i hi => st.get i _ (by rw [List.getElem?_map, List.getElem?_range (by omega)]; rfl)⟩
    rintro σ H7 ⟨l, us, rfl, s7, nlb, hl, lus, ats⟩
    have b7 := b6.same s7
    have e7 := e6.trans (Ext.of s7)
    have hA7 := hA6.keep s7
    have ht7 := ht6.keep (Keep.same s7)
    have hte7 := hte6.keep (Keep.same s7)
    clear b6 e6 hA6 ht6 hte6 s7
    refine seq_useN (fun σ H8 => σ = [some (.ref bx), some (.int n), some (.int f), some (.ref x), some (.ref t), none, some (.ref td), some (.ref te), some (.ref l), none, none, none, none, none] ∧ Same H7 H8) (fun N hN => ?_) ?_
    · refine ⟨.ref l, rfl, 1, rfl, .int n, rfl, _, rfl, l, us, rfl, .inl (.inl hl), fun c nc => ?_⟩
      rw [cutV_id, show (1 : Int) = ((1 : Nat) : Int) from rfl, cut_mid us (by omega) (by omega)]
      have sc := same_upd (o := .lst ((us.drop 1).take (n - 1))) nc
      have hc := upd_same (H := H7) (a := c) (o := HO.lst ((us.drop 1).take (n - 1)))
      generalize upd H7 c (.lst ((us.drop 1).take (n - 1))) = HA at sc hc ⊢
      refine ⟨c, rfl, ⟨_, .inl (.inl hc)⟩, fun D hD => ?_⟩
      have lcut : ((us.drop 1).take (n - 1)).length = n - 1 := by rw [List.length_take, List.length_drop]; omega
      refine lc_map (walk_list (xs := (us.drop 1).take (n - 1))) (fun i => .int (1 + (i : Nat))) hD (by omega) (fun H3 s3 => .inl (.inl (s3 _ _ hc))) ?_ ?_
      · rintro i y H3 H4' hi s3 ⟨rfl, hy⟩ Q' Z hQ
        rw [lcut] at hi
        rw [List.getElem?_take_of_lt hi, List.getElem?_drop, Nat.add_comm] at hy
        obtain ⟨u, hu, htu⟩ := ats (i + 1) (by omega)
        have ey : y = .ref u := Option.some.inj (hy.symm.trans hu)
        subst ey
        refine ⟨rfl, yes (iteT ?_)⟩
        have htu' := (htu.keep (Keep.same sc)).keep (Keep.same s3)
        have lastv : ((rowN (fst66 n f) (i + 1)).map V.int)[((rowN (fst66 n f) (i + 1)).map V.int).length - 1]? = some (.int (1 + (i : Nat))) := by
          have l1 : (rowN (fst66 n f) (i + 1)).length = n := by rw [rowN_len]; exact lfs
          have g := nth_get (ns := rowN (fst66 n f) (i + 1)) (p := ((n - 2 + 1 : Nat) : Int)) (by omega) (by omega)
          rw [Int.toNat_natCast] at g
          rw [List.length_map, l1, show n - 1 = n - 2 + 1 by omega, g, fst_beats n3]
          have g2 : nth (std66 n 0 (min ((i : Int) + 1) ((n : Int) - 1))) (n - 2 + 1 : Nat) = min ((i : Int) + 1) ((n : Int) - 1) := up_nth2
          rw [g2, show min ((i : Int) + 1) ((n : Int) - 1) = 1 + (i : Nat) by omega]
        exact ⟨.ref u, rfl, 1, rfl, u, _, -1, _, rfl, rfl, htu'.sq, at_end lastv, hQ _ (Same.refl _)⟩
      intro HB sB hB
      rw [lcut] at hB
      refine ⟨.int n, rfl, 1, (n : Int), rfl, rfl, RgOk.of_le (by omega) (by omega) (by omega) (by omega), fun q1 nq1 => ?_⟩
      have sq1 := same_upd (o := .lst (rgV 1 (n : Int))) nq1
      have eL : rgV 1 (n : Int) = ((List.range (n - 1)).map fun i : Nat => (1 : Int) + (i : Int)).map V.int := by
        unfold rgV
        rw [List.map_map, show ((n : Int) - 1).toNat = n - 1 by omega]
        rfl
      have hB' : HB D = some (.lst (((List.range (n - 1)).map fun i : Nat => (1 : Int) + (i : Int)).map V.int)) := by rw [hB, List.map_map]; rfl
      refine ⟨.list (((List.range (n - 1)).map fun i : Nat => (1 : Int) + (i : Int)).map PyData.int), .list (((List.range (n - 1)).map fun i : Nat => (1 : Int) + (i : Int)).map PyData.int), .lst (.inl (.inl (sq1 _ _ hB'))) (RpAll.dp (bx := bx) (RpAll.ints _)), .lst (.inl (.inl (by rw [upd_same, eL]))) (RpAll.dp (bx := bx) (RpAll.ints _)), shaped_ints _, shaped_ints _, _, rfl, ?_⟩
      rw [eqv_lsts]
      refine iteN rfl ?_
      have sA := sc.trans (sB.trans sq1)
      obtain ⟨u, hu, htu⟩ := ats n (Nat.le_refl _)
      rw [rowEnd n (by omega)] at htu
      refine ⟨.ref l, rfl, .int n, rfl, l, us, (n : Int), .ref u, rfl, rfl, .inl (.inl (sA _ _ hl)), atI_nat hu, .ref te, rfl, tupD E, tupD E, (htu.keep (Keep.same sA)).dp, (hte7.keep (Keep.same sA)).dp, shaped_tup _, shaped_tup _, _, rfl, ?_⟩
      rw [show PyData.eqv (tupD E) (tupD E) = decide (E = E) from eqv_tups E E]
      exact iteN (by simp) (hN _ _ ⟨rfl, sA⟩)
    rintro σ H8 ⟨rfl, s8⟩
    have b8 := b7.same s8
    have e8 := e7.trans (Ext.of s8)
    have hA8 := hA7.keep s8
    have ht8 := ht7.keep (Keep.same s8)
    have hte8 := hte7.keep (Keep.same s8)
    have hl8 := s8 _ _ hl
    have ats8 : ∀ i, i ≤ n → ∃ u, us[i]? = some (.ref u) ∧ TupAt H8 u ((rowN (fst66 n f) i).map V.int) := fun i hi => by
      obtain ⟨u, h1, h2⟩ := ats i hi
      exact ⟨u, h1, h2.keep (Keep.same s8)⟩
    clear b7 e7 hA7 ht7 hte7 hl ats s8
    refine seq_useN (fun σ H9 => ∃ y5 y10 y11 y12 : Option V, σ = [some (.ref bx), some (.int n), some (.int f), some (.ref x), some (.ref t), y5, some (.ref td), some (.ref te), some (.ref l), none, y10, y11, y12, none] ∧ Ext bx H8 H9 ∧ Box bx 3 H9) (fun N hN => ?_) ?_
    · refine ⟨.ref bx, rfl, .int n, rfl, _, _, rfl, rfl, bx, _, (n : Int) - 1, rfl, by omega, by omega, by omega, b8, fun r1 H9 r10 r11 e9 b9 => ⟨_, _, rfl, rfl, .int n, rfl, _, _, rfl, rfl, by show 3 ≤ sizeLine; decide, fun tq ntq => ?_⟩⟩
      have stq := same_upd (o := .tup [.int 1, .int (1 + r1), .int ((n : Int) - 1)]) ntq
      have htq := upd_same (H := H9) (a := tq) (o := HO.tup [.int 1, .int (1 + r1), .int ((n : Int) - 1)])
      have k89 : ∀ {a : Addr} {ns : List Int}, TupAt H8 a (ns.map V.int) → TupAt H9 a (ns.map V.int) := fun h => h.keep (Keep.ext e9 b8)
      have hA9 := (hA8.ext e9 b8).keep stq
      have hl9 := stq _ _ (e9 _ _ nlb hl8)
      have bQ := b9.same stq
      have eQ := e9.trans (Ext.of stq)
      have hte9 := (k89 hte8).keep (Keep.same stq)
      have ats9 : ∀ i, i ≤ n → ∃ u, us[i]? = some (.ref u) ∧ TupAt (upd H9 tq (.tup [.int 1, .int (1 + r1), .int ((n : Int) - 1)])) u ((rowN (fst66 n f) i).map V.int) := fun i hi => by
        obtain ⟨u, h1, h2⟩ := ats8 i hi
        exact ⟨u, h1, (k89 h2).keep (Keep.same stq)⟩
      generalize upd H9 tq (.tup [.int 1, .int (1 + r1), .int ((n : Int) - 1)]) = HQ at htq hA9 hl9 bQ eQ hte9 ats9 ⊢
      refine ⟨tq, rfl, ⟨_, TupAt.sq (.inl htq)⟩, ?_⟩
      refine for_it (walk_tup (xs := [.int 1, .int (1 + r1), .int ((n : Int) - 1)])) (fun k σ HR => ∃ y5 y10 y11 y12 : Option V, σ = [some (.ref bx), some (.int n), some (.int f), some (.ref x), some (.ref t), y5, some (.ref td), some (.ref te), some (.ref l), none, y10, y11, y12, none] ∧ Same HQ HR) ⟨_, _, _, _, rfl, Same.refl _⟩ (fun _ _ HR _ ⟨_, _, _, _, _, sR⟩ => TupAt.sq (.inl (sR _ _ htq))) ?_ ?_
      · rintro k y σ HR HR' hk ⟨y5, y10, y11, y12, rfl, sR⟩ ⟨rfl, hy⟩
        have hb : ∃ b : Nat, y = .int b ∧ 1 ≤ b ∧ b ≤ n - 1 := by
          rcases (by have : k < 3 := hk; omega : k = 0 ∨ k = 1 ∨ k = 2) with rfl | rfl | rfl <;> cases hy
          · exact ⟨1, rfl, by omega, by omega⟩
          · exact ⟨(1 + r1).toNat, by rw [show (((1 + r1).toNat : Nat) : Int) = 1 + r1 by omega], by omega, by omega⟩
          · exact ⟨n - 1, by rw [show ((n - 1 : Nat) : Int) = (n : Int) - 1 by omega], by omega, by omega⟩
        obtain ⟨b, rfl, bl1, bl2⟩ := hb
        refine gname_step ?_
        simp only [List.set_cons_zero, List.set_cons_succ]
        obtain ⟨u, hu, htu⟩ := ats9 b (by omega)
        have lrow : (rowN (fst66 n f) b).length = (rowR n).length := by rw [rowN_len]; exact lnr
        have erow : rowN (fst66 n f) b = beatN (rowR n) (fst66 n f) b := (row_beatN lfs b).symm
        have posb : ∀ y ∈ rowN (fst66 n f) b, 0 ≤ y := by rw [erow]; exact beatN_pos hh lnr pos b
        have hA' := hA9.keep sR
        have htu' := htu.keep (Keep.same sR)
        have hl' := sR _ _ hl9
        refine seq_useN (fun σ HS => ∃ o : Option Int, σ = [some (.ref bx), some (.int n), some (.int f), some (.ref x), some (.ref t), y5, some (.ref td), some (.ref te), some (.ref l), none, some (.int b), some (vO o), y12, none] ∧ Same HR' HS ∧ Wl (rowR n) (rowN (fst66 n f) b) o) (fun N2 hN2 => ?_) ?_
        · refine ⟨.ref x, rfl, .ref l, rfl, .int b, rfl, l, us, (b : Int), .ref u, rfl, rfl, .inl (.inl hl'), atI_nat hu, ?_⟩
          refine ⟨x, u, rowR n, rowN (fst66 n f) b, rfl, hA', hh, htu', lrow, posb, fun o HS sS wl => ?_⟩
          exact hN2 _ _ ⟨o, rfl, sS, wl⟩
        rintro σ HS ⟨o, rfl, sS, wl⟩
        refine seq_useN (fun σ HT => ∃ fl : Addr, σ = [some (.ref bx), some (.int n), some (.int f), some (.ref x), some (.ref t), y5, some (.ref td), some (.ref te), some (.ref l), none, some (.int b), some (vO o), some (.ref fl), none] ∧ Same HR' HT ∧ HT fl = some (.lst ((firmL (rowR n) (rowN (fst66 n f) b) o).map V.int))) (fun N2 hN2 => ?_) ?_
        · refine ⟨.ref x, rfl, .ref l, rfl, .int b, rfl, l, us, (b : Int), .ref u, rfl, rfl, .inl (.inl (sS _ _ hl')), atI_nat hu, ?_⟩
          refine ⟨x, u, rowR n, rowN (fst66 n f) b, rfl, hA'.keep sS, hh, htu'.keep (Keep.same sS), lrow, posb, fun o2 fl HT sT wl2 nfl hfl => ?_⟩
          have eo := wl2.unique wl
          subst eo
          exact hN2 _ _ ⟨fl, rfl, sS.trans sT, hfl⟩
        rintro σ HT ⟨fl, rfl, sT, hfl⟩
        have hA'' := hA'.keep sT
        have htu'' := htu'.keep (Keep.same sT)
        have hl'' := sT _ _ hl'
        have rest : Rest (rowR n) (rowN (fst66 n f) b) ↔ b = n - 1 := by
          obtain ⟨b', rfl⟩ : ∃ b', b = b' + 1 := ⟨b - 1, by omega⟩
          constructor
          · intro h
            have rr := row_rest (by rw [rowN_len]; exact lfs) h
            rw [fst_beats n3] at rr
            have := (std_rest n3 (by omega) (by omega)).mp rr
            omega
          · intro h i hi
            have rr : RowRest (rowN (fst66 n f) (b' + 1)) := by
              rw [fst_beats n3]
              exact (std_rest n3 (by omega) (by omega)).mpr (by omega)
            exact (row_tell hi).mpr (rr i (by rw [lrow]; exact hi))
        refine seq_useN (fun σ HU => σ = [some (.ref bx), some (.int n), some (.int f), some (.ref x), some (.ref t), y5, some (.ref td), some (.ref te), some (.ref l), none, some (.int b), some (vO o), some (.ref fl), none] ∧ Same HT HU) (fun N2 hN2 => ?_) ?_
        · have e : decide (vO o = V.non) = decide (V.int (b : Nat) = V.int ((n : Int) - 1)) := by
            cases o with
            | none =>
              have h : b = n - 1 := rest.mp wl
              rw [show ((b : Nat) : Int) = (n : Int) - 1 by omega]
              exact (decide_eq_true rfl).trans (decide_eq_true rfl).symm
            | some m =>
              have h : ¬ b = n - 1 := fun z => wl.1 (rest.mpr z)
              refine (decide_eq_false (fun z => by cases z)).trans (decide_eq_false fun z => ?_).symm
              have := V.int.inj z
              omega
          refine ⟨vO o, rfl, rfl, .int b, rfl, .int n, rfl, _, _, rfl, rfl, rfl, rfl, _, rfl, ?_⟩
          rw [e]
          refine iteN (by simp) ?_
          refine ⟨vO o, rfl, rfl, _, rfl, ?_⟩
          cases o with
          | none => exact iteN rfl (hN2 _ _ ⟨rfl, Same.refl _⟩)
          | some m =>
            obtain ⟨nr, ⟨top, mt, et, lt⟩, _⟩ := wl
            refine iteP rfl ⟨.ref x, rfl, .ref l, rfl, .int b, rfl, l, us, (b : Int), .ref u, rfl, rfl, .inl (.inl hl''), atI_nat hu, .int m, rfl, x, u, m, rowR n, rowN (fst66 n f) b, rfl, hA'', hh, htu'', lrow, by rw [et]; exact topM_nn hh posb (posb top mt), fun HU sU => ⟨_, rfl, iteN (by rw [lt]; rfl) ?_⟩⟩
            exact hN2 _ _ ⟨rfl, sU⟩
        rintro σ HU ⟨rfl, sU⟩
        have sTU := sT.trans sU
        have hflU := sU _ _ hfl
        have htuU := htu''.keep (Keep.same sU)
        have hlU := sU _ _ hl''
        have hteU := hte9.keep (Keep.same (sR.trans sTU))
        have lfirm := firmL_len (rowR n) (rowN (fst66 n f) b) o
        rw [rowR_len] at lfirm
        refine ⟨.ref fl, rfl, fl, rfl, ⟨_, .inl (.inl hflU)⟩, fun D hD => ?_⟩
        refine lc_map (walk_list (xs := (firmL (rowR n) (rowN (fst66 n f) b) o).map V.int)) (fun _ => .bl false) hD (by rw [List.length_map]; omega) (fun H3 s3 => .inl (.inl (s3 _ _ hflU))) ?_ ?_
        · rintro j y H3 H4' hj s3 ⟨rfl, hy⟩ Q' Z hQ
          rw [List.length_map] at hj
          rw [List.getElem?_map, List.getElem?_eq_getElem hj] at hy
          cases hy
          obtain ⟨p, ep, hp, fm⟩ := firm_mem (List.getElem_mem hj)
          rw [ep]
          have hp' : p < n := by rw [rowR_len] at hp; exact hp
          have same : nth (rowN (fst66 n f) b) p = nth E p := by
            cases o with
            | none =>
              have h : b = n - 1 := rest.mp wl
              rw [rowEnd b (by omega)]
            | some h =>
              obtain ⟨nr, ⟨top, mt, et, lt⟩, _⟩ := wl
              have ln := line_iff.mp lt
              rw [erow] at ln
              have fm' := fm h rfl
              rw [erow] at fm'
              have := beatN_firm hh lnr pos ln hp fm' (n - 1 - b)
              rw [row_beatN lfs, row_beatN lfs, rowEnd (b + (n - 1 - b)) (by omega)] at this
              exact this.symm
          have l1 : (rowN (fst66 n f) b).length = n := by rw [rowN_len]; exact lfs
          have g1 := nth_get (ns := rowN (fst66 n f) b) (p := (p : Int)) (by omega) (by omega)
          have g2 := nth_get (ns := E) (p := (p : Int)) (by omega) (by omega)
          rw [Int.toNat_natCast] at g1 g2
          refine ⟨rfl, yes (iteT ?_)⟩
          refine ⟨.ref l, rfl, .int b, rfl, l, us, (b : Int), .ref u, rfl, rfl, .inl (.inl (s3 _ _ hlU)), atI_nat hu, .int p, rfl, u, _, (p : Int), _, rfl, rfl, (htuU.keep (Keep.same s3)).sq, atI_nat g1, .ref te, rfl, .int p, rfl, te, _, (p : Int), _, rfl, rfl, (hteU.keep (Keep.same s3)).sq, atI_nat g2, rfl, ?_⟩
          rw [same, show (!decide (V.int (nth E p) = V.int (nth E p))) = false by simp]
          exact hQ _ (Same.refl _)
        intro HV sV hV
        rw [List.length_map] at hV
        have hV' : HV D = some (.lst ((List.replicate (firmL (rowR n) (rowN (fst66 n f) b) o).length false).map V.bl)) := by
          rw [hV, List.map_const', List.length_range, List.map_replicate]
        refine ⟨D, _, rfl, .inl (.inl hV'), _, rfl, iteN (by
          rw [List.any_eq_false]
          intro z hz
          rw [List.eq_of_mem_replicate hz]
          exact Bool.false_ne_true) ?_⟩
        exact ⟨_, _, _, _, rfl, sR.trans (sTU.trans sV)⟩
      · rintro σ HR ⟨y5, y10, y11, y12, rfl, sR⟩
        exact hN _ _ ⟨_, _, _, _, rfl, eQ.trans (Ext.of sR), (bQ.same sR).mono (by omega)⟩
    rintro σ H9 ⟨y5, y10, y11, y12, rfl, e9, b9⟩
    have hA9 := hA8.ext e9 b8
    have ht9 := ht8.keep (Keep.ext e9 b8)
    have eAll := e8.trans e9
    have erg : rgV 0 ((n : Nat) : Int) = (forQ n).map V.int := by rw [rg_ints, show ((n : Nat) : Int).toNat = n by omega]; rfl
    refine seq_useN (fun σ HA => σ = [some (.ref bx), some (.int n), some (.int f), some (.ref x), some (.ref t), y5, some (.ref td), some (.ref te), some (.ref l), none, y10, y11, y12, none] ∧ Same H9 HA) (fun N hN => ?_) ?_
    · refine ⟨.ref x, rfl, .ref t, rfl, .int n, rfl, _, rfl, RgOk.of_le (by omega) (by omega) (by omega) (by omega), fun pa npa => ?_⟩
      have spa := same_upd (o := .lst (rgV 0 (n : Int))) npa
      have lq := forQ_len n
      have cvF : ∀ p : Nat, p < n → (p : Int) ∈ forQ n := fun p hp => List.mem_map.mpr ⟨p, List.mem_range.mpr hp, rfl⟩
      have inF : ∀ y ∈ forQ n, 0 ≤ y ∧ y < (n : Int) := fun y hy => by
        obtain ⟨k, hk, rfl⟩ := List.mem_map.mp hy
        have := List.mem_range.mp hk
        omega
      refine ⟨x, t, pa, rowR n, fst66 n f, forQ n, rfl, hA9.keep spa, hh, ht9.keep (Keep.same spa), lnr, pos, .inl (by rw [upd_same, erg]), by omega, by omega, row_roundsS n3 n30 lfs pos cvF (by omega) (by omega), by rw [rowR_len]; exact cvF, by rw [rowR_len]; exact inF, fun p td2 cd2 m cs HA sA nA ncd ncp hA1 htA hcA bo => ?_⟩
      have em := for_end n3 f10 bo
      subst em
      refine ⟨p, _, 0, .ref td2, rfl, rfl, .inl (.inl hA1), rfl, ?_⟩
      refine ⟨.ref t, rfl, t, n, f, rfl, n3, n30, f10, (ht9.keep (Keep.same spa)).keep (Keep.same sA), fun t2 HB sB htB => ?_⟩
      refine ⟨tupD (std66 n (s66 n f) ((n : Int) - 1)), tupD (std66 n (s66 n f) ((n : Int) - 1)), (htA.keep (Keep.same sB)).dp, htB.dp, shaped_tup _, shaped_tup _, _, rfl, ?_⟩
      rw [show PyData.eqv (tupD (std66 n (s66 n f) ((n : Int) - 1))) (tupD (std66 n (s66 n f) ((n : Int) - 1))) = decide (std66 n (s66 n f) ((n : Int) - 1) = std66 n (s66 n f) ((n : Int) - 1)) from eqv_tups _ _]
      exact iteN (by simp) (hN _ _ ⟨rfl, spa.trans (sA.trans sB)⟩)
    rintro σ HA ⟨rfl, sA⟩
    have hA' := hA9.keep sA
    have htA := ht9.keep (Keep.same sA)
    have bA := b9.same sA
    refine seq_useN (fun σ HB => ∃ bk : Addr, σ = [some (.ref bx), some (.int n), some (.int f), some (.ref x), some (.ref t), y5, some (.ref td), some (.ref te), some (.ref l), none, y10, y11, y12, some (.ref bk)] ∧ Same HA HB ∧ ∃ (tm cd : Addr) (cs : List Int), HB bk = some (.tup [.ref tm, .ref cd]) ∧ TupAt HB tm (E.map V.int) ∧ HB cd = some (.lst (cs.map V.int)) ∧ cs.head? = some ((n : Int) - 1)) (fun N hN => ?_) ?_
    · refine ⟨.ref x, rfl, .ref t, rfl, .int n, rfl, _, rfl, RgOk.of_le (by omega) (by omega) (by omega) (by omega), fun pa npa => ?_⟩
      have spa := same_upd (o := .lst (rgV 0 (n : Int))) npa
      refine ⟨pa, _, rfl, .inl (.inl (by rw [upd_same, erg])), fun pb npb => ?_⟩
      have spb := same_upd (o := .lst ((forQ n).map V.int).reverse) npb
      have sAB := spa.trans spb
      have lq := backQ_len n
      have cvB : ∀ p : Nat, p < n → (p : Int) ∈ backQ n := fun p hp => backQ_mem.mpr (by omega)
      have inB : ∀ y ∈ backQ n, 0 ≤ y ∧ y < (n : Int) := fun y hy => backQ_mem.mp hy
      refine ⟨x, t, pb, rowR n, fst66 n f, backQ n, rfl, hA'.keep sAB, hh, htA.keep (Keep.same sAB), lnr, pos, .inl (by rw [upd_same, backQ, List.map_reverse]; rfl), by omega, by omega, row_roundsS n3 n30 lfs pos cvB (by omega) (by omega), by rw [rowR_len]; exact cvB, by rw [rowR_len]; exact inB, fun p tm cd m cs HB sB nB ncd ncp hB1 htB hcB bo => ?_⟩
      obtain ⟨em, ec⟩ := back_end n3 f10 bo
      rw [← hE] at em
      subst em
      exact hN _ _ ⟨p, rfl, sAB.trans sB, tm, cd, cs, hB1, htB, hcB, ec⟩
    rintro σ HB ⟨bk, rfl, sB, tm2, cd, cs, hbk, htm2, hcd, ec⟩
    refine ⟨.ref bk, rfl, bk, _, 0, .ref tm2, rfl, rfl, .inl (.inl hbk), rfl, ?_⟩
    refine ⟨.int n, rfl, .int f, rfl, n, f, rfl, n3, n30, f10, fun t2 HC sC htC => ?_⟩
    have sBC := sB.trans sC
    have bC := bA.same sBC
    rw [← hE] at htC
    refine ⟨bx, .ref tm2, .ref t2, tupD E, rfl, (htm2.keep (Keep.same sC)).rpI bC, htC.rpI bC, okD_ints (by omega), fun HD sD => ⟨true, rfl, iteP rfl ?_⟩⟩
    have hbk' := sD _ _ (sC _ _ hbk)
    have hcd' := sD _ _ (sC _ _ hcd)
    have at0 : atI (cs.map V.int) 0 = some (.int ((n : Int) - 1)) := by
      cases cs with
      | nil => cases ec
      | cons a r => cases ec; exact atI_nat (j := 0) rfl
    refine ⟨.ref bk, rfl, bk, _, 1, .ref cd, rfl, rfl, .inl (.inl hbk'), rfl, cd, _, 0, _, rfl, rfl, .inl (.inl hcd'), at0, .int n, rfl, _, _, rfl, rfl, rfl, ?_⟩
    rw [show decide (V.int ((n : Int) - 1) = V.int ((n : Int) - 1)) = true by simp]
    exact q HD (eAll.trans (Ext.of ((sA.trans sBC).trans sD)))
end
end Lh

namespace Lh
open PySem PySem.Spec PyProof.Rows L2
section
variable {P : Program} {w : World} {K : PySem.W.Frag} {mg : Str → Option Value} {base : Heap}
def spLaw (K : PySem.W.Frag) : Sp := fun vs H Q _ => ∃ (a : Addr) (ns : List Int), vs = [.ref a] ∧ SqL K H a (ns.map V.int) ∧ ns.length ≤ 63 ∧ ∀ H', Q (.bl true) H'
theorem ok_law (T : Txt K mg w) : FnG P w K mg base 12 T.f_law T.fd_law ["_law_script"] (spLaw K) := by
  have G_folded := ok_folded (P := P) (w := w) (base := base) T
  have G_dip := ok_dip (P := P) (w := w) (base := base) T
  have G_right := ok_right (P := P) (w := w) (base := base) T
  refine okG T.F_law sc_law (fun vs H Q E h => ?_) (fun cdv A outer s H vs Q E hr hG h => ?_)
  · obtain ⟨a, ns, rfl, _⟩ := h
    rfl
  · obtain ⟨a, ns, rfl, hS, hl, q⟩ := h
    refine ⟨_, (pss_cons (ps_set (i := 1) sc_law.nd rfl (.inr rfl) (pe_call G_folded (hr.mono (by decide)) (by rfl) T.g_folded T.F_folded.kp T.b_folded .nil pass0 (pa_cons (pv 0) (pa_cons pe_int pa_nil))))
      (pss_one (ps_ret (pe_callB (cr_all rfl) (by rfl) T.m_all (by decide +kernel) (pa_cons (pe_lc (own := [("_law_k", 2)]) (g := gName 2) (by rfl) sc_law.nd (pi_range1 (by rfl) T.m_range (pa_cons (pe_callB (call_max2 rfl) (by rfl) T.m_max (by decide +kernel) (pa_cons pe_int (pa_cons (pe_callB call_len_seq (by rfl) T.m_len (by decide +kernel) (pa_cons (pv 1) pa_nil)) pa_nil))) pa_nil)) (blkOk_by (own := [("_law_k", 2)]) (N := n_law) (sc := defScope s_law) (by decide +kernel)) (fun _ _ _ _ _ => (pg_name (i := 2) sc_law.nd rfl (.inl rfl) (.inr rfl))) (fun _ _ _ _ _ => pts_nil) (fun _ _ _ _ _ => (pe_callG G_right (hr.mono (by decide)) hG (by rfl) T.g_right T.F_right.kp T.b_right (pa_cons (pe_call G_dip (hr.mono (by decide)) (by rfl) T.g_dip T.F_dip.kp T.b_dip .nil pass0 (pa_cons (pv 1) (pa_cons (pv 2) pa_nil))) pa_nil)))) pa_nil))))), ?_⟩
    refine ⟨.ref a, rfl, a, ns, rfl, hS, hl, fun p ms H1 s1 np hp ml => ?_⟩
    refine ⟨.ref p, rfl, p, _, rfl, .inl (.inl (.inl hp)), 1, _, rfl, _, rfl, ?_, ?_, fun D hD => ?_⟩
    · rw [List.length_map]; split <;> omega
    · rw [List.length_map]; split <;> omega
    generalize hn : (if ((ms.map V.int).length : Int) > 1 then ((ms.map V.int).length : Int) else 1).toNat = n
    have hn3 : n ≤ 3 := by
      rw [← hn, List.length_map]
      split <;> omega
    refine lc_it walk_range (fun i H3 => H3 p = some (.lst (ms.map V.int)) ∧ H3 D = some (.lst (List.replicate i (.bl true)))) ⟨same_upd hD _ _ hp, upd_same⟩ (fun _ _ _ _ => trivial) ?_ ?_
    · rintro i x H3 H4 hi ⟨h1, h2⟩ ⟨rfl, rfl⟩
      refine ⟨rfl, yes (iteT ?_)⟩
      refine ⟨.ref p, rfl, .int (0 + i), rfl, p, ms, i, by show [V.ref p, V.int (0 + (i : Int))] = _; rw [Int.zero_add], .inl (.inl h1), by omega, fun bx H5 s5 nb bB => ?_⟩
      refine ⟨bx, rfl, bB, fun H6 e6 => ?_⟩
      have nD : D ≠ bx := ne_of_none h2 nb
      have nP : p ≠ bx := ne_of_none h1 nb
      have nPD : p ≠ D := ne_of_none hp hD
      refine ⟨_, e6 _ _ nD (s5 _ _ h2), by rw [List.length_replicate]; exact small1000 (by omega), ?_, ?_⟩
      · rw [upd_ne nPD]; exact e6 _ _ nP (s5 _ _ h1)
      · rw [upd_same, List.replicate_succ']
    · rintro H3 ⟨h1, h2⟩
      refine ⟨D, List.replicate n true, rfl, .inl (.inl (by rw [h2, List.map_replicate])), blT ?_ (q _)⟩
      rw [List.all_eq_true]
      intro z hz
      rw [List.eq_of_mem_replicate hz]
      rfl
end

set_option maxHeartbeats 4000000 in
theorem all_mk {l : PySem.W.OpenLaw} {w : World} {K : PySem.W.Frag} {h : Heap} {mg : Str → Option Value} {fa : Addr} (X : K.In h) (G : h.Ns mainGlobals mg) (hfa : mg "law" = some (.ref fa))
    {CHall : Addr} (aCHall : PySem.W.nsIn K mainGlobals "Hall" = some (some (.ref CHall)))
    {f0 : Addr} {od0 an0 : Option Addr} {sl0 : Array (Option Value)} {oc0 kV0 dc0 pm0 cd0 ct0 : Value}
    (a0 : PySem.W.nsIn K mainGlobals "_wall" = some (some (.ref f0)))
    (l0 : K.lookup f0 = some ⟨oc0, od0, .func (PySem.W.fnOf "_wall" "_wall" (defArgs s__wall) (defBody s__wall) (defScope s__wall) .none kV0 dc0 pm0 an0 cd0 ct0), sl0⟩) (c0 : PySem.W.codeIn K cd0 "_wall" = true) (k0 : PySem.W.keepIn K (.ref f0) = true)
    {f1 : Addr} {od1 an1 : Option Addr} {sl1 : Array (Option Value)} {oc1 kV1 dc1 pm1 cd1 ct1 : Value}
    (a1 : PySem.W.nsIn K mainGlobals "is_number" = some (some (.ref f1)))
    (l1 : K.lookup f1 = some ⟨oc1, od1, .func (PySem.W.fnOf "is_number" "is_number" (defArgs s_is_number) (defBody s_is_number) (defScope s_is_number) .none kV1 dc1 pm1 an1 cd1 ct1), sl1⟩) (c1 : PySem.W.codeIn K cd1 "is_number" = true) (k1 : PySem.W.keepIn K (.ref f1) = true)
    {f2 : Addr} {od2 an2 : Option Addr} {sl2 : Array (Option Value)} {oc2 kV2 dc2 pm2 cd2 ct2 : Value}
    (a2 : PySem.W.nsIn K mainGlobals "is_person" = some (some (.ref f2)))
    (l2 : K.lookup f2 = some ⟨oc2, od2, .func (PySem.W.fnOf "is_person" "is_person" (defArgs s_is_person) (defBody s_is_person) (defScope s_is_person) .none kV2 dc2 pm2 an2 cd2 ct2), sl2⟩) (c2 : PySem.W.codeIn K cd2 "is_person" = true) (k2 : PySem.W.keepIn K (.ref f2) = true)
    {f3 : Addr} {od3 an3 : Option Addr} {sl3 : Array (Option Value)} {oc3 kV3 dc3 pm3 cd3 ct3 : Value}
    (a3 : PySem.W.nsIn K mainGlobals "are_persons" = some (some (.ref f3)))
    (l3 : K.lookup f3 = some ⟨oc3, od3, .func (PySem.W.fnOf "are_persons" "are_persons" (defArgs s_are_persons) (defBody s_are_persons) (defScope s_are_persons) .none kV3 dc3 pm3 an3 cd3 ct3), sl3⟩) (c3 : PySem.W.codeIn K cd3 "are_persons" = true) (k3 : PySem.W.keepIn K (.ref f3) = true)
    {f4 : Addr} {od4 an4 : Option Addr} {sl4 : Array (Option Value)} {oc4 kV4 dc4 pm4 cd4 ct4 : Value}
    (a4 : PySem.W.nsIn K mainGlobals "rises" = some (some (.ref f4)))
    (l4 : K.lookup f4 = some ⟨oc4, od4, .func (PySem.W.fnOf "rises" "rises" (defArgs s_rises) (defBody s_rises) (defScope s_rises) .none kV4 dc4 pm4 an4 cd4 ct4), sl4⟩) (c4 : PySem.W.codeIn K cd4 "rises" = true) (k4 : PySem.W.keepIn K (.ref f4) = true)
    {f5 : Addr} {od5 an5 : Option Addr} {sl5 : Array (Option Value)} {oc5 kV5 dc5 pm5 cd5 ct5 : Value}
    (a5 : PySem.W.nsIn K mainGlobals "is_rule" = some (some (.ref f5)))
    (l5 : K.lookup f5 = some ⟨oc5, od5, .func (PySem.W.fnOf "is_rule" "is_rule" (defArgs s_is_rule) (defBody s_is_rule) (defScope s_is_rule) .none kV5 dc5 pm5 an5 cd5 ct5), sl5⟩) (c5 : PySem.W.codeIn K cd5 "is_rule" = true) (k5 : PySem.W.keepIn K (.ref f5) = true)
    {f6 : Addr} {od6 an6 : Option Addr} {sl6 : Array (Option Value)} {oc6 kV6 dc6 pm6 cd6 ct6 : Value}
    (a6 : PySem.W.nsIn K mainGlobals "is_part" = some (some (.ref f6)))
    (l6 : K.lookup f6 = some ⟨oc6, od6, .func (PySem.W.fnOf "is_part" "is_part" (defArgs s_is_part) (defBody s_is_part) (defScope s_is_part) .none kV6 dc6 pm6 an6 cd6 ct6), sl6⟩) (c6 : PySem.W.codeIn K cd6 "is_part" = true) (k6 : PySem.W.keepIn K (.ref f6) = true)
    {f7 : Addr} {od7 an7 : Option Addr} {sl7 : Array (Option Value)} {oc7 kV7 dc7 pm7 cd7 ct7 : Value}
    (a7 : PySem.W.nsIn K mainGlobals "are_ties" = some (some (.ref f7)))
    (l7 : K.lookup f7 = some ⟨oc7, od7, .func (PySem.W.fnOf "are_ties" "are_ties" (defArgs s_are_ties) (defBody s_are_ties) (defScope s_are_ties) .none kV7 dc7 pm7 an7 cd7 ct7), sl7⟩) (c7 : PySem.W.codeIn K cd7 "are_ties" = true) (k7 : PySem.W.keepIn K (.ref f7) = true)
    {f8 : Addr} {od8 an8 : Option Addr} {sl8 : Array (Option Value)} {oc8 kV8 dc8 pm8 cd8 ct8 : Value}
    (a8 : PySem.W.nsIn K mainGlobals "is_tie" = some (some (.ref f8)))
    (l8 : K.lookup f8 = some ⟨oc8, od8, .func (PySem.W.fnOf "is_tie" "is_tie" (defArgs s_is_tie) (defBody s_is_tie) (defScope s_is_tie) .none kV8 dc8 pm8 an8 cd8 ct8), sl8⟩) (c8 : PySem.W.codeIn K cd8 "is_tie" = true) (k8 : PySem.W.keepIn K (.ref f8) = true)
    {f9 : Addr} {od9 an9 : Option Addr} {sl9 : Array (Option Value)} {oc9 kV9 dc9 pm9 cd9 ct9 : Value}
    (a9 : PySem.W.nsIn K mainGlobals "seen_by" = some (some (.ref f9)))
    (l9 : K.lookup f9 = some ⟨oc9, od9, .func (PySem.W.fnOf "seen_by" "seen_by" (defArgs s_seen_by) (defBody s_seen_by) (defScope s_seen_by) .none kV9 dc9 pm9 an9 cd9 ct9), sl9⟩) (c9 : PySem.W.codeIn K cd9 "seen_by" = true) (k9 : PySem.W.keepIn K (.ref f9) = true)
    {f10 : Addr} {od10 an10 : Option Addr} {sl10 : Array (Option Value)} {oc10 kV10 dc10 pm10 cd10 ct10 : Value}
    (a10 : PySem.W.nsIn K mainGlobals "told_of" = some (some (.ref f10)))
    (l10 : K.lookup f10 = some ⟨oc10, od10, .func (PySem.W.fnOf "told_of" "told_of" (defArgs s_told_of) (defBody s_told_of) (defScope s_told_of) .none kV10 dc10 pm10 an10 cd10 ct10), sl10⟩) (c10 : PySem.W.codeIn K cd10 "told_of" = true) (k10 : PySem.W.keepIn K (.ref f10) = true)
    {f11 : Addr} {od11 an11 : Option Addr} {sl11 : Array (Option Value)} {oc11 kV11 dc11 pm11 cd11 ct11 : Value}
    (a11 : PySem.W.nsIn K mainGlobals "weighed" = some (some (.ref f11)))
    (l11 : K.lookup f11 = some ⟨oc11, od11, .func (PySem.W.fnOf "weighed" "weighed" (defArgs s_weighed) (defBody s_weighed) (defScope s_weighed) .none kV11 dc11 pm11 an11 cd11 ct11), sl11⟩) (c11 : PySem.W.codeIn K cd11 "weighed" = true) (k11 : PySem.W.keepIn K (.ref f11) = true)
    {f12 : Addr} {od12 an12 : Option Addr} {sl12 : Array (Option Value)} {oc12 kV12 dc12 pm12 cd12 ct12 : Value}
    (a12 : PySem.W.nsIn K mainGlobals "least_free" = some (some (.ref f12)))
    (l12 : K.lookup f12 = some ⟨oc12, od12, .func (PySem.W.fnOf "least_free" "least_free" (defArgs s_least_free) (defBody s_least_free) (defScope s_least_free) .none kV12 dc12 pm12 an12 cd12 ct12), sl12⟩) (c12 : PySem.W.codeIn K cd12 "least_free" = true) (k12 : PySem.W.keepIn K (.ref f12) = true)
    {f13 : Addr} {od13 an13 : Option Addr} {sl13 : Array (Option Value)} {oc13 kV13 dc13 pm13 cd13 ct13 : Value}
    (a13 : PySem.W.nsIn K mainGlobals "lot_below" = some (some (.ref f13)))
    (l13 : K.lookup f13 = some ⟨oc13, od13, .func (PySem.W.fnOf "lot_below" "lot_below" (defArgs s_lot_below) (defBody s_lot_below) (defScope s_lot_below) .none kV13 dc13 pm13 an13 cd13 ct13), sl13⟩) (c13 : PySem.W.codeIn K cd13 "lot_below" = true) (k13 : PySem.W.keepIn K (.ref f13) = true)
    {f14 : Addr} {od14 an14 : Option Addr} {sl14 : Array (Option Value)} {oc14 kV14 dc14 pm14 cd14 ct14 : Value}
    (a14 : PySem.W.nsIn K mainGlobals "told_below" = some (some (.ref f14)))
    (l14 : K.lookup f14 = some ⟨oc14, od14, .func (PySem.W.fnOf "told_below" "told_below" (defArgs s_told_below) (defBody s_told_below) (defScope s_told_below) .none kV14 dc14 pm14 an14 cd14 ct14), sl14⟩) (c14 : PySem.W.codeIn K cd14 "told_below" = true) (k14 : PySem.W.keepIn K (.ref f14) = true)
    {f15 : Addr} {od15 an15 : Option Addr} {sl15 : Array (Option Value)} {oc15 kV15 dc15 pm15 cd15 ct15 : Value}
    (a15 : PySem.W.nsIn K mainGlobals "told_at" = some (some (.ref f15)))
    (l15 : K.lookup f15 = some ⟨oc15, od15, .func (PySem.W.fnOf "told_at" "told_at" (defArgs s_told_at) (defBody s_told_at) (defScope s_told_at) .none kV15 dc15 pm15 an15 cd15 ct15), sl15⟩) (c15 : PySem.W.codeIn K cd15 "told_at" = true) (k15 : PySem.W.keepIn K (.ref f15) = true)
    {f16 : Addr} {od16 an16 : Option Addr} {sl16 : Array (Option Value)} {oc16 kV16 dc16 pm16 cd16 ct16 : Value}
    (a16 : PySem.W.nsIn K mainGlobals "turned" = some (some (.ref f16)))
    (l16 : K.lookup f16 = some ⟨oc16, od16, .func (PySem.W.fnOf "turned" "turned" (defArgs s_turned) (defBody s_turned) (defScope s_turned) .none kV16 dc16 pm16 an16 cd16 ct16), sl16⟩) (c16 : PySem.W.codeIn K cd16 "turned" = true) (k16 : PySem.W.keepIn K (.ref f16) = true)
    {f17 : Addr} {od17 an17 : Option Addr} {sl17 : Array (Option Value)} {oc17 kV17 dc17 pm17 cd17 ct17 : Value}
    (a17 : PySem.W.nsIn K mainGlobals "restless" = some (some (.ref f17)))
    (l17 : K.lookup f17 = some ⟨oc17, od17, .func (PySem.W.fnOf "restless" "restless" (defArgs s_restless) (defBody s_restless) (defScope s_restless) .none kV17 dc17 pm17 an17 cd17 ct17), sl17⟩) (c17 : PySem.W.codeIn K cd17 "restless" = true) (k17 : PySem.W.keepIn K (.ref f17) = true)
    {f18 : Addr} {od18 an18 : Option Addr} {sl18 : Array (Option Value)} {oc18 kV18 dc18 pm18 cd18 ct18 : Value}
    (a18 : PySem.W.nsIn K mainGlobals "is_rest" = some (some (.ref f18)))
    (l18 : K.lookup f18 = some ⟨oc18, od18, .func (PySem.W.fnOf "is_rest" "is_rest" (defArgs s_is_rest) (defBody s_is_rest) (defScope s_is_rest) .none kV18 dc18 pm18 an18 cd18 ct18), sl18⟩) (c18 : PySem.W.codeIn K cd18 "is_rest" = true) (k18 : PySem.W.keepIn K (.ref f18) = true)
    {f19 : Addr} {od19 an19 : Option Addr} {sl19 : Array (Option Value)} {oc19 kV19 dc19 pm19 cd19 ct19 : Value}
    (a19 : PySem.W.nsIn K mainGlobals "beaten" = some (some (.ref f19)))
    (l19 : K.lookup f19 = some ⟨oc19, od19, .func (PySem.W.fnOf "beaten" "beaten" (defArgs s_beaten) (defBody s_beaten) (defScope s_beaten) .none kV19 dc19 pm19 an19 cd19 ct19), sl19⟩) (c19 : PySem.W.codeIn K cd19 "beaten" = true) (k19 : PySem.W.keepIn K (.ref f19) = true)
    {f20 : Addr} {od20 an20 : Option Addr} {sl20 : Array (Option Value)} {oc20 kV20 dc20 pm20 cd20 ct20 : Value}
    (a20 : PySem.W.nsIn K mainGlobals "history" = some (some (.ref f20)))
    (l20 : K.lookup f20 = some ⟨oc20, od20, .func (PySem.W.fnOf "history" "history" (defArgs s_history) (defBody s_history) (defScope s_history) .none kV20 dc20 pm20 an20 cd20 ct20), sl20⟩) (c20 : PySem.W.codeIn K cd20 "history" = true) (k20 : PySem.W.keepIn K (.ref f20) = true)
    {f21 : Addr} {od21 an21 : Option Addr} {sl21 : Array (Option Value)} {oc21 kV21 dc21 pm21 cd21 ct21 : Value}
    (a21 : PySem.W.nsIn K mainGlobals "rest_by_beats" = some (some (.ref f21)))
    (l21 : K.lookup f21 = some ⟨oc21, od21, .func (PySem.W.fnOf "rest_by_beats" "rest_by_beats" (defArgs s_rest_by_beats) (defBody s_rest_by_beats) (defScope s_rest_by_beats) .none kV21 dc21 pm21 an21 cd21 ct21), sl21⟩) (c21 : PySem.W.codeIn K cd21 "rest_by_beats" = true) (k21 : PySem.W.keepIn K (.ref f21) = true)
    {f22 : Addr} {od22 an22 : Option Addr} {sl22 : Array (Option Value)} {oc22 kV22 dc22 pm22 cd22 ct22 : Value}
    (a22 : PySem.W.nsIn K mainGlobals "keeps_line" = some (some (.ref f22)))
    (l22 : K.lookup f22 = some ⟨oc22, od22, .func (PySem.W.fnOf "keeps_line" "keeps_line" (defArgs s_keeps_line) (defBody s_keeps_line) (defScope s_keeps_line) .none kV22 dc22 pm22 an22 cd22 ct22), sl22⟩) (c22 : PySem.W.codeIn K cd22 "keeps_line" = true) (k22 : PySem.W.keepIn K (.ref f22) = true)
    {f23 : Addr} {od23 an23 : Option Addr} {sl23 : Array (Option Value)} {oc23 kV23 dc23 pm23 cd23 ct23 : Value}
    (a23 : PySem.W.nsIn K mainGlobals "is_line" = some (some (.ref f23)))
    (l23 : K.lookup f23 = some ⟨oc23, od23, .func (PySem.W.fnOf "is_line" "is_line" (defArgs s_is_line) (defBody s_is_line) (defScope s_is_line) .none kV23 dc23 pm23 an23 cd23 ct23), sl23⟩) (c23 : PySem.W.codeIn K cd23 "is_line" = true) (k23 : PySem.W.keepIn K (.ref f23) = true)
    {f24 : Addr} {od24 an24 : Option Addr} {sl24 : Array (Option Value)} {oc24 kV24 dc24 pm24 cd24 ct24 : Value}
    (a24 : PySem.W.nsIn K mainGlobals "most_up_to" = some (some (.ref f24)))
    (l24 : K.lookup f24 = some ⟨oc24, od24, .func (PySem.W.fnOf "most_up_to" "most_up_to" (defArgs s_most_up_to) (defBody s_most_up_to) (defScope s_most_up_to) .none kV24 dc24 pm24 an24 cd24 ct24), sl24⟩) (c24 : PySem.W.codeIn K cd24 "most_up_to" = true) (k24 : PySem.W.keepIn K (.ref f24) = true)
    {f25 : Addr} {od25 an25 : Option Addr} {sl25 : Array (Option Value)} {oc25 kV25 dc25 pm25 cd25 ct25 : Value}
    (a25 : PySem.W.nsIn K mainGlobals "waterline" = some (some (.ref f25)))
    (l25 : K.lookup f25 = some ⟨oc25, od25, .func (PySem.W.fnOf "waterline" "waterline" (defArgs s_waterline) (defBody s_waterline) (defScope s_waterline) .none kV25 dc25 pm25 an25 cd25 ct25), sl25⟩) (c25 : PySem.W.codeIn K cd25 "waterline" = true) (k25 : PySem.W.keepIn K (.ref f25) = true)
    {f26 : Addr} {od26 an26 : Option Addr} {sl26 : Array (Option Value)} {oc26 kV26 dc26 pm26 cd26 ct26 : Value}
    (a26 : PySem.W.nsIn K mainGlobals "firm_of" = some (some (.ref f26)))
    (l26 : K.lookup f26 = some ⟨oc26, od26, .func (PySem.W.fnOf "firm_of" "firm_of" (defArgs s_firm_of) (defBody s_firm_of) (defScope s_firm_of) .none kV26 dc26 pm26 an26 cd26 ct26), sl26⟩) (c26 : PySem.W.codeIn K cd26 "firm_of" = true) (k26 : PySem.W.keepIn K (.ref f26) = true)
    {f27 : Addr} {od27 an27 : Option Addr} {sl27 : Array (Option Value)} {oc27 kV27 dc27 pm27 cd27 ct27 : Value}
    (a27 : PySem.W.nsIn K mainGlobals "is_firm" = some (some (.ref f27)))
    (l27 : K.lookup f27 = some ⟨oc27, od27, .func (PySem.W.fnOf "is_firm" "is_firm" (defArgs s_is_firm) (defBody s_is_firm) (defScope s_is_firm) .none kV27 dc27 pm27 an27 cd27 ct27), sl27⟩) (c27 : PySem.W.codeIn K cd27 "is_firm" = true) (k27 : PySem.W.keepIn K (.ref f27) = true)
    {f28 : Addr} {od28 an28 : Option Addr} {sl28 : Array (Option Value)} {oc28 kV28 dc28 pm28 cd28 ct28 : Value}
    (a28 : PySem.W.nsIn K mainGlobals "rest_by" = some (some (.ref f28)))
    (l28 : K.lookup f28 = some ⟨oc28, od28, .func (PySem.W.fnOf "rest_by" "rest_by" (defArgs s_rest_by) (defBody s_rest_by) (defScope s_rest_by) .none kV28 dc28 pm28 an28 cd28 ct28), sl28⟩) (c28 : PySem.W.codeIn K cd28 "rest_by" = true) (k28 : PySem.W.keepIn K (.ref f28) = true)
    {f29 : Addr} {od29 an29 : Option Addr} {sl29 : Array (Option Value)} {oc29 kV29 dc29 pm29 cd29 ct29 : Value}
    (a29 : PySem.W.findIn K (.ref CHall) "__init__" = some (some (.ref f29))) (i29 : PySem.W.isFn K (.ref f29) = true)
    (l29 : K.lookup f29 = some ⟨oc29, od29, .func (PySem.W.fnOf "__init__" "Hall.__init__" (defArgs s_Hall_init) (defBody s_Hall_init) (defScope s_Hall_init) .none kV29 dc29 pm29 an29 cd29 ct29), sl29⟩) (c29 : PySem.W.codeIn K cd29 "Hall.__init__" = true) (k29 : PySem.W.keepIn K (.ref f29) = true)
    {f30 : Addr} {od30 an30 : Option Addr} {sl30 : Array (Option Value)} {oc30 kV30 dc30 pm30 cd30 ct30 : Value}
    (a30 : PySem.W.findIn K (.ref CHall) "must_have" = some (some (.ref f30))) (i30 : PySem.W.isFn K (.ref f30) = true)
    (l30 : K.lookup f30 = some ⟨oc30, od30, .func (PySem.W.fnOf "must_have" "Hall.must_have" (defArgs s_Hall_must_have) (defBody s_Hall_must_have) (defScope s_Hall_must_have) .none kV30 dc30 pm30 an30 cd30 ct30), sl30⟩) (c30 : PySem.W.codeIn K cd30 "Hall.must_have" = true) (k30 : PySem.W.keepIn K (.ref f30) = true)
    {f31 : Addr} {od31 an31 : Option Addr} {sl31 : Array (Option Value)} {oc31 kV31 dc31 pm31 cd31 ct31 : Value}
    (a31 : PySem.W.findIn K (.ref CHall) "rules" = some (some (.ref f31))) (i31 : PySem.W.isFn K (.ref f31) = true)
    (l31 : K.lookup f31 = some ⟨oc31, od31, .func (PySem.W.fnOf "rules" "Hall.rules" (defArgs s_Hall_rules) (defBody s_Hall_rules) (defScope s_Hall_rules) .none kV31 dc31 pm31 an31 cd31 ct31), sl31⟩) (c31 : PySem.W.codeIn K cd31 "Hall.rules" = true) (k31 : PySem.W.keepIn K (.ref f31) = true)
    {f32 : Addr} {od32 an32 : Option Addr} {sl32 : Array (Option Value)} {oc32 kV32 dc32 pm32 cd32 ct32 : Value}
    (a32 : PySem.W.findIn K (.ref CHall) "rule" = some (some (.ref f32))) (i32 : PySem.W.isFn K (.ref f32) = true)
    (l32 : K.lookup f32 = some ⟨oc32, od32, .func (PySem.W.fnOf "rule" "Hall.rule" (defArgs s_Hall_rule) (defBody s_Hall_rule) (defScope s_Hall_rule) .none kV32 dc32 pm32 an32 cd32 ct32), sl32⟩) (c32 : PySem.W.codeIn K cd32 "Hall.rule" = true) (k32 : PySem.W.keepIn K (.ref f32) = true)
    {f33 : Addr} {od33 an33 : Option Addr} {sl33 : Array (Option Value)} {oc33 kV33 dc33 pm33 cd33 ct33 : Value}
    (a33 : PySem.W.findIn K (.ref CHall) "sees" = some (some (.ref f33))) (i33 : PySem.W.isFn K (.ref f33) = true)
    (l33 : K.lookup f33 = some ⟨oc33, od33, .func (PySem.W.fnOf "sees" "Hall.sees" (defArgs s_Hall_sees) (defBody s_Hall_sees) (defScope s_Hall_sees) .none kV33 dc33 pm33 an33 cd33 ct33), sl33⟩) (c33 : PySem.W.codeIn K cd33 "Hall.sees" = true) (k33 : PySem.W.keepIn K (.ref f33) = true)
    {f34 : Addr} {od34 an34 : Option Addr} {sl34 : Array (Option Value)} {oc34 kV34 dc34 pm34 cd34 ct34 : Value}
    (a34 : PySem.W.findIn K (.ref CHall) "seers" = some (some (.ref f34))) (i34 : PySem.W.isFn K (.ref f34) = true)
    (l34 : K.lookup f34 = some ⟨oc34, od34, .func (PySem.W.fnOf "seers" "Hall.seers" (defArgs s_Hall_seers) (defBody s_Hall_seers) (defScope s_Hall_seers) .none kV34 dc34 pm34 an34 cd34 ct34), sl34⟩) (c34 : PySem.W.codeIn K cd34 "Hall.seers" = true) (k34 : PySem.W.keepIn K (.ref f34) = true)
    {f35 : Addr} {od35 an35 : Option Addr} {sl35 : Array (Option Value)} {oc35 kV35 dc35 pm35 cd35 ct35 : Value}
    (a35 : PySem.W.findIn K (.ref CHall) "__eq__" = some (some (.ref f35))) (i35 : PySem.W.isFn K (.ref f35) = true)
    (l35 : K.lookup f35 = some ⟨oc35, od35, .func (PySem.W.fnOf "__eq__" "Hall.__eq__" (defArgs s_Hall_eq) (defBody s_Hall_eq) (defScope s_Hall_eq) .none kV35 dc35 pm35 an35 cd35 ct35), sl35⟩) (c35 : PySem.W.codeIn K cd35 "Hall.__eq__" = true) (k35 : PySem.W.keepIn K (.ref f35) = true)
    {f36 : Addr} {od36 an36 : Option Addr} {sl36 : Array (Option Value)} {oc36 kV36 dc36 pm36 cd36 ct36 : Value}
    (a36 : PySem.W.findIn K (.ref CHall) "__len__" = some (some (.ref f36))) (i36 : PySem.W.isFn K (.ref f36) = true)
    (l36 : K.lookup f36 = some ⟨oc36, od36, .func (PySem.W.fnOf "__len__" "Hall.__len__" (defArgs s_Hall_len) (defBody s_Hall_len) (defScope s_Hall_len) .none kV36 dc36 pm36 an36 cd36 ct36), sl36⟩) (c36 : PySem.W.codeIn K cd36 "Hall.__len__" = true) (k36 : PySem.W.keepIn K (.ref f36) = true)
    {f37 : Addr} {od37 an37 : Option Addr} {sl37 : Array (Option Value)} {oc37 kV37 dc37 pm37 cd37 ct37 : Value}
    (a37 : PySem.W.findIn K (.ref CHall) "__repr__" = some (some (.ref f37))) (i37 : PySem.W.isFn K (.ref f37) = true)
    (l37 : K.lookup f37 = some ⟨oc37, od37, .func (PySem.W.fnOf "__repr__" "Hall.__repr__" (defArgs s_Hall_repr) (defBody s_Hall_repr) (defScope s_Hall_repr) .none kV37 dc37 pm37 an37 cd37 ct37), sl37⟩) (c37 : PySem.W.codeIn K cd37 "Hall.__repr__" = true) (k37 : PySem.W.keepIn K (.ref f37) = true)
    {f38 : Addr} {od38 an38 : Option Addr} {sl38 : Array (Option Value)} {oc38 kV38 dc38 pm38 cd38 ct38 : Value}
    (a38 : PySem.W.nsIn K mainGlobals "row_hall" = some (some (.ref f38)))
    (l38 : K.lookup f38 = some ⟨oc38, od38, .func (PySem.W.fnOf "row_hall" "row_hall" (defArgs s_row_hall) (defBody s_row_hall) (defScope s_row_hall) .none kV38 dc38 pm38 an38 cd38 ct38), sl38⟩) (c38 : PySem.W.codeIn K cd38 "row_hall" = true) (k38 : PySem.W.keepIn K (.ref f38) = true)
    {f39 : Addr} {od39 an39 : Option Addr} {sl39 : Array (Option Value)} {oc39 kV39 dc39 pm39 cd39 ct39 : Value}
    (a39 : PySem.W.nsIn K mainGlobals "_law_dip" = some (some (.ref f39)))
    (l39 : K.lookup f39 = some ⟨oc39, od39, .func (PySem.W.fnOf "_law_dip" "_law_dip" (defArgs s_dip) (defBody s_dip) (defScope s_dip) .none kV39 dc39 pm39 an39 cd39 ct39), sl39⟩) (c39 : PySem.W.codeIn K cd39 "_law_dip" = true) (k39 : PySem.W.keepIn K (.ref f39) = true)
    {f40 : Addr} {od40 an40 : Option Addr} {sl40 : Array (Option Value)} {oc40 kV40 dc40 pm40 cd40 ct40 : Value}
    (a40 : PySem.W.nsIn K mainGlobals "_law_take" = some (some (.ref f40)))
    (l40 : K.lookup f40 = some ⟨oc40, od40, .func (PySem.W.fnOf "_law_take" "_law_take" (defArgs s_take) (defBody s_take) (defScope s_take) .none kV40 dc40 pm40 an40 cd40 ct40), sl40⟩) (c40 : PySem.W.codeIn K cd40 "_law_take" = true) (k40 : PySem.W.keepIn K (.ref f40) = true)
    {f41 : Addr} {od41 an41 : Option Addr} {sl41 : Array (Option Value)} {oc41 kV41 dc41 pm41 cd41 ct41 : Value}
    (a41 : PySem.W.nsIn K mainGlobals "_law_folded" = some (some (.ref f41)))
    (l41 : K.lookup f41 = some ⟨oc41, od41, .func (PySem.W.fnOf "_law_folded" "_law_folded" (defArgs s_folded) (defBody s_folded) (defScope s_folded) .none kV41 dc41 pm41 an41 cd41 ct41), sl41⟩) (c41 : PySem.W.codeIn K cd41 "_law_folded" = true) (k41 : PySem.W.keepIn K (.ref f41) = true)
    {f42 : Addr} {od42 an42 : Option Addr} {sl42 : Array (Option Value)} {oc42 kV42 dc42 pm42 cd42 ct42 : Value}
    (a42 : PySem.W.nsIn K mainGlobals "_law_same" = some (some (.ref f42)))
    (l42 : K.lookup f42 = some ⟨oc42, od42, .func (PySem.W.fnOf "_law_same" "_law_same" (defArgs s_same) (defBody s_same) (defScope s_same) .none kV42 dc42 pm42 an42 cd42 ct42), sl42⟩) (c42 : PySem.W.codeIn K cd42 "_law_same" = true) (k42 : PySem.W.keepIn K (.ref f42) = true)
    {f43 : Addr} {od43 an43 : Option Addr} {sl43 : Array (Option Value)} {oc43 kV43 dc43 pm43 cd43 ct43 : Value}
    (a43 : PySem.W.nsIn K mainGlobals "_law_stop" = some (some (.ref f43)))
    (l43 : K.lookup f43 = some ⟨oc43, od43, .func (PySem.W.fnOf "_law_stop" "_law_stop" (defArgs s_stop) (defBody s_stop) (defScope s_stop) .none kV43 dc43 pm43 an43 cd43 ct43), sl43⟩) (c43 : PySem.W.codeIn K cd43 "_law_stop" = true) (k43 : PySem.W.keepIn K (.ref f43) = true)
    {f44 : Addr} {od44 an44 : Option Addr} {sl44 : Array (Option Value)} {oc44 kV44 dc44 pm44 cd44 ct44 : Value}
    (a44 : PySem.W.nsIn K mainGlobals "_law_swept" = some (some (.ref f44)))
    (l44 : K.lookup f44 = some ⟨oc44, od44, .func (PySem.W.fnOf "_law_swept" "_law_swept" (defArgs s_swept) (defBody s_swept) (defScope s_swept) .none kV44 dc44 pm44 an44 cd44 ct44), sl44⟩) (c44 : PySem.W.codeIn K cd44 "_law_swept" = true) (k44 : PySem.W.keepIn K (.ref f44) = true)
    {f45 : Addr} {od45 an45 : Option Addr} {sl45 : Array (Option Value)} {oc45 kV45 dc45 pm45 cd45 ct45 : Value}
    (a45 : PySem.W.nsIn K mainGlobals "_law_right" = some (some (.ref f45)))
    (l45 : K.lookup f45 = some ⟨oc45, od45, .func (PySem.W.fnOf "_law_right" "_law_right" (defArgs s_right) (defBody s_right) (defScope s_right) .none kV45 dc45 pm45 an45 cd45 ct45), sl45⟩) (c45 : PySem.W.codeIn K cd45 "_law_right" = true) (k45 : PySem.W.keepIn K (.ref f45) = true)
    {f46 : Addr} {od46 an46 : Option Addr} {sl46 : Array (Option Value)} {oc46 kV46 dc46 pm46 cd46 ct46 : Value}
    (a46 : PySem.W.nsIn K mainGlobals "_law_back_due" = some (some (.ref f46)))
    (l46 : K.lookup f46 = some ⟨oc46, od46, .func (PySem.W.fnOf "_law_back_due" "_law_back_due" (defArgs s_back_due) (defBody s_back_due) (defScope s_back_due) .none kV46 dc46 pm46 an46 cd46 ct46), sl46⟩) (c46 : PySem.W.codeIn K cd46 "_law_back_due" = true) (k46 : PySem.W.keepIn K (.ref f46) = true)
    {f47 : Addr} {od47 an47 : Option Addr} {sl47 : Array (Option Value)} {oc47 kV47 dc47 pm47 cd47 ct47 : Value}
    (a47 : PySem.W.nsIn K mainGlobals "law" = some (some (.ref f47)))
    (l47 : K.lookup f47 = some ⟨oc47, od47, .func (PySem.W.fnOf "law" "law" (defArgs s_law) (defBody s_law) (defScope s_law) .none kV47 dc47 pm47 an47 cd47 ct47), sl47⟩) (c47 : PySem.W.codeIn K cd47 "law" = true) (k47 : PySem.W.keepIn K (.ref f47) = true)
    (pgHall : PySem.W.plainGet K CHall Str.empty = true) (hdHall : PySem.W.hasDictIn K CHall = true) (poHall : PySem.W.plainOver K CHall = true) (saHall : PySem.W.findIn K (.ref CHall) "__setattr__" = some (some (.builtin "object.__setattr__"))) (mkHall : PySem.W.makesIn K CHall = true) (kcHall : PySem.W.keepIn K (.ref CHall) = true)
    (nHall_kept : PySem.W.findIn K (.ref CHall) "kept" = some none)
    {DPARTS : Addr} {esPARTS : Array DictEntry} {enPARTS : Nat} (aDPARTS : PySem.W.nsIn K mainGlobals "PARTS" = some (some (.ref DPARTS))) (lDPARTS : K.lookup DPARTS = some ⟨.type "dict", none, .dict esPARTS enPARTS, #[]⟩) (kDPARTS : PySem.W.KeysLit w.params esPARTS.toList) (yDPARTS : (DPARTS == sysModules) = false)
    {tPARTS_held : Addr} {oPARTS_held : Option Addr} {itPARTS_held : Array Value} {inPARTS_held : Nat} {tsPARTS_held : Array (Option Value)} (ePARTS_held : PySem.W.nsIn K DPARTS "held" = some (some (.ref tPARTS_held))) (ltPARTS_held : K.lookup tPARTS_held = some ⟨.type "tuple", oPARTS_held, .seq itPARTS_held inPARTS_held, tsPARTS_held⟩) (ztPARTS_held : itPARTS_held.size ≤ sizeLine) (vtPARTS_held : Vals [V.str "number"] itPARTS_held.toList)
    {tPARTS_sum : Addr} {oPARTS_sum : Option Addr} {itPARTS_sum : Array Value} {inPARTS_sum : Nat} {tsPARTS_sum : Array (Option Value)} (ePARTS_sum : PySem.W.nsIn K DPARTS "sum" = some (some (.ref tPARTS_sum))) (ltPARTS_sum : K.lookup tPARTS_sum = some ⟨.type "tuple", oPARTS_sum, .seq itPARTS_sum inPARTS_sum, tsPARTS_sum⟩) (ztPARTS_sum : itPARTS_sum.size ≤ sizeLine) (vtPARTS_sum : Vals [V.str "number", V.str "ties"] itPARTS_sum.toList)
    {tPARTS_cap : Addr} {oPARTS_cap : Option Addr} {itPARTS_cap : Array Value} {inPARTS_cap : Nat} {tsPARTS_cap : Array (Option Value)} (ePARTS_cap : PySem.W.nsIn K DPARTS "cap" = some (some (.ref tPARTS_cap))) (ltPARTS_cap : K.lookup tPARTS_cap = some ⟨.type "tuple", oPARTS_cap, .seq itPARTS_cap inPARTS_cap, tsPARTS_cap⟩) (ztPARTS_cap : itPARTS_cap.size ≤ sizeLine) (vtPARTS_cap : Vals [V.str "number", V.str "ties", V.str "number"] itPARTS_cap.toList)
    {tPARTS_kinds : Addr} {oPARTS_kinds : Option Addr} {itPARTS_kinds : Array Value} {inPARTS_kinds : Nat} {tsPARTS_kinds : Array (Option Value)} (ePARTS_kinds : PySem.W.nsIn K DPARTS "kinds" = some (some (.ref tPARTS_kinds))) (ltPARTS_kinds : K.lookup tPARTS_kinds = some ⟨.type "tuple", oPARTS_kinds, .seq itPARTS_kinds inPARTS_kinds, tsPARTS_kinds⟩) (ztPARTS_kinds : itPARTS_kinds.size ≤ sizeLine) (vtPARTS_kinds : Vals [V.str "number", V.str "seen"] itPARTS_kinds.toList)
    {tPARTS_next : Addr} {oPARTS_next : Option Addr} {itPARTS_next : Array Value} {inPARTS_next : Nat} {tsPARTS_next : Array (Option Value)} (ePARTS_next : PySem.W.nsIn K DPARTS "next" = some (some (.ref tPARTS_next))) (ltPARTS_next : K.lookup tPARTS_next = some ⟨.type "tuple", oPARTS_next, .seq itPARTS_next inPARTS_next, tsPARTS_next⟩) (ztPARTS_next : itPARTS_next.size ≤ sizeLine) (vtPARTS_next : Vals [V.str "seen"] itPARTS_next.toList)
    {tPARTS_free : Addr} {oPARTS_free : Option Addr} {itPARTS_free : Array Value} {inPARTS_free : Nat} {tsPARTS_free : Array (Option Value)} (ePARTS_free : PySem.W.nsIn K DPARTS "free" = some (some (.ref tPARTS_free))) (ltPARTS_free : K.lookup tPARTS_free = some ⟨.type "tuple", oPARTS_free, .seq itPARTS_free inPARTS_free, tsPARTS_free⟩) (ztPARTS_free : itPARTS_free.size ≤ sizeLine) (vtPARTS_free : Vals [V.str "seen"] itPARTS_free.toList)
    (z0 : PySem.W.nsIn K mainGlobals "abs" = some none)
    (z1 : PySem.W.nsIn K mainGlobals "all" = some none)
    (z2 : PySem.W.nsIn K mainGlobals "any" = some none)
    (z3 : PySem.W.nsIn K mainGlobals "bool" = some none)
    (z4 : PySem.W.nsIn K mainGlobals "dict" = some none)
    (z5 : PySem.W.nsIn K mainGlobals "enumerate" = some none)
    (z6 : PySem.W.nsIn K mainGlobals "int" = some none)
    (z7 : PySem.W.nsIn K mainGlobals "isinstance" = some none)
    (z8 : PySem.W.nsIn K mainGlobals "len" = some none)
    (z9 : PySem.W.nsIn K mainGlobals "list" = some none)
    (z10 : PySem.W.nsIn K mainGlobals "max" = some none)
    (z11 : PySem.W.nsIn K mainGlobals "min" = some none)
    (z12 : PySem.W.nsIn K mainGlobals "range" = some none)
    (z13 : PySem.W.nsIn K mainGlobals "set" = some none)
    (z14 : PySem.W.nsIn K mainGlobals "sorted" = some none)
    (z15 : PySem.W.nsIn K mainGlobals "str" = some none)
    (z16 : PySem.W.nsIn K mainGlobals "sum" = some none)
    (z17 : PySem.W.nsIn K mainGlobals "tuple" = some none)
    (z18 : PySem.W.nsIn K mainGlobals "zip" = some none) :
    ∃ fd : FuncData, (∀ (t : Shared) (v : Value), BindsTo t fd ⟨[v], []⟩ [("_law_script", v)]) ∧ ∀ base : Heap, K.In base → base.Ns mainGlobals mg → FnG l.prog w K mg base 12 fa fd ["_law_script"] (spLaw K) := by
  have e := hfa.symm.trans (PySem.W.mg_of X G a47)
  cases e
  refine ⟨PySem.W.fnOf "law" "law" (defArgs s_law) (defBody s_law) (defScope s_law) .none kV47 dc47 pm47 an47 cd47 ct47, fun t v => .of_eq rfl, fun base _ _ => ?_⟩
  exact ok_law (w := w) {
    t__wall := ⟨_, _, fun_mk (st := s__wall) l0 c0 k0, (fun_mk (st := s__wall) l0 c0 k0).binds (ps := p__wall) fun _ _ _ _ _ _ us hl => match us, hl with | [_], _ => rfl⟩,
    g__wall := PySem.W.mg_of X G a0,
    t_is_number := ⟨_, _, fun_mk (st := s_is_number) l1 c1 k1, (fun_mk (st := s_is_number) l1 c1 k1).binds (ps := p_is_number) fun _ _ _ _ _ _ us hl => match us, hl with | [_], _ => rfl⟩,
    g_is_number := PySem.W.mg_of X G a1,
    t_is_person := ⟨_, _, fun_mk (st := s_is_person) l2 c2 k2, (fun_mk (st := s_is_person) l2 c2 k2).binds (ps := p_is_person) fun _ _ _ _ _ _ us hl => match us, hl with | [_, _], _ => rfl⟩,
    g_is_person := PySem.W.mg_of X G a2,
    t_are_persons := ⟨_, _, fun_mk (st := s_are_persons) l3 c3 k3, (fun_mk (st := s_are_persons) l3 c3 k3).binds (ps := p_are_persons) fun _ _ _ _ _ _ us hl => match us, hl with | [_, _], _ => rfl⟩,
    g_are_persons := PySem.W.mg_of X G a3,
    t_rises := ⟨_, _, fun_mk (st := s_rises) l4 c4 k4, (fun_mk (st := s_rises) l4 c4 k4).binds (ps := p_rises) fun _ _ _ _ _ _ us hl => match us, hl with | [_], _ => rfl⟩,
    g_rises := PySem.W.mg_of X G a4,
    t_is_rule := ⟨_, _, fun_mk (st := s_is_rule) l5 c5 k5, (fun_mk (st := s_is_rule) l5 c5 k5).binds (ps := p_is_rule) fun _ _ _ _ _ _ us hl => match us, hl with | [_, _], _ => rfl⟩,
    g_is_rule := PySem.W.mg_of X G a5,
    t_is_part := ⟨_, _, fun_mk (st := s_is_part) l6 c6 k6, (fun_mk (st := s_is_part) l6 c6 k6).binds (ps := p_is_part) fun _ _ _ _ _ _ us hl => match us, hl with | [_, _, _], _ => rfl⟩,
    g_is_part := PySem.W.mg_of X G a6,
    t_are_ties := ⟨_, _, fun_mk (st := s_are_ties) l7 c7 k7, (fun_mk (st := s_are_ties) l7 c7 k7).binds (ps := p_are_ties) fun _ _ _ _ _ _ us hl => match us, hl with | [_, _], _ => rfl⟩,
    g_are_ties := PySem.W.mg_of X G a7,
    t_is_tie := ⟨_, _, fun_mk (st := s_is_tie) l8 c8 k8, (fun_mk (st := s_is_tie) l8 c8 k8).binds (ps := p_is_tie) fun _ _ _ _ _ _ us hl => match us, hl with | [_, _], _ => rfl⟩,
    g_is_tie := PySem.W.mg_of X G a8,
    t_seen_by := ⟨_, _, fun_mk (st := s_seen_by) l9 c9 k9, (fun_mk (st := s_seen_by) l9 c9 k9).binds (ps := p_seen_by) fun _ _ _ _ _ _ us hl => match us, hl with | [_], _ => rfl⟩,
    g_seen_by := PySem.W.mg_of X G a9,
    t_told_of := ⟨_, _, fun_mk (st := s_told_of) l10 c10 k10, (fun_mk (st := s_told_of) l10 c10 k10).binds (ps := p_told_of) fun _ _ _ _ _ _ us hl => match us, hl with | [_, _], _ => rfl⟩,
    g_told_of := PySem.W.mg_of X G a10,
    t_weighed := ⟨_, _, fun_mk (st := s_weighed) l11 c11 k11, (fun_mk (st := s_weighed) l11 c11 k11).binds (ps := p_weighed) fun _ _ _ _ _ _ us hl => match us, hl with | [_, _], _ => rfl⟩,
    g_weighed := PySem.W.mg_of X G a11,
    t_least_free := ⟨_, _, fun_mk (st := s_least_free) l12 c12 k12, (fun_mk (st := s_least_free) l12 c12 k12).binds (ps := p_least_free) fun _ _ _ _ _ _ us hl => match us, hl with | [_], _ => rfl⟩,
    g_least_free := PySem.W.mg_of X G a12,
    t_lot_below := ⟨_, _, fun_mk (st := s_lot_below) l13 c13 k13, (fun_mk (st := s_lot_below) l13 c13 k13).binds (ps := p_lot_below) fun _ _ _ _ _ _ us hl => match us, hl with | [_, _, _, _], _ => rfl⟩,
    g_lot_below := PySem.W.mg_of X G a13,
    t_told_below := ⟨_, _, fun_mk (st := s_told_below) l14 c14 k14, (fun_mk (st := s_told_below) l14 c14 k14).binds (ps := p_told_below) fun _ _ _ _ _ _ us hl => match us, hl with | [_, _, _, _], _ => rfl⟩,
    g_told_below := PySem.W.mg_of X G a14,
    t_told_at := ⟨_, _, fun_mk (st := s_told_at) l15 c15 k15, (fun_mk (st := s_told_at) l15 c15 k15).binds (ps := p_told_at) fun _ _ _ _ _ _ us hl => match us, hl with | [_, _, _], _ => rfl⟩,
    g_told_at := PySem.W.mg_of X G a15,
    t_turned := ⟨_, _, fun_mk (st := s_turned) l16 c16 k16, (fun_mk (st := s_turned) l16 c16 k16).binds (ps := p_turned) fun _ _ _ _ _ _ us hl => match us, hl with | [_, _, _], _ => rfl⟩,
    g_turned := PySem.W.mg_of X G a16,
    t_restless := ⟨_, _, fun_mk (st := s_restless) l17 c17 k17, (fun_mk (st := s_restless) l17 c17 k17).binds (ps := p_restless) fun _ _ _ _ _ _ us hl => match us, hl with | [_, _], _ => rfl⟩,
    g_restless := PySem.W.mg_of X G a17,
    t_is_rest := ⟨_, _, fun_mk (st := s_is_rest) l18 c18 k18, (fun_mk (st := s_is_rest) l18 c18 k18).binds (ps := p_is_rest) fun _ _ _ _ _ _ us hl => match us, hl with | [_, _], _ => rfl⟩,
    g_is_rest := PySem.W.mg_of X G a18,
    t_beaten := ⟨_, _, fun_mk (st := s_beaten) l19 c19 k19, (fun_mk (st := s_beaten) l19 c19 k19).binds (ps := p_beaten) fun _ _ _ _ _ _ us hl => match us, hl with | [_, _], _ => rfl⟩,
    g_beaten := PySem.W.mg_of X G a19,
    t_history := ⟨_, _, fun_mk (st := s_history) l20 c20 k20, (fun_mk (st := s_history) l20 c20 k20).binds (ps := p_history) fun _ _ _ _ _ _ us hl => match us, hl with | [_, _, _], _ => rfl⟩,
    g_history := PySem.W.mg_of X G a20,
    t_rest_by_beats := ⟨_, _, fun_mk (st := s_rest_by_beats) l21 c21 k21, (fun_mk (st := s_rest_by_beats) l21 c21 k21).binds (ps := p_rest_by_beats) fun _ _ _ _ _ _ us hl => match us, hl with | [_, _], _ => rfl⟩,
    g_rest_by_beats := PySem.W.mg_of X G a21,
    t_keeps_line := ⟨_, _, fun_mk (st := s_keeps_line) l22 c22 k22, (fun_mk (st := s_keeps_line) l22 c22 k22).binds (ps := p_keeps_line) fun _ _ _ _ _ _ us hl => match us, hl with | [_, _, _, _], _ => rfl⟩,
    g_keeps_line := PySem.W.mg_of X G a22,
    t_is_line := ⟨_, _, fun_mk (st := s_is_line) l23 c23 k23, (fun_mk (st := s_is_line) l23 c23 k23).binds (ps := p_is_line) fun _ _ _ _ _ _ us hl => match us, hl with | [_, _, _], _ => rfl⟩,
    g_is_line := PySem.W.mg_of X G a23,
    t_most_up_to := ⟨_, _, fun_mk (st := s_most_up_to) l24 c24 k24, (fun_mk (st := s_most_up_to) l24 c24 k24).binds (ps := p_most_up_to) fun _ _ _ _ _ _ us hl => match us, hl with | [_, _, _], _ => rfl⟩,
    g_most_up_to := PySem.W.mg_of X G a24,
    t_waterline := ⟨_, _, fun_mk (st := s_waterline) l25 c25 k25, (fun_mk (st := s_waterline) l25 c25 k25).binds (ps := p_waterline) fun _ _ _ _ _ _ us hl => match us, hl with | [_, _], _ => rfl⟩,
    g_waterline := PySem.W.mg_of X G a25,
    t_firm_of := ⟨_, _, fun_mk (st := s_firm_of) l26 c26 k26, (fun_mk (st := s_firm_of) l26 c26 k26).binds (ps := p_firm_of) fun _ _ _ _ _ _ us hl => match us, hl with | [_, _], _ => rfl⟩,
    g_firm_of := PySem.W.mg_of X G a26,
    t_is_firm := ⟨_, _, fun_mk (st := s_is_firm) l27 c27 k27, (fun_mk (st := s_is_firm) l27 c27 k27).binds (ps := p_is_firm) fun _ _ _ _ _ _ us hl => match us, hl with | [_, _, _, _], _ => rfl⟩,
    g_is_firm := PySem.W.mg_of X G a27,
    t_rest_by := ⟨_, _, fun_mk (st := s_rest_by) l28 c28 k28, (fun_mk (st := s_rest_by) l28 c28 k28).binds (ps := p_rest_by) fun _ _ _ _ _ _ us hl => match us, hl with | [_, _, _], _ => rfl⟩,
    g_rest_by := PySem.W.mg_of X G a28,
    t_Hall_init := ⟨_, _, fun_mk (st := s_Hall_init) l29 c29 k29, (fun_mk (st := s_Hall_init) l29 c29 k29).binds (ps := p_Hall_init) fun _ _ _ _ _ _ us hl => match us, hl with | [_, _], _ => rfl⟩,
    t_Hall_must_have := ⟨_, _, fun_mk (st := s_Hall_must_have) l30 c30 k30, (fun_mk (st := s_Hall_must_have) l30 c30 k30).binds (ps := p_Hall_must_have) fun _ _ _ _ _ _ us hl => match us, hl with | [_, _], _ => rfl⟩,
    t_Hall_rules := ⟨_, _, fun_mk (st := s_Hall_rules) l31 c31 k31, (fun_mk (st := s_Hall_rules) l31 c31 k31).binds (ps := p_Hall_rules) fun _ _ _ _ _ _ us hl => match us, hl with | [_], _ => rfl⟩,
    t_Hall_rule := ⟨_, _, fun_mk (st := s_Hall_rule) l32 c32 k32, (fun_mk (st := s_Hall_rule) l32 c32 k32).binds (ps := p_Hall_rule) fun _ _ _ _ _ _ us hl => match us, hl with | [_, _], _ => rfl⟩,
    t_Hall_sees := ⟨_, _, fun_mk (st := s_Hall_sees) l33 c33 k33, (fun_mk (st := s_Hall_sees) l33 c33 k33).binds (ps := p_Hall_sees) fun _ _ _ _ _ _ us hl => match us, hl with | [_, _], _ => rfl⟩,
    t_Hall_seers := ⟨_, _, fun_mk (st := s_Hall_seers) l34 c34 k34, (fun_mk (st := s_Hall_seers) l34 c34 k34).binds (ps := p_Hall_seers) fun _ _ _ _ _ _ us hl => match us, hl with | [_, _], _ => rfl⟩,
    t_Hall_eq := ⟨_, _, fun_mk (st := s_Hall_eq) l35 c35 k35, (fun_mk (st := s_Hall_eq) l35 c35 k35).binds (ps := p_Hall_eq) fun _ _ _ _ _ _ us hl => match us, hl with | [_, _], _ => rfl⟩,
    t_Hall_len := ⟨_, _, fun_mk (st := s_Hall_len) l36 c36 k36, (fun_mk (st := s_Hall_len) l36 c36 k36).binds (ps := p_Hall_len) fun _ _ _ _ _ _ us hl => match us, hl with | [_], _ => rfl⟩,
    t_Hall_repr := ⟨_, _, fun_mk (st := s_Hall_repr) l37 c37 k37, (fun_mk (st := s_Hall_repr) l37 c37 k37).binds (ps := p_Hall_repr) fun _ _ _ _ _ _ us hl => match us, hl with | [_], _ => rfl⟩,
    t_row_hall := ⟨_, _, fun_mk (st := s_row_hall) l38 c38 k38, (fun_mk (st := s_row_hall) l38 c38 k38).binds (ps := p_row_hall) fun _ _ _ _ _ _ us hl => match us, hl with | [_], _ => rfl⟩,
    g_row_hall := PySem.W.mg_of X G a38,
    t_dip := ⟨_, _, fun_mk (st := s_dip) l39 c39 k39, (fun_mk (st := s_dip) l39 c39 k39).binds (ps := p_dip) fun _ _ _ _ _ _ us hl => match us, hl with | [_, _], _ => rfl⟩,
    g_dip := PySem.W.mg_of X G a39,
    t_take := ⟨_, _, fun_mk (st := s_take) l40 c40 k40, (fun_mk (st := s_take) l40 c40 k40).binds (ps := p_take) fun _ _ _ _ _ _ us hl => match us, hl with | [_, _], _ => rfl⟩,
    g_take := PySem.W.mg_of X G a40,
    t_folded := ⟨_, _, fun_mk (st := s_folded) l41 c41 k41, (fun_mk (st := s_folded) l41 c41 k41).binds (ps := p_folded) fun _ _ _ _ _ _ us hl => match us, hl with | [_, _], _ => rfl⟩,
    g_folded := PySem.W.mg_of X G a41,
    t_same := ⟨_, _, fun_mk (st := s_same) l42 c42 k42, (fun_mk (st := s_same) l42 c42 k42).binds (ps := p_same) fun _ _ _ _ _ _ us hl => match us, hl with | [_, _], _ => rfl⟩,
    g_same := PySem.W.mg_of X G a42,
    t_stop := ⟨_, _, fun_mk (st := s_stop) l43 c43 k43, (fun_mk (st := s_stop) l43 c43 k43).binds (ps := p_stop) fun _ _ _ _ _ _ us hl => match us, hl with | [_, _], _ => rfl⟩,
    g_stop := PySem.W.mg_of X G a43,
    t_swept := ⟨_, _, fun_mk (st := s_swept) l44 c44 k44, (fun_mk (st := s_swept) l44 c44 k44).binds (ps := p_swept) fun _ _ _ _ _ _ us hl => match us, hl with | [_], _ => rfl⟩,
    g_swept := PySem.W.mg_of X G a44,
    t_right := ⟨_, _, fun_mk (st := s_right) l45 c45 k45, (fun_mk (st := s_right) l45 c45 k45).binds (ps := p_right) fun _ _ _ _ _ _ us hl => match us, hl with | [_], _ => rfl⟩,
    g_right := PySem.W.mg_of X G a45,
    t_back_due := ⟨_, _, fun_mk (st := s_back_due) l46 c46 k46, (fun_mk (st := s_back_due) l46 c46 k46).binds (ps := p_back_due) fun _ _ _ _ _ _ us hl => match us, hl with | [_, _], _ => rfl⟩,
    g_back_due := PySem.W.mg_of X G a46,
    t_law := ⟨_, _, fun_mk (st := s_law) l47 c47 k47, (fun_mk (st := s_law) l47 c47 k47).binds (ps := p_law) fun _ _ _ _ _ _ us hl => match us, hl with | [_], _ => rfl⟩,
    g_law := PySem.W.mg_of X G a47,
    C_Hall := CHall,
    g_Hall := PySem.W.mg_of X G aCHall,
    cl_Hall := ⟨pgHall, hdHall, poHall, saHall⟩,
    mk_Hall := ⟨mkHall, a29, i29, kcHall⟩,
    me_Hall_init := ⟨a29, i29, k29⟩,
    me_Hall_must_have := ⟨a30, i30, k30⟩,
    me_Hall_rules := ⟨a31, i31, k31⟩,
    me_Hall_rule := ⟨a32, i32, k32⟩,
    me_Hall_sees := ⟨a33, i33, k33⟩,
    me_Hall_seers := ⟨a34, i34, k34⟩,
    me_Hall_eq := ⟨a35, i35, k35⟩,
    me_Hall_len := ⟨a36, i36, k36⟩,
    me_Hall_repr := ⟨a37, i37, k37⟩,
    na_Hall_kept := nHall_kept,
    D_PARTS := DPARTS,
    g_PARTS := PySem.W.mg_of X G aDPARTS,
    es_PARTS := esPARTS,
    en_PARTS := enPARTS,
    kd_PARTS := ⟨lDPARTS, kDPARTS, yDPARTS⟩,
    t_PARTS_held := tPARTS_held,
    dk_PARTS_held := ePARTS_held,
    sq_PARTS_held := fun _ => .inr ⟨_, itPARTS_held, inPARTS_held, ltPARTS_held, rfl, rfl, ztPARTS_held, vtPARTS_held⟩,
    t_PARTS_sum := tPARTS_sum,
    dk_PARTS_sum := ePARTS_sum,
    sq_PARTS_sum := fun _ => .inr ⟨_, itPARTS_sum, inPARTS_sum, ltPARTS_sum, rfl, rfl, ztPARTS_sum, vtPARTS_sum⟩,
    t_PARTS_cap := tPARTS_cap,
    dk_PARTS_cap := ePARTS_cap,
    sq_PARTS_cap := fun _ => .inr ⟨_, itPARTS_cap, inPARTS_cap, ltPARTS_cap, rfl, rfl, ztPARTS_cap, vtPARTS_cap⟩,
    t_PARTS_kinds := tPARTS_kinds,
    dk_PARTS_kinds := ePARTS_kinds,
    sq_PARTS_kinds := fun _ => .inr ⟨_, itPARTS_kinds, inPARTS_kinds, ltPARTS_kinds, rfl, rfl, ztPARTS_kinds, vtPARTS_kinds⟩,
    t_PARTS_next := tPARTS_next,
    dk_PARTS_next := ePARTS_next,
    sq_PARTS_next := fun _ => .inr ⟨_, itPARTS_next, inPARTS_next, ltPARTS_next, rfl, rfl, ztPARTS_next, vtPARTS_next⟩,
    t_PARTS_free := tPARTS_free,
    dk_PARTS_free := ePARTS_free,
    sq_PARTS_free := fun _ => .inr ⟨_, itPARTS_free, inPARTS_free, ltPARTS_free, rfl, rfl, ztPARTS_free, vtPARTS_free⟩,
    m_abs := PySem.W.mg_none_of X G z0,
    m_all := PySem.W.mg_none_of X G z1,
    m_any := PySem.W.mg_none_of X G z2,
    m_bool := PySem.W.mg_none_of X G z3,
    m_dict := PySem.W.mg_none_of X G z4,
    m_enumerate := PySem.W.mg_none_of X G z5,
    m_int := PySem.W.mg_none_of X G z6,
    m_isinstance := PySem.W.mg_none_of X G z7,
    m_len := PySem.W.mg_none_of X G z8,
    m_list := PySem.W.mg_none_of X G z9,
    m_max := PySem.W.mg_none_of X G z10,
    m_min := PySem.W.mg_none_of X G z11,
    m_range := PySem.W.mg_none_of X G z12,
    m_set := PySem.W.mg_none_of X G z13,
    m_sorted := PySem.W.mg_none_of X G z14,
    m_str := PySem.W.mg_none_of X G z15,
    m_sum := PySem.W.mg_none_of X G z16,
    m_tuple := PySem.W.mg_none_of X G z17,
    m_zip := PySem.W.mg_none_of X G z18 }
end Lh
open PySem PySem.W PyProof.Rows
set_option maxHeartbeats 0 in
theorem PySem.Challenge.cw_lesserhall_k66_whole_slow_rows_and_told_holds : PySem.Challenge.rw_lesserhall_k66_whole_slow_rows_and_told.Holds := by
  w_on; o_law; k_head; (case hw => w_witness2)
  k_fill
  refine Lh.walk_G (l := PySem.Challenge.rw_lesserhall_k66_whole_slow_rows_and_told) (n := 63) (k := 12) (x := "_law_script") (sp := fun w => Lh.spLaw _) rfl (by decide) rfl ⟨rfl, by decide, by decide⟩ (fun w h Y => PySem.W.kIn_of Y) ?F (fun _ _ a ns hl _ hS => ⟨a, ns, rfl, hS, hl, fun _ => rfl⟩)
  case F =>
    intro w mg fa h KX G hmg
    refine' Lh.all_mk KX G hmg ?aCHall ?a0 ?l0 ?c0 ?k0 ?a1 ?l1 ?c1 ?k1 ?a2 ?l2 ?c2 ?k2 ?a3 ?l3 ?c3 ?k3 ?a4 ?l4 ?c4 ?k4 ?a5 ?l5 ?c5 ?k5 ?a6 ?l6 ?c6 ?k6 ?a7 ?l7 ?c7 ?k7 ?a8 ?l8 ?c8 ?k8 ?a9 ?l9 ?c9 ?k9 ?a10 ?l10 ?c10 ?k10 ?a11 ?l11 ?c11 ?k11 ?a12 ?l12 ?c12 ?k12 ?a13 ?l13 ?c13 ?k13 ?a14 ?l14 ?c14 ?k14 ?a15 ?l15 ?c15 ?k15 ?a16 ?l16 ?c16 ?k16 ?a17 ?l17 ?c17 ?k17 ?a18 ?l18 ?c18 ?k18 ?a19 ?l19 ?c19 ?k19 ?a20 ?l20 ?c20 ?k20 ?a21 ?l21 ?c21 ?k21 ?a22 ?l22 ?c22 ?k22 ?a23 ?l23 ?c23 ?k23 ?a24 ?l24 ?c24 ?k24 ?a25 ?l25 ?c25 ?k25 ?a26 ?l26 ?c26 ?k26 ?a27 ?l27 ?c27 ?k27 ?a28 ?l28 ?c28 ?k28 ?a29 ?i29 ?l29 ?c29 ?k29 ?a30 ?i30 ?l30 ?c30 ?k30 ?a31 ?i31 ?l31 ?c31 ?k31 ?a32 ?i32 ?l32 ?c32 ?k32 ?a33 ?i33 ?l33 ?c33 ?k33 ?a34 ?i34 ?l34 ?c34 ?k34 ?a35 ?i35 ?l35 ?c35 ?k35 ?a36 ?i36 ?l36 ?c36 ?k36 ?a37 ?i37 ?l37 ?c37 ?k37 ?a38 ?l38 ?c38 ?k38 ?a39 ?l39 ?c39 ?k39 ?a40 ?l40 ?c40 ?k40 ?a41 ?l41 ?c41 ?k41 ?a42 ?l42 ?c42 ?k42 ?a43 ?l43 ?c43 ?k43 ?a44 ?l44 ?c44 ?k44 ?a45 ?l45 ?c45 ?k45 ?a46 ?l46 ?c46 ?k46 ?a47 ?l47 ?c47 ?k47 ?pgHall ?hdHall ?poHall ?saHall ?mkHall ?kcHall ?nHall_kept ?aDPARTS ?lDPARTS ?kDPARTS ?yDPARTS ?ePARTS_held ?ltPARTS_held ?ztPARTS_held ?vtPARTS_held ?ePARTS_sum ?ltPARTS_sum ?ztPARTS_sum ?vtPARTS_sum ?ePARTS_cap ?ltPARTS_cap ?ztPARTS_cap ?vtPARTS_cap ?ePARTS_kinds ?ltPARTS_kinds ?ztPARTS_kinds ?vtPARTS_kinds ?ePARTS_next ?ltPARTS_next ?ztPARTS_next ?vtPARTS_next ?ePARTS_free ?ltPARTS_free ?ztPARTS_free ?vtPARTS_free ?z0 ?z1 ?z2 ?z3 ?z4 ?z5 ?z6 ?z7 ?z8 ?z9 ?z10 ?z11 ?z12 ?z13 ?z14 ?z15 ?z16 ?z17 ?z18
    (case aCHall => k_is); (case a0 => k_is); (case l0 => k_is); (case c0 => k_is); (case k0 => k_is); (case a1 => k_is); (case l1 => k_is); (case c1 => k_is); (case k1 => k_is); (case a2 => k_is); (case l2 => k_is); (case c2 => k_is); (case k2 => k_is); (case a3 => k_is); (case l3 => k_is); (case c3 => k_is); (case k3 => k_is); (case a4 => k_is); (case l4 => k_is); (case c4 => k_is); (case k4 => k_is); (case a5 => k_is); (case l5 => k_is); (case c5 => k_is); (case k5 => k_is); (case a6 => k_is); (case l6 => k_is); (case c6 => k_is); (case k6 => k_is); (case a7 => k_is); (case l7 => k_is); (case c7 => k_is); (case k7 => k_is); (case a8 => k_is); (case l8 => k_is); (case c8 => k_is); (case k8 => k_is); (case a9 => k_is); (case l9 => k_is); (case c9 => k_is); (case k9 => k_is); (case a10 => k_is); (case l10 => k_is); (case c10 => k_is); (case k10 => k_is); (case a11 => k_is); (case l11 => k_is); (case c11 => k_is); (case k11 => k_is); (case a12 => k_is); (case l12 => k_is); (case c12 => k_is); (case k12 => k_is); (case a13 => k_is); (case l13 => k_is); (case c13 => k_is); (case k13 => k_is); (case a14 => k_is); (case l14 => k_is); (case c14 => k_is); (case k14 => k_is); (case a15 => k_is); (case l15 => k_is); (case c15 => k_is); (case k15 => k_is); (case a16 => k_is); (case l16 => k_is); (case c16 => k_is); (case k16 => k_is); (case a17 => k_is); (case l17 => k_is); (case c17 => k_is); (case k17 => k_is); (case a18 => k_is); (case l18 => k_is); (case c18 => k_is); (case k18 => k_is); (case a19 => k_is); (case l19 => k_is); (case c19 => k_is); (case k19 => k_is); (case a20 => k_is); (case l20 => k_is); (case c20 => k_is); (case k20 => k_is); (case a21 => k_is); (case l21 => k_is); (case c21 => k_is); (case k21 => k_is); (case a22 => k_is); (case l22 => k_is); (case c22 => k_is); (case k22 => k_is); (case a23 => k_is); (case l23 => k_is); (case c23 => k_is); (case k23 => k_is); (case a24 => k_is); (case l24 => k_is); (case c24 => k_is); (case k24 => k_is); (case a25 => k_is); (case l25 => k_is); (case c25 => k_is); (case k25 => k_is); (case a26 => k_is); (case l26 => k_is); (case c26 => k_is); (case k26 => k_is); (case a27 => k_is); (case l27 => k_is); (case c27 => k_is); (case k27 => k_is); (case a28 => k_is); (case l28 => k_is); (case c28 => k_is); (case k28 => k_is); (case a29 => k_is); (case i29 => k_is); (case l29 => k_is); (case c29 => k_is); (case k29 => k_is); (case a30 => k_is); (case i30 => k_is); (case l30 => k_is); (case c30 => k_is); (case k30 => k_is); (case a31 => k_is); (case i31 => k_is); (case l31 => k_is); (case c31 => k_is); (case k31 => k_is); (case a32 => k_is); (case i32 => k_is); (case l32 => k_is); (case c32 => k_is); (case k32 => k_is); (case a33 => k_is); (case i33 => k_is); (case l33 => k_is); (case c33 => k_is); (case k33 => k_is); (case a34 => k_is); (case i34 => k_is); (case l34 => k_is); (case c34 => k_is); (case k34 => k_is); (case a35 => k_is); (case i35 => k_is); (case l35 => k_is); (case c35 => k_is); (case k35 => k_is); (case a36 => k_is); (case i36 => k_is); (case l36 => k_is); (case c36 => k_is); (case k36 => k_is); (case a37 => k_is); (case i37 => k_is); (case l37 => k_is); (case c37 => k_is); (case k37 => k_is); (case a38 => k_is); (case l38 => k_is); (case c38 => k_is); (case k38 => k_is); (case a39 => k_is); (case l39 => k_is); (case c39 => k_is); (case k39 => k_is); (case a40 => k_is); (case l40 => k_is); (case c40 => k_is); (case k40 => k_is); (case a41 => k_is); (case l41 => k_is); (case c41 => k_is); (case k41 => k_is); (case a42 => k_is); (case l42 => k_is); (case c42 => k_is); (case k42 => k_is); (case a43 => k_is); (case l43 => k_is); (case c43 => k_is); (case k43 => k_is); (case a44 => k_is); (case l44 => k_is); (case c44 => k_is); (case k44 => k_is); (case a45 => k_is); (case l45 => k_is); (case c45 => k_is); (case k45 => k_is); (case a46 => k_is); (case l46 => k_is); (case c46 => k_is); (case k46 => k_is); (case a47 => k_is); (case l47 => k_is); (case c47 => k_is); (case k47 => k_is); (case pgHall => k_is); (case hdHall => k_is); (case poHall => k_is); (case saHall => k_is); (case mkHall => k_is); (case kcHall => k_is); (case nHall_kept => k_is); (case aDPARTS => k_is); (case lDPARTS => k_is); (case kDPARTS => exact ⟨⟨_, _, rfl, rfl⟩, ⟨_, _, rfl, rfl⟩, ⟨_, _, rfl, rfl⟩, ⟨_, _, rfl, rfl⟩, ⟨_, _, rfl, rfl⟩, ⟨_, _, rfl, rfl⟩, trivial⟩); (case yDPARTS => decide +kernel); (case ePARTS_held => k_is); (case ltPARTS_held => k_is); (case ztPARTS_held => decide +kernel); (case vtPARTS_held => exact .cons ⟨_, rfl⟩ (.nil)); (case ePARTS_sum => k_is); (case ltPARTS_sum => k_is); (case ztPARTS_sum => decide +kernel); (case vtPARTS_sum => exact .cons ⟨_, rfl⟩ (.cons ⟨_, rfl⟩ (.nil))); (case ePARTS_cap => k_is); (case ltPARTS_cap => k_is); (case ztPARTS_cap => decide +kernel); (case vtPARTS_cap => exact .cons ⟨_, rfl⟩ (.cons ⟨_, rfl⟩ (.cons ⟨_, rfl⟩ (.nil)))); (case ePARTS_kinds => k_is); (case ltPARTS_kinds => k_is); (case ztPARTS_kinds => decide +kernel); (case vtPARTS_kinds => exact .cons ⟨_, rfl⟩ (.cons ⟨_, rfl⟩ (.nil))); (case ePARTS_next => k_is); (case ltPARTS_next => k_is); (case ztPARTS_next => decide +kernel); (case vtPARTS_next => exact .cons ⟨_, rfl⟩ (.nil)); (case ePARTS_free => k_is); (case ltPARTS_free => k_is); (case ztPARTS_free => decide +kernel); (case vtPARTS_free => exact .cons ⟨_, rfl⟩ (.nil)); (case z0 => k_is); (case z1 => k_is); (case z2 => k_is); (case z3 => k_is); (case z4 => k_is); (case z5 => k_is); (case z6 => k_is); (case z7 => k_is); (case z8 => k_is); (case z9 => k_is); (case z10 => k_is); (case z11 => k_is); (case z12 => k_is); (case z13 => k_is); (case z14 => k_is); (case z15 => k_is); (case z16 => k_is); (case z17 => k_is); (case z18 => k_is)
