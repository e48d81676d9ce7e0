import PyProof.Rows.All
import Wide.All
import OpenK.AllK
import Wide.FinOn
import HandS.ForMost
import HandS.Flow
import HandS.IsInst
import HandS.Zip
import HandS.SortInts
import HandS.Defaults
import HandS.Conv
import HandS.Strs
import HandS.MakeKwOnly
import PyProof.ReprRoads
import HandS.SetFor
import HandS.SortKw
import KE.DataMinMax
import KE.KDictPairs
import PyProof.ReprLen
import HandS.Exc
import HandS.WordsExc
import HandS.ExcOwn
import HandS.ExcInit
import KE.KExcIs
import HandS.ExcIs
import HandS.ExcField
import KE.KTryMore
import HandS.Walk
import HandS.TupAny
import HandS.More
import KE.GoesMore
import HandS.DictComp
import HandS.WordsDict
import HandS.SortRule
import KE.GoesZip
import PyProof.ReprBulk
import PySem.Challenge.RW_lesserhall_k45_told_small_and_wide
set_option Elab.async false
set_option linter.all false
set_option maxRecDepth 100000

namespace Lh
open PySem PySem.Spec PyProof.Rows L2

/-! ### heaps -/
/-- all that was tracked is as it was, but for the box -/
def Ext (bx : Addr) (H H' : Hp) : Prop := ∀ a o, a ≠ bx → H a = some o → H' a = some o
theorem Ext.refl {bx : Addr} (H : Hp) : Ext bx H H := fun _ _ _ h => h
theorem Ext.trans {bx : Addr} {H H1 H2 : Hp} (a : Ext bx H H1) (b : Ext bx H1 H2) : Ext bx H H2 := fun x o n h => b x o n (a x o n h)
theorem Ext.of {bx : Addr} {H H' : Hp} (a : Same H H') : Ext bx H H' := fun x o _ h => a x o h
theorem Ext.new {bx : Addr} {H H' : Hp} {p : Addr} {o : HO} (e : Ext bx H H') (h : H p = none) : Ext bx H (upd H' p o) := fun x u n hx => by
  rw [upd_ne (ne_of_none hx h)]
  exact e x u n hx
theorem Ext.box {bx : Addr} {H H' : Hp} {o : HO} (e : Ext bx H H') : Ext bx H (upd H' bx o) := fun x u n hx => by
  rw [upd_ne n]
  exact e x u n hx
theorem Ext.free {bx : Addr} {H H' : Hp} (e : Ext bx H H') {l : Addr} (n : l ≠ bx) (h : H' l = Option.none) : H l = Option.none := by
  cases q : H l with
  | none => rfl
  | some o =>
    rw [e l o n q] at h
    cases h
theorem same_upd {H : Hp} {p : Addr} {o : HO} (h : H p = none) : Same H (upd H p o) := fun b x e => by
  rw [upd_ne (ne_of_none e h)]
  exact e
theorem same_mut {H H' : Hp} {p : Addr} {o : HO} (e : Same H H') (h : H p = none) : Same H (upd H' p o) := fun a u ha => by
  rw [upd_ne (ne_of_none ha h)]
  exact e a u ha

/-- the box: three ints, the last a count -/
def Box (bx : Addr) (c : Int) (H : Hp) : Prop := ∃ a b n : Int, H bx = some (.lst [.int a, .int b, .int n]) ∧ 0 ≤ a ∧ 0 ≤ b ∧ b < 2 ^ 62 ∧ 0 ≤ n ∧ n ≤ c
theorem Box.has {bx : Addr} {c : Int} {H : Hp} (h : Box bx c H) : ∃ o, H bx = some o := by
  obtain ⟨a, b, n, h, _⟩ := h
  exact ⟨_, h⟩
theorem Box.ne {bx : Addr} {c : Int} {H : Hp} (h : Box bx c H) {p : Addr} (n : H p = none) : p ≠ bx := by
  obtain ⟨o, h⟩ := h.has
  exact (ne_of_none h n).symm
theorem Box.neT {bx : Addr} {c : Int} {H : Hp} (h : Box bx c H) {p : Addr} {xs : List V} (n : H p = some (.tup xs)) : p ≠ bx := by
  obtain ⟨a, b, n', h, _⟩ := h
  exact ne_of n h (by intro z; cases z)
theorem Box.mono {bx : Addr} {c d : Int} {H : Hp} (h : Box bx c H) (e : c ≤ d) : Box bx d H := by
  obtain ⟨a, b, n, h, h1, h2, h3, h4, h5⟩ := h
  exact ⟨a, b, n, h, h1, h2, h3, h4, by omega⟩
theorem Box.same {bx : Addr} {c : Int} {H H' : Hp} (h : Box bx c H) (e : Same H H') : Box bx c H' := by
  obtain ⟨a, b, n, h, r⟩ := h
  exact ⟨a, b, n, e _ _ h, r⟩
theorem Box.new {bx : Addr} {c : Int} {H : Hp} (h : Box bx c H) {p : Addr} {o : HO} (n : H p = none) : Box bx c (upd H p o) := h.same (same_upd n)
theorem Box.at {bx : Addr} {c : Int} {H : Hp} (h : Box bx c H) {p : Addr} {o : HO} (n : p ≠ bx) : Box bx c (upd H p o) := by
  obtain ⟨a, b, m, h, r⟩ := h
  exact ⟨a, b, m, by rw [upd_ne n.symm]; exact h, r⟩

/-- a tuple, one whose object is known to bear no names among them -/
def TupAt (H : Hp) (a : Addr) (xs : List V) : Prop := H a = some (.tup xs) ∨ ∃ o : Obj, o.dict = none ∧ H a = some (.frz o (.tup xs))
theorem TupAt.sq {K : PySem.W.Frag} {H : Hp} {a : Addr} {xs : List V} (h : TupAt H a xs) : SqT K H a xs := by
  rcases h with h | ⟨o, _, h⟩
  · exact .inl (.inl h)
  · exact .inl (.inr ⟨o, h⟩)
theorem TupAt.ext {bx : Addr} {H H' : Hp} {a : Addr} {xs : List V} (e : Ext bx H H') (n : a ≠ bx) (h : TupAt H a xs) : TupAt H' a xs := by
  rcases h with h | ⟨o, d, h⟩
  · exact .inl (e _ _ n h)
  · exact .inr ⟨o, d, e _ _ n h⟩
theorem TupAt.ty {K : PySem.W.Frag} {H : Hp} {a : Addr} {xs : List V} (h : TupAt H a xs) : TyX K H (.ref a) (.type "tuple") := by
  rcases h with h | ⟨o, d, h⟩
  · exact .base (.tup h)
  · exact .fTuple h
/-! data in the heap, the box not among it -/
mutual
inductive Rp (bx : Addr) (H : Hp) : V → PyData → Prop
  | non : Rp bx H .non .none
  | bl (b : Bool) : Rp bx H (.bl b) (.bool b)
  | int (i : Int) : Rp bx H (.int i) (.int i)
  | str (x : Str) : Rp bx H (.str x) (.str x)
  | lst {a : Addr} {xs : List V} {ds : List PyData} : H a = some (.lst xs) → a ≠ bx → RpAll bx H xs ds → Rp bx H (.ref a) (.list ds)
  | tup {a : Addr} {xs : List V} {ds : List PyData} : TupAt H a xs → a ≠ bx → RpAll bx H xs ds → Rp bx H (.ref a) (.tuple ds)
inductive RpAll (bx : Addr) (H : Hp) : List V → List PyData → Prop
  | nil : RpAll bx H [] []
  | cons {v : V} {vs : List V} {d : PyData} {ds : List PyData} : Rp bx H v d → RpAll bx H vs ds → RpAll bx H (v :: vs) (d :: ds)
end
mutual
theorem Rp.ext {bx : Addr} {H H' : Hp} (e : Ext bx H H') : ∀ {v : V} {d : PyData}, Rp bx H v d → Rp bx H' v d
  | _, _, .non => .non
  | _, _, .bl b => .bl b
  | _, _, .int i => .int i
  | _, _, .str x => .str x
  | _, _, .lst h n r => .lst (e _ _ n h) n (RpAll.ext e r)
  | _, _, .tup h n r => .tup (h.ext e n) n (RpAll.ext e r)
theorem RpAll.ext {bx : Addr} {H H' : Hp} (e : Ext bx H H') : ∀ {vs : List V} {ds : List PyData}, RpAll bx H vs ds → RpAll bx H' vs ds
  | _, _, .nil => .nil
  | _, _, .cons h r => .cons (Rp.ext e h) (RpAll.ext e r)
end
mutual
theorem Rp.dp {bx : Addr} {K : PySem.W.Frag} {H : Hp} : ∀ {v : V} {d : PyData}, Rp bx H v d → Dp K H v d
  | _, _, .non => .non
  | _, _, .bl b => .bl b
  | _, _, .int i => .int i
  | _, _, .str x => .str x
  | _, _, .lst h n r => .lst (.inl (.inl h)) (RpAll.dp r)
  | _, _, .tup h n r => .tup h.sq (RpAll.dp r)
theorem RpAll.dp {bx : Addr} {K : PySem.W.Frag} {H : Hp} : ∀ {vs : List V} {ds : List PyData}, RpAll bx H vs ds → DpAll K H vs ds
  | _, _, .nil => .nil
  | _, _, .cons h r => .cons (Rp.dp h) (RpAll.dp r)
end
theorem RpAll.length {bx : Addr} {H : Hp} : ∀ {vs : List V} {ds : List PyData}, RpAll bx H vs ds → vs.length = ds.length
  | _, _, .nil => rfl
  | _, _, .cons _ r => by rw [List.length_cons, List.length_cons, r.length]
theorem RpAll.get {bx : Addr} {H : Hp} : ∀ {vs : List V} {ds : List PyData} {i : Nat} {d : PyData}, RpAll bx H vs ds → ds[i]? = some d → ∃ v, vs[i]? = some v ∧ Rp bx H v d
  | _, _, _, _, .nil, e => by simp at e
  | _, _, 0, _, .cons r _, e => by simp at e; subst e; exact ⟨_, rfl, r⟩
  | _, _, i + 1, d, .cons _ t, e => by
    obtain ⟨u, h1, h2⟩ := RpAll.get (i := i) (d := d) t (by simpa using e)
    exact ⟨u, by simpa using h1, h2⟩
theorem RpAll.append {bx : Addr} {H : Hp} : ∀ {vs ws : List V} {ds es : List PyData}, RpAll bx H vs ds → RpAll bx H ws es → RpAll bx H (vs ++ ws) (ds ++ es)
  | _, _, _, _, .nil, s => s
  | _, _, _, _, .cons r t, s => .cons r (RpAll.append t s)
theorem RpAll.ints {bx : Addr} {H : Hp} : ∀ (ns : List Int), RpAll bx H (ns.map V.int) (ns.map PyData.int)
  | [] => .nil
  | n :: r => .cons (.int n) (RpAll.ints r)
theorem RpAll.ofInts {bx : Addr} {H : Hp} : ∀ {ns : List Int} {vs : List V}, RpAll bx H vs (ns.map PyData.int) → vs = ns.map V.int
  | [], _, .nil => rfl
  | n :: r, _, .cons (.int _) t => by rw [RpAll.ofInts t]; rfl
end Lh

namespace Lh
open PySem PySem.Spec PyProof.Rows L2

/-! ### defs that want to know that no repr is under way around them -/
structure FnG (P : Program) (w : World) (K : PySem.W.Frag) (mg : Str → Option Value) (base : Heap) (k : Nat) (f : Addr) (fd : FuncData) (ps : List Str) (sp : Sp) : Prop where
  len : ∀ vs H Q E, sp vs H Q E → vs.length = ps.length
  run : ∀ (B : Around) (out : List Env) (t : Shared) (H : Hp) (args : Args) (us : List Value) (vs : List V) (Q : VK) (E : XK), Room k B → B.guards = some [] →
    Env0 P w K mg base B out t H → BindsTo t fd args (ps.zip us) → Vals vs us → sp vs H Q E → codeAny (model P w) B (.call (.ref f) args) (CR CX0 out P w H t Q E) t
section
variable {P : Program} {w : World} {K : PySem.W.Frag} {mg : Str → Option Value} {base : Heap}
theorem okG {x qual : Str} {st : Stmt} {f : Addr} {fd : FuncData} {N ps : List Str} {k : Nat} {sp : Sp} (F : Fun K x qual st f fd) (S : FnScope N ps (defScope st)) (len : ∀ vs H Q E, sp vs H Q E → vs.length = ps.length)
    (body : ∀ (cd : Value) (B : Around) (out : List Env) (t : Shared) (H : Hp) (vs : List V) (Q : VK) (E : XK), Room k (B.deeper (envOfC qual (defScope st) t.heap.objs.size f cd)) →
      (B.deeper (envOfC qual (defScope st) t.heap.objs.size f cd)).guards = some [] → sp vs H Q E →
      ∃ r, PSs (cxOf CX0 P w K mg base N qual (defScope st) f cd B out t H E).nox (defBody st) r ∧ r { nx := fun _ H' => Q .non H', rt := Q } (start N vs) H) : FnG P w K mg base (k + 1) f fd ps sp := by
  obtain ⟨oc, od, kV, doc, pm, an, cd, ct, osl, rfl, lk, hcd⟩ := F.ex
  refine ⟨len, fun B out t H args us vs Q E hr hG e0 hb r hsp => ?_⟩
  have hl := len _ _ _ _ hsp
  have kx : K.In t.heap := e0.mod.kin.keeps fun b o e => (e0.bs b o e).1
  have li : t.heap.NoLimit := e0.mod.nolimit.keeps fun b o e => (e0.bs b o e).1
  have kind : ∀ y ∈ ps.zip us, (defScope st).names.lookup y.1 = some .local ∨ ((defScope st).names.lookup y.1 = some .cell ∧ ((cellsFrom (t.heap.objs.size + 1) (defScope st).names []).lookup y.1).isSome = true) := by
    rintro ⟨n, v⟩ hy
    rcases S.par n (List.of_mem_zip hy).1 with q | q
    · exact .inl q
    · exact .inr ⟨q, PySem.W.cellsFrom_some _ _ _ (.inl q)⟩
  refine codeAny_call_function hr.depth (kx _ _ lk) rfl S.co S.gen rfl (PySem.W.codeRec_of kx hcd) (hb _ _ _ _ ?_)
  refine wpAny_newFunctionEnv_cells S.kind kind fun env he t1 x => ?_
  subst he
  refine ⟨li.keeps x.toInCall.keep, codeAny_func ?_⟩
  obtain ⟨rd, h0, hq⟩ := body cd B out t H vs Q E (hr.deeper _) hG hsp
  have hrd := h0.nox
  have I : Inv (cxOf CX0 P w K mg base N qual (defScope st) f cd B out t H E) [] (start N vs) H t1 := inv_start S hr.hd e0 hl r x
  refine wpAny_mono (hrd.run [] t1 (start N vs) H _ I hq) (fun fl t' hs => ?_) fun e t' hs => hs
  have fin : ∀ {σ' : L2.St} {H' : Hp} {v : V} {u : Value}, Inv (cxOf CX0 P w K mg base N qual (defScope st) f cd B out t H E) [] σ' H' t' → RelV v u → Q v H' → CE out P w H t Q u t' := by
    intro σ' H' v u J rv q
    exact ⟨v, H', J.os, J.bare, J.base, J.hok, rv, q⟩
  cases fl with
  | ret u =>
    obtain ⟨v, σ', H', J, rv, q⟩ := hs
    exact fin J rv q
  | next =>
    obtain ⟨σ', H', J, q⟩ := hs
    exact fin (v := V.non) (u := Value.none) J rfl q
  | brk => obtain ⟨_, _, _, q⟩ := hs; exact False.elim q
  | cont => obtain ⟨_, _, _, q⟩ := hs; exact False.elim q
end
section
variable {X : Cx} {k n : Nat} {f : Addr} {fd : FuncData} {ps ks : List Str} {sp : Sp} {x : Str} {p pos : Pos} {e : Expr} {es : List Expr} {kws : List Keyword} {t tk : TA} {g : List Value → List Value → List Value} {gV : List V → List V → List V}
theorem pe_callG (F : FnG X.prog X.w X.K X.mg X.base k f fd ps sp) (hr : Room k X.A) (hG : X.A.guards = some []) (hg : Gl X x) (hm : X.mg x = some (.ref f)) (hk : PySem.W.keepIn X.K (.ref f) = true) (hb : Binds X.K fd ps [])
    (ha : PA X (e :: es) t) (hdb : (x == ("__debug__" : Str)) = false := by decide) (he : starEach (e :: es) X.env = (false, eval e X.env) :: starEach es X.env := by rfl) (hpl : (backTo pos (starEach es X.env)).any (·.1) = false := by rfl) :
    PE X (.Call (.Name x p) (e :: es) [] pos) (tCall sp [] E0 t) := by
  refine ⟨fun pins s σ H Q I h => ?_⟩
  refine wpAny_Call_Name_kw (ld_glob I hg hm ?_ hdb)
  refine PySem.W.callWith_K (h₀ := X.base) I.ok.mod.kin hk (thn (ha.run pos pins s σ H _ I h) fun us s1 ⟨vs, H1, I1, r, q⟩ => ⟨I1.kIn, ?_⟩) he hpl
  have r2 : Vals (vs ++ []) (us ++ []) := r.append .nil
  have hl : (us ++ []).length = ps.length := by rw [← r2.length]; exact F.len _ _ _ _ q
  refine wpAny_call (codeAny_mono (F.run X.A X.stack s1 H1 ⟨us, []⟩ (us ++ []) (vs ++ []) Q E0 hr hG I1.env0 (hb s1 us I1.kIn hl) r2 q) fun r s' hq => ?_)
  cases r with
  | error e => exact False.elim hq
  | ok fl =>
    cases fl with
    | ret u => exact I1.after hq
    | next => exact False.elim hq
    | brk => exact False.elim hq
    | cont => exact False.elim hq
/-- f(k = v, ..): keywords alone -/
theorem pe_callN0 (F : FnOk X.prog X.w X.K X.mg X.base CX0 k f fd ps sp) (hr : Room k X.A) (hg : Gl X x) (hm : X.mg x = some (.ref f)) (hk : PySem.W.keepIn X.K (.ref f) = true) (hb : KBn X.K fd ps 0 ks g gV)
    (hkw : PK X kws tk) (hall : (backToKw pos (keywordEach kws X.env)).all (·.1.isSome) = true := by rfl) (hks : (backToKw pos (keywordEach kws X.env)).filterMap (·.1) = ks := by rfl)
    (hdb : (x == ("__debug__" : Str)) = false := by decide)
    (hpl : ((backTo pos (starEach [] X.env)).any (·.1) || (backToKw pos (keywordEach kws X.env)).any (·.1.isNone)) = false := by rfl) :
    PE X (.Call (.Name x p) [] kws pos) (tCallN 0 ks.length sp gV E0 tNil tk) := by
  refine ⟨fun pins s σ H Q I h => ?_⟩
  refine wpAny_Call_Name_kw (ld_glob I hg hm ?_ hdb)
  refine PySem.W.callWith_KW0 (h₀ := X.base) I.ok.mod.kin hk hall ?_ hpl
  refine thn (hkw.run pos pins s σ H _ I h) fun ws s2 ⟨zs, H2, I2, rz, l1, l2, q2⟩ => ⟨I2.kIn, ?_⟩
  rw [hks]
  exact run_fnN (us := []) (vs := []) F hr hb pass0 I2 .nil rz rfl l2 q2
end
/-- values put in another order -/
def permV {α : Type} (js : List Nat) (xs : List α) : List α := js.filterMap fun j => xs[j]?
theorem permV_rel (js : List Nat) : ∀ {vs : List V} {us : List Value}, Vals vs us → Vals (permV js vs) (permV js us) := by
  intro vs us r
  induction js with
  | nil => exact .nil
  | cons j js ih =>
    unfold permV
    rw [List.filterMap_cons, List.filterMap_cons]
    cases e : vs[j]? with
    | none =>
      rw [r.none_of e]
      exact ih
    | some v =>
      obtain ⟨u, e1, e2⟩ := r.get e
      rw [e1]
      exact .cons e2 ih

/-! ### the law's call -/
theorem law_callG {P : Program} {w : World} {K : PySem.W.Frag} {mg mb : Str → Option Value} {k : Nat} {fa a : Addr} {fd : FuncData} {x : Str} {sp : Sp} {t : Shared} {vs : List Value} {ns : List Int}
    (kx : K.In t.heap) (hns : t.heap.Ns mainGlobals mg) (hb : t.heap.Ns builtinsNs mb) (hbb : ∀ x : Str, x ≠ "__name__" → mb x = bootBuiltins x) (li : t.heap.NoLimit) (hg : t.gens = #[])
    (ha : t.heap.get? a = some { cls := .type "list", data := .seq vs.toArray }) (hi : IntsAre vs ns) (hl : ns.length ≤ sizeLine) (hr : Room k callerA)
    (F : ∀ base : Heap, K.In base → base.Ns mainGlobals mg → FnG P w K mg base k fa fd [x] sp) (bd : ∀ (s : Shared) (u : Value), BindsTo s fd ⟨[u], []⟩ [(x, u)])
    (hsp : ∀ H : Hp, Only H → SqL K H a (ns.map V.int) → sp [.ref a] H (fun v _ => v = .bl true) fun _ _ _ => False) :
    codeAny (model P w) callerA (.call (.ref fa) ⟨[.ref a], []⟩) (fun r t' => r = .ok (.ret (.bool true)) ∧ OldK t.heap t'.heap ∧ t'.os = t.os ∧ AllBare t'.gens) t := by
  have rv := vals_ints hi
  have lenV := hi.length
  have core : ∀ H : Hp, Only H → SqL K H a (ns.map V.int) → HOk P w H t.heap → (∀ b, H b ≠ none → b = a) → (H a ≠ none → K.lookup a = none) →
      codeAny (model P w) callerA (.call (.ref fa) ⟨[.ref a], []⟩) (fun r t' => r = .ok (.ret (.bool true)) ∧ OldK t.heap t'.heap ∧ t'.os = t.os ∧ AllBare t'.gens) t := by
    intro H hO hS ok hA hK
    have bo : ∀ {b : Addr} {o : Obj}, t.heap.get? b = some o → H b = none → (hidT t.heap H).get? b = some o := fun e n => hidT_get e n
    have nd : ∀ {b : Addr} {o : Obj} {es : Array DictEntry} {ep : Nat}, t.heap.get? b = some o → o.data = .dict es ep → H b = none := by
      intro b o es ep e d
      cases q : H b with
      | none => rfl
      | some u =>
        have e' : b = a := hA b (by rw [q]; simp)
        subst e'
        rw [ha] at e; cases e
        have d2 : Data.seq vs.toArray _ = Data.dict es ep := d
        cases d2
    have nk : ∀ {b : Addr} {m : Str → Option Value}, t.heap.Ns b m → (hidT t.heap H).Ns b m := by
      rintro b m ⟨o, es, ep, e, d, r⟩
      exact ⟨o, es, ep, bo e (nd e d), d, r⟩
    have kb : K.In (hidT t.heap H) := by
      intro b o e
      refine bo (kx b o e) ?_
      cases q : H b with
      | none => rfl
      | some u =>
        have e' : b = a := hA b (by rw [q]; simp)
        subst e'
        rw [hK (by rw [q]; simp)] at e; cases e
    have hM : Mod K mg (hidT t.heap H) := by
      obtain ⟨mc, h1, h2⟩ := li
      exact ⟨kb, nk hns, ⟨mb, nk hb, hbb⟩, ⟨mc, nk h1, h2⟩⟩
    have e0 : Env0 P w K mg (hidT t.heap H) callerA [] t H := by
      refine ⟨rfl, hM, fun b o e => of_hidT e, Nat.le_of_eq (hidT_size _ _), trivial, ?_, ok, .of_eq hg⟩
      intro b hb
      exact absurd (show b ∈ ([] : List Addr) from hb) (by simp)
    refine codeAny_mono ((F _ kb (nk hns)).run callerA [] t H ⟨[.ref a], []⟩ [.ref a] [.ref a] _ _ hr rfl e0 (bd t (.ref a)) (.cons rfl .nil) (hsp H hO hS)) ?_
    intro r t' h
    cases r with
    | error e => exact False.elim h
    | ok fl =>
      cases fl with
      | next => exact False.elim h
      | brk => exact False.elim h
      | cont => exact False.elim h
      | ret u =>
        obtain ⟨v, H', os, bare, un, ok', r', q⟩ := h
        have q2 : v = .bl true := q
        subst q2
        obtain rfl : u = Value.bool true := r'
        refine ⟨rfl, OldK.of_keep fun b o e => ?_, os, bare⟩
        cases q : H b with
        | none =>
          refine un.keep b o e q ?_ (by simp)
          intro z
          exact absurd (show b ∈ ([] : List Addr) from z) (by simp)
        | some u =>
          rcases hO b with z | ⟨ob, xs, z⟩
          · rw [q] at z; cases z
          · have z2 := un.frzs b ob _ z
            obtain ⟨e1, _⟩ := ok b _ z
            obtain ⟨e2, _⟩ := ok' b _ z2
            rw [e] at e1; cases e1
            exact e2
  cases hk : K.lookup a with
  | some o =>
    have e := kx a o hk
    rw [ha] at e
    cases e
    refine core (fun _ => none) (fun _ => .inl rfl) (.inr ⟨_, vs.toArray, _, hk, rfl, rfl, rfl, by rw [List.size_toArray, lenV]; exact hl, by simpa using rv⟩) ?_ (fun b z => absurd rfl z) fun z => absurd rfl z
    intro b u z
    have z2 : (none : Option HO) = some u := z
    cases z2
  | none =>
    refine core (fun b => if b = a then some (.frz { cls := .type "list", data := .seq vs.toArray } (.lst (ns.map V.int))) else none) (fun b => ?_) (.inl (.inr ⟨_, if_pos rfl⟩)) (fun b u z => ?_) (fun b z => ?_) fun _ => hk
    · by_cases hb : b = a
      · exact .inr ⟨_, _, if_pos hb⟩
      · exact .inl (if_neg hb)
    · by_cases hb : b = a
      · have z2 := (if_pos hb).symm.trans z
        cases z2
        subst hb
        exact ⟨ha, by rw [List.length_map]; exact hl, vs, _, rv, ha⟩
      · have z2 := (if_neg hb).symm.trans z
        cases z2
    · by_cases hb : b = a
      · exact hb
      · exact absurd (if_neg hb) z
theorem walk_G {l : PySem.W.OpenLaw} {n k : Nat} {q : Program} {loose : List Str} {XP : (Str → Option Value) → Heap → Prop} {YP : World → Heap → Prop} {d : DefRec} {K : Params → PySem.W.Frag} {sp : World → Sp} {x : Str}
    (hn : l.most = some n) (hn2 : n ≤ sizeLine) (hdf : d.params.defaults = []) (hr : Room k callerA)
    (hY : ∀ (w : World) (h : Heap), YP w h → (K w.params).In h)
    (F : ∀ (w : World) (mg : Str → Option Value) (fa : Addr) (h : Heap), (K w.params).In h → h.Ns mainGlobals mg → mg d.name = some (.ref fa) →
      ∃ fd : FuncData, (∀ (s : Shared) (u : Value), BindsTo s fd ⟨[u], []⟩ [(x, u)]) ∧
        ∀ base : Heap, (K w.params).In base → base.Ns mainGlobals mg → FnG l.prog w (K w.params) mg base k fa fd [x] (sp w))
    (hsp : ∀ (w : World) (H : Hp) (a : Addr) (ns : List Int), ns.length ≤ n → Only H → SqL (K w.params) H a (ns.map V.int) → sp w [.ref a] H (fun v _ => v = .bl true) fun _ _ _ => False) :
    PySem.W.WalkO q loose XP YP l.row.toRowW d [] (fun f vs => PySem.call f vs) := by
  refine Att.attach_call hn hdf ?_
  intro w s₀ t mg mb fa o pm cd doc a vs ns G Y ho hd hcd hmg hobj hints hlen hg
  obtain ⟨fd, hb, hF⟩ := F w mg fa _ (hY w _ Y) G.T.g hmg
  exact law_callG (hY w _ Y) G.T.g G.T.b G.T.builtins G.T.nolimit hg hobj hints (Nat.le_trans hlen hn2) hr hF hb (fun H hO hS => hsp w H a ns hlen hO hS)
end Lh

namespace Lh
open PySem PySem.Spec PyProof.Rows L2
/-! ### set(numbers), numbers a list -/
/-- a set as it is first laid -/
abbrev bareSet (w : World) : Obj := { cls := .type "set", dict := none, data := .set #[] 0 (.fresh 0 0 (!w.params.followText "set-order")) }
/-- the set at the heap's end holds just ns, all else is kept -/
def Filled (w : World) (s t : Shared) (ns : List Int) : Prop := ∃ (g : Heap) (tk c : Nat), t = { s with heap := g, toks := tk } ∧ SetR w g s.heap.objs.size (fun j => decide (j ∈ ns)) c ∧ c ≤ ns.length ∧ ∀ b o, s.heap.get? b = some o → g.get? b = some o
theorem ints_at : ∀ {us : List Value} {ns : List Int}, IntsAre us ns → us.length = ns.length ∧ ∀ (i : Nat) (v : Value), us[i]? = some v → ∃ k t, ns[i]? = some k ∧ v = .int k t
  | _, _, .nil => ⟨rfl, fun i v e => absurd e (by simp)⟩
  | _, _, .cons n t r => by
    obtain ⟨h1, h2⟩ := ints_at r
    refine ⟨congrArg (· + 1) h1, fun i v e => ?_⟩
    cases i with
    | zero => exact ⟨n, t, rfl, (Option.some.inj e).symm⟩
    | succ i => exact h2 i v e
section
variable {P : Program} {w : World} {A : Around} {E : Value → Shared → Prop} {s : Shared} {l : Addr} {items : Array Value} {ns : List Int}
set_option maxHeartbeats 3200000 in
theorem set_init (hh : A.handled = none) (hl : s.heap.IsList l items) (hi : IntsAre items.toList ns) (hb : ns.length + 1 < scanBound) :
    codeAny (model P w) A (.call (.builtin "set.__init__") ⟨[.ref s.heap.objs.size, .ref l], []⟩) (wants (fun r t => r = .none ∧ Filled w s t ns) E) { s with heap := s.heap.push (bareSet w) } := by
  obtain ⟨hsz, hat⟩ := ints_at hi
  rw [Array.length_toList] at hsz
  have top : (s.heap.push (bareSet w)).get? s.heap.objs.size = some (bareSet w) := Heap.get?_push_size _ rfl
  refine codeAny_call_builtin F.called_set.init.plain F.entry_set_init (check_set_init_1 ⟨_, top, rfl⟩ ?_)
  have hl0 := hl
  obtain ⟨⟨k, dc, da, sl⟩, ho, ek, n, ed⟩ := hl
  dsimp only at ek ed
  subst ek ed
  have lt := Heap.lt_size ho
  have ho2 : (s.heap.push (bareSet w)).get? l = _ := Heap.get?_push_of_some _ ho
  have f1 := F.sub_list_set
  have f2 := F.sub_list_frozenset
  have f3 : (Value.type "list" == Value.type "dict") = false := by decide
  unfold Builtin.«set.__init__»
  unfold noKeywords
  unfold Builtin.Frozenset.updateFrom
  generalize ei : pyIter = it
  wp_walk
  subst ei
  have sz : (s.heap.push (bareSet w)).objs.size = s.heap.objs.size + 1 := Heap.size_push ..
  refine wpAny_pyIter_list (hl0.push _) (wpAny_bind (wpAny_runValue ?_))
  have wk := fun (B : Around) (hB : B.handled = none) => (Walks.list (prog := P) (w := w) (A := B) hB (s.heap.push (bareSet w)).objs.size l (by rw [sz]; exact Nat.ne_of_lt (Nat.lt_succ_of_lt lt)) items).toS
  refine set_update_ints (wk _ (by simp [hh])) s.heap.objs.size (by rw [sz]; exact fun z => (List.mem_cons.mp z).elim (Nat.ne_of_lt (Nat.lt_succ_self _)) fun z => Nat.ne_of_gt lt (List.mem_singleton.mp z)) ns hsz hb (fun i v e => hat i v (by rw [Array.getElem?_toList]; exact e)) items.size 0 _ (by omega) (Nat.zero_le _) ⟨⟨_, Heap.get?_push_size _ rfl, rfl, rfl⟩, (hl0.push _).push _⟩ ⟨0, Nat.le_refl 0, setR_new_at (Heap.get?_push_of_some _ top)⟩ ?_
  rintro ⟨g, g2, d2, tk, o2⟩ c mv hc R
  cases (show g2 = s.gens from mv.gens)
  cases (show d2 = s.drawn from mv.drawn)
  cases (show o2 = s.os from mv.os)
  refine wpAny_pure (show wpAny _ _ (ret Value.none) _ _ _ from wpAny_pure ⟨rfl, g, tk, c, rfl, R, by omega, fun b o e => ?_⟩)
  have lb := Heap.lt_size e
  exact mv.heap b o (by rw [sz]; exact fun z => (List.mem_cons.mp z).elim (Nat.ne_of_lt lb) fun z => Nat.ne_of_lt (Nat.lt_succ_of_lt lb) (List.mem_singleton.mp z)) (Heap.get?_push_of_some _ (Heap.get?_push_of_some _ e))
set_option maxHeartbeats 3200000 in
theorem set_of_list (ns : List Int) {Q : Value → Shared → Prop} (hh : A.handled = none) (hl : s.heap.IsList l items) (hi : IntsAre items.toList ns) (hb : ns.length + 1 < scanBound) (q : ∀ t, Filled w s t ns → Q (.ref s.heap.objs.size) t) :
    wpAny (model P w) A (call (.type "set") [.ref l]) Q E s := by
  have c1 := F.called_set.made
  have c2 := F.called_set.sub
  have c3 := F.called_set.notType
  have c4 := F.called_set.canCreate
  have c5 := F.typeCall_set_1 (.ref l)
  have c6 := F.called_set.init.lookup
  have c7 := F.called_set.init.bind (.ref s.heap.objs.size)
  obtain ⟨m1, m2, c8⟩ := F.called_set.mro
  refine wpAny_call (codeAny_of_tree (show wpAny _ _ (callAny (.type "set") _) _ _ _ from wpAny_pure ⟨Code.quiet_builtin _ (by decide +kernel), codeAny_builtin F.entry_type_call ?_⟩))
  rw [Around.under_plain (weight_type_call_type "set" [.ref l] []) rfl]
  repeat any_goals first | assumption | wp_step
  refine codeAny_mono (code_set_led1 (.ref l) (E := E) (Q₁ := fun x t => x = .ref s.heap.objs.size ∧ t = { s with heap := s.heap.push (bareSet w) }) ⟨rfl, rfl⟩) ?_
  rintro (e | fl) t ht
  · exact ht
  cases fl with
  | next => exact ht.elim
  | brk => exact ht.elim
  | cont => exact ht.elim
  | ret x =>
    obtain ⟨rfl, rfl⟩ := ht
    have ty : Shared.TypeIs { s with heap := s.heap.push (bareSet w) } (.ref s.heap.objs.size) "set" := ⟨_, Heap.get?_push_size _ rfl, rfl⟩
    repeat any_goals first | assumption | wp_step
    refine codeAny_mono (set_init (E := E) (by simp [hh]) hl hi hb) ?_
    rintro (e | fl) t2 ht2
    · exact ht2
    cases fl with
    | next => exact ht2.elim
    | brk => exact ht2.elim
    | cont => exact ht2.elim
    | ret y =>
      obtain ⟨rfl, f⟩ := ht2
      repeat any_goals first | assumption | wp_step
      exact q _ f
end
end Lh

namespace Lh
open PySem PySem.Spec PyProof.Rows L2
section
variable {X : Cx}
/-- repr of data -/
def rRepr (K : PySem.W.Frag) : List V → Hp → VK → Prop := fun xs H Q => ∃ (a : Addr) (d : PyData), xs = [.ref a] ∧ Dp K H (.ref a) d ∧ d.showable = true ∧ d.hasDict = false ∧ d.depth ≤ 60 ∧ d.shown.length ≤ sizeLine ∧ Q (.str d.shown) H
theorem call_reprD (hG : X.A.guards = some []) (hu : X.A.units + 64 < cLine) : CallR X (.builtin "repr") (rRepr X.K) := by
  intro pins s σ H xs us Q I r h
  obtain ⟨a, d, rfl, hd, h1, h2, h3, h4, q⟩ := h
  have e := Vals.ref1 r
  subst e
  obtain ⟨as, rd⟩ := Dp.reads I d (.ref a) (.ref a) hd rfl
  exact repr_of_reads' rd h1 (fun z => by rw [h2] at z; cases z) hG (by omega) (fun b o e => e) (fun h' u tk hk => ⟨.str d.shown, H, I.kept hk, ⟨u, rfl⟩, q⟩) h4
/-- max(numbers, default=d) of a list of ints -/
def rMaxD (K : PySem.W.Frag) : List V → List V → Hp → VK → Prop := fun xs zs H Q => ∃ (a : Addr) (ns : List Int) (d : Int), xs = [.ref a] ∧ zs = [.int d] ∧ SqL K H a (ns.map V.int) ∧
  ∀ m, (ns = [] → m = d) → (ns ≠ [] → m ∈ ns ∧ ∀ y ∈ ns, y ≤ m) → Q (.int m) H
theorem foldl_max (ns : List Int) : ∀ n : Int, (ns.foldl max n = n ∨ ns.foldl max n ∈ ns) ∧ n ≤ ns.foldl max n ∧ ∀ y ∈ ns, y ≤ ns.foldl max n := by
  induction ns with
  | nil => intro n; exact ⟨.inl rfl, Int.le_refl _, fun y h => absurd h (by simp)⟩
  | cons m r ih =>
    intro n
    obtain ⟨h1, h2, h3⟩ := ih (max n m)
    rw [List.foldl_cons]
    refine ⟨?_, by omega, fun y hy => ?_⟩
    · rcases h1 with h1 | h1
      · by_cases c : n ≤ m
        · right; rw [h1]; rw [Int.max_eq_right c]; exact List.mem_cons_self
        · left; rw [h1]; omega
      · right; exact List.mem_cons_of_mem _ h1
    · rcases List.mem_cons.mp hy with rfl | hy
      · omega
      · exact h3 y hy
theorem cr_maxD (hc : X.calm = true) (hu : X.A.units + 64 < cLine) : CallRK X (.builtin "max") [Str.ofString "default"] (rMaxD X.K) := by
  intro pins s σ H xs zs us ws Q I r rz h
  obtain ⟨a, ns, d, rfl, rfl, hs, q⟩ := h
  obtain ⟨its, rv, hl, _⟩ := I.list hs
  rw [Vals.ref1 r]
  cases rz with
  | cons rd rt =>
    cases rt
    obtain ⟨td, rfl⟩ := rd
    obtain ⟨as, ra⟩ := Dp.readsAll I (ns.map PyData.int) _ its (RpAll.dp (bx := 0) (RpAll.ints ns)) rv
    have dpt : ∀ l : List Int, PyData.depthAll (l.map PyData.int) = 0 := fun l => by
      induction l with
      | nil => rfl
      | cons x r ih => rw [List.map_cons]; show max 0 (PyData.depthAll (r.map PyData.int)) = 0; rw [ih]; rfl
    refine PySem.W.max_list_default (I.ok.hd hc) hl.isList (vs := its.toArray) (xs := ns.map PyData.int) (by simpa using ra) ⟨fun x hx y hy => ?_, fun x hx => ?_⟩ (by rw [dpt]; omega) (fun e h' tk hk => ?_) (fun y ys i v h' tk bs e hv rd hk => ?_)
    · obtain ⟨i, _, rfl⟩ := List.mem_map.mp hx
      obtain ⟨j, _, rfl⟩ := List.mem_map.mp hy
      rfl
    · obtain ⟨i, _, rfl⟩ := List.mem_map.mp hx
      intro z; cases z
    · have e0 : ns = [] := List.map_eq_nil_iff.mp e
      exact ⟨.int d, H, I.kept hk, ⟨_, rfl⟩, q d (fun _ => rfl) (fun z => absurd e0 z)⟩
    · cases ns with
      | nil => cases e
      | cons n r =>
        rw [List.map_cons] at e
        cases e
        rw [PySem.W.maxD_ints] at rd
        cases rd
        obtain ⟨h1, h2, h3⟩ := foldl_max r n
        refine ⟨.int (r.foldl max n), H, I.kept hk, ⟨_, rfl⟩, q _ (fun z => by cases z) (fun _ => ⟨?_, fun y hy => ?_⟩)⟩
        · rcases h1 with h1 | h1
          · rw [h1]; exact List.mem_cons_self
          · exact List.mem_cons_of_mem _ h1
        · rcases List.mem_cons.mp hy with rfl | hy
          · exact h2
          · exact h3 y hy
/-- set(numbers) of a list of ints -/
def rSetL (K : PySem.W.Frag) (w : World) : List V → Hp → VK → Prop := fun xs H Q => ∃ (a : Addr) (ns : List Int), xs = [.ref a] ∧ SqL K H a (ns.map V.int) ∧ ns.length ≤ 1000 ∧
  ∀ (p : Addr) (c : Nat) (ks : List Int), H p = none → ks.Nodup → ks.length = c → c ≤ ns.length → (∀ k, k ∈ ks ↔ k ∈ ns) → Q (.ref p) (upd H p (SetO w p (fun j => decide (j ∈ ns)) c))
theorem cr_setL (hc : X.calm = true) : CallR X (.type "set") (rSetL X.K X.w) := by
  intro pins s σ H xs us Q I r h
  obtain ⟨a, ns, rfl, hs, hl, q⟩ := h
  obtain ⟨its, rv, pl, _⟩ := I.list hs
  rw [Vals.ref1 r]
  refine set_of_list ns (I.ok.hd hc) pl.isList (by simpa using RZ.intsAre_vals rv) (by unfold scanBound; omega) ?_
  rintro t ⟨h', tk, c, rfl, R, hle, hk⟩
  have R' := R
  obtain ⟨o, es, ep, t, ho, _, _, _, nd, hm, _, _, hn, _⟩ := R'
  refine ⟨.ref s.heap.objs.size, upd H s.heap.objs.size (SetO X.w s.heap.objs.size (fun j => decide (j ∈ ns)) c), I.laid (t' := tk) hk (Nat.le_refl _) (setO_new R), rfl, ?_⟩
  refine q _ c (es.toList.map keyOf) (I.hok.fresh (Nat.le_refl _)) nd (by rw [List.length_map, Array.length_toList]; exact hn) hle fun k => ?_
  rw [← hm k]
  exact decide_eq_true_iff
/-- len of such a set -/
def rLenSet (w : World) : List V → Hp → VK → Prop := fun xs H Q => ∃ (a : Addr) (S : Int → Bool) (c : Nat), xs = [.ref a] ∧ H a = some (SetO w a S c) ∧ c ≤ 1000 ∧ Q (.int (c : Int)) H
theorem cr_lenSet : CallR X (.builtin "len") (rLenSet X.w) := by
  intro pins s σ H xs us Q I r h
  obtain ⟨a, S, c, rfl, ha, hl, q⟩ := h
  rw [Vals.ref1 r]
  obtain ⟨o, es, ep, t, ho, hx, hd, _, _, _, _, hf, hn, _⟩ := setO_get I ha
  refine call_len_set ho hx hd hf (by rw [hn]; omega) ⟨.int (c : Int), H, I.tok _, ⟨_, by rw [hn]⟩, q⟩
/-- tuple(numbers) of a list: a new tuple, whose object bears no names -/
theorem call_tupleF : CallR X (.type "tuple") (fun xs H Q => ∃ p ys, xs = [.ref p] ∧ SqL X.K H p ys ∧ ∀ l (o : Obj), H l = none → o.dict = none → Q (.ref l) (upd H l (.frz o (.tup ys)))) := by
  intro pins s σ H xs us Q I r h
  obtain ⟨p, ys, rfl, hq, q⟩ := h
  rw [Vals.ref1 r]
  obtain ⟨its, rv, pl, hz⟩ := I.list hq
  have hlen := rv.length
  refine call_tuple_list pl.isList (fun h' kp => ?_) (by simp only [List.size_toArray]; omega)
  have J : Inv X pins σ H { s with heap := h' } := I.kept (t' := s.toks) kp
  have J2 := J.laid (t' := s.toks) (o := .frz { cls := .type "tuple", data := .seq its.toArray } (.tup ys)) (h' := h'.push { cls := .type "tuple", data := .seq its.toArray })
    (fun b o e => Heap.get?_push_of_some _ e) (Nat.le_refl _) ⟨Heap.get?_push_size _ rfl, hz, its, rv, IsTup.new _ _⟩
  exact ⟨.ref h'.objs.size, _, J2, rfl, q _ _ (J.hok.fresh (Nat.le_refl _)) rfl⟩
/-- dict(pairs) of such a tuple of pairs -/
theorem call_dictT (hc : X.calm = true) : CallR X (.type "dict") (fun xs H Q => ∃ (a : Addr) (o : Obj) (ps : List Addr) (kvs : List (Key × V)), xs = [.ref a] ∧ o.dict = none ∧ H a = some (.frz o (.tup (ps.map V.ref))) ∧ Paired (fun p kv => SqT X.K H p [kV kv.1, kv.2]) ps kvs ∧
    ∀ p, H p = none → Q (.ref p) (upd H p (.dK (mergeK [] kvs)))) := by
  intro pins s σ H xs us Q I r h
  obtain ⟨a, o, ps, kvs, rfl, hod, ha, hp, q⟩ := h
  rw [Vals.ref1 r]
  obtain ⟨hget, hz, its, rv, o', ho', hcls, n, hdat⟩ := I.hok a _ ha
  rw [hget] at ho'
  cases ho'
  have ei := refs_at rv
  subst ei
  rw [List.length_map] at hz
  obtain ⟨prs, rel, hl, hpr⟩ := pairs_of I hp
  have ch : ∀ j : Fin prs.length, ∃ u b, ps[j.val]? = some b ∧ IsTup s.heap b #[u, prs[j].2] ∧ keyIs prs[j].1 u = true := fun j => by
    obtain ⟨b, u, e1, e2, e3⟩ := hpr j.val prs[j] (List.getElem?_eq_getElem j.isLt)
    exact ⟨u, b, e1, e2, e3⟩
  let us : Fin prs.length → Value := fun j => Classical.choose (ch j)
  have hus : ∀ j, ∃ b, ps[j.val]? = some b ∧ IsTup s.heap b #[us j, prs[j].2] ∧ keyIs prs[j].1 (us j) = true := fun j => Classical.choose_spec (ch j)
  let qs : List (Value × Value) := List.ofFn fun j : Fin prs.length => (us j, prs[j].2)
  have qlen : qs.length = prs.length := List.length_ofFn
  have qat : ∀ i k v, qs[i]? = some (k, v) → ∃ h : i < prs.length, k = us ⟨i, h⟩ ∧ v = prs[i].2 := fun i k v e => by
    have hi : i < prs.length := by
      have := (List.getElem?_eq_some_iff.mp e).1
      rw [qlen] at this
      exact this
    refine ⟨hi, ?_⟩
    rw [List.getElem?_ofFn, dif_pos hi] at e
    cases e
    exact ⟨rfl, rfl⟩
  refine PySem.call_dict_pairs (knd := mixKind X.prog X.w) (kvs := prs) (PairArg.tuple (prog := X.prog) (w := X.w) a (ps.map Value.ref).toArray (fun j => ps.getD j 0) qs) (I.ok.hd hc) ⟨⟨o, n, hget, hcls, hod, hdat⟩, ?_, fun j k v e => ?_⟩ ⟨qlen.symm, fun i k v e => ?_⟩ (by rw [qlen, hl]; exact hz) (fun h' tk hd' hk => ?_)
  · rw [qlen, hl]; simp
  · obtain ⟨hj, rfl, rfl⟩ := qat j k v e
    obtain ⟨b, e1, e2, _⟩ := hus ⟨j, hj⟩
    have eb : ps.getD j 0 = b := by rw [List.getD_eq_getElem?_getD, e1]; rfl
    dsimp only
    rw [eb]
    refine ⟨?_, .inl e2⟩
    simp only [List.getElem?_toArray, List.getElem?_map]
    rw [e1]; rfl
  · obtain ⟨hj, rfl, rfl⟩ := qat i k v e
    obtain ⟨b, e1, e2, e3⟩ := hus ⟨i, hj⟩
    exact ⟨prs[i].1, List.getElem?_eq_getElem hj, e3⟩
  · have hm : (s.heap.objs.size == sysModules) = false := beq_eq_false_iff_ne.mpr (Nat.ne_of_gt I.big)
    have hlen : (mergeK [] kvs).length ≤ sizeLine := by
      refine Nat.le_trans (length_mergeK kvs []) ?_
      rw [List.length_nil, Nat.zero_add, rel.length, hl]
      exact hz
    exact ⟨.ref s.heap.objs.size, upd H s.heap.objs.size (.dK (mergeK [] kvs)), I.laid (t' := tk) (fun b o e => hk b o (by simp) e) (Nat.le_refl _) (show ObjOk X.prog X.w _ _ _ (.dK (mergeK [] kvs)) from ⟨hlen, hm, merged [] prs, KV.merge rel .nil, hd'⟩), rfl, q _ (I.hok.fresh (Nat.le_refl _))⟩
end
end Lh

namespace Lh
open PySem PySem.Spec PyProof.Rows L2
/-! ### an exception that a suite keeps under another name -/
/-- at a: an exception that was caught, of that class, its fields at d -/
def exK (a : Addr) (cls : Value) (d : Option Addr) : HO := .ext fun h => ∃ (oe : Obj) (vs : Array Value), h.get? a = some oe ∧ Zc cls d oe ∧ oe.data = .fields vs
theorem exK_at {P : Program} {w : World} {H : Hp} {h : Heap} {a : Addr} {cls : Value} {d : Option Addr} (hok : HOk P w H h) (e : H a = some (exK a cls d)) :
    ∃ (oe : Obj) (vs : Array Value), h.get? a = some oe ∧ Zc cls d oe ∧ oe.data = .fields vs := by
  have x : ObjOk P w H h a (.ext fun h => ∃ (oe : Obj) (vs : Array Value), h.get? a = some oe ∧ Zc cls d oe ∧ oe.data = .fields vs) := hok a _ e
  exact x.1
theorem Inv_track {X : Cx} {pins : List (Addr × Obj)} {σ : L2.St} {H : Hp} {s : Shared} {a : Addr} {oe : Obj} {vs : Array Value} {cls : Value} {d : Option Addr} (I : Inv X pins σ H s) (ha : s.heap.get? a = some oe)
    (hz : Zc cls d oe) (hd : oe.data = .fields vs) (na : H a = none) (n0 : X.s_0.heap.get? a = none) (hp : ∀ p ∈ X.pn ++ pins, p.1 ≠ a) : Inv X pins σ (upd H a (exK a cls d)) s := by
  have nL : a ≠ X.env.locals := by
    intro z
    obtain ⟨m, ⟨o, es, ep, ho, hdd, _⟩, _⟩ := I.loc
    rw [← z, ha] at ho
    cases ho
    rw [hd] at hdd
    cases hdd
  have nC : ∀ x c, X.env.cells.lookup x = some c → c ≠ a := by
    intro x c e z
    obtain ⟨v, o, ho, hc⟩ := I.cell x c e
    rw [z, ha] at ho
    cases ho
    rw [hd] at hc
    cases hc
  have ne0 : ∀ b o, X.s_0.heap.get? b = some o → b ≠ a := fun b o e z => by
    rw [z, n0] at e
    cases e
  have neS : ∀ {b : Addr} {u : HO}, H b = some u → b ≠ a := fun e => ne_of_none e na
  refine ⟨I.ok, I.os, I.bare, ⟨I.base.keep, I.base.slot, fun b o e n hx => by rw [upd_ne (ne0 b o e)]; exact I.base.free b o e n hx, I.base.there, fun b xs e => ?_, fun b o u e => ?_, fun b ps e => ?_⟩, I.loc, I.cell,
    by rw [upd_ne nL.symm]; exact I.free, fun x c e => by rw [upd_ne (nC x c e)]; exact I.freeC x c e, fun p h => ?_, fun b u e => ?_, I.len⟩
  · exact (upd_ne (neS (I.base.tups b xs e))).trans (I.base.tups b xs e)
  · exact (upd_ne (neS (I.base.frzs b o u e))).trans (I.base.frzs b o u e)
  · exact let ⟨m, q⟩ := I.base.tbls b ps e; ⟨m, (upd_ne (neS q)).trans q⟩
  · obtain ⟨e, n, r⟩ := I.pin p h
    exact ⟨e, by rw [upd_ne (hp p h)]; exact n, r⟩
  · by_cases hb : b = a
    · subst hb
      rw [upd_same] at e
      cases e
      exact ⟨⟨oe, vs, ha, hz, hd⟩, ⟨oe, ha⟩, fun h1 h2 ⟨o, v, q, r⟩ k => ⟨o, v, k o q, r⟩⟩
    · rw [upd_ne hb] at e
      exact (I.hok b u e).stay (fun c v hc q => q) (fun c q => by rw [upd_ne (neS q)]; exact q) fun c xs q => by rw [upd_ne (neS q)]; exact q
theorem fly_keeps {base h h' : Heap} {l : List Env} {e : Addr} {Z : Obj → Prop} (k : ∀ b o, h.get? b = some o → h'.get? b = some o) (f : HandSPX.FlyingZ base l e Z h) : HandSPX.FlyingZ base l e Z h' := by
  obtain ⟨f1, f2, f3, oe, vs, T, oT, ts, he, hz, hd, h1, hn, hT, hoT, hdT, h3⟩ := f
  exact ⟨fun b o q => k b o (f1 b o q), f2, f3.of_keeps (fun b o q _ => ⟨o, k b o q, rfl⟩), oe, vs, T, oT, ts, k _ _ he, hz, hd, h1, hn, hT, k _ _ hoT, hdT, h3⟩
/-- what 'except (x, y) as n: suite' wishes of an exception that is of one of both; behind it the exception is kept -/
def wKeep (K : PySem.W.Frag) (c1 c2 : Value) (i : Nat) (ts : Addr → Value → Option Addr → TS) (D : Ends) : WX := fun cls d σ H =>
  PySem.W.exmAny K cls [c1, c2] = some true ∧ ∀ a, H a = none → ts a cls d { nx := fun σ' H' => D.nx (σ'.set i none) (upd H' a (exK a cls d)), rt := fun _ _ => False, bk := fun _ _ => False, ct := fun _ _ => False } (σ.set i (some (.ref a))) H
section
variable {X : Cx} {pins : List (Addr × Obj)} {σ : L2.St} {H : Hp} {sI : Shared} {B h3 : Heap} {a : Addr} {Z : Obj → Prop}
/-- where an exception that landed stands: on no frame, on no pin, and it is new to the def -/
structure Apart (X : Cx) (pins : List (Addr × Obj)) (a : Addr) : Prop where
  loc : a ≠ X.env.locals
  fs : a ∉ X.fs
  new : X.s_0.heap.get? a = none
  pin : ∀ p ∈ X.pn ++ pins, p.1 ≠ a
theorem Apart.of (hst : X.stack = X.env :: X.outer) (hfm : X.env.frame = some X.env.locals) (hex : X.ex = []) (J : Inv X pins σ H sI) (ground : ∀ b o, sI.heap.get? b = some o → b ∉ frs X.stack → B.get? b = some o)
    (fl : HandSPX.FlyingZ B (X.env :: X.outer) a Z h3) : Apart X pins a := by
  obtain ⟨oa, va, ga, _, da⟩ := fl.there
  have off : a ∉ frs (X.env :: X.outer) := by
    intro hm
    obtain ⟨_, u, gu, hu⟩ := fl.2.2.1.mem hm
    cases ga.symm.trans gu
    exact hu _ da
  have other : ∀ {b o}, sI.heap.get? b = some o → b ∉ frs X.stack → b ≠ a := by
    intro b o gb nb z
    cases (ground b o gb nb).symm.trans (z ▸ fl.2.1)
  constructor
  · exact fun z => off (List.mem_filterMap.mpr ⟨X.env, .head _, hfm.trans (congrArg some z.symm)⟩)
  · exact fun z => let ⟨v, hv, q⟩ := List.mem_filterMap.mp z; off (List.mem_filterMap.mpr ⟨v, .tail _ hv, q⟩)
  · match g0 : X.s_0.heap.get? a with
    | none => rfl
    | some o =>
      obtain ⟨u, gu⟩ := J.base.there a o g0 (by simp [hex])
      exact absurd rfl (other gu (hst ▸ off))
  · intro p hp
    obtain ⟨gp, _, n1, n2, _⟩ := J.pin p hp
    exact other gp fun z => (List.mem_cons.mp (J.stkSub _ z)).elim n1 n2
variable {x y n : Str} {c1 c2 : Value} {i : Nat} {body suite : List Stmt} {b₀ : Stmt} {p1 p2 pt pos pos' : Pos} {tb : WX → TS} {ts : Addr → Value → Option Addr → TS}
/-- a class by its name, read while an exception is handled -/
theorem named {s : Shared} {oa : Obj} {va : Array Value} (J : Inv X pins σ H s) (ga : s.heap.get? a = some oa) (da : oa.data = .fields va) (na : H a = none) (ap : Apart X pins a) {z : Str} {c : Value} {np : Pos} (hz : Names X z c)
    {Q E : Value → Shared → Prop} (q : Q c s) : wpAny (model X.prog X.w) (X.A.mark (some (.ref a))) (eval (.Name z np) X.env) Q E s := by
  have S := J.suite ga da na ap.loc ap.fs
  rcases hz with ⟨g1, g2, g3 | ⟨g3, g4, g5⟩⟩
  · exact ld_glob (X := X.suite a ((a, oa) :: (X.pn ++ pins))) S g1 g3 q g2
  · exact ld_blt (X := X.suite a ((a, oa) :: (X.pn ++ pins))) S g1 g3 g4 q g5 g2
/-- behind the suite the exception is tracked -/
theorem kept_on (ok : X.Ok) (hN : X.N.Nodup) (hi : X.N[i]? = some n) (hln : X.env.kindOf n = some .local) (ap : Apart X pins a) {oa : Obj} {va : Array Value} {cls : Value} {d : Option Addr} (hz : Zc cls d oa) (da : oa.data = .fields va)
    {σ6 : L2.St} {H6 : Hp} {s6 : Shared} (S : Inv (X.suite a ((a, oa) :: (X.pn ++ pins))) [] σ6 H6 s6) {Q : Shared → Prop} {E : Value → Shared → Prop} (q : ∀ s7, Inv X pins (σ6.set i none) (upd H6 a (exK a cls d)) s7 → Q s7) :
    wpAny (model X.prog X.w) X.A (do bindName X.env n .none; unbindBehindTheSuite X.env n pos') (fun _ s7 => Q s7) E s6 := by
  have pin' : ∀ p ∈ X.pn ++ ((a, oa) :: pins), p ∈ ((a, oa) :: (X.pn ++ pins)) ++ [] := fun p hp => by
    simp only [List.mem_append, List.mem_cons, List.append_nil] at hp ⊢
    rcases hp with z | z | z
    · exact .inr (.inl z)
    · exact .inl z
    · exact .inr (.inr z)
  have J : Inv X ((a, oa) :: pins) σ6 H6 s6 := ⟨ok, S.os, S.bare, S.base, S.loc, S.cell, S.free, S.freeC, fun p hp => S.pin p (pin' p hp), S.hok, S.len⟩
  refine gone_ok J hN hi hln fun s7 J7 => ?_
  have here := J7.pin (a, oa) (by simp)
  exact q s7 (Inv_track (J7.pins_of fun p hp => J7.pin p (by simp [hp])) here.1 hz da here.2.1 ap.new ap.pin)
set_option maxHeartbeats 2000000 in
theorem ps_try_keep (hst : X.stack = X.env :: X.outer) (hfm : X.env.frame = some X.env.locals) (hex : X.ex = []) (hN : X.N.Nodup) (hi : X.N[i]? = some n) (hln : X.env.kindOf n = some .local) (hc1 : Names X x c1) (hc2 : Names X y c2)
    (hbody : ∀ (W : WX) (pn : List (Addr × Obj)) (xe : Value → Shared → Prop), Takes (X.tr pn xe) W → PassesOwn (model X.prog X.w) X.A X.env xe → PSs (X.tr pn xe) body (tb W))
    (hsuite : ∀ (a : Addr) (oa : Obj) (cls : Value) (d : Option Addr) (pn : List (Addr × Obj)), Zc cls d oa → (∃ va, oa.data = .fields va) → PSs (X.suite a ((a, oa) :: pn)) (b₀ :: suite) (ts a cls d)) {cx : Nat} :
    PS X (.Try body [.ExceptHandler (some (.Tuple [.Name x p1, .Name y p2] cx pt)) (some n) (b₀ :: suite) pos'] [] [] pos) (fun D σ H => tb (wKeep X.K c1 c2 i ts D) D σ H) := by
  constructor
  intro pins s σ H D I want
  have ok := I.ok
  have frm : X.A.frames = some (X.env :: X.outer) := ok.frames.trans (congrArg some hst)
  refine wpAny_Try_except (wpAny_mono ((hbody (wKeep X.K c1 c2 i ts D) (X.pn ++ pins)
      (fun e t1 => wpAny (model X.prog X.w) X.A (noteFrame e X.env) (fun _ t2 => wpAny (model X.prog X.w) X.A (setFlight e none) (fun _ t3 => wpAny (model X.prog X.w) X.A (handleBy e X.env
        [.ExceptHandler (some (.Tuple [.Name x p1, .Name y p2] cx pt)) (some n) (b₀ :: suite) pos']) (SP X pins D) X.xe t3) X.xe t2) X.xe t1)
      (fun u t air => ?_) PassesOwn.looking).run [] s σ H D (I.toTry _) want) (fun fl t fin => ?_) fun _ _ z => z)
  case refine_2 =>
    cases fl with
    | next => exact let ⟨σ1, H1, I1, q⟩ := fin; wpAny_execs_nil ⟨σ1, H1, I1.ofTry ok, q⟩
    | brk => exact let ⟨σ1, H1, I1, q⟩ := fin; ⟨σ1, H1, I1.ofTry ok, q⟩
    | cont => exact let ⟨σ1, H1, I1, q⟩ := fin; ⟨σ1, H1, I1.ofTry ok, q⟩
    | ret u => exact let ⟨v, σ1, H1, I1, r, q⟩ := fin; ⟨v, σ1, H1, I1.ofTry ok, r, q⟩
  case refine_1 =>
    obtain ⟨a, B, t0, _, σ1, H1, cls, d, rfl, I0, ground, up, sky, na, os, bare, one, then_⟩ := air
    have I1 : Inv X pins σ1 H1 t0 := I0.ofTry ok
    refine Sky.land (L := X.env.locals) Zc.steady frm hfm (hst ▸ sky) fun g fl upg => ?_
    have ap := Apart.of hst hfm hex I1 ground fl
    have I3 : Inv X pins σ1 H1 { t with heap := g } := I1.landed ground fl.1 (up.trans upg) os bare
    obtain ⟨oa, va, ga, za, da⟩ := fl.there
    refine wpAny_handleBy_cons (codeAny_handlers_test (wpAny_Tuple_spliced ?_)) (fun z => nomatch z)
    show wpAny _ _ (spliced [(false, eval (.Name x p1) X.env), (false, eval (.Name y p2) X.env)]) _ _ _
    refine Calls.spliced_cons (named I3 ga da na ap hc1 (Calls.spliced_cons (named I3 ga da na ap hc2 (Calls.spliced_nil ⟨by show 2 ≤ sizeLine; decide, ?_⟩))))
    have old : ∀ b o, g.get? b = some o → (g.push { cls := .type "tuple", data := .seq [c1, c2].toArray }).get? b = some o := fun _ _ z => Heap.get?_push_of_some _ z
    have knd : PySem.W.Looks (model X.prog X.w) (g.push { cls := .type "tuple", data := .seq [c1, c2].toArray }) (typeOf (.ref a)) cls := fun _ _ _ _ k q => wpAny_typeOf_ref (k _ _ (old _ _ ga)) (za.1.symm ▸ q)
    refine (PySem.W.exm_tup2 (M := model X.prog X.w) (I3.kIn.keeps old) knd (Heap.get?_push_size g rfl) one).here (codeAny_handlers_suite_as ?_)
    refine HandSPX.lands_againZ (fly_keeps old fl) fun g4 fl4 up4 => ?_
    have I4 : Inv X pins σ1 H1 { t with heap := g4 } := I1.landed ground fl4.1 (((up.trans upg).trans (.of_keeps old)).trans up4) os bare
    obtain ⟨ob, vb, gb, zb, db⟩ := fl4.there
    refine store_ok (X := X.suite a ((a, ob) :: (X.pn ++ pins))) (v := .ref a) (I4.suite gb db na ap.loc ap.fs) hN hi (.inl hln) rfl (fun s5 S5 => ?_) (.inr hln)
    refine wpAny_mono ((hsuite a ob cls d (X.pn ++ pins) zb ⟨_, db⟩).run [] s5 _ H1 _ S5 (then_ a na)) (fun fw s6 fin => ?_) fun _ _ z => False.elim z
    cases fw with
    | next => exact let ⟨σ6, H6, S6, q⟩ := fin; kept_on ok hN hi hln ap zb db S6 fun s7 I7 => ⟨_, _, I7, q⟩
    | brk => exact let ⟨_, _, _, q⟩ := fin; q.elim
    | cont => exact let ⟨_, _, _, q⟩ := fin; q.elim
    | ret u => exact let ⟨_, _, _, _, _, q⟩ := fin; q.elim
end
section
variable {X : Cx}
/-- an exception that is kept, with its fields, as the library's words have it -/
theorem inst_of {pins : List (Addr × Obj)} {σ : L2.St} {H : Hp} {s : Shared} {a C dd : Addr} {fs : List (Str × V)} (I : Inv X pins σ H s) (ha : H a = some (exK a (.ref C) (some dd))) (hd : H dd = some (.xd fs)) :
    ∃ (ox od : Obj) (mA : Str → Option Value), PySem.W.InstAt s.heap a ox C (some od) ∧ (∀ f, RelO (fs.lookup f) (mA f)) ∧ ∀ f, PySem.W.lookIn f od = some (mA f) := by
  obtain ⟨oe, vs, he, hz, hdat⟩ := exK_at I.hok ha
  obtain ⟨mA, hns, hr⟩ : ∃ mA, s.heap.Ns1 dd mA ∧ ∀ f, RelO (fs.lookup f) (mA f) := I.hok dd _ hd
  obtain ⟨od, ho, hl⟩ := lookIn_ns hns
  exact ⟨oe, od, mA, ⟨he, hz.1, by unfold PySem.W.notCls; rw [hdat] <;> rfl, by rw [hz.2]; exact ho⟩, hr, hl⟩
/-- isinstance(e, c), e an exception that is kept -/
def rIsX (K : PySem.W.Frag) : List V → Hp → VK → Prop := fun xs H Q => ∃ (a C dd : Addr) (fs : List (Str × V)) (c : V) (cv : Value) (b : Bool), xs = [.ref a, c] ∧ H a = some (exK a (.ref C) (some dd)) ∧ H dd = some (.xd fs) ∧ ExcC K C ∧
  (∀ u, RelV c u → u = cv) ∧ PySem.W.kitOne K (.ref C) cv = some b ∧ Q (.bl b) H
theorem call_isX : CallR X (.builtin "isinstance") (rIsX X.K) := by
  intro pins s σ H xs us Q I r h
  obtain ⟨a, C, dd, fs, c, cv, b, rfl, ha, hd, F, hcv, e, q⟩ := h
  obtain ⟨ox, od, mA, J, _⟩ := inst_of I ha hd
  cases r with
  | cons rx rr =>
    cases rr with
    | cons rt rr =>
      cases rr
      cases rx
      cases hcv _ rt
      have F1 := PySem.W.any_some F.hd
      obtain ⟨cd, hc, _⟩ := F1
      exact PySem.W.kia_one (PySem.W.kitx_exc (by rw [hc]; rfl) F.hg F.hk F.hs F.ha F.hn F.ht F.hm) I.kIn J e (fun z => nomatch z) fun tk => ⟨.bl b, H, I.kept (t' := tk) fun _ _ z => z, rfl, q⟩
/-- two words of one call, whichever is at hand -/
theorem call_or {f : Value} {r1 r2 : List V → Hp → VK → Prop} (h1 : CallR X f r1) (h2 : CallR X f r2) : CallR X f (fun xs H Q => r1 xs H Q ∨ r2 xs H Q) := by
  intro pins s σ H xs us Q I r h
  exact h.elim (h1 pins s σ H xs us Q I r) (h2 pins s σ H xs us Q I r)
/-- e.f, e an exception that is kept -/
def tXk (K : PySem.W.Frag) (f : Str) (te : TE) : TE := fun σ H Q => te σ H fun x H1 => ∃ (a C dd : Addr) (fs : List (Str × V)) (v : V), x = .ref a ∧ H1 a = some (exK a (.ref C) (some dd)) ∧ H1 dd = some (.xd fs) ∧ XfC K C ∧
  PySem.W.findIn K (.ref C) f = some none ∧ fs.lookup f = some v ∧ Q v H1
theorem pe_xk {e : Expr} {te : TE} {pos : Pos} {f : Str} (he : PE X e te) (hb : attributeBase e f X.env (eval e X.env) = eval e X.env := by rfl) : PE X (.Attribute e f pos) (tXk X.K f te) := by
  refine ⟨fun pins s σ H Q I h => attr_of hb (thn (he.run pins s σ H _ I h) fun u s1 hh => ?_)⟩
  obtain ⟨x, H1, I1, rx, a, C, dd, fs, v, rfl, ha, hd, T, hno, l, q⟩ := hh
  cases rx
  obtain ⟨ox, od, mA, J, hr, hl⟩ := inst_of I1 ha hd
  obtain ⟨u, hu, ru⟩ := RelO.some_of (v := v) (o := mA f) (by rw [← l]; exact hr f)
  have fo := PySem.W.findObj_own T.hdC hno rfl ((hl f).trans (congrArg some hu))
  exact HandSPX.exc_get I1.kIn J T.ga T.gg T.exC fo (handed_of ru) ⟨v, H1, I1.tok _, ru, q⟩
/-- what lets no exception out, of a def that may -/
theorem pass_none : Passes (L2.CX X.prog X.w) X (fun _ _ _ => False) := fun _ _ _ _ _ _ _ c => by
  obtain ⟨_, _, _, _, _, _, _, _, _, _, _, _, w⟩ := c
  exact w.elim
end
theorem kit_not {K : PySem.W.Frag} {C D : Addr} (hd : PySem.W.hasDictIn K D = true) (ht : PySem.W.typeIn K (.ref D) = some (.type "type")) (h : PySem.W.subIn K (.ref C) (.ref D) = some false) (hs : PySem.W.subIn K (.ref C) (.ref C) = some true) :
    PySem.W.kitOne K (.ref C) (.ref D) = some false := by
  have ne : (Value.ref C == Value.ref D) = false := by
    refine Bool.eq_false_iff.mpr fun z => ?_
    rw [← beq_iff_eq.mp z, hs] at h
    cases h
  obtain ⟨cd, hc, _⟩ := PySem.W.any_some hd
  unfold PySem.W.kitOne PySem.W.kitCls
  rw [ne, if_neg Bool.false_ne_true]
  dsimp only
  rw [hc, ht]
  exact h
theorem kit_type {K : PySem.W.Frag} {C : Addr} {T : String} {b : Bool} (hm : PySem.W.kitMeta T = true) (h : PySem.W.subIn K (.ref C) (.type T) = some b) : PySem.W.kitOne K (.ref C) (.type T) = some b := by
  have ne : (Value.ref C == Value.type T) = false := by simp
  unfold PySem.W.kitOne PySem.W.kitCls
  rw [ne, if_neg Bool.false_ne_true]
  dsimp only
  rw [hm, if_pos rfl]
  exact h
theorem exm_two {K : PySem.W.Frag} {cls c1 c2 : Value} {b1 b2 : Bool} (h1 : PySem.W.exmOne K cls c1 = some b1) (h2 : PySem.W.exmOne K cls c2 = some b2) : PySem.W.exmAny K cls [c1, c2] = some (b1 || b2) := by
  unfold PySem.W.exmAny
  rw [h1]
  unfold PySem.W.exmAny
  rw [h2]
  unfold PySem.W.exmAny
  simp
end Lh

namespace Lh
open PySem PySem.Spec PyProof.Rows L2
def topS (i : Nat) : Stmt := PySem.Challenge.pw_lesserhall_k45_told_small_and_wide.main.body.getD i (.Pass ⟨0, 0, 0, 0⟩)
abbrev s_NotLike_init : Stmt := inClass (topS 2) 0
abbrev n_NotLike_init : List Str := ["self", "at"]
abbrev p_NotLike_init : List Str := ["self", "at"]
theorem sc_NotLike_init : FnScope n_NotLike_init p_NotLike_init (defScope s_NotLike_init) := ⟨rfl, rfl, rfl, by decide +kernel, rfl, by decide +kernel, by decide +kernel⟩
abbrev s_places_of : Stmt := topS 4
abbrev n_places_of : List Str := ["lists", "at", "persons", "person"]
abbrev p_places_of : List Str := ["lists"]
theorem sc_places_of : FnScope n_places_of p_places_of (defScope s_places_of) := ⟨rfl, rfl, rfl, by decide +kernel, rfl, by decide +kernel, by decide +kernel⟩
abbrev s_told_small : Stmt := topS 5
abbrev n_told_small : List Str := ["standing", "lists", "at", "persons", "person"]
abbrev p_told_small : List Str := ["standing", "lists"]
theorem sc_told_small : FnScope n_told_small p_told_small (defScope s_told_small) := ⟨rfl, rfl, rfl, by decide +kernel, rfl, by decide +kernel, by decide +kernel⟩
abbrev s_told_wide : Stmt := topS 6
abbrev n_told_wide : List Str := ["standing", "lists", "places", "person"]
abbrev p_told_wide : List Str := ["standing", "lists"]
theorem sc_told_wide : FnScope n_told_wide p_told_wide (defScope s_told_wide) := ⟨rfl, rfl, rfl, by decide +kernel, rfl, by decide +kernel, by decide +kernel⟩
abbrev s_dip : Stmt := topS 8
abbrev n_dip : List Str := ["_law_script", "_law_k", "_law_cell"]
abbrev p_dip : List Str := ["_law_script", "_law_k"]
theorem sc_dip : FnScope n_dip p_dip (defScope s_dip) := ⟨rfl, rfl, rfl, by decide +kernel, rfl, by decide +kernel, by decide +kernel⟩
abbrev s_take : Stmt := topS 9
abbrev n_take : List Str := ["_law_box", "_law_many", "_law_found", "_law_once", "_law_pair"]
abbrev p_take : List Str := ["_law_box", "_law_many"]
theorem sc_take : FnScope n_take p_take (defScope s_take) := ⟨rfl, rfl, rfl, by decide +kernel, rfl, by decide +kernel, by decide +kernel⟩
abbrev s_folded : Stmt := topS 10
abbrev n_folded : List Str := ["_law_script", "_law_many", "_law_cells", "_law_k", "_law_cell"]
abbrev p_folded : List Str := ["_law_script", "_law_many"]
theorem sc_folded : FnScope n_folded p_folded (defScope s_folded) := ⟨rfl, rfl, rfl, by decide +kernel, rfl, by decide +kernel, by decide +kernel⟩
abbrev s_same : Stmt := topS 11
abbrev n_same : List Str := ["_law_found", "_law_due_here", "_law_one", "_law_two"]
abbrev p_same : List Str := ["_law_found", "_law_due_here"]
theorem sc_same : FnScope n_same p_same (defScope s_same) := ⟨rfl, rfl, rfl, by decide +kernel, rfl, by decide +kernel, by decide +kernel⟩
abbrev s_lists : Stmt := topS 12
abbrev n_lists : List Str := ["_law_whose", "_law_found", "_law_one", "_law_k", "_law_other", "_law_its"]
abbrev p_lists : List Str := ["_law_whose"]
theorem sc_lists : FnScope n_lists p_lists (defScope s_lists) := ⟨rfl, rfl, rfl, by decide +kernel, rfl, by decide +kernel, by decide +kernel⟩
abbrev s_told : Stmt := topS 13
abbrev n_told : List Str := ["_law_shown", "_law_lists_here", "_law_caught", "_law_found", "error", "_law_fine"]
abbrev p_told : List Str := ["_law_shown", "_law_lists_here"]
theorem sc_told : FnScope n_told p_told (defScope s_told) := ⟨rfl, rfl, rfl, by decide +kernel, rfl, by decide +kernel, by decide +kernel⟩
abbrev s_due : Stmt := topS 14
abbrev n_due : List Str := ["_law_shown", "_law_lists_here", "_law_at", "_law_some", "_law_one"]
abbrev p_due : List Str := ["_law_shown", "_law_lists_here"]
theorem sc_due : FnScope n_due p_due (defScope s_due) := ⟨rfl, rfl, rfl, by decide +kernel, rfl, by decide +kernel, by decide +kernel⟩
abbrev s_right : Stmt := topS 15
abbrev n_right : List Str := ["_law_box", "_law_many", "_law_lists_here", "_law_one", "_law_by_one", "_law_tuples", "_law_some", "_law_turn", "_law_small", "_law_wide", "_law_spots", "_law_number", "_law_bend", "_law_kept"]
abbrev p_right : List Str := ["_law_box"]
theorem sc_right : FnScope n_right p_right (defScope s_right) := ⟨rfl, rfl, rfl, by decide +kernel, rfl, by decide +kernel, by decide +kernel⟩
abbrev s_law : Stmt := topS 16
abbrev n_law : List Str := ["_law_script", "_law_cells", "_law_k"]
abbrev p_law : List Str := ["_law_script"]
theorem sc_law : FnScope n_law p_law (defScope s_law) := ⟨rfl, rfl, rfl, by decide +kernel, rfl, by decide +kernel, by decide +kernel⟩
structure FnT (K : PySem.W.Frag) (nm qual : Str) (st : Stmt) (ps : List Str) where
  f : Addr
  fd : FuncData
  F : Fun K nm qual st f fd
  b : Binds K fd ps []
structure Txt (K : PySem.W.Frag) (mg : Str → Option Value) (w : World) where
  t_NotLike_init : FnT K "__init__" "NotLike.__init__" s_NotLike_init p_NotLike_init
  t_places_of : FnT K "places_of" "places_of" s_places_of p_places_of
  g_places_of : mg "places_of" = some (.ref t_places_of.f)
  t_told_small : FnT K "told_small" "told_small" s_told_small p_told_small
  g_told_small : mg "told_small" = some (.ref t_told_small.f)
  t_told_wide : FnT K "told_wide" "told_wide" s_told_wide p_told_wide
  g_told_wide : mg "told_wide" = some (.ref t_told_wide.f)
  t_dip : FnT K "_law_dip" "_law_dip" s_dip p_dip
  g_dip : mg "_law_dip" = some (.ref t_dip.f)
  t_take : FnT K "_law_take" "_law_take" s_take p_take
  g_take : mg "_law_take" = some (.ref t_take.f)
  t_folded : FnT K "_law_folded" "_law_folded" s_folded p_folded
  g_folded : mg "_law_folded" = some (.ref t_folded.f)
  t_same : FnT K "_law_same" "_law_same" s_same p_same
  g_same : mg "_law_same" = some (.ref t_same.f)
  t_lists : FnT K "_law_lists" "_law_lists" s_lists p_lists
  g_lists : mg "_law_lists" = some (.ref t_lists.f)
  t_told : FnT K "_law_told" "_law_told" s_told p_told
  g_told : mg "_law_told" = some (.ref t_told.f)
  t_due : FnT K "_law_due" "_law_due" s_due p_due
  g_due : mg "_law_due" = some (.ref t_due.f)
  t_right : FnT K "_law_right" "_law_right" s_right p_right
  g_right : mg "_law_right" = some (.ref t_right.f)
  t_law : FnT K "law" "law" s_law p_law
  g_law : mg "law" = some (.ref t_law.f)
  C_NotAlike : Addr
  g_NotAlike : mg "NotAlike" = some (.ref C_NotAlike)
  C_NotLike : Addr
  g_NotLike : mg "NotLike" = some (.ref C_NotLike)
  ox_NotLike : OexC K C_NotLike
  me_NotLike_init : Meth K C_NotLike "__init__" t_NotLike_init.f
  ti_NotLike : PySem.W.typeIn K (.ref t_NotLike_init.f) = some (.type "function")
  na_NotLike_at : PySem.W.findIn K (.ref C_NotLike) "at" = some none
  xf_NotLike : XfC K C_NotLike
  xc_NotLike : ExcC K C_NotLike
  em_NotLike_NotAlike : PySem.W.exmOne K (.ref C_NotLike) (.ref C_NotAlike) = some false
  em_NotLike_NotLike : PySem.W.exmOne K (.ref C_NotLike) (.ref C_NotLike) = some true
  ki_NotLike_NotLike : PySem.W.kitOne K (.ref C_NotLike) (.ref C_NotLike) = some true
  ki_NotLike_ValueError : PySem.W.kitOne K (.ref C_NotLike) (.type "ValueError") = some true
  ki_NotLike_NotAlike : PySem.W.kitOne K (.ref C_NotLike) (.ref C_NotAlike) = some false
  vi_ValueError : PySem.W.findCls K (.type "ValueError") (.type "type") "__init__" = some (.val (.builtin "ValueError.__init__"))
  m_ValueError : mg "ValueError" = none
  m_abs : mg "abs" = none
  m_all : mg "all" = none
  m_bool : mg "bool" = none
  m_enumerate : mg "enumerate" = none
  m_int : mg "int" = none
  m_isinstance : mg "isinstance" = none
  m_len : mg "len" = none
  m_list : mg "list" = none
  m_max : mg "max" = none
  m_range : mg "range" = none
  m_repr : mg "repr" = none
  m_set : mg "set" = none
  m_str : mg "str" = none
  m_tuple : mg "tuple" = none
  m_zip : mg "zip" = none
abbrev Txt.f_NotLike_init {K : PySem.W.Frag} {mg : Str → Option Value} {w : World} (T : Txt K mg w) : Addr := T.t_NotLike_init.f
abbrev Txt.fd_NotLike_init {K : PySem.W.Frag} {mg : Str → Option Value} {w : World} (T : Txt K mg w) : FuncData := T.t_NotLike_init.fd
theorem Txt.F_NotLike_init {K : PySem.W.Frag} {mg : Str → Option Value} {w : World} (T : Txt K mg w) : Fun K "__init__" "NotLike.__init__" s_NotLike_init T.f_NotLike_init T.fd_NotLike_init := T.t_NotLike_init.F
theorem Txt.b_NotLike_init {K : PySem.W.Frag} {mg : Str → Option Value} {w : World} (T : Txt K mg w) : Binds K T.fd_NotLike_init p_NotLike_init [] := T.t_NotLike_init.b
abbrev Txt.f_places_of {K : PySem.W.Frag} {mg : Str → Option Value} {w : World} (T : Txt K mg w) : Addr := T.t_places_of.f
abbrev Txt.fd_places_of {K : PySem.W.Frag} {mg : Str → Option Value} {w : World} (T : Txt K mg w) : FuncData := T.t_places_of.fd
theorem Txt.F_places_of {K : PySem.W.Frag} {mg : Str → Option Value} {w : World} (T : Txt K mg w) : Fun K "places_of" "places_of" s_places_of T.f_places_of T.fd_places_of := T.t_places_of.F
theorem Txt.b_places_of {K : PySem.W.Frag} {mg : Str → Option Value} {w : World} (T : Txt K mg w) : Binds K T.fd_places_of p_places_of [] := T.t_places_of.b
abbrev Txt.f_told_small {K : PySem.W.Frag} {mg : Str → Option Value} {w : World} (T : Txt K mg w) : Addr := T.t_told_small.f
abbrev Txt.fd_told_small {K : PySem.W.Frag} {mg : Str → Option Value} {w : World} (T : Txt K mg w) : FuncData := T.t_told_small.fd
theorem Txt.F_told_small {K : PySem.W.Frag} {mg : Str → Option Value} {w : World} (T : Txt K mg w) : Fun K "told_small" "told_small" s_told_small T.f_told_small T.fd_told_small := T.t_told_small.F
theorem Txt.b_told_small {K : PySem.W.Frag} {mg : Str → Option Value} {w : World} (T : Txt K mg w) : Binds K T.fd_told_small p_told_small [] := T.t_told_small.b
abbrev Txt.f_told_wide {K : PySem.W.Frag} {mg : Str → Option Value} {w : World} (T : Txt K mg w) : Addr := T.t_told_wide.f
abbrev Txt.fd_told_wide {K : PySem.W.Frag} {mg : Str → Option Value} {w : World} (T : Txt K mg w) : FuncData := T.t_told_wide.fd
theorem Txt.F_told_wide {K : PySem.W.Frag} {mg : Str → Option Value} {w : World} (T : Txt K mg w) : Fun K "told_wide" "told_wide" s_told_wide T.f_told_wide T.fd_told_wide := T.t_told_wide.F
theorem Txt.b_told_wide {K : PySem.W.Frag} {mg : Str → Option Value} {w : World} (T : Txt K mg w) : Binds K T.fd_told_wide p_told_wide [] := T.t_told_wide.b
abbrev Txt.f_dip {K : PySem.W.Frag} {mg : Str → Option Value} {w : World} (T : Txt K mg w) : Addr := T.t_dip.f
abbrev Txt.fd_dip {K : PySem.W.Frag} {mg : Str → Option Value} {w : World} (T : Txt K mg w) : FuncData := T.t_dip.fd
theorem Txt.F_dip {K : PySem.W.Frag} {mg : Str → Option Value} {w : World} (T : Txt K mg w) : Fun K "_law_dip" "_law_dip" s_dip T.f_dip T.fd_dip := T.t_dip.F
theorem Txt.b_dip {K : PySem.W.Frag} {mg : Str → Option Value} {w : World} (T : Txt K mg w) : Binds K T.fd_dip p_dip [] := T.t_dip.b
abbrev Txt.f_take {K : PySem.W.Frag} {mg : Str → Option Value} {w : World} (T : Txt K mg w) : Addr := T.t_take.f
abbrev Txt.fd_take {K : PySem.W.Frag} {mg : Str → Option Value} {w : World} (T : Txt K mg w) : FuncData := T.t_take.fd
theorem Txt.F_take {K : PySem.W.Frag} {mg : Str → Option Value} {w : World} (T : Txt K mg w) : Fun K "_law_take" "_law_take" s_take T.f_take T.fd_take := T.t_take.F
theorem Txt.b_take {K : PySem.W.Frag} {mg : Str → Option Value} {w : World} (T : Txt K mg w) : Binds K T.fd_take p_take [] := T.t_take.b
abbrev Txt.f_folded {K : PySem.W.Frag} {mg : Str → Option Value} {w : World} (T : Txt K mg w) : Addr := T.t_folded.f
abbrev Txt.fd_folded {K : PySem.W.Frag} {mg : Str → Option Value} {w : World} (T : Txt K mg w) : FuncData := T.t_folded.fd
theorem Txt.F_folded {K : PySem.W.Frag} {mg : Str → Option Value} {w : World} (T : Txt K mg w) : Fun K "_law_folded" "_law_folded" s_folded T.f_folded T.fd_folded := T.t_folded.F
theorem Txt.b_folded {K : PySem.W.Frag} {mg : Str → Option Value} {w : World} (T : Txt K mg w) : Binds K T.fd_folded p_folded [] := T.t_folded.b
abbrev Txt.f_same {K : PySem.W.Frag} {mg : Str → Option Value} {w : World} (T : Txt K mg w) : Addr := T.t_same.f
abbrev Txt.fd_same {K : PySem.W.Frag} {mg : Str → Option Value} {w : World} (T : Txt K mg w) : FuncData := T.t_same.fd
theorem Txt.F_same {K : PySem.W.Frag} {mg : Str → Option Value} {w : World} (T : Txt K mg w) : Fun K "_law_same" "_law_same" s_same T.f_same T.fd_same := T.t_same.F
theorem Txt.b_same {K : PySem.W.Frag} {mg : Str → Option Value} {w : World} (T : Txt K mg w) : Binds K T.fd_same p_same [] := T.t_same.b
abbrev Txt.f_lists {K : PySem.W.Frag} {mg : Str → Option Value} {w : World} (T : Txt K mg w) : Addr := T.t_lists.f
abbrev Txt.fd_lists {K : PySem.W.Frag} {mg : Str → Option Value} {w : World} (T : Txt K mg w) : FuncData := T.t_lists.fd
theorem Txt.F_lists {K : PySem.W.Frag} {mg : Str → Option Value} {w : World} (T : Txt K mg w) : Fun K "_law_lists" "_law_lists" s_lists T.f_lists T.fd_lists := T.t_lists.F
theorem Txt.b_lists {K : PySem.W.Frag} {mg : Str → Option Value} {w : World} (T : Txt K mg w) : Binds K T.fd_lists p_lists [] := T.t_lists.b
abbrev Txt.f_told {K : PySem.W.Frag} {mg : Str → Option Value} {w : World} (T : Txt K mg w) : Addr := T.t_told.f
abbrev Txt.fd_told {K : PySem.W.Frag} {mg : Str → Option Value} {w : World} (T : Txt K mg w) : FuncData := T.t_told.fd
theorem Txt.F_told {K : PySem.W.Frag} {mg : Str → Option Value} {w : World} (T : Txt K mg w) : Fun K "_law_told" "_law_told" s_told T.f_told T.fd_told := T.t_told.F
theorem Txt.b_told {K : PySem.W.Frag} {mg : Str → Option Value} {w : World} (T : Txt K mg w) : Binds K T.fd_told p_told [] := T.t_told.b
abbrev Txt.f_due {K : PySem.W.Frag} {mg : Str → Option Value} {w : World} (T : Txt K mg w) : Addr := T.t_due.f
abbrev Txt.fd_due {K : PySem.W.Frag} {mg : Str → Option Value} {w : World} (T : Txt K mg w) : FuncData := T.t_due.fd
theorem Txt.F_due {K : PySem.W.Frag} {mg : Str → Option Value} {w : World} (T : Txt K mg w) : Fun K "_law_due" "_law_due" s_due T.f_due T.fd_due := T.t_due.F
theorem Txt.b_due {K : PySem.W.Frag} {mg : Str → Option Value} {w : World} (T : Txt K mg w) : Binds K T.fd_due p_due [] := T.t_due.b
abbrev Txt.f_right {K : PySem.W.Frag} {mg : Str → Option Value} {w : World} (T : Txt K mg w) : Addr := T.t_right.f
abbrev Txt.fd_right {K : PySem.W.Frag} {mg : Str → Option Value} {w : World} (T : Txt K mg w) : FuncData := T.t_right.fd
theorem Txt.F_right {K : PySem.W.Frag} {mg : Str → Option Value} {w : World} (T : Txt K mg w) : Fun K "_law_right" "_law_right" s_right T.f_right T.fd_right := T.t_right.F
theorem Txt.b_right {K : PySem.W.Frag} {mg : Str → Option Value} {w : World} (T : Txt K mg w) : Binds K T.fd_right p_right [] := T.t_right.b
abbrev Txt.f_law {K : PySem.W.Frag} {mg : Str → Option Value} {w : World} (T : Txt K mg w) : Addr := T.t_law.f
abbrev Txt.fd_law {K : PySem.W.Frag} {mg : Str → Option Value} {w : World} (T : Txt K mg w) : FuncData := T.t_law.fd
theorem Txt.F_law {K : PySem.W.Frag} {mg : Str → Option Value} {w : World} (T : Txt K mg w) : Fun K "law" "law" s_law T.f_law T.fd_law := T.t_law.F
theorem Txt.b_law {K : PySem.W.Frag} {mg : Str → Option Value} {w : World} (T : Txt K mg w) : Binds K T.fd_law p_law [] := T.t_law.b
end Lh

namespace Lh
open PySem PySem.Spec PyProof.Rows L2
section
variable {P : Program} {w : World} {K : PySem.W.Frag} {mg : Str → Option Value} {base : Heap}
/-- what an expression comes to, then what follows -/
theorem use {te : TE} {σ : L2.St} {H : Hp} {Q : VK} (R : V → Hp → Prop) (h : ∀ Q' : VK, (∀ v H', R v H' → Q' v H') → te σ H Q') (hq : ∀ v H', R v H' → Q v H') : te σ H Q := h Q hq
/-! ### the draws -/
def spTake : Sp := fun vs H Q _ => ∃ (bx : Addr) (c m : Int), vs = [.ref bx, .int m] ∧ 0 < m ∧ m ≤ 1000000 ∧ c ≤ 1000000000 ∧ Box bx c H ∧
  ∀ (r : Int) (H' : Hp), 0 ≤ r → r < m → Ext bx H H' → Box bx (c + 1) H' → Q (.int r) H'
theorem ok_take (T : Txt K mg w) : FnOk P w K mg base CX0 1 T.f_take T.fd_take p_take spTake := by
  refine T.F_take.ok sc_take (fun vs H Q E h => ?_) (fun cdv A outer s H vs Q E hr h => ?_)
  · obtain ⟨bx, c, m, rfl, _⟩ := h
    rfl
  · obtain ⟨bx, c, m, rfl, m0, m1, c1, ⟨a, b, n, hb, a0, b0, b1, n0, n1⟩, q⟩ := h
    refine ⟨_, (pss_cons (ps_if (pt_cmpR op_gt (pe_ix ix_list (pv 0) pe_int (fun _ _ => rfl)) pe_int (nomark _))
        (pss_cons (ps_set (i := 2) sc_take.nd rfl (.inl rfl) (pe_op op_mod (pe_ix ix_list (pv 0) pe_int (fun _ _ => rfl)) (pv 1)))
        (pss_cons (ps_asg (pe_op op_fdiv (pe_ix ix_list (pv 0) pe_int (fun _ _ => rfl)) (pv 1)) (pg_sub (pv 0) pe_int set_list))
        (pss_one (ps_ret (pv 2)))))
        pss_nil)
      (pss_cons (ps_asg (pe_op op_add (pe_ix ix_list (pv 0) pe_int (fun _ _ => rfl)) pe_int) (pg_sub (pv 0) pe_int set_list))
      (pss_cons (ps_set (i := 3) sc_take.nd rfl (.inl rfl) (pe_op op_mod (pe_op op_pow (pe_op op_add (pe_ix ix_list (pv 0) pe_int (fun _ _ => rfl)) (pe_op op_mul pe_int (pe_ix ix_list (pv 0) pe_int (fun _ _ => rfl)))) pe_int) pe_int))
      (pss_cons (ps_set (i := 4) sc_take.nd rfl (.inl rfl) (pe_op op_mod (pe_op op_mul (pe_op op_add (pe_op op_add (pv 3) (pe_ix ix_list (pv 0) pe_int (fun _ _ => rfl))) (pe_op op_fdiv (pe_ix ix_list (pv 0) pe_int (fun _ _ => rfl)) pe_int)) (pe_op op_add (pe_op op_add (pe_op op_mod (pv 3) pe_int) pe_int) (pe_ix ix_list (pv 0) pe_int (fun _ _ => rfl)))) pe_int))
      (pss_one (ps_ret (pe_op op_mod (pe_op op_fdiv (pe_op op_mod (pe_op op_add (pe_op op_mul (pv 4) pe_int) (pv 3)) pe_int) pe_int) (pv 1)))))))), ?_⟩
    have i0 : ∀ x y z : V, atI [x, y, z] 0 = some x := fun _ _ _ => rfl
    have i1 : ∀ x y z : V, atI [x, y, z] 1 = some y := fun _ _ _ => rfl
    have i2 : ∀ x y z : V, atI [x, y, z] 2 = some z := fun _ _ _ => rfl
    have hS : SqL K H bx [.int a, .int b, .int n] := .inl (.inl hb)
    refine ⟨.ref bx, rfl, bx, _, 0, _, rfl, rfl, hS, i0 _ _ _, a, 0, rfl, rfl, _, rfl, ite2 (fun e => ?_) (fun e => ?_)⟩
    · refine ⟨.ref bx, rfl, bx, _, 0, _, rfl, rfl, hS, i0 _ _ _, .int m, rfl, a, m, rfl, rfl, m0, ?_⟩
      refine ⟨.ref bx, rfl, bx, _, 0, _, rfl, rfl, hS, i0 _ _ _, .int m, rfl, a, m, rfl, rfl, ⟨m0, by omega⟩, ?_⟩
      refine ⟨.ref bx, rfl, bx, _, 0, 0, rfl, rfl, hb, rfl, ?_⟩
      refine ⟨.int (a % m), rfl, q _ _ (Int.emod_nonneg _ (by omega)) (Int.emod_lt_of_pos _ m0) (Ext.refl _).box ⟨a / m, b, n, upd_same, Int.ediv_nonneg a0 (by omega), b0, b1, n0, by omega⟩⟩
    · have n2 : n + 1 ≤ 1000000001 := by omega
      refine ⟨.ref bx, rfl, bx, _, 2, _, rfl, rfl, hS, i2 _ _ _, n, 1, rfl, rfl, .ref bx, rfl, bx, _, 2, 2, rfl, rfl, hb, rfl, ?_⟩
      generalize hH1 : upd H bx (.lst (List.set [V.int a, .int b, .int n] 2 (.int (n + 1)))) = H1
      have hb1 : H1 bx = some (.lst [.int a, .int b, .int (n + 1)]) := by rw [← hH1]; exact upd_same
      have hS1 : SqL K H1 bx [.int a, .int b, .int (n + 1)] := .inl (.inl hb1)
      have bB : Box bx (c + 1) H1 := ⟨a, b, n + 1, hb1, a0, b0, b1, by omega, by omega⟩
      have eE : Ext bx H H1 := by rw [← hH1]; exact (Ext.refl _).box
      refine ⟨.ref bx, rfl, bx, _, 1, _, rfl, rfl, hS1, i1 _ _ _, .ref bx, rfl, bx, _, 2, _, rfl, rfl, hS1, i2 _ _ _, 39373, n + 1, rfl, rfl, .inl ⟨by decide, by decide⟩, b, _, rfl, rfl, _, 5, rfl, rfl, ⟨by decide, by decide, ?_⟩, _, 2147483647, rfl, rfl, by show (0 : Int) < 2147483647; decide, ?_⟩
      · omega
      dsimp only
      generalize hx : (b + 39373 * (n + 1)) ^ (5 : Int).toNat % 2147483647 = x
      have x0 : 0 ≤ x := by rw [← hx]; exact Int.emod_nonneg _ (by decide)
      have x1 : x < 2147483647 := by rw [← hx]; exact Int.emod_lt_of_pos _ (by decide)
      have d0 : 0 ≤ b / 1000003 := Int.ediv_nonneg b0 (by decide)
      have d1 : b / 1000003 ≤ b := Int.ediv_le_self _ b0
      have e0 : 0 ≤ x % 40009 := Int.emod_nonneg _ (by decide)
      have e1 : x % 40009 < 40009 := Int.emod_lt_of_pos _ (by decide)
      refine ⟨.int x, rfl, .ref bx, rfl, bx, _, 2, _, rfl, rfl, hS1, i2 _ _ _, x, n + 1, rfl, rfl, .ref bx, rfl, bx, _, 1, _, rfl, rfl, hS1, i1 _ _ _, b, 1000003, rfl, rfl, ⟨by decide, by decide⟩, _, _, rfl, rfl,
        .int x, rfl, x, 40009, rfl, rfl, by show (0 : Int) < 40009; decide, _, 7, rfl, rfl, .ref bx, rfl, bx, _, 2, _, rfl, rfl, hS1, i2 _ _ _, _, n + 1, rfl, rfl, _, _, rfl, rfl, .inr ⟨?_, ?_⟩, _, 2147483629, rfl, rfl, by show (0 : Int) < 2147483629; decide, ?_⟩
      · omega
      · omega
      dsimp only
      generalize hy : (x + (n + 1) + b / 1000003) * (x % 40009 + 7 + (n + 1)) % 2147483629 = y
      have y0 : 0 ≤ y := by rw [← hy]; exact Int.emod_nonneg _ (by decide)
      have y1 : y < 2147483629 := by rw [← hy]; exact Int.emod_lt_of_pos _ (by decide)
      refine ⟨.int y, rfl, y, 48271, rfl, rfl, .inr ⟨by decide, by decide⟩, .int x, rfl, _, x, rfl, rfl, _, 2147483587, rfl, rfl, by show (0 : Int) < 2147483587; decide, _, 64, rfl, rfl, ⟨by decide, by decide⟩, .int m, rfl, _, m, rfl, rfl, m0, ?_⟩
      exact q _ _ (Int.emod_nonneg _ (by omega)) (Int.emod_lt_of_pos _ m0) eE bB
def spDip (K : PySem.W.Frag) : Sp := fun vs H Q _ => ∃ (a : Addr) (ns : List Int) (k : Nat), vs = [.ref a, .int k] ∧ SqL K H a (ns.map V.int) ∧ k ≤ 1000 ∧
  ∀ (bx : Addr) (H' : Hp), Same H H' → H bx = none → Box bx 0 H' → Q (.ref bx) H'
theorem ok_dip (T : Txt K mg w) : FnOk P w K mg base CX0 1 T.f_dip T.fd_dip p_dip (spDip K) := by
  refine T.F_dip.ok sc_dip (fun vs H Q E h => ?_) (fun cdv A outer s H vs Q E hr h => ?_)
  · obtain ⟨a, ns, k, rfl, _⟩ := h
    rfl
  · obtain ⟨a, ns, k, rfl, hS, hk, q⟩ := h
    refine ⟨_, (pss_cons (ps_set (i := 2) sc_dip.nd rfl (.inl rfl) (pe_ifExp (pt_cmpR op_lt (pv 1) (pe_callB call_len_seq (by rfl) T.m_len (by decide +kernel) (pa_cons (pv 0) pa_nil)) (nomark _)) (pe_ix ix_list (pv 0) (pv 1) (fun _ _ => rfl)) pe_int))
      (pss_one (ps_ret (pe_lst (pa_cons (pe_op op_mul (pe_callB call_abs (by rfl) T.m_abs (by decide +kernel) (pa_cons (pv 2) pa_nil)) (pe_callTy call_int1 (by rfl) T.m_int (by decide +kernel) (pa_cons (pe_cmpR op_ge (pe_callB call_abs (by rfl) T.m_abs (by decide +kernel) (pa_cons (pv 2) pa_nil)) (pe_op op_pow pe_int pe_int) (nomark _)) pa_nil))) (pa_cons (pe_op op_add (pe_op op_add (pe_op op_mod (pv 2) pe_int) (pe_op op_mul pe_int (pv 1))) pe_int) (pa_cons pe_int pa_nil))))))), ?_⟩
    show tIf _ _ _ _ _ _
    refine use (fun v H' => ∃ x : Int, v = .int x ∧ H' = H) (fun Q' hQ => ?_) ?_
    · refine ⟨.int k, rfl, .ref a, rfl, a, _, rfl, .inl hS, k, _, rfl, rfl, _, rfl, ite2 (fun e => ?_) (fun e => ?_)⟩
      · have hk2 : k < ns.length := by
          have := of_decide_eq_true e
          rw [List.length_map] at this
          omega
        exact ⟨.ref a, rfl, .int k, rfl, a, _, k, .int ns[k], rfl, rfl, hS, atI_nat (by rw [List.getElem?_map, List.getElem?_eq_getElem hk2]; rfl), hQ _ _ ⟨_, rfl, rfl⟩⟩
      · exact hQ _ _ ⟨0, rfl, rfl⟩
    · rintro v H' ⟨x, rfl, rfl⟩
      have m0 : 0 ≤ x % 2305843009213693951 := Int.emod_nonneg _ (by decide)
      have m1 : x % 2305843009213693951 < 2305843009213693951 := Int.emod_lt_of_pos _ (by decide)
      refine ⟨.int x, rfl, x, rfl, .int x, rfl, x, rfl, 10, 18, rfl, rfl, ⟨by decide, by decide, by decide⟩, _, _, rfl, rfl, .inr ⟨_, rfl, ?_⟩⟩
      have bnd : ∀ b : Bool, (0 : Int) ≤ (if b then 1 else 0) ∧ (if b then (1 : Int) else 0) ≤ 1 := fun b => by cases b <;> decide
      refine ⟨_, _, rfl, rfl, .inr ⟨Int.lt_of_lt_of_le (by decide) (bnd _).1, Int.lt_of_le_of_lt (bnd _).2 (by decide)⟩, .int x, rfl, x, 2305843009213693951, rfl, rfl, by show (0 : Int) < 2305843009213693951; decide, .int k, rfl, 39373, k, rfl, rfl, .inl ⟨by decide, by decide⟩, _, _, rfl, rfl, _, 17, rfl, rfl, by show 3 ≤ sizeLine; decide, fun p hp => ?_⟩
      refine q p _ (same_upd hp) hp ⟨_, _, 0, upd_same, ?_, ?_, ?_, by decide, by decide⟩
      · refine Int.mul_nonneg ?_ (bnd _).1
        split <;> omega
      · show 0 ≤ x % 2305843009213693951 + 39373 * (k : Int) + 17
        omega
      · show x % 2305843009213693951 + 39373 * (k : Int) + 17 < 2 ^ 62
        omega
end
end Lh

namespace Lh
open PySem PySem.Spec PyProof.Rows L2
def cutI {α : Type} (xs : List α) (lo hi : Option Int) : List α := (xs.drop (HT.sIx xs.length 0 lo)).take (HT.sIx xs.length xs.length hi - HT.sIx xs.length 0 lo)
theorem cut_map {α : Type} (f : α → V) (xs : List α) (lo hi : Option Int) : cutV (xs.map f) lo hi = (cutI xs lo hi).map f := by
  unfold cutV cutI
  rw [List.length_map, List.map_take, List.map_drop]
theorem cutI_head {α : Type} (xs : List α) : (cutI xs none (some 3)).length = min 3 xs.length := by
  unfold cutI
  rw [HT.sIx_none, show HT.sIx xs.length xs.length (some 3) = min 3 xs.length from HT.sIx_nat xs.length _ 3, List.length_take, List.length_drop]
  omega
theorem cutI_tail {α : Type} (xs : List α) (h : xs.length ≤ 3) : (cutI xs (some 3) (some 63)).length = 0 := by
  unfold cutI
  rw [show HT.sIx xs.length 0 (some 3) = min 3 xs.length from HT.sIx_nat xs.length _ 3, List.length_take, List.length_drop]
  omega
section
variable {P : Program} {w : World} {K : PySem.W.Frag} {mg : Str → Option Value} {base : Heap}
def spFolded (K : PySem.W.Frag) : Sp := fun vs H Q _ => ∃ (a : Addr) (ns : List Int), vs = [.ref a, .int 3] ∧ SqL K H a (ns.map V.int) ∧ ns.length ≤ 63 ∧
  ∀ (p : Addr) (ms : List Int) (H' : Hp), Same H H' → H p = none → H' p = some (.lst (ms.map V.int)) → ms.length ≤ 3 → Q (.ref p) H'
theorem ok_folded (T : Txt K mg w) : FnOk P w K mg base CX0 1 T.f_folded T.fd_folded p_folded (spFolded K) := by
  refine T.F_folded.ok sc_folded (fun vs H Q E h => ?_) (fun cdv A outer s H vs Q E hr h => ?_)
  · obtain ⟨a, ns, rfl, _⟩ := h
    rfl
  · obtain ⟨a, ns, rfl, hS, hl, q⟩ := h
    refine ⟨_, (pss_cons (ps_set (i := 2) sc_folded.nd rfl (.inl rfl) (pe_callTy call_list_of (by rfl) T.m_list (by decide +kernel) (pa_cons (pe_slice sl_list (pv 0) po_none (po_some (pv 1))) pa_nil)))
      (pss_cons (ps_for PassesOwn.never rfl (pi_enum (by rfl) T.m_enumerate (pa_cons (pe_slice sl_list (pv 0) (po_some (pv 1)) (po_some pe_int)) pa_nil)) (pg_tup rfl (pgs_cons (pg_name (i := 3) sc_folded.nd rfl (.inl rfl)) (pgs_cons (pg_name (i := 4) sc_folded.nd rfl (.inl rfl)) pgs_nil)))
        (pss_one (ps_asg (pe_op op_add (pe_ix ix_list (pv 2) (pe_op op_mod (pv 3) (pv 1)) (fun _ _ => rfl)) (pe_op op_mul (pv 4) (pe_op op_add (pv 3) pe_int))) (pg_sub (pv 2) (pe_op op_mod (pv 3) (pv 1)) set_list))))
      (pss_one (ps_ret (pv 2))))), ?_⟩
    -- the cells
    refine ⟨.ref a, rfl, .int 3, rfl, 3, rfl, a, _, rfl, hS, fun c nc => ?_⟩
    have s1 := same_upd (o := .lst (cutV (ns.map V.int) none (some 3))) nc
    refine ⟨c, _, rfl, .inl (.inl (.inl upd_same)), fun l nl => ?_⟩
    have s2 := s1.trans (same_upd (o := .lst (cutV (ns.map V.int) none (some 3))) nl)
    have nlH : H l = none := s1.free nl
    -- the rest of the script
    refine ⟨.ref a, rfl, .int 3, rfl, 3, rfl, 63, rfl, a, _, rfl, s2.seq hS, fun d nd => ?_⟩
    have s3 := s2.trans (same_upd (o := .lst (cutV (ns.map V.int) (some 3) (some 63))) nd)
    have nld : l ≠ d := ne_of_none upd_same nd
    refine ⟨d, _, rfl, .inl (.inl upd_same), ?_⟩
    rw [cut_map V.int, cut_map V.int] at *
    refine for_it (walk_enum (xs := (cutI ns (some 3) (some 63)).map V.int)) (fun i σ H3 => ∃ (y3 y4 : Option V) (ms : List Int), σ = [some (.ref a), some (.int 3), some (.ref l), y3, y4] ∧ Same H H3 ∧ H3 d = some (.lst ((cutI ns (some 3) (some 63)).map V.int)) ∧ H3 l = some (.lst (ms.map V.int)) ∧ ms.length = min 3 ns.length) ?_ ?_ ?_ ?_
    · refine ⟨none, none, cutI ns none (some 3), rfl, s3, upd_same, ?_, cutI_head ns⟩
      rw [upd_ne nld, upd_same]
    · rintro i σ H3 _ ⟨y3, y4, ms, rfl, _, hd, _⟩
      exact .inl (.inl hd)
    · rintro i x σ H3 H4 hi ⟨y3, y4, ms, rfl, sm, hd, hl3, hm⟩ ⟨t, x1, x2, rfl, nt, rfl, e1, e2⟩
      rw [List.length_map] at hi
      have e1' : V.int (i : Nat) = x1 := Option.some.inj e1
      subst e1'
      have e2' : x2 = .int (cutI ns (some 3) (some 63))[i] := by
        have : ((cutI ns (some 3) (some 63)).map V.int)[i]? = some x2 := e2
        rw [List.getElem?_map, List.getElem?_eq_getElem hi] at this
        exact (Option.some.inj this).symm
      subst e2'
      have h3 : ms.length = 3 := by
        by_cases hc : ns.length ≤ 3
        · rw [cutI_tail ns hc] at hi; omega
        · omega
      have nlt : l ≠ t := ne_of_none hl3 nt
      have hl4 : (upd H3 t (.tup [.int (i : Nat), .int (cutI ns (some 3) (some 63))[i]])) l = some (.lst (ms.map V.int)) := by rw [upd_ne nlt]; exact hl3
      have hlt : ((i : Int) % 3).toNat < ms.length := by omega
      refine ⟨t, _, rfl, .inl (.inl upd_same), rfl, _, _, rfl, _, _, rfl, rfl, ?_⟩
      refine ⟨.ref l, rfl, .int i, rfl, .int 3, rfl, i, 3, rfl, rfl, by show (0 : Int) < 3; decide, l, _, _, .int ms[((i : Int) % 3).toNat], rfl, rfl, .inl (.inl hl4), ?_, ?_⟩
      · refine at_of (j := ((i : Int) % 3).toNat) (by omega) ?_
        rw [List.getElem?_map, List.getElem?_eq_getElem hlt]; rfl
      refine ⟨_, rfl, .int i, rfl, i, 2, rfl, rfl, _, _, rfl, rfl, .inr ⟨by omega, ?_⟩, _, _, rfl, rfl, .ref l, rfl, .int i, rfl, .int 3, rfl, i, 3, rfl, rfl, by show (0 : Int) < 3; decide, l, _, _, ((i : Int) % 3).toNat, rfl, rfl, hl4, ?_, ?_⟩
      · have : (cutI ns (some 3) (some 63)).length ≤ ns.length := by
          unfold cutI; rw [List.length_take, List.length_drop]; omega
        omega
      · show ixN (ms.map V.int).length ((i : Int) % 3) = some _
        unfold ixN
        rw [List.length_map, if_pos (by omega), if_pos (by omega)]
      · refine ⟨_, _, ms.set ((i : Int) % 3).toNat (ms[((i : Int) % 3).toNat] + (cutI ns (some 3) (some 63))[i] * ((i : Int) + 2)), rfl, ?_, ?_, ?_, ?_⟩
        · exact fun b o e => by
            rw [upd_ne (ne_of_none e nlH), upd_ne (ne_of_none (sm b o e) nt)]
            exact sm b o e
        · rw [upd_ne nld.symm, upd_ne (ne_of_none hd nt)]
          exact hd
        · rw [upd_same, List.map_set]
        · rw [List.length_set]; exact hm
    · rintro σ H3 ⟨y3, y4, ms, rfl, sm, hd, hl3, hm⟩
      exact ⟨.ref l, rfl, q l ms H3 sm nlH hl3 (by omega)⟩
end
end Lh

namespace Lh
open PySem PySem.Spec PyProof.Rows L2
/-- data of at most n levels, no level longer than 1000 -/
def okD : Nat → PyData → Prop
  | _, .none => True
  | _, .bool _ => True
  | _, .int _ => True
  | _, .str _ => True
  | n + 1, .list ds => ds.length ≤ 8388608 ∧ ∀ d ∈ ds, okD n d
  | n + 1, .tuple ds => ds.length ≤ 8388608 ∧ ∀ d ∈ ds, okD n d
  | _, _ => False
def tyD : PyData → String
  | .none => "NoneType"
  | .bool _ => "bool"
  | .int _ => "int"
  | .str _ => "str"
  | .list _ => "list"
  | .tuple _ => "tuple"
  | .dict _ => "dict"
theorem Rp.ty {bx : Addr} {K : PySem.W.Frag} {H : Hp} {v : V} {d : PyData} (h : Rp bx H v d) : TyX K H v (.type (tyD d)) := by
  cases h with
  | non => exact .base .non
  | bl b => exact .base (.bl b)
  | int i => exact .base (.int i)
  | str x => exact .base (.str x)
  | lst h _ _ => exact .base (.lst h)
  | tup h _ _ => exact h.ty
theorem iteP {A B : Prop} {c : Bool} (h : c = true) (a : A) : if c = true then A else B := by rw [if_pos h]; exact a
theorem iteN {A B : Prop} {c : Bool} (h : c = false) (b : B) : if c = true then A else B := by rw [h, if_neg Bool.false_ne_true]; exact b
theorem yes {σ : L2.St} {H : Hp} {Q : Bool → Hp → Prop} (h : Q true H) : tYes σ H Q := h
theorem blC {Q : VK} {c d : Bool} {H : Hp} (h : c = d) (q : Q (.bl d) H) : Q (.bl c) H := by rw [h]; exact q
theorem blT {Q : VK} {c : Bool} {H : Hp} (h : c = true) (q : Q (.bl true) H) : Q (.bl c) H := by rw [h]; exact q
/-- isinstance(name, T) -/
theorem rd_isi {K : PySem.W.Frag} {σ : L2.St} {H : Hp} {Q : VK} {i : Nat} {x : V} {T c : String} {b : Bool} (hs : σ[i]? = some (some x)) (ty : TyX K H x (.type T)) (h : kitB T c = some b) (q : Q (.bl b) H) :
    tCB (rIsi K) (tCons (tVar i) (tCons (tC (.ty c)) tNil)) σ H Q := ⟨x, hs, x, .ty c, .type T, .type c, b, rfl, .ty c, ty, kit_ty h, q⟩
/-- isinstance(name, (T, U)) -/
theorem rd_isi2 {K : PySem.W.Frag} {σ : L2.St} {H : Hp} {Q : VK} {i : Nat} {x : V} {T c e : String} {b b2 : Bool} (hs : σ[i]? = some (some x)) (ty : TyX K H x (.type T)) (h : kitB T c = some b) (h2 : kitB T e = some b2)
    (q : ∀ p, H p = none → Q (.bl (b || b2)) (upd H p (.tup [.ty c, .ty e]))) (ty2 : ∀ p, H p = none → TyX K (upd H p (.tup [.ty c, .ty e])) x (.type T)) :
    tCB (rIsiT K) (tCons (tVar i) (tCons (tTup (tCons (tC (.ty c)) (tCons (tC (.ty e)) tNil))) tNil)) σ H Q :=
  ⟨x, hs, by show 2 ≤ sizeLine; decide, fun p hp => ⟨x, p, _, .type T, [.type c, .type e], b || b2, rfl, upd_same, .cons (.ty c) (.cons (.ty e) .nil), ty2 p hp, kitAny_cons (kit_ty h) (fun z => kitAny_cons (kit_ty h2) (fun z2 => by rw [z, z2]; rfl) (fun z2 => by rw [z2, Bool.or_true])) (fun z => by rw [z, Bool.true_or]), q p hp⟩⟩
theorem walk_zipT {K : PySem.W.Frag} {a b : Addr} {xs ys : List V} {n : Nat} (h1 : xs.length = n) (h2 : ys.length = n) : Walk (RZ.ItzT K a b) n (fun H => SqT K H a xs ∧ SqT K H b ys) (YPair (fun i => xs[i]?) (fun i => ys[i]?)) := by
  refine ⟨fun i _ hi q => ⟨xs, ys, xs[i], ys[i], q.1, q.2, by simp [h1, hi], by simp [h2, hi]⟩, fun _ q => ⟨xs, ys, q.1, q.2, .inl (by omega)⟩, ?_⟩
  rintro i H v H' _ q ⟨T, x, z, h1, h2, h3, h4, h5⟩
  exact ⟨T, x, z, h1, h2, h3, h4 xs q.1, h5 ys q.2⟩
def lcSc : Expr → Scope
  | .ListComp _ _ sc _ => sc
  | _ => { kind := .function, names := [], isGenerator := false, isCoroutine := false }
def retE : List Stmt → Expr
  | [.Return (some e) _] => e
  | _ => .Constant .none 0 ⟨0, 0, 0, 0⟩
def argE : Expr → Expr
  | .Call _ (e :: _) _ _ => e
  | e => e
def isCell (osc : Scope) (k : NameKind) (n : Str) : Bool := k == .free && osc.kind == .function && osc.names.lookup n == some .cell
/-- the names of an inner scope, as the outer one has them -/
def relS (sc osc : Scope) : Scope := { sc with names := sc.names.map fun z => if isCell osc z.2 z.1 = true then (z.1, .cell) else (z.1, z.2) }
def rTupN (K : PySem.W.Frag) : List V → Hp → VK → Prop := fun xs H Q => ∃ p ys, xs = [.ref p] ∧ SqL K H p ys ∧ ∀ l (o : Obj), H l = none → o.dict = none → Q (.ref l) (upd H l (.frz o (.tup ys)))
theorem blkOk_sc {N : List Str} {sc sc2 scope : Scope} {own : List (Str × Nat)} (e : sc = sc2) (h : blkC N sc2 scope own = true) : BlkOk N sc scope own := by
  subst e
  exact blkOk_by h
def asgE : Stmt → Expr
  | .Assign _ e _ => e
  | _ => .Constant .none 0 ⟨0, 0, 0, 0⟩
def forB : Stmt → List Stmt
  | .For _ _ b _ _ => b
  | _ => []
def noS : Stmt := .Pass ⟨0, 0, 0, 0⟩
def rLenQ (K : PySem.W.Frag) : List V → Hp → VK → Prop := fun xs H Q => ∃ p ys, xs = [.ref p] ∧ (SqL K H p ys ∨ SqT K H p ys) ∧ Q (.int ys.length) H
section
variable {P : Program} {w : World} {K : PySem.W.Frag} {mg : Str → Option Value} {base : Heap}
end
end Lh

namespace Lh
open PySem PySem.Spec PyProof.Rows L2
/-! ### rules -/
inductive Rule where
  | held (n : Int)
  | sum (own : Int) (ties : List (Int × Int))
  | cap (own : Int) (ties : List (Int × Int)) (most : Int)
  | kinds (own : Int) (seen : List Int)
  | next (seen : List Int)
  | free (seen : List Int)
/-- tuples stay -/
structure Keep (H H' : Hp) : Prop where
  tup : ∀ a xs, H a = some (.tup xs) → H' a = some (.tup xs)
  frz : ∀ a o u, H a = some (.frz o u) → H' a = some (.frz o u)
theorem Keep.refl (H : Hp) : Keep H H := ⟨fun _ _ h => h, fun _ _ _ h => h⟩
theorem Keep.trans {H H1 H2 : Hp} (a : Keep H H1) (b : Keep H1 H2) : Keep H H2 := ⟨fun x y h => b.tup x y (a.tup x y h), fun x y z h => b.frz x y z (a.frz x y z h)⟩
theorem Keep.same {H H' : Hp} (e : Same H H') : Keep H H' := ⟨fun a xs h => e a _ h, fun a o u h => e a _ h⟩
theorem Keep.ext {bx : Addr} {c : Int} {H H' : Hp} (e : Ext bx H H') (b : Box bx c H) : Keep H H' := by
  obtain ⟨x, y, z, hb, _⟩ := b
  exact ⟨fun a xs h => e a _ (ne_of h hb (by intro z; cases z)) h, fun a o u h => e a _ (ne_of h hb (by intro z; cases z)) h⟩
theorem TupAt.keep {H H' : Hp} {a : Addr} {xs : List V} (k : Keep H H') (h : TupAt H a xs) : TupAt H' a xs := by
  rcases h with h | ⟨o, d, h⟩
  · exact .inl (k.tup _ _ h)
  · exact .inr ⟨o, d, k.frz _ _ _ h⟩
def PairAtH (H : Hp) (p : Addr) (q : Int × Int) : Prop := H p = some (.tup [.int q.1, .int q.2])
def TiesAt (H : Hp) (t : Addr) (ties : List (Int × Int)) : Prop := ∃ (o : Obj) (ps : List Addr), o.dict = none ∧ H t = some (.frz o (.tup (ps.map V.ref))) ∧ Paired (PairAtH H) ps ties
def SeenAt (H : Hp) (t : Addr) (seen : List Int) : Prop := TupAt H t (seen.map V.int)
def RuleAt (H : Hp) (v : V) : Rule → Prop
  | .held n => ∃ a, v = .ref a ∧ H a = some (.tup [.str "held", .int n])
  | .sum own ties => ∃ a t, v = .ref a ∧ H a = some (.tup [.str "sum", .int own, .ref t]) ∧ TiesAt H t ties
  | .cap own ties most => ∃ a t, v = .ref a ∧ H a = some (.tup [.str "cap", .int own, .ref t, .int most]) ∧ TiesAt H t ties
  | .kinds own seen => ∃ a t, v = .ref a ∧ H a = some (.tup [.str "kinds", .int own, .ref t]) ∧ SeenAt H t seen
  | .next seen => ∃ a t, v = .ref a ∧ H a = some (.tup [.str "next", .ref t]) ∧ SeenAt H t seen
  | .free seen => ∃ a t, v = .ref a ∧ H a = some (.tup [.str "free", .ref t]) ∧ SeenAt H t seen
theorem pairs_keep {H H' : Hp} (k : Keep H H') : ∀ {ps : List Addr} {ties : List (Int × Int)}, Paired (PairAtH H) ps ties → Paired (PairAtH H') ps ties
  | _, _, .nil => .nil
  | _, _, .cons h r => .cons (k.tup _ _ h) (pairs_keep k r)
theorem TiesAt.keep {H H' : Hp} {t : Addr} {ties : List (Int × Int)} (k : Keep H H') (h : TiesAt H t ties) : TiesAt H' t ties := by
  obtain ⟨o, ps, h1, h2, h3⟩ := h
  exact ⟨o, ps, h1, k.frz _ _ _ h2, pairs_keep k h3⟩
theorem SeenAt.keep {H H' : Hp} {t : Addr} {seen : List Int} (k : Keep H H') (h : SeenAt H t seen) : SeenAt H' t seen := TupAt.keep k h
theorem RuleAt.keep {H H' : Hp} {v : V} (k : Keep H H') : ∀ {r : Rule}, RuleAt H v r → RuleAt H' v r
  | .held n, ⟨a, e, h⟩ => ⟨a, e, k.tup _ _ h⟩
  | .sum _ _, ⟨a, t, e, h, q⟩ => ⟨a, t, e, k.tup _ _ h, q.keep k⟩
  | .cap _ _ _, ⟨a, t, e, h, q⟩ => ⟨a, t, e, k.tup _ _ h, q.keep k⟩
  | .kinds _ _, ⟨a, t, e, h, q⟩ => ⟨a, t, e, k.tup _ _ h, q.keep k⟩
  | .next _, ⟨a, t, e, h, q⟩ => ⟨a, t, e, k.tup _ _ h, q.keep k⟩
  | .free _, ⟨a, t, e, h, q⟩ => ⟨a, t, e, k.tup _ _ h, q.keep k⟩
def smallI (i : Int) : Prop := 0 ≤ i ∧ i ≤ 1000
/-- rising persons below many -/
def Rising (many : Int) (ns : List Int) : Prop := ns.Pairwise (· < ·) ∧ ∀ n ∈ ns, 0 ≤ n ∧ n < many
def Rule.Wf (many : Int) : Rule → Prop
  | .held n => smallI n
  | .sum own ties => smallI own ∧ Rising many (ties.map (·.1)) ∧ ∀ q ∈ ties, 1 ≤ q.2 ∧ q.2 ≤ 1000
  | .cap own ties most => smallI own ∧ Rising many (ties.map (·.1)) ∧ (∀ q ∈ ties, 1 ≤ q.2 ∧ q.2 ≤ 1000) ∧ smallI most
  | .kinds own seen => smallI own ∧ Rising many seen
  | .next seen => Rising many seen
  | .free seen => Rising many seen
def Rule.persons : Rule → List Int
  | .held _ => []
  | .sum _ ties => ties.map (·.1)
  | .cap _ ties _ => ties.map (·.1)
  | .kinds _ seen => seen
  | .next seen => seen
  | .free seen => seen
theorem Rising.sub {many : Int} {ns ms : List Int} (s : ms.Sublist ns) (h : Rising many ns) : Rising many ms := ⟨h.1.sublist s, fun n hn => h.2 n (s.subset hn)⟩
/-- an item of a written list -/
theorem pick {xs : List V} {i : Int} (h0 : 0 ≤ i) (h1 : i < xs.length) : ∃ v, v ∈ xs ∧ atI xs i = some v := by
  have hj : i.toNat < xs.length := by omega
  exact ⟨xs[i.toNat], List.getElem_mem hj, at_of (by omega) (List.getElem?_eq_getElem hj)⟩
section
variable {P : Program} {w : World} {K : PySem.W.Frag} {mg : Str → Option Value} {base : Heap}
def spSome : Sp := fun vs H Q _ => ∃ (bx p : Addr) (c m : Int) (ns : List Int), vs = [.ref bx, .ref p, .int m] ∧ 0 < m ∧ m ≤ 1000000 ∧ c + ns.length ≤ 1000000000 ∧ ns.length ≤ 1000 ∧ Box bx c H ∧ H p = some (.lst (ns.map V.int)) ∧ p ≠ bx ∧
  ∀ (q : Addr) (ms : List Int) (H' : Hp), Ext bx H H' → Box bx (c + ns.length) H' → H q = none → H' q = some (.lst (ms.map V.int)) → ms.Sublist ns → Q (.ref q) H'
end
end Lh

namespace Lh
open PySem PySem.Spec PyProof.Rows L2
section
variable {P : Program} {w : World} {K : PySem.W.Frag} {mg : Str → Option Value} {base : Heap}
theorem Paired.snoc {α β : Type} {R : α → β → Prop} {x : α} {y : β} (r : R x y) : ∀ {xs : List α} {ys : List β}, Paired R xs ys → Paired R (xs ++ [x]) (ys ++ [y])
  | _, _, .nil => .cons r .nil
  | _, _, .cons h t => .cons h (Paired.snoc r t)
def spSumRule : Sp := fun vs H Q _ => ∃ (bx p : Addr) (c far many : Int) (ns : List Int), vs = [.ref bx, .ref p, .int far] ∧ 0 < far ∧ far ≤ 999 ∧ c + 2 * ns.length + 4 ≤ 1000000000 ∧ ns.length ≤ 1000 ∧ Box bx c H ∧ H p = some (.lst (ns.map V.int)) ∧ p ≠ bx ∧ Rising many ns ∧
  ∀ (v : V) (r : Rule) (H' : Hp), Ext bx H H' → Box bx (c + 2 * ns.length + 4) H' → RuleAt H' v r → r.Wf many → r.persons = ns → Q v H'
end
end Lh

namespace Lh
open PySem PySem.Spec PyProof.Rows L2
section
variable {P : Program} {w : World} {K : PySem.W.Frag} {mg : Str → Option Value} {base : Heap}
def spRule : Sp := fun vs H Q _ => ∃ (bx p : Addr) (c far many : Int) (m : V) (ns : List Int), vs = [.ref bx, m, .ref p, .int far] ∧ 0 < far ∧ far ≤ 999 ∧ c + 3 * ns.length + 6 ≤ 1000000000 ∧ ns.length ≤ 1000 ∧ Box bx c H ∧ H p = some (.lst (ns.map V.int)) ∧ p ≠ bx ∧ Rising many ns ∧
  ∀ (v : V) (r : Rule) (H' : Hp), Ext bx H H' → Box bx (c + 3 * ns.length + 6) H' → RuleAt H' v r → r.Wf many → r.persons.Sublist ns → Q v H'
end
end Lh

namespace Lh
open PySem PySem.Spec PyProof.Rows L2
/-! ### what a rule tells -/
theorem nodup_len {α : Type} [DecidableEq α] : ∀ (xs ys : List α), xs.Nodup → (∀ x ∈ xs, x ∈ ys) → xs.length ≤ ys.length
  | [], _, _, _ => Nat.zero_le _
  | x :: t, ys, nd, h => by
    have hx : x ∈ ys := h x List.mem_cons_self
    have nt := List.nodup_cons.mp nd
    have h2 := nodup_len t (ys.erase x) nt.2 (fun y hy => by
      have ne : y ≠ x := fun e => nt.1 (by rw [← e]; exact hy)
      exact (List.mem_erase_of_ne ne).mpr (h y (List.mem_cons_of_mem _ hy)))
    rw [List.length_erase_of_mem hx] at h2
    have : 0 < ys.length := List.length_pos_of_mem hx
    rw [List.length_cons]
    omega
def wgt (ties : List (Int × Int)) (p : Int) : Int := ((ties.find? fun q => decide (q.1 = p)).map (·.2)).getD 0
def IsMex (ns : List Int) (x : Int) : Prop := x ∉ ns ∧ 0 ≤ x ∧ ∀ j, 0 ≤ j → j < x → j ∈ ns
def Tell : Rule → List (Int × Int) → Int → Prop
  | .held n, _, x => x = n
  | .sum own ties, lot, x => x = own + (lot.map fun q => wgt ties q.1).sum
  | .cap own ties most, lot, x => x = min (own + (lot.map fun q => wgt ties q.1).sum) most
  | .kinds own _, lot, x => ∃ ks : List Int, ks.Nodup ∧ (∀ k, k ∈ ks ↔ k ∈ lot.map (·.2)) ∧ x = own + ks.length
  | .next _, lot, x => (lot = [] ∧ x = 0) ∨ (x - 1 ∈ lot.map (·.2) ∧ ∀ y ∈ lot.map (·.2), y ≤ x - 1)
  | .free _, lot, x => IsMex (lot.map (·.2)) x
theorem Tell.unique : ∀ {r : Rule} {lot : List (Int × Int)} {x y : Int}, Tell r lot x → Tell r lot y → x = y
  | .held _, _, _, _, h, k => h.trans k.symm
  | .sum _ _, _, _, _, h, k => h.trans k.symm
  | .cap _ _ _, _, _, _, h, k => h.trans k.symm
  | .kinds _ _, lot, x, y, ⟨a, na, ma, ha⟩, ⟨b, nb, mb, hb⟩ => by
    have h1 := nodup_len a b na (fun z hz => (mb z).mpr ((ma z).mp hz))
    have h2 := nodup_len b a nb (fun z hz => (ma z).mpr ((mb z).mp hz))
    omega
  | .next _, lot, x, y, h, k => by
    rcases h with ⟨h1, h2⟩ | ⟨h1, h2⟩
    · rcases k with ⟨k1, k2⟩ | ⟨k1, k2⟩
      · omega
      · rw [h1] at k1; exact absurd k1 (by simp)
    · rcases k with ⟨k1, k2⟩ | ⟨k1, k2⟩
      · rw [k1] at h1; exact absurd h1 (by simp)
      · have := h2 _ k1; have := k2 _ h1; omega
  | .free _, lot, x, y, ⟨h1, h2, h3⟩, ⟨k1, k2, k3⟩ => by
    rcases Int.lt_trichotomy x y with h | h | h
    · exact absurd (k3 x h2 h) h1
    · exact h
    · exact absurd (h3 y k2 h) k1
/-! ### dicts of ties -/
def kvOf (ties : List (Int × Int)) : List (Key × V) := ties.map fun q => (Sum.inl q.1, V.int q.2)
theorem merge_new : ∀ (more acc : List (Key × V)), ((acc ++ more).map (·.1)).Nodup → mergeK acc more = acc ++ more
  | [], acc, _ => by rw [List.append_nil]; rfl
  | q :: t, acc, nd => by
    have hq : (acc.any fun kv => decide (kv.1 = q.1)) = false := by
      rw [List.any_eq_false]
      intro kv hkv e
      have e' : kv.1 = q.1 := of_decide_eq_true e
      rw [List.map_append, List.nodup_append] at nd
      exact nd.2.2 _ (List.mem_map_of_mem hkv) q.1 (by simp) e'
    have e1 : mergeK acc (q :: t) = mergeK (putK acc q.1 q.2) t := rfl
    have e2 : putK acc q.1 q.2 = acc ++ [q] := by
      unfold putK
      rw [hq, if_neg Bool.false_ne_true]
    rw [e1, e2, merge_new t (acc ++ [q]) (by rw [List.append_assoc]; exact nd), List.append_assoc]
    rfl
theorem kv_nodup {ties : List (Int × Int)} (h : (ties.map (·.1)).Nodup) : ((kvOf ties).map (·.1)).Nodup := by
  unfold kvOf
  rw [List.map_map]
  have e : ((fun q : Key × V => q.1) ∘ fun q : Int × Int => ((Sum.inl q.1 : Key), V.int q.2)) = (fun n : Int => (Sum.inl n : Key)) ∘ (fun q : Int × Int => q.1) := rfl
  rw [e, ← List.map_map, List.nodup_iff_pairwise_ne]
  rw [List.nodup_iff_pairwise_ne] at h
  exact List.Pairwise.map _ (fun a b z q => z (Sum.inl.inj q)) h
theorem kv_get : ∀ {ties : List (Int × Int)} {p : Int}, p ∈ ties.map (·.1) → valV (kvOf ties) (Sum.inl p) = some (.int (wgt ties p))
  | [], p, h => absurd h (by simp)
  | q :: t, p, h => by
    by_cases e : q.1 = p
    · have e1 : valV (kvOf (q :: t)) (Sum.inl p) = some (V.int q.2) := valV_pos (p := ((Sum.inl q.1 : Key), V.int q.2)) (by rw [e])
      rw [e1]
      unfold wgt
      rw [List.find?_cons, decide_eq_true e]
      rfl
    · have e1 : valV (kvOf (q :: t)) (Sum.inl p) = valV (kvOf t) (Sum.inl p) := valV_neg (p := ((Sum.inl q.1 : Key), V.int q.2)) (fun z => e (Sum.inl.inj z))
      have h' : p ∈ t.map (·.1) := by
        rw [List.map_cons, List.mem_cons] at h
        rcases h with h | h
        · exact absurd h.symm e
        · exact h
      rw [e1, kv_get h']
      unfold wgt
      rw [List.find?_cons, decide_eq_false e]
theorem Rising.nodup {many : Int} {ns : List Int} (h : Rising many ns) : ns.Nodup := by
  rw [List.nodup_iff_pairwise_ne]
  exact h.1.imp fun z => by omega
/-! ### a walk over pairs -/
theorem walk_tupR {K : PySem.W.Frag} {t : Addr} (ps : List Addr) : Walk (Itt K t) ps.length (fun H => SqT K H t (ps.map V.ref)) (YAt (ps.map V.ref)) := by
  have h := walk_tup (K := K) (a := t) (xs := ps.map V.ref)
  rw [List.length_map] at h
  exact h
theorem walk_listR {K : PySem.W.Frag} {t : Addr} (ps : List Addr) : Walk (Itl K t) ps.length (fun H => SqL K H t (ps.map V.ref)) (YAt (ps.map V.ref)) := by
  have h := walk_list (K := K) (a := t) (xs := ps.map V.ref)
  rw [List.length_map] at h
  exact h
theorem lc_pairs {K : PySem.W.Frag} {J : It} {G : Hp → Prop} {ps : List Addr} {lot : List (Int × Int)} {H1 : Hp} {D : Addr} {σ : L2.St} {vs : List Nat} {te : TE} {Qd : Hp → Prop} {i j : Nat} (f : Int × Int → Int)
    (wk : Walk J ps.length G (YAt (ps.map V.ref))) (hp : Paired (PairAtH H1) ps lot) (hD : H1 D = none) (hl : ps.length ≤ 1000) (hG : ∀ H3, Same H1 H3 → G H3)
    (hw : ∀ a b, wipe (((wipe σ vs).set i a).set j b) vs = wipe σ vs)
    (he : ∀ q ∈ lot, ∀ H3, Same H1 H3 → ∀ Q : VK, Q (.int (f q)) H3 → te (((wipe σ vs).set i (some (.int q.1))).set j (some (.int q.2))) H3 Q)
    (hq : ∀ H', Same H1 H' → H' D = some (.lst ((lot.map f).map V.int)) → Qd H') :
    ∃ W : Nat → Nat → Hp → Prop, (∃ m, W 0 m (upd H1 D (.lst []))) ∧ ∀ i1 m H, W i1 m H →
      (J.stop i1 H ∧ Qd H) ∨ (J.go i1 H ∧ ∃ Nx : Hp → Prop, (∀ H', Nx H' → ∃ m', m' < m ∧ W (i1 + 1) m' H') ∧ ∀ x H', J.yld i1 H x H' → gTup K 2 (gCons (gName i) (gCons (gName j) gNil)) x (wipe σ vs) H' fun σ2 H2 => wipe σ2 vs = wipe σ vs ∧ tYes σ2 H2 fun b H3 =>
        if b = true then te σ2 H3 fun y H4 => ∃ acc, H4 D = some (.lst acc) ∧ acc.length < sizeLine ∧ Nx (upd H4 D (.lst (acc ++ [y]))) else Nx H3) := by
  have ll : ps.length = lot.length := hp.length
  refine lc_it wk (fun n H3 => Same H1 H3 ∧ H3 D = some (.lst (((lot.take n).map f).map V.int))) ⟨same_upd hD, upd_same⟩ (fun n H3 _ h => hG H3 h.1) ?_ ?_
  · rintro n x H3 H4 hn ⟨sm, h3⟩ ⟨rfl, hx⟩
    rw [List.getElem?_map, List.getElem?_eq_getElem hn] at hx
    have ex : x = .ref ps[n] := (Option.some.inj hx).symm
    subst ex
    have hn2 : n < lot.length := by omega
    have pa : PairAtH H1 ps[n] lot[n] := by
      have : ∀ {ps : List Addr} {lot : List (Int × Int)}, Paired (PairAtH H1) ps lot → ∀ (n : Nat) (h1 : n < ps.length) (h2 : n < lot.length), PairAtH H1 ps[n] lot[n] := by
        intro ps lot hp
        induction hp with
        | nil => intro n h1; exact absurd h1 (by simp)
        | cons r t ih =>
          intro n h1 h2
          cases n with
          | zero => exact r
          | succ n => exact ih n (by simpa using h1) (by simpa using h2)
      exact this hp n hn hn2
    refine ⟨ps[n], _, rfl, .inl (.inl (sm _ _ pa)), rfl, _, _, rfl, _, _, rfl, rfl, hw _ _, yes (iteT ?_)⟩
    refine he lot[n] (List.getElem_mem hn2) _ sm _ ⟨_, h3, ?_, same_mut sm hD, ?_⟩
    · rw [List.length_map, List.length_map, List.length_take]; exact small1000 (by omega)
    · rw [upd_same, List.take_add_one, List.getElem?_eq_getElem hn2, List.map_append, List.map_append]; rfl
  · rintro H3 ⟨sm, h3⟩
    rw [ll, List.take_length] at h3
    exact hq H3 sm h3
end Lh

namespace Lh
open PySem PySem.Spec PyProof.Rows L2
section
variable {P : Program} {w : World} {K : PySem.W.Frag} {mg : Str → Option Value} {base : Heap}
def spSeenBy : Sp := fun vs H Q _ => ∃ (v : V) (r : Rule), vs = [v] ∧ RuleAt H v r ∧ r.persons.length ≤ 1000 ∧ ∀ (p : Addr) (H' : Hp), Same H H' → H p = none → H' p = some (.lst (r.persons.map V.int)) → Q (.ref p) H'
end
end Lh

namespace Lh
open PySem PySem.Spec PyProof.Rows L2
/-- a lot in the heap, a list of pairs or a tuple of them -/
def LotAt (H : Hp) (v : V) (lot : List (Int × Int)) : Prop := ∃ (a : Addr) (ps : List Addr), v = .ref a ∧ (H a = some (.lst (ps.map V.ref)) ∨ TupAt H a (ps.map V.ref)) ∧ Paired (PairAtH H) ps lot ∧ ps.length ≤ 1000
theorem LotAt.same {H H' : Hp} {v : V} {lot : List (Int × Int)} (s : Same H H') (h : LotAt H v lot) : LotAt H' v lot := by
  obtain ⟨a, ps, e, h1, h2, h3⟩ := h
  refine ⟨a, ps, e, ?_, pairs_keep (Keep.same s) h2, h3⟩
  rcases h1 with h1 | h1
  · exact .inl (s _ _ h1)
  · exact .inr (h1.keep (Keep.same s))
theorem pairs_sq {K : PySem.W.Frag} {H : Hp} : ∀ {ps : List Addr} {ties : List (Int × Int)}, Paired (PairAtH H) ps ties → Paired (fun p kv => SqT K H p [kV kv.1, kv.2]) ps (kvOf ties)
  | _, _, .nil => .nil
  | _, _, .cons h r => .cons (.inl (.inl h)) (pairs_sq r)
theorem merge_kv {ties : List (Int × Int)} (h : (ties.map (·.1)).Nodup) : mergeK [] (kvOf ties) = kvOf ties := by
  rw [merge_new (kvOf ties) [] (by rw [List.nil_append]; exact kv_nodup h), List.nil_append]
section
variable {P : Program} {w : World} {K : PySem.W.Frag} {mg : Str → Option Value} {base : Heap}
theorem in_ints (x : Int) (ns : List Int) : inV (.int x) (ns.map V.int) = decide (x ∈ ns) := by
  unfold inV
  rw [List.any_map]
  rw [Bool.eq_iff_iff, List.any_eq_true, decide_eq_true_iff]
  constructor
  · rintro ⟨y, hy, e⟩
    have e' : (y == x) = true := e
    rw [← eq_of_beq e']; exact hy
  · intro h
    exact ⟨x, h, (beq_self_eq_true x : (x == x) = true)⟩
theorem flat_ints (ns : List Int) : (ns.map V.int).all flatV = true := by
  rw [List.all_map, List.all_eq_true]
  intro _ _; rfl
end
end Lh

namespace Lh
open PySem PySem.Spec PyProof.Rows L2
def seenPairs : Rule → List (Int × Int)
  | .held _ => []
  | .sum _ ties => ties
  | .cap _ ties _ => ties
  | .kinds _ seen => seen.map fun n => (n, 1)
  | .next seen => seen.map fun n => (n, 1)
  | .free seen => seen.map fun n => (n, 1)
theorem seen_persons : ∀ r : Rule, (seenPairs r).map (·.1) = r.persons
  | .held _ => rfl
  | .sum _ _ => rfl
  | .cap _ _ _ => rfl
  | .kinds _ s => by show (s.map fun n => (n, (1 : Int))).map (·.1) = s; rw [List.map_map]; exact List.map_id s
  | .next s => by show (s.map fun n => (n, (1 : Int))).map (·.1) = s; rw [List.map_map]; exact List.map_id s
  | .free s => by show (s.map fun n => (n, (1 : Int))).map (·.1) = s; rw [List.map_map]; exact List.map_id s
section
variable {P : Program} {w : World} {K : PySem.W.Frag} {mg : Str → Option Value} {base : Heap}
/-- [(one, 1) for one in seen] -/
theorem lc_ones {K : PySem.W.Frag} {t : Addr} {seen : List Int} {H1 : Hp} {D : Addr} {σ : L2.St} {vs : List Nat} {Qd : Hp → Prop} {i : Nat} (ht : SeenAt H1 t seen) (hD : H1 D = none) (hl : seen.length ≤ 1000)
    (hw : ∀ a, wipe ((wipe σ vs).set i a) vs = wipe σ vs) (hi : ∀ a : V, ((wipe σ vs).set i (some a))[i]? = some (some a))
    (hq : ∀ H' ps, Same H1 H' → H' D = some (.lst (ps.map V.ref)) → Paired (PairAtH H') ps (seen.map fun n => (n, 1)) → Qd H') :
    ∃ W : Nat → Nat → Hp → Prop, (∃ m, W 0 m (upd H1 D (.lst []))) ∧ ∀ i1 m H, W i1 m H →
      ((Itt K t).stop i1 H ∧ Qd H) ∨ ((Itt K t).go i1 H ∧ ∃ Nx : Hp → Prop, (∀ H', Nx H' → ∃ m', m' < m ∧ W (i1 + 1) m' H') ∧ ∀ x H', (Itt K t).yld i1 H x H' → gName i x (wipe σ vs) H' fun σ2 H2 => wipe σ2 vs = wipe σ vs ∧ tYes σ2 H2 fun b H3 =>
        if b = true then tTup (tCons (tVar i) (tCons (tC (.int 1)) tNil)) σ2 H3 fun y H4 => ∃ acc, H4 D = some (.lst acc) ∧ acc.length < sizeLine ∧ Nx (upd H4 D (.lst (acc ++ [y]))) else Nx H3) := by
  refine lc_it (walk_tup (xs := seen.map V.int)) (fun n H3 => ∃ ps : List Addr, Same H1 H3 ∧ H3 D = some (.lst (ps.map V.ref)) ∧ Paired (PairAtH H3) ps ((seen.take n).map fun n => (n, 1))) ⟨[], same_upd hD, upd_same, .nil⟩ ?_ ?_ ?_
  · rintro n H3 _ ⟨ps, sm, _⟩
    exact (TupAt.keep (Keep.same sm) ht).sq
  · rintro n x H3 H4 hn ⟨ps, sm, h3, pr⟩ ⟨rfl, hx⟩
    rw [List.length_map] at hn
    rw [List.getElem?_map, List.getElem?_eq_getElem hn] at hx
    have ex : x = .int seen[n] := (Option.some.inj hx).symm
    subst ex
    have pl : ps.length = n := by rw [pr.length, List.length_map, List.length_take]; omega
    refine ⟨hw _, yes (iteT ⟨.int seen[n], hi _, by show 2 ≤ sizeLine; decide, fun p np => ?_⟩)⟩
    have nDp : D ≠ p := ne_of_none h3 np
    refine ⟨_, by rw [upd_ne nDp]; exact h3, by rw [List.length_map]; exact small1000 (by omega), ps ++ [p], ?_, ?_, ?_⟩
    · exact same_mut (sm.trans (same_upd np)) hD
    · rw [upd_same, List.map_append]; rfl
    · rw [List.take_add_one, List.getElem?_eq_getElem hn, List.map_append]
      have kT : Keep H4 (upd (upd H4 p (.tup [.int seen[n], .int 1])) D (.lst (ps.map V.ref ++ [.ref p]))) := by
        refine ⟨fun a xs h => ?_, fun a o u h => ?_⟩
        · rw [upd_ne (ne_of h h3 (by intro z; cases z)), upd_ne (ne_of_none h np)]; exact h
        · rw [upd_ne (ne_of h h3 (by intro z; cases z)), upd_ne (ne_of_none h np)]; exact h
      refine Paired.snoc ?_ (pairs_keep kT pr)
      show upd (upd H4 p _) D _ p = _
      rw [upd_ne nDp.symm, upd_same]
  · rintro H3 ⟨ps, sm, h3, pr⟩
    rw [List.length_map, List.take_length] at pr
    exact hq H3 ps sm h3 pr
def wordOf : Rule → Str
  | .held _ => "held"
  | .sum _ _ => "sum"
  | .cap _ _ _ => "cap"
  | .kinds _ _ => "kinds"
  | .next _ => "next"
  | .free _ => "free"
theorem RuleAt.word {H : Hp} {v : V} : ∀ {r : Rule}, RuleAt H v r → ∃ a xs, v = .ref a ∧ H a = some (.tup (.str (wordOf r) :: xs))
  | .held _, ⟨a, e, h⟩ => ⟨a, _, e, h⟩
  | .sum _ _, ⟨a, t, e, h, _⟩ => ⟨a, _, e, h⟩
  | .cap _ _ _, ⟨a, t, e, h, _⟩ => ⟨a, _, e, h⟩
  | .kinds _ _, ⟨a, t, e, h, _⟩ => ⟨a, _, e, h⟩
  | .next _, ⟨a, t, e, h, _⟩ => ⟨a, _, e, h⟩
  | .free _, ⟨a, t, e, h, _⟩ => ⟨a, _, e, h⟩
theorem last_max : ∀ (ms : List Int) (h : ms ≠ []), ms.Pairwise (· < ·) → ∀ y ∈ ms, y ≤ ms.getLast h
  | [], h, _, _, _ => absurd rfl h
  | [m], _, _, y, hy => by rw [List.mem_singleton.mp hy]; exact Int.le_refl _
  | m :: n :: r, _, pw, y, hy => by
    rw [List.getLast_cons (List.cons_ne_nil n r)]
    have p2 := List.pairwise_cons.mp pw
    rcases List.mem_cons.mp hy with e | e
    · have h1 := p2.1 _ (List.getLast_mem (List.cons_ne_nil n r))
      rw [e]; omega
    · exact last_max (n :: r) (List.cons_ne_nil n r) p2.2 y e
theorem canLay_ints : ∀ ns : List Int, PyData.canLayAll0 (ns.map PyData.int) = true
  | [] => rfl
  | n :: r => by rw [List.map_cons]; show (PyData.canLay0 (.int n) && PyData.canLayAll0 (r.map PyData.int)) = true; rw [canLay_ints r]; rfl
theorem depth_ints : ∀ ns : List Int, PyData.depthAll (ns.map PyData.int) = 0
  | [] => rfl
  | n :: r => by rw [List.map_cons]; show max 0 (PyData.depthAll (r.map PyData.int)) = 0; rw [depth_ints r]; rfl
theorem shaped_ints (ns : List Int) : SeqAt.shaped (.list (ns.map PyData.int)) = true := by
  show (PyData.canLayAll0 (ns.map PyData.int) && decide (PyData.depthAll (ns.map PyData.int) + 1 ≤ 64)) = true
  rw [canLay_ints, depth_ints]
  rfl
/-- [e for n in numbers] -/
theorem lc_ints {K : PySem.W.Frag} {t : Addr} {ns : List Int} {H1 : Hp} {D : Addr} {σ : L2.St} {vs : List Nat} {te : TE} {Qd : Hp → Prop} {i : Nat} (f : Int → Int) (ht : H1 t = some (.lst (ns.map V.int))) (hD : H1 D = none) (hl : ns.length ≤ 1000)
    (hw : ∀ a, wipe ((wipe σ vs).set i a) vs = wipe σ vs)
    (he : ∀ n ∈ ns, ∀ H3, Same H1 H3 → ∀ Q : VK, Q (.int (f n)) H3 → te ((wipe σ vs).set i (some (.int n))) H3 Q)
    (hq : ∀ H', Same H1 H' → H' D = some (.lst ((ns.map f).map V.int)) → Qd H') :
    ∃ W : Nat → Nat → Hp → Prop, (∃ m, W 0 m (upd H1 D (.lst []))) ∧ ∀ i1 m H, W i1 m H →
      ((Itl K t).stop i1 H ∧ Qd H) ∨ ((Itl K t).go i1 H ∧ ∃ Nx : Hp → Prop, (∀ H', Nx H' → ∃ m', m' < m ∧ W (i1 + 1) m' H') ∧ ∀ x H', (Itl K t).yld i1 H x H' → gName i x (wipe σ vs) H' fun σ2 H2 => wipe σ2 vs = wipe σ vs ∧ tYes σ2 H2 fun b H3 =>
        if b = true then te σ2 H3 fun y H4 => ∃ acc, H4 D = some (.lst acc) ∧ acc.length < sizeLine ∧ Nx (upd H4 D (.lst (acc ++ [y]))) else Nx H3) := by
  refine lc_it (walk_list (xs := ns.map V.int)) (fun n H3 => Same H1 H3 ∧ H3 D = some (.lst (((ns.take n).map f).map V.int))) ⟨same_upd hD, upd_same⟩ ?_ ?_ ?_
  · rintro n H3 _ ⟨sm, _⟩
    exact .inl (.inl (sm _ _ ht))
  · rintro n x H3 H4 hn ⟨sm, h3⟩ ⟨rfl, hx⟩
    rw [List.length_map] at hn
    rw [List.getElem?_map, List.getElem?_eq_getElem hn] at hx
    have ex : x = .int ns[n] := (Option.some.inj hx).symm
    subst ex
    refine ⟨hw _, yes (iteT (he ns[n] (List.getElem_mem hn) _ sm _ ⟨_, h3, ?_, same_mut sm hD, ?_⟩))⟩
    · rw [List.length_map, List.length_map, List.length_take]; exact small1000 (by omega)
    · rw [upd_same, List.take_add_one, List.getElem?_eq_getElem hn, List.map_append, List.map_append]; rfl
  · rintro H3 ⟨sm, h3⟩
    rw [List.length_map, List.take_length] at h3
    exact hq H3 sm h3
end
end Lh

namespace Lh
open PySem PySem.Spec PyProof.Rows L2
theorem walk_zipM {K : PySem.W.Frag} {a b : Addr} {xs ys : List V} {n : Nat} (hn : n = min xs.length ys.length) : Walk (RZ.ItzT K a b) n (fun H => SqT K H a xs ∧ SqT K H b ys) (YPair (fun i => xs[i]?) (fun i => ys[i]?)) := by
  refine ⟨fun i _ hi q => ⟨xs, ys, xs[i]'(by omega), ys[i]'(by omega), q.1, q.2, List.getElem?_eq_getElem (by omega), List.getElem?_eq_getElem (by omega)⟩, fun _ q => ⟨xs, ys, q.1, q.2, by omega⟩, ?_⟩
  rintro i H v H' _ q ⟨T, x, z, h1, h2, h3, h4, h5⟩
  exact ⟨T, x, z, h1, h2, h3, h4 xs q.1, h5 ys q.2⟩
/-- a comprehension whose items are all True -/
theorem lc_true {J : It} {n : Nat} {G : Hp → Prop} {Y : Nat → Hp → V → Hp → Prop} (wk : Walk J n G Y) {g : TG} {te : TE} {vs : List Nat} {σ : L2.St} {H1 : Hp} {D : Addr} {Qd : Hp → Prop} (hD : H1 D = none) (hn : n ≤ 1000) (hG : ∀ H3, Same H1 H3 → G H3)
    (hs : ∀ i x H3 H4, i < n → Same H1 H3 → Y i H3 x H4 → ∀ (Q : VK) (Z : Hp → Prop), (∀ H5, Same H3 H5 → Q (.bl true) H5) → g x (wipe σ vs) H4 fun σ2 H2 => wipe σ2 vs = wipe σ vs ∧ tYes σ2 H2 fun b H3 => if b = true then te σ2 H3 Q else Z H3)
    (hq : ∀ H', Same H1 H' → H' D = some (.lst ((List.replicate n true).map V.bl)) → Qd H') :
    ∃ W : Nat → Nat → Hp → Prop, (∃ m, W 0 m (upd H1 D (.lst []))) ∧ ∀ i m H, W i m H →
      (J.stop i H ∧ Qd H) ∨ (J.go i H ∧ ∃ Nx : Hp → Prop, (∀ H', Nx H' → ∃ m', m' < m ∧ W (i + 1) m' H') ∧ ∀ x H', J.yld i H x H' → g x (wipe σ vs) H' fun σ2 H2 => wipe σ2 vs = wipe σ vs ∧ tYes σ2 H2 fun b H3 =>
        if b = true then te σ2 H3 fun y H4 => ∃ acc, H4 D = some (.lst acc) ∧ acc.length < sizeLine ∧ Nx (upd H4 D (.lst (acc ++ [y]))) else Nx H3) := by
  refine lc_it wk (fun i H3 => Same H1 H3 ∧ H3 D = some (.lst ((List.replicate i true).map V.bl))) ⟨same_upd hD, upd_same⟩ (fun i H3 _ h => hG H3 h.1) ?_ (fun H3 h => hq H3 h.1 h.2)
  rintro i x H3 H4 hi ⟨sm, h3⟩ hy
  refine hs i x H3 H4 hi sm hy _ _ (fun H5 s5 => ⟨_, s5 _ _ h3, ?_, same_mut (sm.trans s5) hD, ?_⟩)
  · rw [List.length_map, List.length_replicate]; exact small1000 (by omega)
  · rw [upd_same, List.replicate_succ', List.map_append]; rfl
theorem rep_all (n : Nat) : ((List.replicate n true).all id) = true := by
  rw [List.all_eq_true]
  intro z hz
  rw [List.eq_of_mem_replicate hz]
  rfl
theorem all_true {K : PySem.W.Frag} {D : Addr} {n : Nat} {H : Hp} {Q : VK} (h : H D = some (.lst ((List.replicate n true).map V.bl))) (q : Q (.bl true) H) : rAll K [.ref D] H Q := by
  refine ⟨D, _, rfl, .inl (.inl h), blT ?_ q⟩
  rw [List.all_eq_true]
  intro z hz
  rw [List.eq_of_mem_replicate hz]
  rfl
theorem cut1 {α : Type} (xs : List α) : cutI xs (some 1) none = xs.drop 1 := by
  unfold cutI
  rw [show HT.sIx xs.length 0 (some 1) = min 1 xs.length from HT.sIx_nat xs.length 0 1, HT.sIx_none]
  cases xs with
  | nil => rfl
  | cons x r =>
    rw [show min 1 (x :: r).length = 1 by rw [List.length_cons]; omega]
    show List.take ((x :: r).length - 1) r = r
    rw [List.length_cons, Nat.add_sub_cancel, List.take_length]
section
variable {P : Program} {w : World} {K : PySem.W.Frag} {mg : Str → Option Value} {base : Heap}
def spIsNumber : Sp := fun vs H Q _ => ∃ i : Int, vs = [.int i] ∧ 0 ≤ i ∧ Q (.bl true) H
def spIsPerson : Sp := fun vs H Q _ => ∃ m i : Int, vs = [.int m, .int i] ∧ 0 ≤ i ∧ i < m ∧ Q (.bl true) H
theorem rise_at {ns : List Int} (pw : ns.Pairwise (· < ·)) {i : Nat} {x y : Int} (hx : ns[i]? = some x) (hy : (ns.drop 1)[i]? = some y) : x < y := by
  rw [List.getElem?_drop] at hy
  obtain ⟨h1, e1⟩ := List.getElem?_eq_some_iff.mp hx
  obtain ⟨h2, e2⟩ := List.getElem?_eq_some_iff.mp hy
  rw [← e1, ← e2]
  exact List.pairwise_iff_getElem.mp pw i (1 + i) h1 h2 (by omega)
def spRises (K : PySem.W.Frag) : Sp := fun vs H Q _ => ∃ (a : Addr) (ns : List Int), vs = [.ref a] ∧ (SqL K H a (ns.map V.int) ∨ TupAt H a (ns.map V.int)) ∧ ns.Pairwise (· < ·) ∧ ns.length ≤ 1000 ∧ ∀ H', Same H H' → Q (.bl true) H'
def spIsTie : Sp := fun vs H Q _ => ∃ (m : Int) (a : Addr) (q : Int × Int), vs = [.int m, .ref a] ∧ PairAtH H a q ∧ 0 ≤ q.1 ∧ q.1 < m ∧ 1 ≤ q.2 ∧ Q (.bl true) H
def spAreTies : Sp := fun vs H Q _ => ∃ (m : Int) (t : Addr) (ties : List (Int × Int)), vs = [.int m, .ref t] ∧ TiesAt H t ties ∧ Rising m (ties.map (·.1)) ∧ (∀ q ∈ ties, 1 ≤ q.2) ∧ ties.length ≤ 1000 ∧ ∀ H', Same H H' → Q (.bl true) H'
theorem pair_get {H : Hp} : ∀ {ps : List Addr} {lot : List (Int × Int)}, Paired (PairAtH H) ps lot → ∀ (n : Nat) (p : Addr), ps[n]? = some p → ∃ q, q ∈ lot ∧ PairAtH H p q
  | _, _, .nil, n, p, e => by simp at e
  | _, _, .cons r t, 0, p, e => ⟨_, List.mem_cons_self, by cases e; exact r⟩
  | _, _, .cons r t, n + 1, p, e => by
    obtain ⟨q, h1, h2⟩ := pair_get t n p (by simpa using e)
    exact ⟨q, List.mem_cons_of_mem _ h1, h2⟩
def spAreSeen : Sp := fun vs H Q _ => ∃ (m : Int) (t : Addr) (seen : List Int), vs = [.int m, .ref t] ∧ SeenAt H t seen ∧ Rising m seen ∧ seen.length ≤ 1000 ∧ ∀ H', Same H H' → Q (.bl true) H'
/-- what may stand as a part of a rule -/
def PartAt (H : Hp) (m : Int) (part : Str) (v : V) : Prop :=
  (part = "number" ∧ ∃ i : Int, v = .int i ∧ 0 ≤ i) ∨ (part = "ties" ∧ ∃ t ties, v = .ref t ∧ TiesAt H t ties ∧ Rising m (ties.map (·.1)) ∧ (∀ q ∈ ties, 1 ≤ q.2) ∧ ties.length ≤ 1000) ∨
  (part = "seen" ∧ ∃ t seen, v = .ref t ∧ SeenAt H t seen ∧ Rising m seen ∧ seen.length ≤ 1000)
theorem PartAt.same {H H' : Hp} {m : Int} {part : Str} {v : V} (s : Same H H') (h : PartAt H m part v) : PartAt H' m part v := by
  rcases h with h | ⟨e, t, ties, h1, h2, h3⟩ | ⟨e, t, seen, h1, h2, h3⟩
  · exact .inl h
  · exact .inr (.inl ⟨e, t, ties, h1, h2.keep (Keep.same s), h3⟩)
  · exact .inr (.inr ⟨e, t, seen, h1, h2.keep (Keep.same s), h3⟩)
def spIsPart : Sp := fun vs H Q _ => ∃ (m : Int) (part : Str) (v : V), vs = [.int m, .str part, v] ∧ PartAt H m part v ∧ ∀ H', Same H H' → Q (.bl true) H'
end
end Lh

namespace Lh
open PySem PySem.Spec PyProof.Rows L2
def partsOf : Rule → List Str
  | .held _ => ["number"]
  | .sum _ _ => ["number", "ties"]
  | .cap _ _ _ => ["number", "ties", "number"]
  | .kinds _ _ => ["number", "seen"]
  | .next _ => ["seen"]
  | .free _ => ["seen"]
section
variable {P : Program} {w : World} {K : PySem.W.Frag} {mg : Str → Option Value} {base : Heap}
theorem pieces {H : Hp} {v : V} {m : Int} : ∀ {r : Rule}, RuleAt H v r → r.Wf m → r.persons.length ≤ 1000 → ∃ a xs, v = .ref a ∧ H a = some (.tup (.str (wordOf r) :: xs)) ∧ xs.length = (partsOf r).length ∧ ∀ (i : Nat) (s : Str) (x : V), (partsOf r)[i]? = some s → xs[i]? = some x → PartAt H m s x
  | .held n, ⟨a, e, h⟩, wf, _ => ⟨a, _, e, h, rfl, fun i s x h1 h2 => by
    match i with
    | 0 => cases h1; cases h2; exact .inl ⟨rfl, n, rfl, wf.1⟩
    | i + 1 => cases h1⟩
  | .sum own ties, ⟨a, t, e, h, q⟩, wf, hl => ⟨a, _, e, h, rfl, fun i s x h1 h2 => by
    have hl' : ties.length ≤ 1000 := by simpa [Rule.persons] using hl
    match i with
    | 0 => cases h1; cases h2; exact .inl ⟨rfl, own, rfl, wf.1.1⟩
    | 1 => cases h1; cases h2; exact .inr (.inl ⟨rfl, t, ties, rfl, q, wf.2.1, fun q hq => (wf.2.2 q hq).1, hl'⟩)
    | i + 2 => cases h1⟩
  | .cap own ties most, ⟨a, t, e, h, q⟩, wf, hl => ⟨a, _, e, h, rfl, fun i s x h1 h2 => by
    have hl' : ties.length ≤ 1000 := by simpa [Rule.persons] using hl
    match i with
    | 0 => cases h1; cases h2; exact .inl ⟨rfl, own, rfl, wf.1.1⟩
    | 1 => cases h1; cases h2; exact .inr (.inl ⟨rfl, t, ties, rfl, q, wf.2.1, fun q hq => (wf.2.2.1 q hq).1, hl'⟩)
    | 2 => cases h1; cases h2; exact .inl ⟨rfl, most, rfl, wf.2.2.2.1⟩
    | i + 3 => cases h1⟩
  | .kinds own seen, ⟨a, t, e, h, q⟩, wf, hl => ⟨a, _, e, h, rfl, fun i s x h1 h2 => by
    match i with
    | 0 => cases h1; cases h2; exact .inl ⟨rfl, own, rfl, wf.1.1⟩
    | 1 => cases h1; cases h2; exact .inr (.inr ⟨rfl, t, seen, rfl, q, wf.2, hl⟩)
    | i + 2 => cases h1⟩
  | .next seen, ⟨a, t, e, h, q⟩, wf, hl => ⟨a, _, e, h, rfl, fun i s x h1 h2 => by
    match i with
    | 0 => cases h1; cases h2; exact .inr (.inr ⟨rfl, t, seen, rfl, q, wf, hl⟩)
    | i + 1 => cases h1⟩
  | .free seen, ⟨a, t, e, h, q⟩, wf, hl => ⟨a, _, e, h, rfl, fun i s x h1 h2 => by
    match i with
    | 0 => cases h1; cases h2; exact .inr (.inr ⟨rfl, t, seen, rfl, q, wf, hl⟩)
    | i + 1 => cases h1⟩
theorem parts_len : ∀ r : Rule, (partsOf r).length ≤ 1000
  | .held _ => by show 1 ≤ 1000; decide
  | .sum _ _ => by show 2 ≤ 1000; decide
  | .cap _ _ _ => by show 3 ≤ 1000; decide
  | .kinds _ _ => by show 2 ≤ 1000; decide
  | .next _ => by show 1 ≤ 1000; decide
  | .free _ => by show 1 ≤ 1000; decide
theorem cutV1 (xs : List V) : cutV xs (some 1) none = xs.drop 1 := by
  have h := cut_map id xs (some 1) none
  rw [List.map_id, List.map_id, cut1] at h
  exact h
def spIsRule : Sp := fun vs H Q _ => ∃ (m : Int) (v : V) (r : Rule), vs = [.int m, v] ∧ RuleAt H v r ∧ r.Wf m ∧ r.persons.length ≤ 1000 ∧ ∀ H', Same H H' → Q (.bl true) H'
/-! ### halls -/
theorem run_len {X : Cx} {k : Nat} {f C : Addr} {fd : FuncData} {ps : List Str} {sp : Sp} (me : Meth X.K C "__len__" f) (F : FnOk X.prog X.w X.K X.mg X.base CX0 k f fd ps sp) (hb : Binds X.K fd ps []) (hr : Room (k + 1) X.A) :
    CallR X (.builtin "len") (fun xs H Q => ∃ (x dx : Addr) (fs : List (Str × V)), xs = [.ref x] ∧ H x = some (.ins C dx fs) ∧ sp [.ref x] H (fun v H' => ∃ n : Int, v = .int n ∧ 0 ≤ n ∧ n < 2 ^ 63 ∧ Q (.int n) H') E0) := by
  intro pins s σ H xs us Q I r h
  obtain ⟨x, dx, fs, rfl, hx, h⟩ := h
  rw [Vals.ref1 r]
  obtain ⟨m, fr⟩ := I.fr
  obtain ⟨mA, O, _⟩ := ins_get I.hok hx
  obtain ⟨od, J, _⟩ := O.look
  refine PySem.W.len_K fr I.mod.kin J me.at_ me.fn ?_
  have e0 := I.env0
  have e1 : Env0 X.prog X.w X.K X.mg X.base X.A.in1 X.stack s H := ⟨e0.frames, e0.mod, e0.bs, e0.bsz, e0.funs, e0.frf, e0.hok, e0.bare⟩
  have hl : ([Value.ref x] ++ []).length = ps.length := by rw [← F.len _ _ _ _ h]; rfl
  have bb := hb s [.ref x] I.kIn hl
  rw [List.append_nil] at bb
  have vv : Vals [V.ref x] [Value.ref x] := .cons rfl .nil
  have run := F.run X.A.in1 X.stack s H ⟨[.ref x], []⟩ [.ref x] [.ref x] _ E0 hr.in1 e1 bb vv h
  refine wpAny_call (codeAny_mono run ?_)
  rintro (e | fl) t ht
  · exact False.elim ht
  cases fl with
  | next => exact False.elim ht
  | brk => exact False.elim ht
  | cont => exact False.elim ht
  | ret u =>
    obtain ⟨v, H', J2, rv, n, rfl, n0, n1, q⟩ := I.after ht
    obtain ⟨tk, rfl⟩ := rv
    exact ⟨⟨n0, n1⟩, .int n, H', J2.tok _, ⟨_, rfl⟩, q⟩
def RulesAt (H : Hp) : List V → List Rule → Prop := Paired (RuleAt H)
theorem RulesAt.keep {H H' : Hp} (k : Keep H H') : ∀ {vs : List V} {rs : List Rule}, RulesAt H vs rs → RulesAt H' vs rs
  | _, _, .nil => .nil
  | _, _, .cons h r => .cons (h.keep k) (RulesAt.keep k r)
theorem RulesAt.get {H : Hp} : ∀ {vs : List V} {rs : List Rule}, RulesAt H vs rs → ∀ (i : Nat) (h : i < rs.length), ∃ v, vs[i]? = some v ∧ RuleAt H v rs[i]
  | _, _, .nil, i, h => absurd h (by simp)
  | _, _, .cons r t, 0, h => ⟨_, rfl, r⟩
  | _, _, .cons r t, i + 1, h => by
    obtain ⟨v, h1, h2⟩ := RulesAt.get t i (by simpa using h)
    exact ⟨v, by simpa using h1, by simpa using h2⟩
def Halls (rs : List Rule) : Prop := 1 ≤ rs.length ∧ rs.length ≤ 12 ∧ ∀ r ∈ rs, r.Wf rs.length
theorem wf_len {m : Int} {r : Rule} (h : r.Wf m) (hm : m ≤ 1000) (m0 : 0 ≤ m) : r.persons.length ≤ 1000 ∧ (r.persons.length : Int) ≤ m := by
  have key : ∀ ns : List Int, Rising m ns → (ns.length : Int) ≤ m := fun ns rs => by
    have h1 := nodup_len ns ((List.range m.toNat).map fun k : Nat => (k : Int)) rs.nodup (fun x hx => by
      have := rs.2 x hx
      rw [List.mem_map]
      exact ⟨x.toNat, List.mem_range.mpr (by omega), by omega⟩)
    rw [List.length_map, List.length_range] at h1
    omega
  have : (r.persons.length : Int) ≤ m := by
    cases r with
    | held n => show ((0 : Nat) : Int) ≤ m; omega
    | sum own ties => exact key _ h.2.1
    | cap own ties most => exact key _ h.2.1
    | kinds own seen => exact key _ h.2
    | next seen => exact key _ h
    | free seen => exact key _ h
  exact ⟨by omega, this⟩
/-- the hall at x, of these rules -/
def HallAt (C : Addr) (H : Hp) (x : Addr) (rs : List Rule) : Prop := ∃ (dx t : Addr) (vs : List V), H x = some (.ins C dx [("kept", .ref t)]) ∧ TupAt H t vs ∧ RulesAt H vs rs
def spInit (C : Addr) : Sp := fun vs H Q _ => ∃ (x dx l : Addr) (us : List V) (rs : List Rule), vs = [.ref x, .ref l] ∧ H x = some (.ins C dx []) ∧ H l = some (.lst us) ∧ RulesAt H us rs ∧ Halls rs ∧
  ∀ H', (∀ b o, b ≠ x → H b = some o → H' b = some o) → HallAt C H' x rs → Q .non H'
end
end Lh

namespace Lh
open PySem PySem.Spec PyProof.Rows L2
theorem kept_yes (v : V) : ([("kept", v)] : List (Str × V)).lookup ("kept" : Str) = some v := by
  rw [List.lookup_cons, show (("kept" : Str) == "kept") = true from beq_self_eq_true _]
theorem kept_no (v : V) {m : Str} (h : ¬ m = "kept") : ([("kept", v)] : List (Str × V)).lookup (m : Str) = none := by
  rw [List.lookup_cons, show (m == ("kept" : Str)) = false from beq_eq_false_iff_ne.mpr h]
  rfl
theorem HallAt.keep {C : Addr} {H H' : Hp} {x : Addr} {rs : List Rule} (s : Same H H') (h : HallAt C H x rs) : HallAt C H' x rs := by
  obtain ⟨dx, t, vs, h1, h2, h3⟩ := h
  exact ⟨dx, t, vs, s _ _ h1, h2.keep (Keep.same s), h3.keep (Keep.same s)⟩
theorem HallAt.ext {C bx : Addr} {c : Int} {H H' : Hp} {x : Addr} {rs : List Rule} (e : Ext bx H H') (b : Box bx c H) (h : HallAt C H x rs) : HallAt C H' x rs := by
  obtain ⟨dx, t, vs, h1, h2, h3⟩ := h
  have nb : x ≠ bx := by
    obtain ⟨_, _, _, hb, _⟩ := b
    exact ne_of h1 hb (by intro z; cases z)
  exact ⟨dx, t, vs, e _ _ nb h1, h2.keep (Keep.ext e b), h3.keep (Keep.ext e b)⟩
/-! ### standings -/
def nth (ns : List Int) (p : Int) : Int := ns.getD p.toNat 0
theorem nth_get {ns : List Int} {p : Int} (h0 : 0 ≤ p) (h1 : p < ns.length) : (ns.map V.int)[p.toNat]? = some (.int (nth ns p)) := by
  have hp : p.toNat < ns.length := by omega
  rw [List.getElem?_map, List.getElem?_eq_getElem hp]
  unfold nth
  rw [List.getD_eq_getElem?_getD, List.getElem?_eq_getElem hp]
  rfl
theorem nth_at {ns : List Int} {p : Int} (h0 : 0 ≤ p) (h1 : p < ns.length) : atI (ns.map V.int) p = some (.int (nth ns p)) := at_of (by omega) (nth_get h0 h1)
/-- the lot of those a rule sees who show less -/
def lotI (r : Rule) (ns : List Int) (p : Int) : List (Int × Int) := (r.persons.filter fun o => decide (nth ns o < nth ns p)).map fun o => (o, nth ns o)
def lotH (r : Rule) (ns : List Int) (h : Int) : List (Int × Int) := (r.persons.filter fun o => decide (nth ns o < h)).map fun o => (o, nth ns o)
theorem lotH_in {r : Rule} {ns : List Int} {h : Int} : ∀ q ∈ lotH r ns h, q.1 ∈ r.persons := fun q hq => by
  obtain ⟨o, ho, rfl⟩ := List.mem_map.mp hq
  exact (List.mem_filter.mp ho).1
theorem lotI_in {r : Rule} {ns : List Int} {p : Int} : ∀ q ∈ lotI r ns p, q.1 ∈ r.persons := fun q hq => by
  obtain ⟨o, ho, rfl⟩ := List.mem_map.mp hq
  exact (List.mem_filter.mp ho).1
/-- the turns of some, had at once -/
def Turned (rs : List Rule) (ns : List Int) (some_ : Int → Prop) (ms : List Int) : Prop := ms.length = ns.length ∧ ∀ (i : Nat) (h : i < rs.length), (some_ i → Tell rs[i] (lotI rs[i] ns i) (nth ms i)) ∧ (¬ some_ i → nth ms i = nth ns i)
theorem nth_ext {ns ms : List Int} (hl : ns.length = ms.length) (h : ∀ i : Nat, i < ns.length → nth ns i = nth ms i) : ns = ms := by
  apply List.ext_getElem hl
  intro i h1 h2
  have := h i h1
  unfold nth at this
  rw [List.getD_eq_getElem?_getD, List.getD_eq_getElem?_getD, Int.toNat_natCast, List.getElem?_eq_getElem h1, List.getElem?_eq_getElem h2] at this
  exact this
theorem Turned.unique {rs : List Rule} {ns ms ks : List Int} {p q : Int → Prop} (hn : ns.length = rs.length) (pq : ∀ i : Nat, i < rs.length → (p i ↔ q i)) (a : Turned rs ns p ms) (b : Turned rs ns q ks) : ms = ks := by
  refine nth_ext (a.1.trans b.1.symm) fun i hi => ?_
  have h : i < rs.length := by rw [← hn, ← a.1]; exact hi
  have ha := a.2 i h
  have hb := b.2 i h
  by_cases c : p i
  · exact (ha.1 c).unique (hb.1 ((pq i h).mp c))
  · rw [ha.2 c, hb.2 fun z => c ((pq i h).mpr z)]
abbrev Beat (rs : List Rule) (ns ms : List Int) : Prop := Turned rs ns (fun _ => True) ms
section
variable {P : Program} {w : World} {K : PySem.W.Frag} {mg : Str → Option Value} {base : Heap}
def spMust (C : Addr) : Sp := fun vs H Q _ => ∃ (x : Addr) (p : Int) (rs : List Rule), vs = [.ref x, .int p] ∧ HallAt C H x rs ∧ 0 ≤ p ∧ p < rs.length ∧ Q .non H
def spRuleM (C : Addr) : Sp := fun vs H Q _ => ∃ (x : Addr) (p : Nat) (rs : List Rule) (h : p < rs.length), vs = [.ref x, .int p] ∧ HallAt C H x rs ∧ ∀ v, RuleAt H v rs[p] → Q v H
def spSees (C : Addr) : Sp := fun vs H Q _ => ∃ (x : Addr) (p : Nat) (rs : List Rule) (h : p < rs.length), vs = [.ref x, .int p] ∧ HallAt C H x rs ∧ Halls rs ∧ ∀ (l : Addr) (H' : Hp), Same H H' → H l = none → H' l = some (.lst (rs[p].persons.map V.int)) → Q (.ref l) H'
theorem Halls.few {rs : List Rule} (h : Halls rs) {p : Nat} (hp : p < rs.length) : rs[p].persons.length ≤ 12 := by
  have h1 := h.2.1
  have := (wf_len (h.2.2 _ (List.getElem_mem hp)) (by omega) (by omega)).2
  omega
def spLen (C : Addr) : Sp := fun vs H Q _ => ∃ (x : Addr) (rs : List Rule), vs = [.ref x] ∧ HallAt C H x rs ∧ Q (.int rs.length) H
theorem per_in {rs : List Rule} (hh : Halls rs) {p : Nat} (hp : p < rs.length) : ∀ o ∈ rs[p].persons, 0 ≤ o ∧ o < rs.length := by
  intro o ho
  have wf := hh.2.2 _ (List.getElem_mem hp)
  generalize rs[p] = r at ho wf
  cases r with
  | held n => exact absurd ho (by simp [Rule.persons])
  | sum own ties => exact wf.2.1.2 o ho
  | cap own ties most => exact wf.2.1.2 o ho
  | kinds own seen => exact wf.2.2 o ho
  | next seen => exact wf.2 o ho
  | free seen => exact wf.2 o ho
end
end Lh

namespace Lh
open PySem PySem.Spec PyProof.Rows L2
theorem rg_ints (n : Int) : rgV 0 n = ((List.range n.toNat).map fun k : Nat => (k : Int)).map V.int := by
  unfold rgV
  rw [List.map_map, Int.sub_zero]
  exact List.map_congr_left fun k _ => by show V.int (0 + (k : Int)) = V.int k; rw [Int.zero_add]
theorem rg_rising (n : Int) (h : 0 ≤ n) : Rising n ((List.range n.toNat).map fun k : Nat => (k : Int)) := by
  refine ⟨List.Pairwise.map _ (fun a b z => by omega) List.pairwise_lt_range, fun x hx => ?_⟩
  obtain ⟨k, hk, rfl⟩ := List.mem_map.mp hx
  have := List.mem_range.mp hk
  omega
theorem at_end {us : List V} {t : V} (h : us[us.length - 1]? = some t) : atI us (-1) = some t := by
  rw [← List.getLast?_eq_getElem?] at h
  obtain ⟨ys, rfl⟩ := List.getLast?_eq_some_iff.mp h
  exact atI_last ys t
theorem ixN_at {n j : Nat} (h : j < n) : ixN n (j : Int) = some j := by
  unfold ixN
  rw [if_pos (by omega), if_pos (by omega), Int.toNat_natCast]
theorem nth_set {ms : List Int} {j : Nat} {y : Int} (hj : j < ms.length) (i : Nat) : nth (ms.set j y) i = if i = j then y else nth ms i := by
  unfold nth
  rw [Int.toNat_natCast, List.getD_eq_getElem?_getD, List.getD_eq_getElem?_getD, List.getElem?_set]
  by_cases c : j = i
  · subst c
    rw [if_pos rfl, if_pos rfl, if_pos hj]
    rfl
  · rw [if_neg c, if_neg fun z => c z.symm]
theorem Turned.step {rs : List Rule} {ns ms : List Int} {S S' : Int → Prop} {p : Nat} {y : Int} (hn : ns.length = rs.length) (hp : p < rs.length) (t : Turned rs ns S ms) (ty : Tell rs[p] (lotI rs[p] ns p) y) (hS : ∀ i : Nat, S' i ↔ S i ∨ i = p) : Turned rs ns S' (ms.set p y) := by
  refine ⟨by rw [List.length_set]; exact t.1, fun i hi => ?_⟩
  have hpm : p < ms.length := by rw [t.1]; omega
  rw [nth_set hpm]
  by_cases c : i = p
  · subst c
    rw [if_pos rfl]
    exact ⟨fun _ => ty, fun z => absurd ((hS i).mpr (.inr rfl)) z⟩
  · rw [if_neg c]
    refine ⟨fun z => (t.2 i hi).1 ?_, fun z => (t.2 i hi).2 fun z' => z ((hS i).mpr (.inl z'))⟩
    rcases (hS i).mp z with h | h
    · exact h
    · exact absurd h c
theorem Turned.none {rs : List Rule} {ns : List Int} {S : Int → Prop} (hS : ∀ i, ¬ S i) : Turned rs ns S ns := ⟨rfl, fun i _ => ⟨fun z => absurd z (hS _), fun _ => rfl⟩⟩
/-- the standings behind 0, 1, .. beats -/
def Way (rs : List Rule) (ns : List Int) (nss : List (List Int)) : Prop := nss[0]? = some ns ∧ (∀ ms ∈ nss, ms.length = rs.length) ∧ ∀ (i : Nat) (a b : List Int), nss[i]? = some a → nss[i + 1]? = some b → Beat rs a b
theorem Beat.unique {rs : List Rule} {ns ms ks : List Int} (hn : ns.length = rs.length) (a : Beat rs ns ms) (b : Beat rs ns ks) : ms = ks := Turned.unique hn (fun _ _ => Iff.rfl) a b
theorem Way.unique {rs : List Rule} {ns : List Int} {nss mss : List (List Int)} (a : Way rs ns nss) (b : Way rs ns mss) (hl : nss.length = mss.length) : nss = mss := by
  refine List.ext_getElem? fun i => ?_
  induction i with
  | zero => rw [a.1, b.1]
  | succ i ih =>
    by_cases c : i + 1 < nss.length
    · have c' : i + 1 < mss.length := by omega
      have h1 := List.getElem?_eq_getElem (l := nss) (show i < nss.length by omega)
      have h2 := List.getElem?_eq_getElem c
      have h4 := List.getElem?_eq_getElem c'
      rw [h2, h4]
      have h3 := ih.symm.trans h1
      have x := a.2.2 i _ _ h1 h2
      have y := b.2.2 i _ _ h3 h4
      rw [Beat.unique (a.2.1 _ (List.getElem_mem _)) x y]
    · rw [List.getElem?_eq_none (by omega), List.getElem?_eq_none (by omega)]
theorem Way.one {rs : List Rule} {ns : List Int} (h : ns.length = rs.length) : Way rs ns [ns] := by
  refine ⟨rfl, fun ms hm => ?_, fun i a b h1 h2 => ?_⟩
  · rw [List.mem_singleton.mp hm]; exact h
  · rw [List.getElem?_eq_none (by show 1 ≤ i + 1; omega)] at h2
    cases h2
theorem Way.snoc {rs : List Rule} {ns a b : List Int} {nss : List (List Int)} (h : Way rs ns nss) (ha : nss.getLast? = some a) (hb : Beat rs a b) : Way rs ns (nss ++ [b]) := by
  have hl : a ∈ nss := List.mem_of_getLast? ha
  have h0 : 0 < nss.length := List.length_pos_of_mem hl
  refine ⟨?_, fun ms hm => ?_, fun i x y h1 h2 => ?_⟩
  · rw [List.getElem?_append_left h0]; exact h.1
  · rcases List.mem_append.mp hm with z | z
    · exact h.2.1 _ z
    · rw [List.mem_singleton.mp z, hb.1]; exact h.2.1 _ hl
  · by_cases c : i + 1 < nss.length
    · rw [List.getElem?_append_left (by omega)] at h1
      rw [List.getElem?_append_left c] at h2
      exact h.2.2 i x y h1 h2
    · have c2 : i + 1 < (nss ++ [b]).length := by
        by_cases z : i + 1 < (nss ++ [b]).length
        · exact z
        · rw [List.getElem?_eq_none (by omega)] at h2; cases h2
      rw [List.length_append] at c2
      have c3 : i + 1 = nss.length := by have : i + 1 < nss.length + 1 := c2; omega
      rw [c3, List.getElem?_append_right (Nat.le_refl _), Nat.sub_self] at h2
      rw [List.getElem?_append_left (by omega)] at h1
      rw [List.getLast?_eq_getElem?, show nss.length - 1 = i by omega, h1] at ha
      cases ha; cases h2
      exact hb
theorem Way.drop {rs : List Rule} {ns a : List Int} {nss : List (List Int)} {k : Nat} (h : Way rs ns nss) (ha : nss[k]? = some a) : Way rs a (nss.drop k) := by
  refine ⟨by rw [List.getElem?_drop]; exact ha, fun ms hm => h.2.1 _ (List.mem_of_mem_drop hm), fun i x y h1 h2 => ?_⟩
  rw [List.getElem?_drop] at h1 h2
  exact h.2.2 (k + i) x y h1 h2
theorem Way.take {rs : List Rule} {ns : List Int} {nss : List (List Int)} {k : Nat} (h : Way rs ns nss) : Way rs ns (nss.take (k + 1)) := by
  refine ⟨by rw [List.getElem?_take_of_lt (by omega)]; exact h.1, fun ms hm => h.2.1 _ (List.mem_of_mem_take hm), fun i x y h1 h2 => ?_⟩
  by_cases c : i + 1 < k + 1
  · rw [List.getElem?_take_of_lt (by omega)] at h1
    rw [List.getElem?_take_of_lt c] at h2
    exact h.2.2 i x y h1 h2
  · rw [List.getElem?_eq_none (by rw [List.length_take]; omega)] at h2
    cases h2
/-- tuples of numbers, in a list -/
def StandAt (H : Hp) (v : V) (ms : List Int) : Prop := ∃ t, v = .ref t ∧ TupAt H t (ms.map V.int)
def StandsAt (H : Hp) : List V → List (List Int) → Prop := Paired (StandAt H)
theorem StandsAt.keep {H H' : Hp} (k : Keep H H') : ∀ {vs : List V} {nss : List (List Int)}, StandsAt H vs nss → StandsAt H' vs nss
  | _, _, .nil => .nil
  | _, _, .cons ⟨t, e, h⟩ r => .cons ⟨t, e, h.keep k⟩ (StandsAt.keep k r)
theorem StandsAt.get {H : Hp} : ∀ {vs : List V} {nss : List (List Int)}, StandsAt H vs nss → ∀ (i : Nat) (a : List Int), nss[i]? = some a → ∃ t, vs[i]? = some (.ref t) ∧ TupAt H t (a.map V.int)
  | _, _, .nil, i, a, h => by cases h
  | _, _, .cons ⟨t, e, h⟩ r, 0, a, z => by cases z; exact ⟨t, by rw [e]; rfl, h⟩
  | _, _, .cons _ r, i + 1, a, z => StandsAt.get r i a z
end Lh

namespace Lh
open PySem PySem.Spec PyProof.Rows L2
theorem lc_onesL {K : PySem.W.Frag} {t : Addr} {seen : List Int} {H1 : Hp} {D : Addr} {σ : L2.St} {vs : List Nat} {Qd : Hp → Prop} {i : Nat} (ht : H1 t = some (.lst (seen.map V.int))) (hD : H1 D = none) (hl : seen.length ≤ 1000)
    (hw : ∀ a, wipe ((wipe σ vs).set i a) vs = wipe σ vs) (hi : ∀ a : V, ((wipe σ vs).set i (some a))[i]? = some (some a))
    (hq : ∀ H' ps, Same H1 H' → H' D = some (.lst (ps.map V.ref)) → Paired (PairAtH H') ps (seen.map fun n => (n, 1)) → Qd H') :
    ∃ W : Nat → Nat → Hp → Prop, (∃ m, W 0 m (upd H1 D (.lst []))) ∧ ∀ i1 m H, W i1 m H →
      ((Itl K t).stop i1 H ∧ Qd H) ∨ ((Itl K t).go i1 H ∧ ∃ Nx : Hp → Prop, (∀ H', Nx H' → ∃ m', m' < m ∧ W (i1 + 1) m' H') ∧ ∀ x H', (Itl K t).yld i1 H x H' → gName i x (wipe σ vs) H' fun σ2 H2 => wipe σ2 vs = wipe σ vs ∧ tYes σ2 H2 fun b H3 =>
        if b = true then tTup (tCons (tVar i) (tCons (tC (.int 1)) tNil)) σ2 H3 fun y H4 => ∃ acc, H4 D = some (.lst acc) ∧ acc.length < sizeLine ∧ Nx (upd H4 D (.lst (acc ++ [y]))) else Nx H3) := by
  refine lc_it (walk_list (xs := seen.map V.int)) (fun n H3 => ∃ ps : List Addr, Same H1 H3 ∧ H3 D = some (.lst (ps.map V.ref)) ∧ Paired (PairAtH H3) ps ((seen.take n).map fun n => (n, 1))) ⟨[], same_upd hD, upd_same, .nil⟩ ?_ ?_ ?_
  · rintro n H3 _ ⟨ps, sm, _⟩
    exact .inl (.inl (sm _ _ ht))
  · rintro n x H3 H4 hn ⟨ps, sm, h3, pr⟩ ⟨rfl, hx⟩
    rw [List.length_map] at hn
    rw [List.getElem?_map, List.getElem?_eq_getElem hn] at hx
    have ex : x = .int seen[n] := (Option.some.inj hx).symm
    subst ex
    have pl : ps.length = n := by rw [pr.length, List.length_map, List.length_take]; omega
    refine ⟨hw _, yes (iteT ⟨.int seen[n], hi _, by show 2 ≤ sizeLine; decide, fun p np => ?_⟩)⟩
    have nDp : D ≠ p := ne_of_none h3 np
    refine ⟨_, by rw [upd_ne nDp]; exact h3, by rw [List.length_map]; exact small1000 (by omega), ps ++ [p], ?_, ?_, ?_⟩
    · exact same_mut (sm.trans (same_upd np)) hD
    · rw [upd_same, List.map_append]; rfl
    · rw [List.take_add_one, List.getElem?_eq_getElem hn, List.map_append]
      have kT : Keep H4 (upd (upd H4 p (.tup [.int seen[n], .int 1])) D (.lst (ps.map V.ref ++ [.ref p]))) := by
        refine ⟨fun a xs h => ?_, fun a o u h => ?_⟩
        · rw [upd_ne (ne_of h h3 (by intro z; cases z)), upd_ne (ne_of_none h np)]; exact h
        · rw [upd_ne (ne_of h h3 (by intro z; cases z)), upd_ne (ne_of_none h np)]; exact h
      exact Paired.snoc (R := PairAtH _) (show PairAtH _ _ _ by show _ = _; rw [upd_ne nDp.symm]; exact upd_same) (pairs_keep kT pr)
  · rintro H3 ⟨ps, sm, h3, pr⟩
    rw [List.length_map, List.take_length] at pr
    exact hq H3 ps sm h3 pr
/-- a list at D put by for another -/
theorem keep_lst {H : Hp} {D : Addr} {xs ys : List V} (h : H D = some (.lst xs)) : Keep H (upd H D (.lst ys)) := by
  refine ⟨fun a xs h' => ?_, fun a o u h' => ?_⟩
  · rw [upd_ne (ne_of h' h (by intro z; cases z))]; exact h'
  · rw [upd_ne (ne_of h' h (by intro z; cases z))]; exact h'
theorem rules_of {H : Hp} {m : Int} : ∀ us : List V, (∀ (i : Nat) (h : i < us.length), ∃ r, RuleAt H us[i] r ∧ r.Wf m) → ∃ rs, RulesAt H us rs ∧ ∀ r ∈ rs, r.Wf m
  | [], _ => ⟨[], .nil, fun r h => absurd h (by simp)⟩
  | u :: us, h => by
    obtain ⟨r, h1, h2⟩ := h 0 (by simp)
    obtain ⟨rs, h3, h4⟩ := rules_of us (fun i hi => h (i + 1) (by simpa using hi))
    refine ⟨r :: rs, .cons h1 h3, fun x hx => ?_⟩
    rcases List.mem_cons.mp hx with rfl | hx
    · exact h2
    · exact h4 x hx
section
variable {P : Program} {w : World} {K : PySem.W.Frag} {mg : Str → Option Value} {base : Heap}
def spStrewn : Sp := fun vs H Q _ => ∃ (bx p : Addr) (c : Int) (ns : List Int), vs = [.ref bx, .ref p] ∧ c + ns.length ≤ 1000000000 ∧ ns.length ≤ 900 ∧ Box bx c H ∧ H p = some (.lst (ns.map V.int)) ∧ p ≠ bx ∧
  ∀ (l : Addr) (ms : List Int) (H' : Hp), Ext bx H H' → Box bx (c + ns.length) H' → H l = none → H' l = some (.lst (ms.map V.int)) → ms.Perm ns → Q (.ref l) H'
def spHall : Sp := fun vs H Q _ => ∃ (bx : Addr) (c : Int), vs = [.ref bx] ∧ c + 100 ≤ 1000000000 ∧ Box bx c H ∧
  ∀ (l : Addr) (us : List V) (rs : List Rule) (H' : Hp), Ext bx H H' → Box bx (c + 100) H' → H l = none → H' l = some (.lst us) → RulesAt H' us rs → Halls rs → Q (.ref l) H'
end
end Lh

namespace Lh
open PySem PySem.Spec PyProof.Rows L2
/-! ### enumerate of a tuple -/
set_option maxHeartbeats 1000000 in
theorem enum_new1 {v : Value} {o : Obj} {G : Heap → Prop} (B : Begins v o G) :
    Meets (Builtin.«enumerate.__new__» ⟨[.type "enumerate", v], []⟩) (fun _ R z => G z.heap ∧
      R (.ok (.ret (.ref (z.heap.push o).objs.size))) { z with heap := (z.heap.push o).push { cls := .type "enumerate", data := .fields #[.none, .bool false, .ref z.heap.objs.size, rawInt 0, .none, .none] } }) := by
  refine .of_wp fun pr wo ar R z hh => ?_
  obtain ⟨h0, g0, d0, t0, o0⟩ := z
  obtain ⟨hG, hR⟩ := hh
  have hsub := sub_enumerate
  have it1 : ∀ {ar' : Around} {Ex : Value → Shared → Prop} {Q : Value → Shared → Prop}, Q (.ref h0.objs.size) ⟨h0.push o, g0, d0, t0, o0⟩ → wpAny (model pr wo) ar' (pyIter v) Q Ex ⟨h0, g0, d0, t0, o0⟩ :=
    fun q => B.iter pr wo _ _ ⟨h0, g0, d0, t0, o0⟩ _ hG q
  wp_walk using it1
  refine wpAny_stack_any fun _ => wpAny_pure ?_
  split
  · rename_i cc _ _ _ _ _
    cases (cc == Value.type "enumerate")
    all_goals
      wp_walk using it1
      exact ⟨_, rfl, hR⟩
  · wp_walk using it1
    exact ⟨_, rfl, hR⟩
theorem enum_made {pr : Program} {wo : World} {ar : Around} {Ex : Value → Shared → Prop} {z : Shared} {v : Value} {o : Obj} {G : Heap → Prop} {Q : Value → Shared → Prop} (B : Begins v o G) (hG : G z.heap)
    (h : ∀ h', IsEnum h' (z.heap.objs.size + 1) z.heap.objs.size 0 .none → h'.get? z.heap.objs.size = some o → (∀ b ob, z.heap.get? b = some ob → h'.get? b = some ob) → Q (.ref (z.heap.objs.size + 1)) { z with heap := h' }) :
    wpAny (model pr wo) ar (call (.type "enumerate") [v]) Q Ex z := by
  refine callType_new F.called_enumerate (by decide) (F.typeCall_enumerate_1 _) (F.newCall_enumerate_1 _) (fun x => F.args_object_init_2 x _) F.entry_enumerate_new (enum_new1 B) ⟨hG, ?_⟩
  have sz : (z.heap.push o).objs.size = z.heap.objs.size + 1 := Heap.size_push ..
  show _ ∧ _
  rw [sz]
  have he : IsEnum ((z.heap.push o).push { cls := .type "enumerate", data := .fields #[.none, .bool false, .ref z.heap.objs.size, rawInt 0, .none, .none] }) (z.heap.objs.size + 1) z.heap.objs.size 0 .none := by
    rw [← sz]
    exact Heap.get?_push_size (z.heap.push o) rfl
  exact ⟨⟨_, he, rfl⟩, h _ he (Heap.get?_push_of_some _ (Heap.get?_push_size _ B.free)) fun b ob x => Heap.get?_push_of_some _ (Heap.get?_push_of_some _ x)⟩
def IteT (K : PySem.W.Frag) (a : Addr) : It :=
  ⟨fun n H => ∃ (xs : List V) (x : V), SqT K H a xs ∧ xs[n]? = some x,
    fun n H v H' => ∃ T x, v = .ref T ∧ H T = none ∧ H' = upd H T (.tup [.int (n : Nat), x]) ∧ ∀ xs, SqT K H a xs → xs[n]? = some x,
    fun n H => ∃ xs : List V, SqT K H a xs ∧ xs.length ≤ n⟩
theorem draws_end {pr : Program} {wo : World} {ar : Around} (hh : ar.handled = none) (it a : Addr) (items : Array Value) (n : Nat) (hx : items[n]? = none) :
    Draws pr wo ar it [it, a] n (fun _ _ => False) (fun j h => j = n ∧ h.IsTupleIter it a n ∧ h.IsTuple a items) where
  live := fun _ _ st => let ⟨ob, hb, _⟩ := st.2.1; ⟨ob, hb⟩
  frame := fun _ _ _ st hk => ⟨st.1, st.2.1.at fun ob e => hk it (by simp) ob e, st.2.2.at fun ob e => hk a (by simp) ob e⟩
  item := fun j _ _ _ hj st _ => absurd st.1 (by omega)
  done := fun _ _ _ st hE => wpAny_nextOf_tuple_end hh st.2.1 st.2.2 hx hE
theorem turn_enumT {P : Program} {w : World} {K : PySem.W.Frag} {elts : List Expr} {kk : Nat} {tpos : Pos} (a e it : Addr) :
    Turn P w K (.Tuple elts kk tpos) (IteT K a) [e, it] e (fun n h => (∃ old, IsEnum h e it ((n : Nat) : Int) old) ∧ h.IsTupleIter it a n ∧ e ≠ it ∧ a ≠ it ∧ e ≠ a) where
  mem := by simp
  obj := fun n h st b hb => by
    obtain ⟨⟨old, he⟩, ⟨ob, ho, _, hd⟩, _⟩ := st
    rcases (show b = e ∨ b = it by simpa using hb) with rfl | rfl
    · exact ⟨_, he, fun v q => nomatch q⟩
    · exact ⟨ob, ho, fun v q => by rw [hd] at q; cases q⟩
  keep := fun n h h' st k => let ⟨⟨old, he⟩, hi, r⟩ := st; ⟨⟨old, k e (by simp) _ he⟩, hi.at fun ob q => k it (by simp) ob q, r⟩
  item := by
    intro X hP hw hK hc n pins s σ H E I hf st hg
    subst hP hw hK
    obtain ⟨⟨old, he⟩, hit, hne, nai, nea⟩ := st
    obtain ⟨xs, x, hq, hx⟩ := hg
    obtain ⟨its, rv, p, hz⟩ := I.tuple hq
    obtain ⟨u, hu, ru⟩ := rv.get hx
    have hu' : its.toArray[n]? = some u := by simpa using hu
    have hel : e < s.heap.objs.size := Heap.lt_size he
    have hil : it < s.heap.objs.size := by obtain ⟨_, q, _⟩ := hit; exact Heap.lt_size q
    have lt : n < its.toArray.size := (Array.getElem?_eq_some_iff.mp hu').1
    refine wpAny_pyNext_enum_itemD (Draws.tuple (A := X.A.in1) (I.ok.hd hc) it a nai its.toArray) he ⟨hit, p⟩ lt hne (by simp [hne, nea]) fun y h' tk hy ho st' hT hsz hk => ?_
    have ey : y = u := Option.some.inj (hy.symm.trans hu')
    subst ey
    refine ⟨_, rfl, wpAny_letOwnedTupleGo_enum (s := { s with heap := h', toks := tk + 1 }) ho fun h2 he2 sb => ?_⟩
    have hT2 : h2.get? s.heap.objs.size = some { cls := .type "tuple", data := .seq #[.int n tk, y] } := (sb.2 _ (Nat.ne_of_gt hel)).trans hT
    have new : ObjOk X.prog X.w (upd H s.heap.objs.size (.tup [.int (n : Nat), x])) h2 s.heap.objs.size (.tup [.int (n : Nat), x]) := by
      refine ⟨by show 2 ≤ sizeLine; decide, [.int n tk, y], .cons ⟨_, rfl⟩ (.cons ru .nil), ?_⟩
      exact ⟨_, hT2, rfl, _, rfl⟩
    have J : Inv X pins σ (upd H s.heap.objs.size (.tup [.int (n : Nat), x])) { s with heap := h2, toks := tk + 1 } := by
      refine I.turnedNew (ch := [e, it]) (fun b ob hb q => ?_) hf (Nat.le_refl _) new
      exact (sb.2 b (fun z => hb (by simp [z]))).trans (hk b ob (fun z => hb (by simp [z])) (fun z => hb (by simp [z])) q)
    refine ⟨.ref s.heap.objs.size, _, J, rfl, ⟨_, x, rfl, I.hok.fresh (Nat.le_refl _), rfl, fun ys hy => by rw [I.tuple_inj hy hq]; exact hx⟩, ⟨⟨y, ?_⟩, st'.1.at fun ob q => (sb.2 it (Ne.symm hne)).trans q, hne, nai, nea⟩, fun b hb => ?_⟩
    · rw [show ((n + 1 : Nat) : Int) = (n : Int) + 1 by omega]
      exact he2
    · have hb' : b < s.heap.objs.size := by
        rcases (show b = e ∨ b = it by simpa using hb) with rfl | rfl
        · exact hel
        · exact hil
      rw [upd_ne (Nat.ne_of_lt hb')]
      exact (hf b hb).1
  done := by
    intro X hP hw hK hc n pins s σ H E I hf st hg
    subst hP hw hK
    obtain ⟨⟨old, he⟩, hit, hne, nai, nea⟩ := st
    obtain ⟨xs, hq, hx⟩ := hg
    obtain ⟨its, rv, p, hz⟩ := I.tuple hq
    obtain ⟨f0, f1, f2, f3, f4, f5⟩ := hf it (by simp)
    have hl := rv.length
    have hn : its.toArray[n]? = none := by simp; omega
    exact wpAny_pyNext_enum_endD (draws_end (ar := X.A.in1) (I.ok.hd hc) it a its.toArray n hn) he ⟨rfl, hit, p⟩ fun h' eb => ⟨rfl, I.turned (t' := s.toks) (fun b ob hb q => eb b ob hb q) f0 f1 f3 f4 f5⟩
  self := fun ar n s Q E st h => let ⟨⟨_, he⟩, _⟩ := st; wpAny_pyIter_enum he h
def iEnumT (K : PySem.W.Frag) (ta : TA) : TI := fun σ H R => ta σ H fun vs H1 => ∃ a xs, vs = [.ref a] ∧ SqT K H1 a xs ∧ R (IteT K a) H1
theorem pi_enumT {X : Cx} {e : Expr} {ta : TA} {p pos tpos : Pos} {elts : List Expr} {kk : Nat} (hg : Gl X "enumerate") (hm : X.mg "enumerate" = none) (ha : PA X [e] ta) (hs : starEach [e] X.env = [(false, eval e X.env)] := by rfl) : PI X (.Tuple elts kk tpos) (.Call (.Name "enumerate" p) [e] [] pos) (iEnumT X.K ta) := by
  refine ⟨fun pins s σ H R I h => ?_⟩
  refine Call_ (ld_blt I hg hm PyProof.Rows.boot_enumerate (PyProof.Rows.callWith_type1 (thn (ha.run pos pins s σ H _ I h) fun us s1 ⟨vs, H1, I1, r1, a, xs, ex, hq, q⟩ => ?_) hs rfl))
  subst ex
  rw [Vals.ref1 r1]
  obtain ⟨its, rv, p', hz⟩ := I1.tuple hq
  obtain ⟨oa, hoa, _⟩ := id p'
  have la : a < s1.heap.objs.size := Heap.lt_size hoa
  refine enum_made (begins_tuple a its.toArray) p' fun h' he hit hk => wpAny_pyIter_enum he ?_
  have I2 : Inv X pins σ H1 { s1 with heap := h' } := I1.kept (t' := s1.toks) hk
  refine ⟨s1.heap.objs.size + 1, [s1.heap.objs.size + 1, s1.heap.objs.size], _, _, H1, rfl, I2, turn_enumT a (s1.heap.objs.size + 1) s1.heap.objs.size, ⟨⟨.none, he⟩, ⟨_, hit, rfl, rfl⟩, Nat.succ_ne_self _, Nat.ne_of_lt la, Nat.ne_of_gt (Nat.lt_succ_of_lt la)⟩, fun b hb => ?_, q⟩
  have hle : s1.heap.objs.size ≤ b := by
    rcases (show b = s1.heap.objs.size + 1 ∨ b = s1.heap.objs.size by simpa using hb) with z | z
    · rw [z]; exact Nat.le_add_right _ _
    · rw [z]; exact Nat.le_refl _
  exact I1.fpOk hle (I1.hok.fresh hle)
theorem walk_enumT {K : PySem.W.Frag} {a : Addr} {xs : List V} : Walk (IteT K a) xs.length (fun H => SqT K H a xs) (YPair (fun n => some (.int (n : Nat))) (fun n => xs[n]?)) := by
  refine ⟨fun n _ hn q => ⟨xs, xs[n], q, by simp [hn]⟩, fun _ q => ⟨xs, q, Nat.le_refl _⟩, fun n H v H' _ q y => ?_⟩
  obtain ⟨T, x, h1, h2, h3, h4⟩ := y
  exact ⟨T, .int (n : Nat), x, h1, h2, h3, rfl, h4 xs q⟩
end Lh

namespace Lh
open PySem PySem.Spec PyProof.Rows L2
/-! ### a dict comprehension of two clauses without tests -/
abbrev dc2 (kx vx a b c d : Expr) (scope : Scope) (pos : Pos) : Expr := .DictComp kx vx [⟨a, b, [], 0⟩, ⟨c, d, [], 0⟩] scope pos
theorem dc2_turn0 (kx vx a b c d : Expr) (scope : Scope) (pos : Pos) (it acc : Value) (env : Env) : compTurn (dc2 kx vx a b c d scope pos) 0 it acc env = (do
    standAt b.pos
    match ← pyNext it with
    | none => pure (.done .next)
    | some v =>
      letOwnedTupleGo a it v
      assign a env v
      let x ← eval d env
      standAt d.pos
      let x ← foldedSetIterable d env x
      let _ ← runOwn (.compStart (dc2 kx vx a b c d scope pos) 1 (← holding [x] (pyIter x)) acc env) env
      again (.compLoop (dc2 kx vx a b c d scope pos) 0 it acc env)) := by rfl
theorem dc2_turn1 (kx vx a b c d : Expr) (scope : Scope) (pos : Pos) (it : Value) (D : Addr) (env : Env) : compTurn (dc2 kx vx a b c d scope pos) 1 it (.ref D) env = (do
    standAt d.pos
    match ← pyNext it with
    | none => pure (.done .next)
    | some v =>
      letOwnedTupleGo c it v
      assign c env v
      (do
        let kv ← eval kx env
        let vv ← holding [kv] (eval vx env)
        standAt { kx.pos with endLine := vx.pos.endLine, endCol := vx.pos.endCol }
        holding [kv, vv] (dictSet D kv vv))
      again (.compLoop (dc2 kx vx a b c d scope pos) 1 it (.ref D) env)) := by rfl
section
variable {prog : Program} {w : World} {A : Around} {R : Result → Shared → Prop} {s : Shared} {kx vx a b c d : Expr} {scope : Scope} {pos : Pos} {it acc : Value} {env : Env}
/-- turns of the outer clause, each measured -/
theorem dc2_outer (hf : ∀ x, foldedSetIterable d env x = pure x) (Inn : Nat → Shared → Prop)
    (one : ∀ n s, Inn n s → wpAny (model prog w) A (pyNext it) (fun o z1 => match o with
      | none => R (.ok .next) z1
      | some v => wpAny (model prog w) A (letOwnedTupleGo a it v) (fun _ z2 => wpAny (model prog w) A (assign a env v) (fun _ z3 => wpAny (model prog w) A (eval d env) (fun x z4 => wpAny (model prog w) A (pyIter x) (fun it1 z5 =>
          codeAny (model prog w) A (.compStart (dc2 kx vx a b c d scope pos) 1 it1 acc env) (fun o z6 => match o with | .ok _ => ∃ m, m < n ∧ Inn m z6 | .error _ => False) z5) (notedBy (model prog w) A env fun e z => R (.error e) z) z4) (notedBy (model prog w) A env fun e z => R (.error e) z) z3) (notedBy (model prog w) A env fun e z => R (.error e) z) z2) (notedBy (model prog w) A env fun e z => R (.error e) z) z1) (notedBy (model prog w) A env fun e z => R (.error e) z) s)
    (n : Nat) (h0 : Inn n s) : codeAny (model prog w) A (.compLoop (dc2 kx vx a b c d scope pos) 0 it acc env) R s := by
  refine codeAny_loop rfl Inn (fun n s hn => ?_) n h0
  show wpAny _ A ((compTurn (dc2 kx vx a b c d scope pos) 0 it acc env).onRaise (fun x => do noteFrame x env; theTreesLotGoes x)) _ _ s
  rw [dc2_turn0]
  refine wpAny_noted (wpAny_bind (wpAny_standAt (wpAny_bind (wpAny_mono (one n s hn) (fun o z1 k1 => ?_) fun _ _ q => q))))
  match o, k1 with
  | none, k1 => exact wpAny_pure k1
  | some v, k1 =>
    refine wpAny_bind (wpAny_mono k1 (fun _ z2 k2 => wpAny_bind (wpAny_mono k2 (fun _ z3 k3 => wpAny_bind (wpAny_mono k3 (fun x z4 k4 => ?_) fun _ _ q => q)) fun _ _ q => q)) fun _ _ q => q)
    refine wpAny_bind (wpAny_standAt (wpAny_bind (wpAny_of_eq (hf x) (wpAny_bind (wpAny_holding (wpAny_mono k4 (fun it1 z5 k5 => wpAny_bind (wpAny_runOwn ?_)) fun _ _ q => q))))))
    rw [Around.mark_none]
    refine codeAny_mono k5 fun o z6 k6 => ?_
    cases o with
    | error e => exact k6.elim
    | ok f =>
      first
        | exact wpAny_pure ⟨rfl, k6⟩
        | exact wpAny_bind (wpAny_pure (wpAny_pure ⟨rfl, k6⟩))
/-- turns of the inner clause -/
theorem dc2_inner {D : Addr} (Inn : Nat → Shared → Prop)
    (one : ∀ n s, Inn n s → wpAny (model prog w) A (pyNext it) (fun o z1 => match o with
      | none => R (.ok .next) z1
      | some v => wpAny (model prog w) A (letOwnedTupleGo c it v) (fun _ z2 => wpAny (model prog w) A (assign c env v) (fun _ z3 => wpAny (model prog w) A (eval kx env) (fun kv z4 => wpAny (model prog w) A (eval vx env) (fun vv z5 =>
          wpAny (model prog w) A (dictSet D kv vv) (fun _ z6 => ∃ m, m < n ∧ Inn m z6) (notedBy (model prog w) A env fun e z => R (.error e) z) z5) (notedBy (model prog w) A env fun e z => R (.error e) z) z4) (notedBy (model prog w) A env fun e z => R (.error e) z) z3) (notedBy (model prog w) A env fun e z => R (.error e) z) z2) (notedBy (model prog w) A env fun e z => R (.error e) z) z1) (notedBy (model prog w) A env fun e z => R (.error e) z) s)
    (n : Nat) (h0 : Inn n s) : codeAny (model prog w) A (.compLoop (dc2 kx vx a b c d scope pos) 1 it (.ref D) env) R s := by
  refine codeAny_loop rfl Inn (fun n s hn => ?_) n h0
  show wpAny _ A ((compTurn (dc2 kx vx a b c d scope pos) 1 it (.ref D) env).onRaise (fun x => do noteFrame x env; theTreesLotGoes x)) _ _ s
  rw [dc2_turn1]
  refine wpAny_noted (wpAny_bind (wpAny_standAt (wpAny_bind (wpAny_mono (one n s hn) (fun o z1 k1 => ?_) fun _ _ q => q))))
  match o, k1 with
  | none, k1 => exact wpAny_pure k1
  | some v, k1 =>
    refine wpAny_bind (wpAny_mono k1 (fun _ z2 k2 => wpAny_bind (wpAny_mono k2 (fun _ z3 k3 => ?_) fun _ _ q => q)) fun _ _ q => q)
    refine wpAny_bind (wpAny_bind (wpAny_mono k3 (fun kv z4 k4 => wpAny_bind (wpAny_holding (wpAny_mono k4 (fun vv z5 k5 => wpAny_bind (wpAny_standAt (wpAny_holding (wpAny_mono k5 (fun _ z6 k6 => ?_) fun _ _ q => q)))) fun _ _ q => q))) fun _ _ q => q))
    exact wpAny_pure ⟨rfl, k6⟩
theorem dc2_begin1 (h0 : codeAny (model prog w) A (.compLoop (dc2 kx vx a b c d scope pos) 1 it acc env) R s)
    (h1 : wpAny (model prog w) A (pyIter it) (fun it' z => codeAny (model prog w) A (.compLoop (dc2 kx vx a b c d scope pos) 1 it' acc env) R z) (notedBy (model prog w) A env fun x z => R (.error x) z) s) : codeAny (model prog w) A (.compStart (dc2 kx vx a b c d scope pos) 1 it acc env) R s := by
  refine codeAny_of_tree (show wpAny _ _ ((compStart (dc2 kx vx a b c d scope pos) 1 it acc env).onRaise (fun x => do noteFrame x env; standAt theWindowsPlace)) _ _ s from wpAny_notedAt ?_)
  unfold compStart
  refine (show wpAny _ _ (ask >>= _) _ _ s from wpAny_bind (wpAny_askSetting (wpAny_ite ?_)))
  split
  · first
      | exact wpAny_pure ⟨rfl, h0⟩
      | exact wpAny_bind (wpAny_pure (wpAny_pure ⟨rfl, h0⟩))
  · refine wpAny_bind (wpAny_rule ?_)
    refine (show wpAny _ _ (standAt d.pos >>= _) _ _ s from wpAny_bind (wpAny_standAt (wpAny_bind (wpAny_mono h1 (fun it' z k => wpAny_pure ⟨rfl, k⟩) fun _ _ q => q))))
end
section
variable {X : Cx}
/-- {k: v for a in b for c in d}: D the new dict; vs the block's own slots, vs1 those of the inner target -/
def tDc2 (wi : TI) (g : TG) (wi1 : TI) (g1 : TG) (tk tv : TE) (vs vs1 : List Nat) : TE := fun σ H Q => wi σ H fun J H1 => ∀ D, H1 D = none → ∃ W : Nat → Nat → Hp → Prop, (∃ m, W 0 m (upd H1 D (.dK []))) ∧ ∀ i m H, W i m H →
  (J.stop i H ∧ Q (.ref D) H) ∨ (J.go i H ∧ ∃ Nx : Hp → Prop, (∀ H', Nx H' → ∃ m', m' < m ∧ W (i + 1) m' H') ∧ ∀ x H', J.yld i H x H' → g x (wipe σ vs) H' fun σ2 H2 => wipe σ2 vs = wipe σ vs ∧ wi1 σ2 H2 fun J1 H4 => ∃ W1 : Nat → Nat → Hp → Prop, (∃ m, W1 0 m H4) ∧ ∀ j k H, W1 j k H →
    (J1.stop j H ∧ Nx H) ∨ (J1.go j H ∧ ∃ Nx1 : Hp → Prop, (∀ H', Nx1 H' → ∃ k', k' < k ∧ W1 (j + 1) k' H') ∧ ∀ x H', J1.yld j H x H' → g1 x (wipe σ2 vs1) H' fun σ3 H5 => wipe σ3 vs1 = wipe σ2 vs1 ∧ tk σ3 H5 fun y H6 => tv σ3 H6 fun z H7 => ∃ kvs key, y = kV key ∧ H7 D = some (.dK kvs) ∧ kvs.length < sizeLine ∧ Nx1 (upd H7 D (.dK (putK kvs key z)))))
abbrev BkX (X : Cx) (scope : Scope) (G : Cx → Prop) : Prop := ∀ (s : Shared) (H : Hp) (C : Addr) (cl : List (Str × Addr)) (fp : List Addr), G (X.blk s H scope (compEnvC scope cl C X.env) fp)
set_option maxHeartbeats 4000000 in
theorem pe_dc2 {kx vx a b c d : Expr} {scope : Scope} {own : List (Str × Nat)} {vs1 : List Nat} {pos : Pos} {wi wi1 : TI} {g g1 : TG} {tk tv : TE} (hc : X.calm = true) (hN : X.N.Nodup) (hi : PI X a b wi) (ok : BlkOk X.N X.env.scope scope own) (hv : ∀ i ∈ vs1, i ∈ own.map (·.2))
    (hg : BkX X scope fun Y => PG Y a g) (hi1 : BkX X scope fun Y => PI Y c d wi1) (hg1 : BkX X scope fun Y => PG Y c g1) (hk : BkX X scope fun Y => PE Y kx tk) (he : BkX X scope fun Y => PE Y vx tv) (hs : ∀ x, foldedSetIterable b X.env x = pure x := by intro _; rfl) (hs1 : ∀ env x, foldedSetIterable d env x = pure x := by intro _ _; rfl) :
    PE X (.DictComp kx vx [⟨a, b, [], 0⟩, ⟨c, d, [], 0⟩] scope pos) (tDc2 wi g wi1 g1 tk tv (own.map (·.2)) vs1) := by
  refine ⟨fun pins s σ H Q I h => ?_⟩
  rw [arm_eval_DictComp]
  have cellsOk : ∀ y ∈ scope.names, y.2 = .free → ∃ c, X.env.cells.lookup y.1 = some c := fun y hy e => (ok.free y hy e).elim (fun z => I.ok.has _ (.inl z)) (fun z => I.ok.has _ (.inr z))
  refine wpAny_comprehension_free rfl hs (closure_ok cellsOk) ok.kind (fun y hy e => by rw [ok.uniq y hy, e]) (thn (hi.run pins s σ H _ I h) fun xv s1 hx => thn hx fun itv s2 h2 => ?_)
  obtain ⟨it, fp, tn, J, H2, eit, I2, TT, st2, f2, q⟩ := h2
  subst eit
  refine wpAny_newObj_type (newEnv_comp ?_)
  -- the new dict
  obtain ⟨D, hD⟩ : ∃ D, D = s2.heap.objs.size := ⟨_, rfl⟩
  rw [← hD]
  obtain ⟨W, ⟨m0, w0⟩, turn⟩ := q D (I2.hok.fresh (Nat.le_of_eq hD.symm))
  obtain ⟨s3, es3⟩ : ∃ s3 : Shared, s3 = { s2 with heap := s2.heap.push { cls := .type "dict", data := .dict #[] } } := ⟨_, rfl⟩
  have hp3 : s3.heap = s2.heap.push { cls := .type "dict", data := .dict #[] } := by rw [es3]
  obtain ⟨H3, eH3⟩ : ∃ H3 : Hp, H3 = upd H2 D (.dK []) := ⟨_, rfl⟩
  have I3 : Inv X pins σ H3 s3 := by
    rw [es3, eH3]
    exact I2.laid (t' := s2.toks) (fun _ _ e => Heap.get?_push_of_some _ e) (Nat.le_of_eq hD.symm) (by rw [hD]; exact dk_empty s2.heap I2.big)
  have low : ∀ z ∈ fp, z < s2.heap.objs.size := fun z hz => (TT.obj _ _ st2 z hz).elim fun o e => Heap.lt_size e.1
  have f3 : ∀ z ∈ fp, FpOk X pins H3 z ∧ z < s3.heap.objs.size := fun z hz => by
    refine ⟨⟨?_, (f2 z hz).2⟩, by rw [hp3, Heap.size_push]; exact Nat.lt_succ_of_lt (low z hz)⟩
    rw [eH3, upd_ne (fun e => Nat.lt_irrefl _ (by have := low z hz; rw [← hD, ← e] at this; exact this))]
    exact (f2 z hz).1
  have st3 : tn 0 s3.heap := TT.keep _ _ _ st2 fun z _ o e => by rw [hp3]; exact Heap.get?_push_of_some _ e
  have I4 := block_start I3 ok hN f3
  rw [← eH3] at w0
  rw [← es3]
  obtain ⟨cl, ecl⟩ : ∃ cl, cl = cellsFrom (s3.heap.objs.size + 1) scope.names (cloFrom X.env.cells scope.names []) := ⟨_, rfl⟩
  rw [← ecl] at I4
  have pg := hg s3 H3 s3.heap.objs.size cl fp
  have pi1 := hi1 s3 H3 s3.heap.objs.size cl fp
  have pg1 := hg1 s3 H3 s3.heap.objs.size cl fp
  have pk := hk s3 H3 s3.heap.objs.size cl fp
  have pv := he s3 H3 s3.heap.objs.size cl fp
  obtain ⟨ce, ece⟩ : ∃ ce, ce = compEnvC scope cl s3.heap.objs.size X.env := ⟨_, rfl⟩
  have cL : ce.locals = s3.heap.objs.size := by rw [ece]; rfl
  rw [← ece] at I4 pg pi1 pg1 pk pv
  obtain ⟨s4, es4⟩ : ∃ s4 : Shared, s4 = { s3 with heap := pushCells (s3.heap.push { cls := .type "dict", data := .dict #[] }) scope.names } := ⟨_, rfl⟩
  rw [← es4] at I4
  have st4 : tn 0 s4.heap := TT.keep _ _ _ st3 fun z _ o e => by rw [es4]; exact pushCells_keeps _ _ _ _ (Heap.get?_push_of_some _ e)
  obtain ⟨Y, eY⟩ : ∃ Y : Cx, Y = X.blk s3 H3 scope ce fp := ⟨_, rfl⟩
  have still : ∀ {σ' : L2.St} {H' : Hp} {s' : Shared}, Inv (X.blk s3 H3 scope ce fp) [] σ' H' s' → (∀ z ∈ fp, H' z = none) → ∀ z ∈ fp, FpOk (X.blk s3 H3 scope ce fp) [] H' z := fun J' hn z hz =>
    ⟨hn z hz, (J'.ok.exf z hz).1, J'.ok.exfs z hz, .inl hz, fun x c e => (J'.ok.exf z hz).2 x c e, fun p hp => absurd (show p ∈ ([] : List (Addr × Obj)) ++ [] from hp) (by simp)⟩
  have outer : codeAny (model X.prog X.w) X.A (.compLoop (dc2 kx vx a b c d scope pos) 0 (.ref it) (.ref D) ce) (compPost (model X.prog X.w) X.A X.xe none (fun v s' => ∃ (v0 : V) (H' : Hp), Inv X pins σ H' s' ∧ RelV v0 v ∧ Q v0 H') (.ref D) s3.heap.objs.size) s4 := by
    refine dc2_outer (hs1 ce) (fun n z => ∃ i H', Inv (X.blk s3 H3 scope ce fp) [] (wipe σ (own.map (·.2))) H' z ∧ tn i z.heap ∧ (∀ y ∈ fp, H' y = none) ∧ W i n H') ?_ m0 ⟨0, H3, I4, st4, fun z hz => (f3 z hz).1.1, w0⟩
    rintro n s5 ⟨i, H5, I5, st5, n5, w5⟩
    rcases turn i n H5 w5 with ⟨stop, qq⟩ | ⟨go, Nx, hNx, step⟩
    · refine thnF (TT.done (X.blk s3 H3 scope ce fp) rfl rfl rfl hc i [] s5 _ H5 (fun _ _ => False) I5 (still I5 n5) st5 stop) fun r s6 ⟨er, I6⟩ => ?_
      subst er
      have I7 : Inv X pins σ H5 s6 := I3.call' (ch := fp) I6.os I6.base I6.hok I6.bare fun z hz => by
        obtain ⟨_, q2, _, q4, q5, q6⟩ := (f3 z hz).1
        exact ⟨q4, q2, q5, q6⟩
      have nC : H5 s3.heap.objs.size = none := by rw [← cL]; exact I6.free
      obtain ⟨m, hn, _⟩ := I6.loc
      have hn' : s6.heap.Ns s3.heap.objs.size m := by rw [← cL]; exact hn
      obtain ⟨g0, g1', g2, g3, g4, g5⟩ := I3.fpOk (pins := pins) (Nat.le_refl s3.heap.objs.size) nC
      exact ⟨m, hn', fun h'' sb => ⟨.ref D, H5, I7.turned (t' := s6.toks) (fun y o hy e => (sb.2 y hy).trans e) g0 g1' g3 g4 g5, rfl, qq⟩⟩
    · refine thnF (TT.item (X.blk s3 H3 scope ce fp) rfl rfl rfl hc i [] s5 _ H5 (fun _ _ => False) I5 (still I5 n5) st5 go) fun r s6 ⟨u, er, h6⟩ => ?_
      subst er
      refine thnF h6 fun _ s7 ⟨x, H7, I7, r7, y7, st7, n7⟩ => ?_
      refine thnF (pg.run _ s7 _ H7 x u _ (I7.pinned (still I7 n7) (TT.obj _ _ st7)) r7 (step x H7 y7)) fun _ s8 ⟨σ8, H8, I8, w8, q8⟩ => ?_
      -- back to the outer clause from any slots that know what was known at first
      have back : ∀ {σ9 : L2.St} {z : Shared} {H' : Hp}, Inv (X.blk s3 H3 scope ce fp) ([] ++ pinsAt fp s7.heap) σ9 H' z → (wipe σ (own.map (·.2))).length = σ9.length → (∀ (j : Nat) v, (wipe σ (own.map (·.2)))[j]? = some (some v) → σ9[j]? = some (some v)) → Nx H' → ∃ m, m < n ∧ ∃ i H', Inv (X.blk s3 H3 scope ce fp) [] (wipe σ (own.map (·.2))) H' z ∧ tn i z.heap ∧ (∀ y ∈ fp, H' y = none) ∧ W i m H' := fun {σ9 z H'} J' e1 e2 nx => by
        obtain ⟨m', lt', w'⟩ := hNx H' nx
        have held : ∀ y ∈ fp, ∀ o, s7.heap.get? y = some o → z.heap.get? y = some o ∧ H' y = none := fun y hy o e => by
          have := J'.pin (y, o) (List.mem_append_right _ (List.mem_append_right _ (mem_pinsAt hy e)))
          exact ⟨this.1, this.2.1⟩
        exact ⟨m', lt', i + 1, H', (J'.unpinned (pins := [])).weak e1 e2, TT.keep _ _ _ st7 (fun y hy o e => (held y hy o e).1), (fun y hy => (TT.obj _ _ st7 y hy).elim fun o e => (held y hy o e.1).2), w'⟩
      have l8 : (wipe σ (own.map (·.2))).length = σ8.length := (congrArg List.length w8).symm.trans (wipe_length _ _)
      have k9 : ∀ (j : Nat) v, (wipe σ (own.map (·.2)))[j]? = some (some v) → (wipe σ8 vs1)[j]? = some (some v) := fun j v e => by
        rw [← w8] at e
        obtain ⟨a1, a2⟩ := wipe_some e
        rw [wipe_out fun z => a2 (hv j z)]
        exact a1
      refine thnF (pi1.run _ s8 σ8 H8 _ I8 q8) fun xv s10 hx => thnF hx fun itv s11 h11 => ?_
      obtain ⟨it1, fp1, tn1, J1, H11, ei1, I11, T1, st11, f11, W1, ⟨m1, w1⟩, turn1⟩ := h11
      subst ei1
      have still1 : ∀ {H' : Hp}, (∀ z ∈ fp1, H' z = none) → ∀ z ∈ fp1, FpOk (X.blk s3 H3 scope ce fp) ([] ++ pinsAt fp s7.heap) H' z := fun hn z hz => ⟨hn z hz, (f11 z hz).2⟩
      have inner : codeAny (model X.prog X.w) X.A (.compLoop (dc2 kx vx a b c d scope pos) 1 (.ref it1) (.ref D) ce) (fun r z => match r with | .ok _ => ∃ m, m < n ∧ ∃ i H', Inv (X.blk s3 H3 scope ce fp) [] (wipe σ (own.map (·.2))) H' z ∧ tn i z.heap ∧ (∀ y ∈ fp, H' y = none) ∧ W i m H' | .error _ => False) s11 := by
        refine dc2_inner (fun k z => ∃ j H', Inv (X.blk s3 H3 scope ce fp) ([] ++ pinsAt fp s7.heap) (wipe σ8 vs1) H' z ∧ tn1 j z.heap ∧ (∀ y ∈ fp1, H' y = none) ∧ W1 j k H') ?_ m1 ⟨0, H11, I11.weak (wipe_length _ _) (fun j v e => (wipe_some e).1), st11, fun z hz => (f11 z hz).1, w1⟩
        rintro k s12 ⟨j, H12, I12, st12, n12, w12⟩
        rcases turn1 j k H12 w12 with ⟨stop1, nx1⟩ | ⟨go1, Nx1, hNx1, step1⟩
        · refine thnF (T1.done (X.blk s3 H3 scope ce fp) rfl rfl rfl hc j _ s12 (wipe σ8 vs1) H12 (fun _ _ => False) I12 (still1 n12) st12 stop1) fun r s13 ⟨er, I13⟩ => ?_
          subst er
          exact back I13 (l8.trans (wipe_length σ8 vs1).symm) k9 nx1
        · refine thnF (T1.item (X.blk s3 H3 scope ce fp) rfl rfl rfl hc j _ s12 (wipe σ8 vs1) H12 (fun _ _ => False) I12 (still1 n12) st12 go1) fun r s13 ⟨u1, er, h13⟩ => ?_
          subst er
          refine thnF h13 fun _ s14 ⟨x1, H14, I14, r14, y14, st14, n14⟩ => ?_
          refine thnF (pg1.run _ s14 (wipe σ8 vs1) H14 x1 u1 _ (I14.pinned (still1 n14) (T1.obj _ _ st14)) r14 (step1 x1 H14 y14)) fun _ s15 ⟨σ15, H15, I15, w15, q15⟩ => ?_
          refine thnF (pk.run _ s15 σ15 H15 _ I15 q15) fun zk s16 ⟨yk, H16, I16, r16, q16⟩ => ?_
          refine thnF (pv.run _ s16 σ15 H16 _ I16 q16) fun zv s17 ⟨yv, H17, I17, r17, kvs, key, ek, hD17, hz17, nx⟩ => ?_
          subst ek
          refine d_dictSet (X := X.blk s3 H3 scope ce fp) I17 hD17 hz17 r16 r17 fun s18 I18 => ?_
          obtain ⟨m', lt', w'⟩ := hNx1 _ nx
          have held : ∀ y ∈ fp1, ∀ o, s14.heap.get? y = some o → s18.heap.get? y = some o ∧ upd H17 D (.dK (putK kvs key yv)) y = none := fun y hy o e => by
            have := I18.pin (y, o) (List.mem_append_right _ (List.mem_append_right _ (mem_pinsAt hy e)))
            exact ⟨this.1, this.2.1⟩
          exact ⟨m', lt', j + 1, _, I18.unpinned.weak ((congrArg List.length w15).symm.trans (wipe_length _ _)) (fun j v e => by rw [← w15] at e; exact (wipe_some e).1), T1.keep _ _ _ st14 (fun y hy o e => (held y hy o e).1), (fun y hy => (T1.obj _ _ st14 y hy).elim fun o e => (held y hy o e.1).2), w'⟩
      exact dc2_begin1 inner (T1.self X.A 0 _ _ _ st11 inner)
  have := codeAny_compStart_dict outer (TT.self X.A 0 _ _ _ st4 outer)
  rw [ece, ecl, es4] at this
  exact this
end
end Lh

namespace Lh
open PySem PySem.Spec PyProof.Rows L2
/-! ### dicts: update, != {}, walks of a comprehension of two clauses -/
section
variable {X : Cx}
def rDUpd : V → List V → Hp → VK → Prop := fun x xs H Q => ∃ (a b : Addr) (kvs more : List (Key × V)), x = .ref a ∧ xs = [.ref b] ∧ H a = some (.dK kvs) ∧ H b = some (.dK more) ∧ a ≠ b ∧ kvs.length + more.length ≤ sizeLine ∧ Q .non (upd H a (.dK (mergeK kvs more)))
theorem putK_len {κ : Type} [DecidableEq κ] (kvs : List (κ × V)) (k : κ) (v : V) : (putK kvs k v).length ≤ kvs.length + 1 := by
  unfold putK
  split
  · rw [List.length_map]; omega
  · rw [List.length_append]; exact Nat.le_refl _
theorem mergeK_len (kvs : List (Key × V)) : ∀ more : List (Key × V), (mergeK kvs more).length ≤ kvs.length + more.length := by
  intro more
  unfold mergeK
  induction more generalizing kvs with
  | nil => exact Nat.le_refl _
  | cons p r ih =>
    rw [List.foldl_cons, List.length_cons]
    have := ih (putK kvs p.1 p.2)
    have := putK_len kvs p.1 p.2
    omega
theorem mt_dupd : MtM X "dict.update" rDUpd := by
  intro pins s σ H x xs v us Q I rx rs h
  obtain ⟨a, b, kvs, more, rfl, rfl, ha, hb, ne, hz, q⟩ := h
  obtain rfl : v = Value.ref a := rx
  cases rs with
  | cons r0 r1 =>
    cases r1
    obtain rfl : _ = Value.ref b := r0
    obtain ⟨z, hd, vs, rel, dd⟩ := dk_of I.hok ha
    obtain ⟨z2, hd2, vs2, rel2, dd2⟩ := dk_of I.hok hb
    refine call_meetsIn PySem.F.slot_dict_update dd.typeIs PySem.F.entry_dict_update (PySem.F.args_dict_update_2 _ _) (meets_dict_update (mixKind X.prog X.w) a b ne hd2) ⟨vs, vs2, dd, dd2, by rw [← rel.length, ← rel2.length]; exact hz, fun h' dd' _ hs => ?_⟩
    have he : ∃ q, h'.get? a = some q := let ⟨q, _, _, hq, _⟩ := dd'; ⟨q, hq⟩
    exact ⟨.non, _, d_write (t' := s.toks) I (by rw [ha]; exact True.intro) hs he (dk_new (Nat.le_trans (mergeK_len _ _) hz) hd (rel2.merge rel) dd'), rfl, q⟩
def rNeE : R2 := fun x y H Q => ∃ a b ks, x = .ref a ∧ y = .ref b ∧ H a = some (.dK ks) ∧ H b = some (.dK []) ∧ Q (.bl (!ks.isEmpty)) H
theorem op_neE (hu : X.A.units < cLine) : OpR X (compareOp .NotEq) rNeE := by
  intro pins s σ H x y v u Q I rx ry h
  obtain ⟨a, b, ks, rfl, rfl, ea, eb, q⟩ := h
  obtain rfl : v = Value.ref a := rx
  obtain rfl : u = Value.ref b := ry
  obtain ⟨_, ya, va, ra, da⟩ := (show ObjOk X.prog X.w H s.heap a (.dK ks) from I.hok a _ ea)
  obtain ⟨_, yb, vb, rb, db⟩ := (show ObjOk X.prog X.w H s.heap b (.dK []) from I.hok b _ eb)
  cases rb
  refine PySem.W.keq_ne (knd := mixKind X.prog X.w) (r := true) ya yb da db hu (fun e => ?_) (fin_bl I q ?_)
  · cases va with
    | nil => exact .nil
    | cons p r => cases e
  · have := ra.length
    cases ks with
    | nil => cases va with
      | nil => rfl
      | cons p r => cases this
    | cons p r => cases va with
      | nil => cases this
      | cons p' r' => rfl
theorem dc2_it {J : It} {n : Nat} {G : Hp → Prop} {Y : Nat → Hp → V → Hp → Prop} (w : Walk J n G Y) {S : V → Hp → (Hp → Prop) → Prop} {H1 : Hp} {Qd : Hp → Prop} (Pv : Nat → Hp → Prop) (h0 : Pv 0 H1) (hG : ∀ i H, i ≤ n → Pv i H → G H)
    (hs : ∀ i x H H', i < n → Pv i H → Y i H x H' → S x H' (Pv (i + 1))) (hd : ∀ H, Pv n H → Qd H) :
    ∃ W : Nat → Nat → Hp → Prop, (∃ m, W 0 m H1) ∧ ∀ i m H, W i m H → (J.stop i H ∧ Qd H) ∨ (J.go i H ∧ ∃ Nx : Hp → Prop, (∀ H', Nx H' → ∃ m', m' < m ∧ W (i + 1) m' H') ∧ ∀ x H', J.yld i H x H' → S x H' Nx) := by
  refine ⟨fun i m H => m = n - i ∧ i ≤ n ∧ Pv i H, ⟨n, by simp, Nat.zero_le _, h0⟩, ?_⟩
  rintro i m H ⟨rfl, hi, p⟩
  have q := hG i H hi p
  by_cases hlt : i < n
  · exact .inr ⟨w.goes i H hlt q, Pv (i + 1), fun H' p' => ⟨n - (i + 1), by omega, rfl, hlt, p'⟩, fun x H' y => hs i x H H' hlt p (w.yields i H x H' hlt q y)⟩
  · have e : i = n := by omega
    subst e
    exact .inl ⟨w.stops H q, hd H p⟩
end
end Lh

namespace Lh
open PySem PySem.Spec PyProof.Rows L2
/-! ### a list or a tuple, whichever it is -/
def SeqH (H : Hp) (a : Addr) (xs : List V) : Prop := H a = some (.lst xs) ∨ TupAt H a xs
theorem SeqH.same {H H' : Hp} {a : Addr} {xs : List V} (s : Same H H') (h : SeqH H a xs) : SeqH H' a xs := h.elim (fun z => .inl (s _ _ z)) fun z => .inr (z.keep (Keep.same s))
theorem SeqH.sq {K : PySem.W.Frag} {H : Hp} {a : Addr} {xs : List V} (h : SeqH H a xs) : SqL K H a xs ∨ SqT K H a xs := h.elim (fun z => .inl (.inl (.inl z))) fun z => .inr z.sq
theorem SeqH.has {H : Hp} {a : Addr} {xs : List V} (h : SeqH H a xs) : ∃ o, H a = some o := by
  rcases h with h | h | ⟨o, _, h⟩
  · exact ⟨_, h⟩
  · exact ⟨_, h⟩
  · exact ⟨_, h⟩
theorem SeqH.ext {bx : Addr} {H H' : Hp} {a : Addr} {xs : List V} (e : Ext bx H H') (n : a ≠ bx) (h : SeqH H a xs) : SeqH H' a xs := h.elim (fun z => .inl (e _ _ n z)) fun z => .inr (z.ext e n)
theorem SeqH.ne {bx : Addr} {c : Int} {H H' : Hp} {a : Addr} {xs : List V} (b : Box bx c H) (n : H a = none) : a ≠ bx := b.ne n
/-- walked: one of both -/
def iAny (K : PySem.W.Frag) (tl : TE) : TI := fun σ H R => iList K tl σ H R ∨ iTup K tl σ H R
def iEnumA (K : PySem.W.Frag) (ta : TA) : TI := fun σ H R => iEnum K ta σ H R ∨ iEnumT K ta σ H R
section
variable {X : Cx} {tg : Expr} {K : PySem.W.Frag}
theorem pi_any {l : Expr} {tl : TE} (h : PE X l tl) : PI X tg l (iAny X.K tl) := ⟨fun pins s σ H R I q => q.elim ((pi_list h).run pins s σ H R I) ((pi_tup h).run pins s σ H R I)⟩
theorem pi_enumA {e : Expr} {ta : TA} {p pos tpos : Pos} {elts : List Expr} {kk : Nat} (hg : Gl X "enumerate") (hm : X.mg "enumerate" = none) (ha : PA X [e] ta) (hs : starEach [e] X.env = [(false, eval e X.env)] := by rfl) :
    PI X (.Tuple elts kk tpos) (.Call (.Name "enumerate" p) [e] [] pos) (iEnumA X.K ta) :=
  ⟨fun pins s σ H R I q => q.elim ((pi_enum hg hm ha hs).run pins s σ H R I) ((pi_enumT hg hm ha hs).run pins s σ H R I)⟩
/-- what a walk of the thing at a asks, from then on: that it stands -/
def Stands (H : Hp) (a : Addr) (G : Hp → Prop) : Prop := ∀ H', (∀ o, H a = some o → H' a = some o) → G H'
theorem Stands.same {H H' : Hp} {a : Addr} {G : Hp → Prop} (g : Stands H a G) (s : Same H H') : G H' := g H' fun o h => s _ _ h
theorem any_var {σ : L2.St} {i : Nat} {a : Addr} {H : Hp} {xs : List V} {R : It → Hp → Prop} (hv : σ[i]? = some (some (.ref a))) (h : SeqH H a xs)
    (k : ∀ J G, Walk J xs.length G (YAt xs) → Stands H a G → R J H) : iAny K (tVar i) σ H R := by
  rcases h with h | h
  · exact .inl ⟨_, hv, a, rfl, ⟨xs, .inl (.inl h)⟩, k _ _ walk_list fun H' e => .inl (.inl (e _ h))⟩
  · refine .inr ⟨_, hv, a, rfl, ⟨xs, h.sq⟩, k _ _ walk_tup fun H' e => ?_⟩
    rcases h with h | ⟨o, _, h⟩
    · exact .inl (.inl (e _ h))
    · exact .inl (.inr ⟨o, e _ h⟩)
theorem enum_var {σ : L2.St} {i : Nat} {a : Addr} {H : Hp} {xs : List V} {R : It → Hp → Prop} (hv : σ[i]? = some (some (.ref a))) (h : SeqH H a xs)
    (k : ∀ J G, Walk J xs.length G (YPair (fun n => some (.int (n : Nat))) (fun n => xs[n]?)) → Stands H a G → R J H) : iEnumA K (tCons (tVar i) tNil) σ H R := by
  rcases h with h | h
  · exact .inl ⟨_, hv, a, xs, rfl, .inl (.inl h), k _ _ walk_enum fun H' e => .inl (.inl (e _ h))⟩
  · refine .inr ⟨_, hv, a, xs, rfl, h.sq, k _ _ walk_enumT fun H' e => ?_⟩
    rcases h with h | ⟨o, _, h⟩
    · exact .inl (.inl (e _ h))
    · exact .inl (.inr ⟨o, e _ h⟩)
/-- the same, where it stood at an earlier heap already -/
theorem any_varS {σ : L2.St} {i : Nat} {a : Addr} {H0 H : Hp} {xs : List V} {R : It → Hp → Prop} (hv : σ[i]? = some (some (.ref a))) (s : Same H0 H) (h : SeqH H0 a xs)
    (k : ∀ J G, Walk J xs.length G (YAt xs) → (∀ {H'}, Same H0 H' → G H') → R J H) : iAny K (tVar i) σ H R :=
  any_var hv (h.same s) fun J G W g => k J G W fun {H'} s' => g H' fun o e => by
    obtain ⟨u, hu⟩ := h.has
    rw [s _ _ hu] at e
    cases e
    exact s' _ _ hu
/-- an item of one of both -/
theorem ix_at {H : Hp} {a : Addr} {xs : List V} {n : Int} {v : V} {Q : VK} (h : SeqH H a xs) (e : atI xs n = some v) (q : Q v H) : rIx K (.ref a) (.int n) H Q :=
  h.elim (fun z => .inl ⟨a, xs, n, v, rfl, rfl, .inl (.inl z), e, q⟩) fun z => .inr (.inl ⟨a, xs, n, v, rfl, rfl, z.sq, e, q⟩)
end
/-! ### lists of persons, in a list or a tuple -/
def vN (p : Nat) : V := .int (p : Int)
def LsAt (H : Hp) : List V → List (List Nat) → Prop := Paired fun u l => ∃ b, u = .ref b ∧ SeqH H b (l.map vN)
theorem LsAt.same {H H' : Hp} (s : Same H H') : ∀ {us : List V} {ls : List (List Nat)}, LsAt H us ls → LsAt H' us ls
  | _, _, .nil => .nil
  | _, _, .cons ⟨b, e, h⟩ r => .cons ⟨b, e, h.same s⟩ (LsAt.same s r)
theorem LsAt.get {H : Hp} : ∀ {us : List V} {ls : List (List Nat)}, LsAt H us ls → ∀ (i : Nat) (h : i < ls.length), ∃ b, us[i]? = some (.ref b) ∧ SeqH H b (ls[i].map vN)
  | _, _, .nil, i, h => absurd h (by simp)
  | _, _, .cons ⟨b, e, h⟩ r, 0, _ => ⟨b, congrArg some e, h⟩
  | _, _, .cons _ r, i + 1, h => LsAt.get r i (by simpa using h)
/-- lists of persons of n, each in one, none bare -/
structure Part (n : Nat) (ls : List (List Nat)) : Prop where
  few : n ≤ 60
  bare : ∀ l ∈ ls, l ≠ []
  once : ls.flatten.Nodup
  all : ∀ p, p ∈ ls.flatten ↔ p < n
theorem nodup_lenN : ∀ {l m : List Nat}, l.Nodup → (∀ x ∈ l, x ∈ m) → l.length ≤ m.length
  | [], _, _, _ => Nat.zero_le _
  | x :: r, m, h, s => by
    have hx := s x List.mem_cons_self
    obtain ⟨h1, h2⟩ := List.nodup_cons.mp h
    have := nodup_lenN (l := r) (m := m.erase x) h2 fun y hy => (List.mem_erase_of_ne (fun e : y = x => h1 (by rw [← e]; exact hy))).mpr (s y (List.mem_cons_of_mem _ hy))
    rw [List.length_erase_of_mem hx] at this
    have := List.length_pos_of_mem hx
    rw [List.length_cons]
    omega
theorem Part.count {n : Nat} {ls : List (List Nat)} (h : Part n ls) : ls.flatten.length = n := by
  have h1 := nodup_lenN h.once fun x hx => List.mem_range.mpr ((h.all x).mp hx)
  have h2 := nodup_lenN (List.nodup_range (n := n)) fun x hx => (h.all x).mpr (List.mem_range.mp hx)
  rw [List.length_range] at h1 h2
  omega
theorem flat_len : ∀ (ls : List (List Nat)), (∀ l ∈ ls, l ≠ []) → ls.length ≤ ls.flatten.length
  | [], _ => Nat.le_refl _
  | l :: r, h => by
    have := flat_len r fun x hx => h x (List.mem_cons_of_mem _ hx)
    have := List.length_pos_iff.mpr (h l List.mem_cons_self)
    rw [List.flatten_cons, List.length_append, List.length_cons]
    omega
theorem Part.len {n : Nat} {ls : List (List Nat)} (h : Part n ls) : ls.length ≤ n := by
  have := flat_len ls h.bare
  rw [h.count] at this
  exact this
theorem Part.inner {n : Nat} {ls : List (List Nat)} (h : Part n ls) {i : Nat} (hi : i < ls.length) : ls[i].length ≤ n ∧ ∀ p ∈ ls[i], p < n := by
  have sub : ∀ p ∈ ls[i], p ∈ ls.flatten := fun p hp => List.mem_flatten.mpr ⟨_, List.getElem_mem hi, hp⟩
  refine ⟨?_, fun p hp => (h.all p).mp (sub p hp)⟩
  rw [← h.count]
  exact nodup_lenN ((List.sublist_flatten_of_mem (List.getElem_mem hi)).nodup h.once) sub
/-- the list that a person is in -/
def wh (ls : List (List Nat)) (p : Nat) : Nat := ls.findIdx fun l => decide (p ∈ l)
theorem wh_at : ∀ {ls : List (List Nat)} {p : Nat}, p ∈ ls.flatten → ∃ h : wh ls p < ls.length, p ∈ ls[wh ls p] := by
  intro ls p hp
  obtain ⟨l, hl, hpl⟩ := List.mem_flatten.mp hp
  have h : wh ls p < ls.length := List.findIdx_lt_length_of_exists ⟨l, hl, decide_eq_true hpl⟩
  exact ⟨h, of_decide_eq_true (List.findIdx_getElem (w := h))⟩
theorem wh_is : ∀ {ls : List (List Nat)} {p i : Nat} (hi : i < ls.length), ls.flatten.Nodup → p ∈ ls[i] → wh ls p = i
  | [], _, _, hi, _, _ => absurd hi (by simp)
  | l :: r, p, 0, _, _, h => by
    unfold wh
    rw [List.findIdx_cons, decide_eq_true (show p ∈ l from h)]
    rfl
  | l :: r, p, i + 1, hi, nd, h => by
    rw [List.flatten_cons] at nd
    obtain ⟨_, nr, dj⟩ := List.nodup_append.mp nd
    have hi' : i < r.length := by simpa using hi
    have h' : p ∈ r[i] := h
    have no : p ∉ l := fun z => dj p z p (List.mem_flatten.mpr ⟨_, List.getElem_mem hi', h'⟩) rfl
    have ih := wh_is hi' nr h'
    unfold wh at ih ⊢
    rw [List.findIdx_cons, decide_eq_false no, ih]
    rfl
/-- the persons of the first i lists, and the first j of the next -/
def done (ls : List (List Nat)) (i j : Nat) : List Nat := (ls.take i).flatten ++ (ls.getD i []).take j
theorem done_next {ls : List (List Nat)} {i j : Nat} (hi : i < ls.length) (hj : j < ls[i].length) : done ls i (j + 1) = done ls i j ++ [ls[i][j]] := by
  unfold done
  have e : ls.getD i [] = ls[i] := by rw [List.getD_eq_getElem?_getD, List.getElem?_eq_getElem hi]; rfl
  rw [e, List.take_add_one, List.getElem?_eq_getElem hj, ← List.append_assoc]
  rfl
theorem done_on {ls : List (List Nat)} {i : Nat} (hi : i < ls.length) : done ls i ls[i].length = done ls (i + 1) 0 := by
  unfold done
  have e : ls.getD i [] = ls[i] := by rw [List.getD_eq_getElem?_getD, List.getElem?_eq_getElem hi]; rfl
  rw [e, List.take_length, List.take_zero, List.append_nil, List.take_add_one, List.getElem?_eq_getElem hi, List.flatten_append]
  simp
theorem done_end {ls : List (List Nat)} : done ls ls.length 0 = ls.flatten := by
  unfold done
  rw [List.take_length, List.take_zero, List.append_nil]
theorem done_cut {ls : List (List Nat)} {i : Nat} (hi : i < ls.length) (j : Nat) : ∃ more, ls.flatten = done ls i j ++ more := by
  unfold done
  have e : ls.getD i [] = ls[i] := by rw [List.getD_eq_getElem?_getD, List.getElem?_eq_getElem hi]; rfl
  rw [e]
  refine ⟨ls[i].drop j ++ (ls.drop (i + 1)).flatten, ?_⟩
  conv => lhs; rw [← List.take_append_drop i ls, List.drop_eq_getElem_cons hi]
  rw [List.flatten_append, List.flatten_cons, List.append_assoc, ← List.append_assoc (ls[i].take j), List.take_append_drop]
theorem done_new {ls : List (List Nat)} {i j : Nat} (hi : i < ls.length) (hj : j < ls[i].length) (nd : ls.flatten.Nodup) : ls[i][j] ∉ done ls i j := by
  obtain ⟨more, e⟩ := done_cut hi (j + 1)
  rw [e, done_next hi hj, List.append_assoc] at nd
  intro z
  exact (List.nodup_append.mp nd).2.2 _ z _ List.mem_cons_self rfl
/-! ### the dict of who is in which -/
def WhD (ls : List (List Nat)) (ps : List Nat) (kvs : List (Key × V)) : Prop := kvs.length = ps.length ∧ ∀ p : Nat, valV kvs (Sum.inl (p : Int)) = if p ∈ ps then some (vN (wh ls p)) else none
theorem WhD.nil {ls : List (List Nat)} : WhD ls [] [] := ⟨rfl, fun p => by rw [if_neg (by simp)]; rfl⟩
theorem WhD.put {ls : List (List Nat)} {ps : List Nat} {kvs : List (Key × V)} {p : Nat} (h : WhD ls ps kvs) (hp : p ∉ ps) : WhD ls (ps ++ [p]) (putK kvs (Sum.inl (p : Int)) (vN (wh ls p))) := by
  obtain ⟨h1, h2⟩ := h
  have n := h2 p
  rw [if_neg hp] at n
  have e : putK kvs (Sum.inl (p : Int)) (vN (wh ls p)) = kvs ++ [(Sum.inl (p : Int), vN (wh ls p))] := by
    unfold putK
    rw [valV_any, n]
    rfl
  rw [e]
  refine ⟨by rw [List.length_append, List.length_append, h1]; rfl, fun q => ?_⟩
  rw [valV_snoc _ _ _ _ n]
  by_cases c : q = p
  · subst c
    rw [if_pos rfl, if_pos (by simp)]
  · have c' : ¬ (Sum.inl (q : Int) : Key) = Sum.inl (p : Int) := fun z => c (by have := Sum.inl.inj z; omega)
    rw [if_neg c', h2 q]
    by_cases d : q ∈ ps
    · rw [if_pos d, if_pos (by simp [d])]
    · rw [if_neg d, if_neg (by simp [d, c])]
end Lh

namespace Lh
open PySem PySem.Spec PyProof.Rows L2
/-! ### told_small, told_wide -/
/-- whether numbers are not all one -/
def unl (ns : List Int) : Bool := decide (∃ x ∈ ns, ∃ y ∈ ns, x ≠ y)
theorem one_of_nodup : ∀ {ks ns : List Int}, ks.Nodup → (∀ k, k ∈ ks ↔ k ∈ ns) → decide (1 < ks.length) = unl ns
  | [], ns, _, h => by
    have : ¬ ∃ x ∈ ns, ∃ y ∈ ns, x ≠ y := fun ⟨x, hx, _⟩ => absurd ((h x).mpr hx) (by simp)
    unfold unl
    rw [decide_eq_false this]
    rfl
  | [k], ns, _, h => by
    have : ¬ ∃ x ∈ ns, ∃ y ∈ ns, x ≠ y := fun ⟨x, hx, y, hy, n⟩ => n (by
      have a := List.mem_singleton.mp ((h x).mpr hx)
      have b := List.mem_singleton.mp ((h y).mpr hy)
      rw [a, b])
    unfold unl
    rw [decide_eq_false this]
    rfl
  | j :: k :: r, ns, nd, h => by
    have : ∃ x ∈ ns, ∃ y ∈ ns, x ≠ y := ⟨j, (h j).mp (by simp), k, (h k).mp (by simp), fun e => (List.nodup_cons.mp nd).1 (by rw [e]; simp)⟩
    unfold unl
    rw [decide_eq_true this]
    exact decide_eq_true (by simp)
def shownOf (st : List Int) (l : List Nat) : List Int := l.map fun p : Nat => nth st (p : Int)
def smallOf (st : List Int) (ls : List (List Nat)) : List Int := ls.map fun l : List Nat => nth st ((l.headD 0 : Nat) : Int)
def wideOf (st : List Int) (ls : List (List Nat)) (n : Nat) : List Int := (List.range n).map fun p : Nat => nth st (wh ls p : Int)
/-- the first list that shows unlike numbers -/
def FirstBad (st : List Int) (ls : List (List Nat)) (i : Nat) : Prop := ∃ h : i < ls.length, unl (shownOf st ls[i]) = true ∧ ∀ (j : Nat) (hj : j < i), unl (shownOf st (ls[j]'(by omega))) = false
def NoBad (st : List Int) (ls : List (List Nat)) : Prop := ∀ (j : Nat) (hj : j < ls.length), unl (shownOf st ls[j]) = false
theorem nthI {st : List Int} {p : Nat} (h : p < st.length) : atI (st.map V.int) (p : Int) = some (.int (nth st (p : Int))) := by
  refine atI_nat ?_
  rw [List.getElem?_map, List.getElem?_eq_getElem h]
  unfold nth
  rw [List.getD_eq_getElem?_getD, Int.toNat_natCast, List.getElem?_eq_getElem h]
  rfl
section
variable {P : Program} {w : World} {K : PySem.W.Frag} {mg : Str → Option Value} {base : Heap}
def spInitF (C : Addr) (f : Str) : Sp := fun vs H Q _ => ∃ (a : Addr) (v : V), vs = [.ref a, v] ∧ H a = some (exo a C none) ∧ ∀ dx, H dx = none → dx ≠ a → Q .non (upd (upd H dx (exd dx [(f, v)])) a (exo a C (some dx)))
theorem ok_NotLike_init (T : Txt K mg w) : FnOk P w K mg base CX0 1 T.f_NotLike_init T.fd_NotLike_init p_NotLike_init (spInitF T.C_NotLike "at") := by
  refine T.F_NotLike_init.ok sc_NotLike_init (fun vs H Q E h => ?_) (fun cdv A outer s H vs Q E hr h => ?_)
  · obtain ⟨a, v, rfl, _⟩ := h
    rfl
  · obtain ⟨a, v, rfl, ha, q⟩ := h
    refine ⟨_, (pss_cons (ps_expr (pe_veinit (by rfl) T.m_ValueError T.vi_ValueError (pa_cons (pv 0) (pa_cons pe_str pa_nil))))
      (pss_one (ps_ost (pv 0) (pv 1)))), ?_⟩
    refine ⟨.ref a, rfl, a, T.C_NotLike, _, rfl, by show 1 ≤ 1000; decide, T.ox_NotLike, ha, ?_⟩
    exact ⟨v, rfl, .ref a, rfl, a, T.C_NotLike, rfl, T.ox_NotLike, T.na_NotLike_at, .inl ⟨ha, q⟩⟩
def spPlaces : Sp := fun vs H Q _ => ∃ (t : Addr) (us : List V) (ls : List (List Nat)) (n : Nat), vs = [.ref t] ∧ SeqH H t us ∧ LsAt H us ls ∧ Part n ls ∧
  ∀ (D : Addr) (kvs : List (Key × V)) (H' : Hp), Same H H' → H D = none → H' D = some (.dK kvs) → WhD ls ls.flatten kvs → Q (.ref D) H'
set_option maxHeartbeats 2000000 in
theorem ok_places_of (T : Txt K mg w) : FnOk P w K mg base CX0 1 T.f_places_of T.fd_places_of p_places_of spPlaces := by
  refine T.F_places_of.ok sc_places_of (fun vs H Q E h => ?_) (fun cdv A outer s H vs Q E hr h => ?_)
  · obtain ⟨t, us, ls, n, rfl, _⟩ := h
    rfl
  · obtain ⟨t, us, ls, n, rfl, ht, ta, pa, q⟩ := h
    have lu : us.length = ls.length := Paired.length ta
    refine ⟨_, (pss_one (ps_ret (pe_dc2 (own := [("at", 1), ("persons", 2), ("person", 3)]) (vs1 := [3]) (g := gTup K 2 (gCons (gName 1) (gCons (gName 2) gNil))) (g1 := gName 3) (wi1 := iAny K (tVar 2)) (by rfl) sc_places_of.nd (pi_enumA (by rfl) T.m_enumerate (pa_cons (pv 0) pa_nil)) (blkOk_by (own := [("at", 1), ("persons", 2), ("person", 3)]) (N := n_places_of) (sc := defScope s_places_of) (by decide +kernel)) (by decide) (fun _ _ _ _ _ => (pg_tup rfl (pgs_cons (pg_name (i := 1) sc_places_of.nd rfl (.inl rfl) (.inr rfl)) (pgs_cons (pg_name (i := 2) sc_places_of.nd rfl (.inl rfl) (.inr rfl)) pgs_nil)))) (fun _ _ _ _ _ => (pi_any (pv 2))) (fun _ _ _ _ _ => (pg_name (i := 3) sc_places_of.nd rfl (.inl rfl) (.inr rfl))) (fun _ _ _ _ _ => (pv 3)) (fun _ _ _ _ _ => (pv 1))))), ?_⟩
    show tDc2 (iEnumA K _) _ _ _ _ _ _ _ _ _ _
    refine enum_var rfl ht fun J G W g => fun D hD => ?_
    have sD := same_upd (o := .dK []) hD
    refine dc2_it W (fun i H3 => ∃ kvs, Same H H3 ∧ H3 D = some (.dK kvs) ∧ WhD ls (done ls i 0) kvs) ⟨[], sD, upd_same, WhD.nil⟩ (fun i H3 _ h => let ⟨_, s, _⟩ := h; g.same s) ?_ ?_
    · rintro i x H3 H4 hi ⟨kvs, s3, h3, wd⟩ ⟨T0, x1, x2, rfl, nt, rfl, e1, e2⟩
      have hi' : i < ls.length := by omega
      obtain ⟨b, eb, hb⟩ := ta.get i hi'
      cases e1
      cases eb.symm.trans e2
      have sT := same_upd (o := .tup [.int (i : Nat), .ref b]) nt
      have s4 := s3.trans sT
      refine ⟨T0, _, rfl, .inl (.inl upd_same), rfl, _, _, rfl, _, _, rfl, rfl, rfl, ?_⟩
      refine any_varS rfl s4 hb fun J1 G1 W1 g1' => ?_
      refine dc2_it W1 (fun j H5 => ∃ kvs, Same H H5 ∧ H5 D = some (.dK kvs) ∧ WhD ls (done ls i j) kvs) ⟨kvs, s4, sT _ _ h3, wd⟩ (fun j H5 _ h => let ⟨_, s, _⟩ := h; g1' s) ?_ ?_
      · rintro j y H5 H6 hj ⟨kvs5, s5, h5, wd5⟩ ⟨rfl, hy⟩
        rw [List.length_map] at hj
        rw [List.getElem?_map, List.getElem?_eq_getElem hj] at hy
        cases hy
        have whe := wh_is hi' pa.once (List.getElem_mem hj)
        have nw := done_new hi' hj pa.once
        obtain ⟨more, em⟩ := done_cut (ls := ls) hi' (j + 1)
        have lk : kvs5.length ≤ 60 := by
          have := congrArg List.length em
          rw [pa.count, done_next hi' hj, List.length_append, List.length_append] at this
          have := pa.few
          rw [wd5.1]
          omega
        refine ⟨rfl, vN ls[i][j], rfl, vN i, rfl, _, Sum.inl ((ls[i][j] : Nat) : Int), rfl, h5, small1000 (by omega), _, same_mut s5 hD, upd_same, ?_⟩
        rw [done_next hi' hj]
        have := wd5.put nw
        rw [whe] at this
        exact this
      · rintro H5 ⟨kvs5, s5, h5, wd5⟩
        rw [List.length_map, done_on hi'] at wd5
        exact ⟨kvs5, s5, h5, wd5⟩
    · rintro H3 ⟨kvs, s3, h3, wd⟩
      rw [lu, done_end] at wd
      exact q D kvs H3 s3 hD h3 wd
end
end Lh

namespace Lh
open PySem PySem.Spec PyProof.Rows L2
section
variable {P : Program} {w : World} {K : PySem.W.Frag} {mg : Str → Option Value} {base : Heap}
/-- told_small(standing, lists) -/
def spSmall (C : Addr) : Sp := fun vs H Q E => ∃ (a t : Addr) (st : List Int) (us : List V) (ls : List (List Nat)), vs = [.ref a, .ref t] ∧ TupAt H a (st.map V.int) ∧ SeqH H t us ∧ LsAt H us ls ∧ Part st.length ls ∧
  (∀ (i : Nat) (d : Addr) (H' : Hp), FirstBad st ls i → Same H H' → H d = none → H' d = some (.xd [("at", vN i)]) → E (.ref C) (some d) H') ∧
  (NoBad st ls → ∀ (l : Addr) (o : Obj) (H' : Hp), Same H H' → H l = none → o.dict = none → H' l = some (.frz o (.tup ((smallOf st ls).map V.int))) → Q (.ref l) H')
set_option maxHeartbeats 4000000 in
theorem ok_told_small (T : Txt K mg w) : FnOk P w K mg base (L2.CX P w) 4 T.f_told_small T.fd_told_small p_told_small (spSmall T.C_NotLike) := by
  have G_NotLike_init := ok_NotLike_init (P := P) (w := w) (base := base) T
  refine T.F_told_small.okX sc_told_small (fun vs H Q E h => ?_) (fun cdv A outer s H vs Q E hr h => ?_)
  · obtain ⟨a, t, st, us, ls, rfl, _⟩ := h
    rfl
  · obtain ⟨a, t, st, us, ls, rfl, ha, ht, ta, pa, qE, qQ⟩ := h
    have lu : us.length = ls.length := Paired.length ta
    have few := pa.few
    have ll := pa.len
    refine ⟨_, (pss_cons (ps_for PassesOwn.leaving rfl (pi_enumA (by rfl) T.m_enumerate (pa_cons (pv 1) pa_nil)) (pg_tup rfl (pgs_cons (pg_name (i := 2) sc_told_small.nd rfl (.inl rfl)) (pgs_cons (pg_name (i := 3) sc_told_small.nd rfl (.inl rfl)) pgs_nil)))
        (pss_one (ps_if (pt_cmpR op_gt (pe_callB cr_lenSet (by rfl) T.m_len (by decide +kernel) (pa_cons (pe_callTy (cr_setL rfl) (by rfl) T.m_set (by decide +kernel) (pa_cons (pe_lc (own := [("person", 4)]) (g := gName 4) (by rfl) sc_told_small.nd (pi_any (pv 3)) (blkOk_by (own := [("person", 4)]) (N := n_told_small) (sc := defScope s_told_small) (by decide +kernel)) (fun _ _ _ _ _ => (pg_name (i := 4) sc_told_small.nd rfl (.inl rfl) (.inr rfl))) (fun _ _ _ _ _ => pts_nil) (fun _ _ _ _ _ => (pe_ix (r := rIxT K) ix_tup (pv 0) (pv 4) (fun _ _ => rfl)))) pa_nil)) pa_nil)) pe_int (nomark _))
          (pss_one (ps_raise rfl (takes_of rfl rfl rfl rfl) (pmk_oex T.ox_NotLike T.me_NotLike_init.1 T.ti_NotLike G_NotLike_init (hr.mono (by decide)) T.b_NotLike_init .nil pass0 (by rfl) T.g_NotLike (pa_cons (pv 2) pa_nil))))
          pss_nil)))
      (pss_one (ps_ret (pe_callTy call_tupleF (by rfl) T.m_tuple (by decide +kernel) (pa_cons (pe_lc (own := [("persons", 3)]) (g := gName 3) (by rfl) sc_told_small.nd (pi_any (pv 1)) (blkOk_by (own := [("persons", 3)]) (N := n_told_small) (sc := defScope s_told_small) (by decide +kernel)) (fun _ _ _ _ _ => (pg_name (i := 3) sc_told_small.nd rfl (.inl rfl) (.inr rfl))) (fun _ _ _ _ _ => pts_nil) (fun _ _ _ _ _ => (pe_ix (r := rIxT K) ix_tup (pv 0) (pe_ix (r := rIx K) ix_seq (pv 3) pe_int (fun _ _ => rfl)) (fun _ _ => rfl)))) pa_nil))))), ?_⟩
    refine enum_var rfl ht fun J G W g => ?_
    refine for_it W (fun i σ H3 => ∃ y2 y3 y4 : Option V, σ = [some (.ref a), some (.ref t), y2, y3, y4] ∧ Same H H3 ∧ ∀ (j : Nat) (hj : j < i) (hl : j < ls.length), unl (shownOf st ls[j]) = false) ⟨none, none, none, rfl, Same.refl H, fun j hj => absurd hj (by omega)⟩ ?_ ?_ ?_
    · rintro i σ H3 _ ⟨y2, y3, y4, rfl, s3, _⟩
      exact g.same s3
    · rintro i x σ H3 H4 hi ⟨y2, y3, y4, rfl, s3, nb⟩ ⟨T0, x1, x2, rfl, nt, rfl, e1, e2⟩
      have hi' : i < ls.length := by omega
      obtain ⟨b, eb, hb⟩ := ta.get i hi'
      obtain ⟨il, ip⟩ := pa.inner hi'
      cases e1
      cases eb.symm.trans e2
      have sT := same_upd (o := .tup [.int (i : Nat), .ref b]) nt
      have s4 := s3.trans sT
      refine ⟨T0, _, rfl, .inl (.inl upd_same), rfl, _, _, rfl, _, _, rfl, rfl, ?_⟩
      generalize upd H3 T0 (.tup [.int (i : Nat), .ref b]) = H4 at *
      refine any_varS rfl s4 hb fun J1 G1 W1 g1 => fun D hD => ?_
      have sD := same_upd (o := .lst []) hD
      refine lc_it W1 (fun j H5 => Same H4 H5 ∧ H5 D = some (.lst ((shownOf st (ls[i].take j)).map V.int))) ⟨sD, upd_same⟩ (fun j H5 _ h => g1 (s4.trans h.1)) ?_ ?_
      · rintro j y H5 H6 hj ⟨s5, h5⟩ ⟨rfl, hy⟩
        rw [List.length_map] at hj
        rw [List.getElem?_map, List.getElem?_eq_getElem hj] at hy
        cases hy
        have hp := ip _ (List.getElem_mem hj)
        refine ⟨rfl, yes (iteT ⟨.ref a, rfl, vN ls[i][j], rfl, a, _, _, _, rfl, rfl, (ha.keep (Keep.same (s4.trans s5))).sq, nthI hp, ?_⟩)⟩
        refine ⟨_, h5, by rw [List.length_map]; unfold shownOf; rw [List.length_map, List.length_take]; exact small1000 (by omega), same_mut s5 hD, ?_⟩
        rw [upd_same, List.take_add_one, List.getElem?_eq_getElem hj]
        unfold shownOf
        rw [List.map_append, List.map_append]
        rfl
      · rintro H5 ⟨s5, h5⟩
        rw [List.length_map, List.take_length] at h5
        refine ⟨D, shownOf st ls[i], rfl, .inl (.inl h5), by unfold shownOf; rw [List.length_map]; omega, fun p c ks np nd kc cl mem => ?_⟩
        have sp := same_upd (o := SetO w p (fun j => decide (j ∈ shownOf st ls[i])) c) np
        have s6 := s4.trans (s5.trans sp)
        refine ⟨p, _, c, rfl, upd_same, by unfold shownOf at cl; rw [List.length_map] at cl; omega, (c : Int), 1, rfl, rfl, _, rfl, ?_⟩
        have eb : decide ((1 : Int) < (c : Int)) = unl (shownOf st ls[i]) := by
          rw [← one_of_nodup nd mem, kc]
          by_cases z : 1 < c
          · rw [decide_eq_true z, decide_eq_true (by omega)]
          · rw [decide_eq_false z, decide_eq_false (by omega)]
        cases hu : unl (shownOf st ls[i]) with
        | true =>
          refine iteP (eb.trans hu) ?_
          refine ⟨vN i, rfl, by show 1 ≤ 1000; decide, fun e ne => ?_⟩
          refine ⟨e, vN i, rfl, upd_same, fun dx ndx nde => ⟨rfl, dx, [("at", vN i)], upd_same, ?_, ?_, ?_⟩⟩
          · rw [upd_ne nde, upd_same]
          · rw [upd_ne nde] at ndx; exact ndx
          · rw [upd_ne nde] at ndx
            refine qE i dx _ ⟨hi', hu, fun j hj => nb j hj (by omega)⟩ (s6.trans fun b o hbo => ?_) (s6.free ndx) upd_same
            have n1 : b ≠ e := ne_of_none hbo ne
            have n2 : b ≠ dx := ne_of_none hbo ndx
            rw [upd_ne n2, L2.del_ne n1, upd_ne n1, upd_ne n2, upd_ne n1]
            exact hbo
        | false =>
          refine iteN (eb.trans hu) ?_
          refine ⟨_, _, _, rfl, s6, fun j hj hl => ?_⟩
          by_cases z : j = i
          · subst z; exact hu
          · exact nb j (by omega) hl
    · rintro σ H3 ⟨y2, y3, y4, rfl, s3, nb⟩
      rw [lu] at nb
      have no : NoBad st ls := fun j hj => nb j hj hj
      refine any_varS rfl s3 ht fun J1 G1 W1 g1 => fun D hD => ?_
      have sD := same_upd (o := .lst []) hD
      refine lc_it W1 (fun j H5 => Same H3 H5 ∧ H5 D = some (.lst ((smallOf st (ls.take j)).map V.int))) ⟨sD, upd_same⟩ (fun j H5 _ h => g1 (s3.trans h.1)) ?_ ?_
      · rintro j y H5 H6 hj ⟨s5, h5⟩ ⟨rfl, hy⟩
        rw [lu] at hj
        obtain ⟨b, eb, hb⟩ := ta.get j hj
        cases eb.symm.trans hy
        obtain ⟨il, ip⟩ := pa.inner hj
        have l0 : 0 < ls[j].length := List.length_pos_iff.mpr (pa.bare _ (List.getElem_mem hj))
        have eh : ls[j].headD 0 = ls[j][0] := by
          rw [List.headD_eq_head?_getD, List.head?_eq_getElem?, List.getElem?_eq_getElem l0]; rfl
        have hp := ip _ (List.getElem_mem l0)
        refine ⟨rfl, yes (iteT ⟨.ref a, rfl, .ref b, rfl, ?_⟩)⟩
        refine ix_at (n := 0) ((hb.same s3).same s5) (v := vN ls[j][0]) (atI_nat (j := 0) (by rw [List.getElem?_map, List.getElem?_eq_getElem l0]; rfl)) ⟨a, _, _, _, rfl, rfl, (ha.keep (Keep.same (s3.trans s5))).sq, nthI hp, ?_⟩
        refine ⟨_, h5, by rw [List.length_map]; unfold smallOf; rw [List.length_map, List.length_take]; exact small1000 (by omega), same_mut s5 hD, ?_⟩
        rw [upd_same, List.take_add_one, List.getElem?_eq_getElem hj]
        unfold smallOf
        rw [← eh, List.map_append, List.map_append]
        rfl
      · rintro H5 ⟨s5, h5⟩
        rw [lu, List.take_length] at h5
        refine ⟨D, _, rfl, .inl (.inl h5), fun l o nl od => ?_⟩
        exact qQ no l o _ ((s3.trans s5).trans (same_upd nl)) ((s3.trans s5).free nl) od upd_same
/-- told_wide(standing, lists) -/
def spWide : Sp := fun vs H Q _ => ∃ (a t : Addr) (st : List Int) (us : List V) (ls : List (List Nat)) (n : Nat), vs = [.ref a, .ref t] ∧ TupAt H a (st.map V.int) ∧ st.length = ls.length ∧ SeqH H t us ∧ LsAt H us ls ∧ Part n ls ∧
  ∀ (l : Addr) (o : Obj) (H' : Hp), Same H H' → H l = none → o.dict = none → H' l = some (.frz o (.tup ((wideOf st ls n).map V.int))) → Q (.ref l) H'
set_option maxHeartbeats 4000000 in
theorem ok_told_wide (T : Txt K mg w) : FnOk P w K mg base CX0 2 T.f_told_wide T.fd_told_wide p_told_wide spWide := by
  have G_places_of := ok_places_of (P := P) (w := w) (base := base) T
  refine T.F_told_wide.ok sc_told_wide (fun vs H Q E h => ?_) (fun cdv A outer s H vs Q E hr h => ?_)
  · obtain ⟨a, t, st, us, ls, n, rfl, _⟩ := h
    rfl
  · obtain ⟨a, t, st, us, ls, n, rfl, ha, ln, ht, ta, pa, q⟩ := h
    have few := pa.few
    refine ⟨_, (pss_cons (ps_set (i := 2) sc_told_wide.nd rfl (.inr rfl) (pe_call G_places_of (hr.mono (by decide)) (by rfl) T.g_places_of T.F_places_of.kp T.b_places_of .nil pass0 (pa_cons (pv 1) pa_nil)))
      (pss_one (ps_ret (pe_callTy call_tupleF (by rfl) T.m_tuple (by decide +kernel) (pa_cons (pe_lc (own := [("person", 3)]) (g := gName 3) (by rfl) sc_told_wide.nd (pi_range1 (by rfl) T.m_range (pa_cons (pe_callB call_lenD (by rfl) T.m_len (by decide +kernel) (pa_cons (pv 2) pa_nil)) pa_nil)) (blkOk_by (own := [("person", 3)]) (N := n_told_wide) (sc := defScope s_told_wide) (by decide +kernel)) (fun _ _ _ _ _ => (pg_name (i := 3) sc_told_wide.nd rfl (.inl rfl) (.inr rfl))) (fun _ _ _ _ _ => pts_nil) (fun _ _ _ _ _ => (pe_ix (r := rIxT K) ix_tup (pv 0) (pe_dget (hu_of hr) (pv 2) (pv 3) (fun _ _ => rfl)) (fun _ _ => rfl)))) pa_nil))))), ?_⟩
    refine ⟨.ref t, rfl, t, us, ls, n, rfl, ht, ta, pa, fun Pd kvs H1 s1 nP hP wd => ?_⟩
    have kn : kvs.length = n := by rw [wd.1, pa.count]
    refine ⟨.ref Pd, rfl, Pd, kvs, rfl, hP, (kvs.length : Int), rfl, by omega, Int.lt_of_le_of_lt (by omega : (kvs.length : Int) ≤ 60) (by decide), fun D hD => ?_⟩
    refine lc_it walk_range (fun i H3 => Same H1 H3 ∧ H3 D = some (.lst ((wideOf st ls i).map V.int))) ⟨same_upd hD, upd_same⟩ (fun _ _ _ _ => trivial) ?_ ?_
    · rintro i y H3 H4 hi ⟨s3, h3⟩ ⟨rfl, rfl⟩
      have hi' : i < n := by have : i < (kvs.length : Int).toNat := hi; omega
      have hin := (pa.all i).mpr hi'
      obtain ⟨hw, _⟩ := wh_at hin
      have zi : (0 : Int) + (i : Int) = i := Int.zero_add _
      have vk := wd.2 i
      rw [if_pos hin] at vk
      dsimp only
      rw [zi]
      have gD : DGet H4 Pd (.int (i : Int)) (some (vN (wh ls i))) := by
        have := DGet.k (k := Sum.inl (i : Int)) (s3 _ _ hP)
        rw [vk] at this
        exact this
      have whl : wh ls i < st.length := by omega
      refine ⟨rfl, yes (iteT ⟨.ref a, rfl, .ref Pd, rfl, .int (i : Int), rfl, Pd, _, rfl, gD, a, _, _, _, rfl, rfl, (ha.keep (Keep.same (s1.trans s3))).sq, nthI whl, ?_⟩)⟩
      refine ⟨_, h3, by rw [List.length_map]; unfold wideOf; rw [List.length_map, List.length_range]; exact small1000 (by omega), same_mut s3 hD, ?_⟩
      rw [upd_same]
      unfold wideOf
      rw [List.range_succ, List.map_append, List.map_append]
      rfl
    · rintro H3 ⟨s3, h3⟩
      have e : ((kvs.length : Int)).toNat = n := by omega
      rw [e] at h3
      refine ⟨D, _, rfl, .inl (.inl h3), fun l o nl od => ?_⟩
      exact q l o _ ((s1.trans s3).trans (same_upd nl)) ((s1.trans s3).free nl) od upd_same
end
end Lh

namespace Lh
open PySem PySem.Spec PyProof.Rows L2
/-! ### the law's own lists, told, due -/
theorem nthG {ws : List Int} {i : Nat} (h : i < ws.length) : nth ws (i : Int) = ws[i] := by
  unfold nth
  rw [List.getD_eq_getElem?_getD, Int.toNat_natCast, List.getElem?_eq_getElem h]
  rfl
def grp (ws : List Int) (n p : Nat) : List Nat := (List.range n).filter fun j => decide (nth ws (j : Int) = nth ws (p : Int))
theorem grp_mem {ws : List Int} {n p j : Nat} : j ∈ grp ws n p ↔ j < n ∧ nth ws (j : Int) = nth ws (p : Int) := by
  unfold grp
  rw [List.mem_filter, List.mem_range, decide_eq_true_iff]
/-- the lists that are there behind the first i -/
structure Grps (ws : List Int) (n i : Nat) (ls : List (List Nat)) : Prop where
  of : ∀ l ∈ ls, ∃ p, p < i ∧ p < n ∧ l = grp ws n p
  has : ∀ p, p < i → p < n → grp ws n p ∈ ls
  apart : ls.Pairwise fun l m => ∀ x ∈ l, ∀ y ∈ m, x ≠ y
theorem Grps.zero {ws : List Int} {n : Nat} : Grps ws n 0 [] := ⟨fun l h => absurd h (by simp), fun p h => absurd h (by omega), .nil⟩
theorem Grps.skip {ws : List Int} {n i : Nat} {ls : List (List Nat)} (h : Grps ws n i ls) {p : Nat} (hp : p < i) (hn : p < n) (e : nth ws (i : Int) = nth ws (p : Int)) : Grps ws n (i + 1) ls := by
  refine ⟨fun l hl => let ⟨q, a, b, c⟩ := h.of l hl; ⟨q, by omega, b, c⟩, fun q hq hqn => ?_, h.apart⟩
  by_cases z : q = i
  · subst z
    have : grp ws n q = grp ws n p := by unfold grp; rw [e]
    rw [this]
    exact h.has p hp hn
  · exact h.has q (by omega) hqn
theorem Grps.add {ws : List Int} {n i : Nat} {ls : List (List Nat)} (h : Grps ws n i ls) (hi : i < n) (e : ∀ p, p < i → nth ws (p : Int) ≠ nth ws (i : Int)) : Grps ws n (i + 1) (ls ++ [grp ws n i]) := by
  refine ⟨fun l hl => ?_, fun q hq hqn => ?_, ?_⟩
  · rcases List.mem_append.mp hl with hl | hl
    · exact let ⟨q, a, b, c⟩ := h.of l hl; ⟨q, by omega, b, c⟩
    · exact ⟨i, by omega, hi, List.mem_singleton.mp hl⟩
  · by_cases z : q = i
    · subst z; simp
    · exact List.mem_append_left _ (h.has q (by omega) hqn)
  · refine List.pairwise_append.mpr ⟨h.apart, List.pairwise_singleton _ _, fun l hl m hm x hx y hy z => ?_⟩
    subst z
    obtain ⟨q, a, b, rfl⟩ := h.of l hl
    rw [List.mem_singleton.mp hm] at hy
    have h1 := (grp_mem.mp hx).2
    have h2 := (grp_mem.mp hy).2
    exact e q a (h1.symm.trans h2)
theorem Grps.part {ws : List Int} {n : Nat} {ls : List (List Nat)} (h : Grps ws n n ls) (hn : n ≤ 60) : Part n ls := by
  refine ⟨hn, fun l hl => ?_, ?_, fun p => ⟨fun hp => ?_, fun hp => ?_⟩⟩
  · obtain ⟨q, _, b, rfl⟩ := h.of l hl
    exact List.ne_nil_of_mem (grp_mem.mpr ⟨b, rfl⟩)
  · refine List.pairwise_flatten.mpr ⟨fun l hl => ?_, h.apart⟩
    obtain ⟨q, _, b, rfl⟩ := h.of l hl
    exact List.nodup_range.filter _
  · obtain ⟨l, hl, hpl⟩ := List.mem_flatten.mp hp
    obtain ⟨q, _, b, rfl⟩ := h.of l hl
    exact (grp_mem.mp hpl).1
  · exact List.mem_flatten.mpr ⟨_, h.has p hp hp, grp_mem.mpr ⟨hp, rfl⟩⟩
/-- lists of lists -/
def LsL (H : Hp) : List V → List (List Nat) → Prop := Paired fun u l => ∃ b, u = .ref b ∧ H b = some (.lst (l.map vN))
theorem LsL.ls {H : Hp} : ∀ {us : List V} {ls : List (List Nat)}, LsL H us ls → LsAt H us ls
  | _, _, .nil => .nil
  | _, _, .cons ⟨b, e, h⟩ r => .cons ⟨b, e, .inl h⟩ (LsL.ls r)
theorem LsL.same {H H' : Hp} (s : Same H H') : ∀ {us : List V} {ls : List (List Nat)}, LsL H us ls → LsL H' us ls
  | _, _, .nil => .nil
  | _, _, .cons ⟨b, e, h⟩ r => .cons ⟨b, e, s _ _ h⟩ (LsL.same s r)
theorem LsL.get {H : Hp} : ∀ {us : List V} {ls : List (List Nat)}, LsL H us ls → ∀ (i : Nat) (h : i < ls.length), ∃ b, us[i]? = some (.ref b) ∧ H b = some (.lst (ls[i].map vN))
  | _, _, .nil, i, h => absurd h (by simp)
  | _, _, .cons ⟨b, e, h⟩ r, 0, _ => ⟨b, congrArg some e, h⟩
  | _, _, .cons _ r, i + 1, h => LsL.get r i (by simpa using h)
theorem LsL.upd {H : Hp} {t : Addr} {o : HO} : ∀ {us : List V} {ls : List (List Nat)}, (∀ u ∈ us, u ≠ V.ref t) → LsL H us ls → LsL (upd H t o) us ls
  | _, _, _, .nil => .nil
  | _, _, n, .cons ⟨b, e, h⟩ r => .cons ⟨b, e, by rw [upd_ne (fun z => n _ List.mem_cons_self (by rw [e, z]))]; exact h⟩ (LsL.upd (fun u hu => n u (List.mem_cons_of_mem _ hu)) r)
section
variable {P : Program} {w : World} {K : PySem.W.Frag} {mg : Str → Option Value} {base : Heap}
def spToldL : Sp := fun vs H Q _ => ∃ (a t : Addr) (st : List Int) (us : List V) (ls : List (List Nat)), vs = [.ref a, .ref t] ∧ TupAt H a (st.map V.int) ∧ SeqH H t us ∧ LsAt H us ls ∧ Part st.length ls ∧
  (∀ (i : Nat) (H' : Hp), FirstBad st ls i → Same H H' → Q (vN i) H') ∧
  (NoBad st ls → ∀ (l : Addr) (o : Obj) (H' : Hp), Same H H' → H l = none → o.dict = none → H' l = some (.frz o (.tup ((smallOf st ls).map V.int))) → Q (.ref l) H')
set_option maxHeartbeats 4000000 in
theorem ok_told (T : Txt K mg w) : FnOk P w K mg base CX0 5 T.f_told T.fd_told p_told spToldL := by
  have G_told_small := ok_told_small (P := P) (w := w) (base := base) T
  refine T.F_told.ok sc_told (fun vs H Q E h => ?_) (fun cdv A outer s H vs Q E hr h => ?_)
  · obtain ⟨a, t, st, us, ls, rfl, _⟩ := h
    rfl
  · obtain ⟨a, t, st, us, ls, rfl, ha, ht, ta, pa, qB, qQ⟩ := h
    refine ⟨_, (pss_cons (ps_asg (pe_tup (pa_cons pe_non (pa_cons pe_non pa_nil))) (pg_tup rfl (pgs_cons (pg_name (i := 2) sc_told.nd rfl (.inl rfl)) (pgs_cons (pg_name (i := 3) sc_told.nd rfl (.inl rfl)) pgs_nil))))
      (pss_cons (ps_try_keep (i := 4) rfl rfl rfl sc_told.nd rfl rfl (by exact ⟨rfl, by decide, .inl T.g_NotAlike⟩) (by exact ⟨rfl, by decide, .inl T.g_NotLike⟩) (fun W pn xe tk _ => (pss_one (ps_set (i := 3) sc_told.nd rfl (.inl rfl) (pe_callS G_told_small (hr.mono (by decide)) (by rfl) T.g_told_small T.F_told_small.kp T.b_told_small (fun σ => passAt tk σ) (pa_cons (pv 0) (pa_cons (pv 1) pa_nil)))))) (fun a oe cls d pn _ _ => (pss_one (ps_set (i := 2) sc_told.nd rfl (.inl rfl) (pv 4)))))
      (pss_cons (ps_if (pt_cmpR op_isN (pv 2) pe_non (nomark _))
        (pss_one (ps_ret (pv 3)))
        pss_nil)
      (pss_cons (ps_set (i := 5) sc_told.nd rfl (.inl rfl) (pe_and (pe_callB (call_or call_isi call_isX) (by rfl) T.m_isinstance (by decide +kernel) (pa_cons (pv 2) (pa_cons (pe_glob (v := .ref T.C_NotLike) (by rfl) T.g_NotLike rfl) pa_nil))) (pe_and (pe_callB (call_or call_isi call_isX) (by rfl) T.m_isinstance (by decide +kernel) (pa_cons (pv 2) (pa_cons (pe_bltn (v := .ty "ValueError") (by rfl) T.m_ValueError (by decide +kernel) rfl) pa_nil))) (pe_one (pe_not (pe_callB (call_or call_isi call_isX) (by rfl) T.m_isinstance (by decide +kernel) (pa_cons (pv 2) (pa_cons (pe_glob (v := .ref T.C_NotAlike) (by rfl) T.g_NotAlike rfl) pa_nil))))))))
      (pss_one (ps_ret (pe_ifExp (pt_val (pv 5)) (pe_xk (pv 2)) pe_str))))))), ?_⟩
    refine ⟨by show 2 ≤ sizeLine; decide, fun p0 n0 => ?_⟩
    have s0 := same_upd (o := .tup [.non, .non]) n0
    refine ⟨p0, _, rfl, .inl (.inl upd_same), rfl, _, _, rfl, _, _, rfl, rfl, ?_⟩
    refine ⟨.ref a, rfl, .ref t, rfl, a, t, st, us, ls, rfl, ha.keep (Keep.same s0), ht.same s0, ta.same s0, pa, fun i d H1 fb s1' nd hd => ?_, fun no l o H1 s1' nl od hl => ?_⟩
    all_goals have s1 := s0.trans s1'
    · refine ⟨exm_two T.em_NotLike_NotAlike T.em_NotLike_NotLike, fun e ne => ?_⟩
      refine ⟨.ref e, rfl, ?_⟩
      have sE := same_upd (o := exK e (.ref T.C_NotLike) (some d)) ne
      have hE : (upd H1 e (exK e (.ref T.C_NotLike) (some d))) e = some (exK e (.ref T.C_NotLike) (some d)) := upd_same
      have hD := sE _ _ hd
      refine ⟨.ref e, rfl, rfl, _, rfl, iteN (decide_eq_false (by intro z; cases z)) ?_⟩
      refine ⟨.ref e, rfl, .inr ⟨e, T.C_NotLike, d, _, .ref T.C_NotLike, .ref T.C_NotLike, true, rfl, hE, hD, T.xc_NotLike, fun u h => h, T.ki_NotLike_NotLike, _, rfl, iteP rfl ?_⟩⟩
      refine ⟨.ref e, rfl, .inr ⟨e, T.C_NotLike, d, _, .ty "ValueError", .type "ValueError", true, rfl, hE, hD, T.xc_NotLike, fun u h => h, T.ki_NotLike_ValueError, _, rfl, iteP rfl ?_⟩⟩
      refine ⟨.ref e, rfl, .inr ⟨e, T.C_NotLike, d, _, .ref T.C_NotAlike, .ref T.C_NotAlike, false, rfl, hE, hD, T.xc_NotLike, fun u h => h, T.ki_NotLike_NotAlike, _, rfl, ?_⟩⟩
      refine ⟨_, rfl, _, rfl, iteP rfl ?_⟩
      exact ⟨.ref e, rfl, e, T.C_NotLike, d, _, vN i, rfl, hE, hD, T.xf_NotLike, T.na_NotLike_at, rfl, qB i _ fb (s1.trans sE)⟩
    · refine ⟨.non, rfl, rfl, _, rfl, iteP (decide_eq_true rfl) ?_⟩
      exact ⟨.ref l, rfl, qQ no l o H1 s1 (s0.free nl) od hl⟩
def spDueL : Sp := fun vs H Q _ => ∃ (a t : Addr) (st : List Int) (us : List V) (ls : List (List Nat)), vs = [.ref a, .ref t] ∧ H a = some (.lst (st.map V.int)) ∧ H t = some (.lst us) ∧ LsL H us ls ∧ Part st.length ls ∧
  (∀ (i : Nat) (H' : Hp), FirstBad st ls i → Same H H' → Q (vN i) H') ∧
  (NoBad st ls → ∀ (l : Addr) (o : Obj) (H' : Hp), Same H H' → H l = none → o.dict = none → H' l = some (.frz o (.tup ((smallOf st ls).map V.int))) → Q (.ref l) H')
set_option maxHeartbeats 4000000 in
theorem ok_due (T : Txt K mg w) : FnOk P w K mg base CX0 1 T.f_due T.fd_due p_due spDueL := by
  refine T.F_due.ok sc_due (fun vs H Q E h => ?_) (fun cdv A outer s H vs Q E hr h => ?_)
  · obtain ⟨a, t, st, us, ls, rfl, _⟩ := h
    rfl
  · obtain ⟨a, t, st, us, ls, rfl, ha, ht, ta, pa, qB, qQ⟩ := h
    have lu : us.length = ls.length := Paired.length ta
    have few := pa.few
    have ll := pa.len
    refine ⟨_, (pss_cons (ps_for PassesOwn.never rfl (pi_enum (by rfl) T.m_enumerate (pa_cons (pv 1) pa_nil)) (pg_tup rfl (pgs_cons (pg_name (i := 2) sc_due.nd rfl (.inl rfl)) (pgs_cons (pg_name (i := 3) sc_due.nd rfl (.inl rfl)) pgs_nil)))
        (pss_one (ps_if (pt_cmpR op_gt (pe_callB cr_lenSet (by rfl) T.m_len (by decide +kernel) (pa_cons (pe_callTy (cr_setL rfl) (by rfl) T.m_set (by decide +kernel) (pa_cons (pe_lc (own := [("_law_one", 4)]) (g := gName 4) (by rfl) sc_due.nd (pi_list (pv 3)) (blkOk_by (own := [("_law_one", 4)]) (N := n_due) (sc := defScope s_due) (by decide +kernel)) (fun _ _ _ _ _ => (pg_name (i := 4) sc_due.nd rfl (.inl rfl) (.inr rfl))) (fun _ _ _ _ _ => pts_nil) (fun _ _ _ _ _ => (pe_ix (r := rIxL K) ix_list (pv 0) (pv 4) (fun _ _ => rfl)))) pa_nil)) pa_nil)) pe_int (nomark _))
          (pss_one (ps_ret (pv 2)))
          pss_nil)))
      (pss_one (ps_ret (pe_callTy call_tupleF (by rfl) T.m_tuple (by decide +kernel) (pa_cons (pe_lc (own := [("_law_some", 3)]) (g := gName 3) (by rfl) sc_due.nd (pi_list (pv 1)) (blkOk_by (own := [("_law_some", 3)]) (N := n_due) (sc := defScope s_due) (by decide +kernel)) (fun _ _ _ _ _ => (pg_name (i := 3) sc_due.nd rfl (.inl rfl) (.inr rfl))) (fun _ _ _ _ _ => pts_nil) (fun _ _ _ _ _ => (pe_ix (r := rIxL K) ix_list (pv 0) (pe_ix (r := rIxL K) ix_list (pv 3) pe_int (fun _ _ => rfl)) (fun _ _ => rfl)))) pa_nil))))), ?_⟩
    refine ⟨.ref t, rfl, t, us, rfl, .inl (.inl ht), ?_⟩
    refine for_it (walk_enum (xs := us)) (fun i σ H3 => ∃ y2 y3 y4 : Option V, σ = [some (.ref a), some (.ref t), y2, y3, y4] ∧ Same H H3 ∧ ∀ (j : Nat) (hj : j < i) (hl : j < ls.length), unl (shownOf st ls[j]) = false) ⟨none, none, none, rfl, Same.refl H, fun j hj => absurd hj (by omega)⟩ ?_ ?_ ?_
    · rintro i σ H3 _ ⟨y2, y3, y4, rfl, s3, _⟩
      exact .inl (.inl (s3 _ _ ht))
    · rintro i x σ H3 H4 hi ⟨y2, y3, y4, rfl, s3, nb⟩ ⟨T0, x1, x2, rfl, nt, rfl, e1, e2⟩
      have hi' : i < ls.length := by omega
      obtain ⟨b, eb, hb⟩ := ta.get i hi'
      obtain ⟨il, ip⟩ := pa.inner hi'
      cases e1
      cases eb.symm.trans e2
      have sT := same_upd (o := .tup [.int (i : Nat), .ref b]) nt
      have s4 := s3.trans sT
      refine ⟨T0, _, rfl, .inl (.inl upd_same), rfl, _, _, rfl, _, _, rfl, rfl, ?_⟩
      generalize upd H3 T0 (.tup [.int (i : Nat), .ref b]) = H4 at *
      refine ⟨.ref b, rfl, b, rfl, ⟨_, .inl (.inl (s4 _ _ hb))⟩, fun D hD => ?_⟩
      have sD := same_upd (o := .lst []) hD
      refine lc_it (walk_list (xs := ls[i].map vN)) (fun j H5 => Same H4 H5 ∧ H5 D = some (.lst ((shownOf st (ls[i].take j)).map V.int))) ⟨sD, upd_same⟩ (fun j H5 _ h => .inl (.inl (h.1 _ _ (s4 _ _ hb)))) ?_ ?_
      · rintro j y H5 H6 hj ⟨s5, h5⟩ ⟨rfl, hy⟩
        rw [List.length_map] at hj
        rw [List.getElem?_map, List.getElem?_eq_getElem hj] at hy
        cases hy
        have hp := ip _ (List.getElem_mem hj)
        refine ⟨rfl, yes (iteT ⟨.ref a, rfl, vN ls[i][j], rfl, a, _, _, _, rfl, rfl, .inl (.inl ((s4.trans s5) _ _ ha)), nthI hp, ?_⟩)⟩
        refine ⟨_, h5, by rw [List.length_map]; unfold shownOf; rw [List.length_map, List.length_take]; exact small1000 (by omega), same_mut s5 hD, ?_⟩
        rw [upd_same, List.take_add_one, List.getElem?_eq_getElem hj]
        unfold shownOf
        rw [List.map_append, List.map_append]
        rfl
      · rintro H5 ⟨s5, h5⟩
        rw [List.length_map, List.take_length] at h5
        refine ⟨D, shownOf st ls[i], rfl, .inl (.inl h5), by unfold shownOf; rw [List.length_map]; omega, fun p c ks np nd kc cl mem => ?_⟩
        have sp := same_upd (o := SetO w p (fun j => decide (j ∈ shownOf st ls[i])) c) np
        have s6 := s4.trans (s5.trans sp)
        refine ⟨p, _, c, rfl, upd_same, by unfold shownOf at cl; rw [List.length_map] at cl; omega, (c : Int), 1, rfl, rfl, _, rfl, ?_⟩
        have eb : decide ((1 : Int) < (c : Int)) = unl (shownOf st ls[i]) := by
          rw [← one_of_nodup nd mem, kc]
          by_cases z : 1 < c
          · rw [decide_eq_true z, decide_eq_true (by omega)]
          · rw [decide_eq_false z, decide_eq_false (by omega)]
        cases hu : unl (shownOf st ls[i]) with
        | true => exact iteP (eb.trans hu) ⟨vN i, rfl, qB i _ ⟨hi', hu, fun j hj => nb j hj (by omega)⟩ s6⟩
        | false =>
          refine iteN (eb.trans hu) ?_
          refine ⟨_, _, _, rfl, s6, fun j hj hl => ?_⟩
          by_cases z : j = i
          · subst z; exact hu
          · exact nb j (by omega) hl
    · rintro σ H3 ⟨y2, y3, y4, rfl, s3, nb⟩
      rw [lu] at nb
      have no : NoBad st ls := fun j hj => nb j hj hj
      refine ⟨.ref t, rfl, t, rfl, ⟨_, .inl (.inl (s3 _ _ ht))⟩, fun D hD => ?_⟩
      have sD := same_upd (o := .lst []) hD
      refine lc_it (walk_list (xs := us)) (fun j H5 => Same H3 H5 ∧ H5 D = some (.lst ((smallOf st (ls.take j)).map V.int))) ⟨sD, upd_same⟩ (fun j H5 _ h => .inl (.inl (h.1 _ _ (s3 _ _ ht)))) ?_ ?_
      · rintro j y H5 H6 hj ⟨s5, h5⟩ ⟨rfl, hy⟩
        rw [lu] at hj
        obtain ⟨b, eb, hb⟩ := ta.get j hj
        cases eb.symm.trans hy
        obtain ⟨il, ip⟩ := pa.inner hj
        have l0 : 0 < ls[j].length := List.length_pos_iff.mpr (pa.bare _ (List.getElem_mem hj))
        have eh : ls[j].headD 0 = ls[j][0] := by
          rw [List.headD_eq_head?_getD, List.head?_eq_getElem?, List.getElem?_eq_getElem l0]; rfl
        have hp := ip _ (List.getElem_mem l0)
        refine ⟨rfl, yes (iteT ⟨.ref a, rfl, .ref b, rfl, b, _, 0, vN ls[j][0], rfl, rfl, .inl (.inl (s5 _ _ (s3 _ _ hb))), atI_nat (j := 0) (by rw [List.getElem?_map, List.getElem?_eq_getElem l0]; rfl), ?_⟩)⟩
        refine ⟨a, _, _, _, rfl, rfl, .inl (.inl ((s3.trans s5) _ _ ha)), nthI hp, ?_⟩
        refine ⟨_, h5, by rw [List.length_map]; unfold smallOf; rw [List.length_map, List.length_take]; exact small1000 (by omega), same_mut s5 hD, ?_⟩
        rw [upd_same, List.take_add_one, List.getElem?_eq_getElem hj]
        unfold smallOf
        rw [← eh, List.map_append, List.map_append]
        rfl
      · rintro H5 ⟨s5, h5⟩
        rw [lu, List.take_length] at h5
        refine ⟨D, _, rfl, .inl (.inl h5), fun l o nl od => ?_⟩
        exact qQ no l o _ ((s3.trans s5).trans (same_upd nl)) ((s3.trans s5).free nl) od upd_same
def spLists : Sp := fun vs H Q _ => ∃ (p : Addr) (ws : List Int), vs = [.ref p] ∧ H p = some (.lst (ws.map V.int)) ∧ ws.length ≤ 60 ∧
  ∀ (t : Addr) (us : List V) (ls : List (List Nat)) (H' : Hp), Same H H' → H t = none → H' t = some (.lst us) → LsL H' us ls → (∀ u ∈ us, ∃ b, u = V.ref b ∧ H b = none) → Part ws.length ls → Q (.ref t) H'
set_option maxHeartbeats 4000000 in
theorem ok_lists (T : Txt K mg w) : FnOk P w K mg base CX0 1 T.f_lists T.fd_lists p_lists spLists := by
  refine T.F_lists.ok sc_lists (fun vs H Q E h => ?_) (fun cdv A outer s H vs Q E hr h => ?_)
  · obtain ⟨p, ws, rfl, _⟩ := h
    rfl
  · obtain ⟨p, ws, rfl, hp, few, q⟩ := h
    refine ⟨_, (pss_cons (ps_set (i := 1) sc_lists.nd rfl (.inl rfl) (pe_lst pa_nil))
      (pss_cons (ps_for PassesOwn.never rfl (pi_enum (by rfl) T.m_enumerate (pa_cons (pv 0) pa_nil)) (pg_tup rfl (pgs_cons (pg_name (i := 2) sc_lists.nd rfl (.inl rfl)) (pgs_cons (pg_name (i := 3) sc_lists.nd rfl (.inr rfl)) pgs_nil)))
        (pss_one (ps_if (pt_cmpR op_notIn_seq (pv 3) (pe_slice sl_list (pv 0) po_none (po_some (pv 2))) (by rfl))
          (pss_one (ps_expr (pe_bm PySem.F.plainAttrs_list PySem.F.slot_list_append PySem.F.type_list_append mt_append (pv 1) (pa_cons (pe_lc (own := [("_law_other", 4), ("_law_its", 5)]) (g := gTup K 2 (gCons (gName 4) (gCons (gName 5) gNil))) (by rfl) sc_lists.nd (pi_enum (by rfl) T.m_enumerate (pa_cons (pv 0) pa_nil)) (blkOk_by (own := [("_law_other", 4), ("_law_its", 5)]) (N := n_lists) (sc := defScope s_lists) (by decide +kernel)) (fun _ _ _ _ _ => (pg_tup rfl (pgs_cons (pg_name (i := 4) sc_lists.nd rfl (.inl rfl) (.inr rfl)) (pgs_cons (pg_name (i := 5) sc_lists.nd rfl (.inl rfl) (.inr rfl)) pgs_nil)))) (fun _ _ _ _ _ => (pts_one (pt_cmpR op_eq (pv 5) (pv 3) (nomark _)))) (fun _ _ _ _ _ => (pv 4))) pa_nil))))
          pss_nil)))
      (pss_one (ps_ret (pv 1))))), ?_⟩
    refine ⟨by show 0 ≤ sizeLine; decide, fun t nt => ?_⟩
    have st := same_upd (o := .lst []) nt
    refine ⟨.ref p, rfl, p, ws.map V.int, rfl, .inl (.inl (st _ _ hp)), ?_⟩
    refine for_it (walk_enum (xs := ws.map V.int)) (fun i σ H3 => ∃ (y2 y3 y4 y5 : Option V) (us : List V) (ls : List (List Nat)), σ = [some (.ref p), some (.ref t), y2, y3, y4, y5] ∧ Same H H3 ∧ H3 t = some (.lst us) ∧ LsL H3 us ls ∧ Grps ws ws.length i ls ∧ ls.length ≤ i ∧ ∀ u ∈ us, u ≠ V.ref t ∧ ∃ b, u = V.ref b ∧ H b = none) ⟨none, none, none, none, [], [], rfl, st, upd_same, .nil, Grps.zero, Nat.le_refl _, fun u h => absurd h (by simp)⟩ ?_ ?_ ?_
    · rintro i σ H3 _ ⟨y2, y3, y4, y5, us, ls, rfl, s3, _⟩
      exact .inl (.inl (s3 _ _ hp))
    · rintro i x σ H3 H4 hi ⟨y2, y3, y4, y5, us, ls, rfl, s3, h3, la, gr, ll, nn⟩ ⟨T0, x1, x2, rfl, nT, rfl, e1, e2⟩
      rw [List.length_map] at hi
      cases e1
      have e2' : (ws.map V.int)[i]? = some x2 := e2
      rw [List.getElem?_map, List.getElem?_eq_getElem hi] at e2'
      cases e2'
      have sT := same_upd (o := .tup [.int (i : Nat), .int ws[i]]) nT
      have s4 := s3.trans sT
      have h4 := sT _ _ h3
      have la4 := la.same sT
      refine ⟨T0, _, rfl, .inl (.inl upd_same), rfl, _, _, rfl, _, _, rfl, rfl, ?_⟩
      generalize upd H3 T0 (.tup [.int (i : Nat), .int ws[i]]) = H4 at *
      refine ⟨.int ws[i], rfl, .ref p, rfl, .int (i : Int), rfl, (i : Int), rfl, p, _, rfl, .inl (.inl (s4 _ _ hp)), fun c nc => ?_⟩
      have ec : cutV (ws.map V.int) none (some (i : Int)) = (ws.take i).map V.int := by
        rw [cut_map V.int]
        unfold cutI
        rw [HT.sIx_none, show HT.sIx ws.length ws.length (some (i : Int)) = min i ws.length from HT.sIx_nat ws.length _ i, List.drop_zero, Nat.sub_zero, Nat.min_eq_left (Nat.le_of_lt hi)]
      rw [ec]
      have sc := same_upd (o := .lst ((ws.take i).map V.int)) nc
      have s5 := s4.trans sc
      have h5 := sc _ _ h4
      have la5 := la4.same sc
      have mem : ws[i] ∈ ws.take i ↔ ∃ p, p < i ∧ nth ws (p : Int) = nth ws (i : Int) := by
        rw [nthG hi, List.mem_take_iff_getElem]
        constructor
        · rintro ⟨p, hp, e⟩
          have : p < i ∧ p < ws.length := by omega
          exact ⟨p, this.1, by rw [nthG this.2]; exact e⟩
        · rintro ⟨p, hp, e⟩
          rw [nthG (by omega : p < ws.length)] at e
          exact ⟨p, by omega, e⟩
      refine ⟨c, _, rfl, .inl (.inl (.inl upd_same)), rfl, flat_ints _, _, rfl, ite2 (fun z => ?_) (fun z => ?_)⟩
      · have z1 : (!inV (.int ws[i]) ((ws.take i).map V.int)) = true := z
        rw [in_ints, Bool.not_eq_true', decide_eq_false_iff_not, mem] at z1
        generalize upd H4 c (.lst ((ws.take i).map V.int)) = H5 at *
        refine ⟨.ref t, rfl, .inl ⟨rfl, _, .inl (.inl h5)⟩, ?_⟩
        refine ⟨.ref p, rfl, p, _, rfl, .inl (.inl (s5 _ _ hp)), fun D hD => ?_⟩
        refine lc_it (walk_enum (xs := ws.map V.int)) (fun j H6 => Same H5 H6 ∧ H6 D = some (.lst (((List.range j).filter fun j : Nat => decide (nth ws (j : Int) = nth ws (i : Int))).map vN))) ⟨same_upd hD, upd_same⟩ (fun j H6 _ h => .inl (.inl (h.1 _ _ (s5 _ _ hp)))) ?_ ?_
        · rintro j y H6 H7 hj ⟨s6, h6⟩ ⟨T1, x1, x2, rfl, nT1, rfl, e1, e2⟩
          rw [List.length_map] at hj
          cases e1
          have e2' : (ws.map V.int)[j]? = some x2 := e2
          rw [List.getElem?_map, List.getElem?_eq_getElem hj] at e2'
          cases e2'
          have sT1 := same_upd (o := .tup [.int (j : Nat), .int ws[j]]) nT1
          refine ⟨T1, _, rfl, .inl (.inl upd_same), rfl, _, _, rfl, _, _, rfl, rfl, rfl, ?_⟩
          refine ⟨.int ws[j], rfl, .int ws[i], rfl, rfl, _, rfl, ?_⟩
          have ed : decide (V.int ws[j] = V.int ws[i]) = decide (nth ws (j : Int) = nth ws (i : Int)) := by
            rw [nthG hj, nthG hi]
            by_cases c : ws[j] = ws[i]
            · rw [decide_eq_true c, decide_eq_true (congrArg V.int c)]
            · rw [decide_eq_false c, decide_eq_false (fun e => c (V.int.inj e))]
          have fl := List.length_filter_le (fun j : Nat => decide (nth ws (j : Int) = nth ws (i : Int))) (List.range j)
          rw [List.length_range] at fl
          cases hc : decide (nth ws (j : Int) = nth ws (i : Int)) with
          | true =>
            refine iteP (ed.trans hc) ⟨vN j, rfl, _, sT1 _ _ h6, by rw [List.length_map]; exact small1000 (by omega), same_mut (s6.trans sT1) hD, ?_⟩
            rw [upd_same, List.range_succ, List.filter_append, List.filter_cons, if_pos hc, List.filter_nil, List.map_append]
            rfl
          | false =>
            refine iteN (ed.trans hc) ⟨s6.trans sT1, ?_⟩
            rw [sT1 _ _ h6, List.range_succ, List.filter_append, List.filter_cons, if_neg (by rw [hc]; exact Bool.false_ne_true), List.filter_nil, List.append_nil]
        · rintro H6 ⟨s6, h6⟩
          rw [List.length_map] at h6
          have h6t := s6 _ _ h5
          have lu : us.length = ls.length := Paired.length la5
          refine ⟨t, us, .ref D, rfl, rfl, h6t, Nat.lt_of_le_of_lt (by omega : us.length ≤ 60) (by decide), ?_⟩
          have nDt : D ≠ t := fun e => by rw [e, h5] at hD; cases hD
          refine ⟨_, _, _, _, us ++ [.ref D], ls ++ [grp ws ws.length i], rfl, ?_, upd_same, ?_, gr.add hi fun p hp e => z1 ⟨p, hp, e⟩, by rw [List.length_append]; show _ + 1 ≤ _; omega, ?_⟩
          · exact same_mut (s5.trans s6) nt
          · exact Paired.snoc (R := fun (u : V) (l : List Nat) => ∃ b, u = V.ref b ∧ (upd H6 t (.lst (us ++ [V.ref D]))) b = some (.lst (l.map vN))) ⟨D, rfl, by rw [upd_ne nDt]; exact h6⟩ (LsL.upd (o := .lst (us ++ [V.ref D])) (fun u hu => (nn u hu).1) (la5.same s6))
          · intro u hu
            rcases List.mem_append.mp hu with hu | hu
            · exact nn u hu
            · rw [List.mem_singleton.mp hu]
              exact ⟨fun e => nDt (V.ref.inj e), D, rfl, s5.free hD⟩
      · have z1 : (!inV (.int ws[i]) ((ws.take i).map V.int)) = false := Bool.eq_false_iff.mpr z
        rw [in_ints, Bool.not_eq_false', decide_eq_true_iff, mem] at z1
        obtain ⟨p', hp', ep⟩ := z1
        exact ⟨_, _, _, _, us, ls, rfl, s5, h5, la5, gr.skip hp' (by omega) ep.symm, by omega, nn⟩
    · rintro σ H3 ⟨y2, y3, y4, y5, us, ls, rfl, s3, h3, la, gr, ll, nn⟩
      rw [List.length_map] at gr
      exact ⟨.ref t, rfl, q t us ls H3 s3 nt h3 la (fun u hu => (nn u hu).2) (gr.part few)⟩
end
end Lh

namespace Lh
open PySem PySem.Spec PyProof.Rows L2
/-! ### zip of two things of any kinds: lists, tuples, texts -/
/-- a thing u that is walked: what it holds by the abstract heap, how its iterator stands -/
structure Src (u : Value) (At : Hp → List V → Prop) (ist : Addr → Nat → Heap → Prop) : Prop where
  start : ∀ {X : Cx} {pins : List (Addr × Obj)} {σ : L2.St} {H : Hp} {s : Shared} {xs : List V}, Inv X pins σ H s → At H xs → ∃ o G, Begins u o G ∧ G s.heap ∧ ∀ it h, h.get? it = some o → ist it 0 h
  inj : ∀ {X : Cx} {pins : List (Addr × Obj)} {σ : L2.St} {H : Hp} {s : Shared} {xs ys : List V}, Inv X pins σ H s → At H xs → At H ys → xs = ys
  has : ∀ {it n h}, ist it n h → ∃ o, h.get? it = some o ∧ ∀ v, o.data ≠ .cell v
  keep : ∀ {it n h h'}, ist it n h → (∀ o, h.get? it = some o → h'.get? it = some o) → ist it n h'
  draw : ∀ {X : Cx} {pins : List (Addr × Obj)} {σ : L2.St} {H : Hp} {s : Shared} {xs : List V} (it : Addr), Inv X pins σ H s → At H xs → H it = none → X.A.handled = none →
    ∃ (fp : List Addr) (Pv : Nat → Value → Prop) (St : Nat → Heap → Prop), Draws X.prog X.w X.A.in1 it fp xs.length Pv St ∧ it ∈ fp ∧ (∀ b ∈ fp, b = it ∨ ∃ o, H b = some o) ∧ (∀ n v, n < xs.length → Pv n v → ∃ x, xs[n]? = some x ∧ RelV x v) ∧
      (∀ n, ist it n s.heap → St n s.heap) ∧ ∀ n h, St n h → ist it n h
theorem src_tup (a : Addr) : Src (.ref a) (fun H xs => TupAt H a xs) (fun it n h => h.IsTupleIter it a n) where
  start := fun I h => by
    obtain ⟨its, rv, p, _⟩ := I.tuple (h.sq)
    exact ⟨_, _, begins_tuple a its.toArray, p, fun it h' e => ⟨_, e, rfl, rfl⟩⟩
  inj := fun I h1 h2 => I.tuple_inj h1.sq h2.sq
  has := fun ⟨o, e, _, d⟩ => ⟨o, e, fun v z => by rw [d] at z; cases z⟩
  keep := fun h k => h.at fun o e => k o e
  draw := fun {X pins σ H s xs} it I h n0 hh => by
    obtain ⟨its, rv, p, _⟩ := I.tuple (h.sq)
    have ea : ∃ o, H a = some o := by
      rcases h with h | ⟨o, _, h⟩
      · exact ⟨_, h⟩
      · exact ⟨_, h⟩
    have ne : a ≠ it := fun z => by
      obtain ⟨o, e⟩ := ea
      rw [z, n0] at e
      cases e
    have len : its.toArray.size = xs.length := by rw [List.size_toArray, ← rv.length]
    refine ⟨[it, a], _, _, len ▸ Draws.tuple (A := X.A.in1) hh it a ne its.toArray, by simp, fun b hb => ?_, fun n v hn hv => ?_, fun n hi => ⟨hi, p⟩, fun n h' hs => hs.1⟩
    · rcases (show b = it ∨ b = a by simpa using hb) with rfl | rfl
      · exact .inl rfl
      · exact .inr ea
    · obtain ⟨u, e1, e2⟩ := rv.get (List.getElem?_eq_getElem hn)
      have e1' : its.toArray[n]? = some u := by simpa using e1
      have hv' : its.toArray[n]? = some v := hv
      cases e1'.symm.trans hv'
      exact ⟨_, List.getElem?_eq_getElem hn, e2⟩
theorem src_list (a : Addr) : Src (.ref a) (fun H xs => H a = some (.lst xs)) (fun it n h => h.IsListIter it a n) where
  start := fun I h => by
    obtain ⟨its, rv, p, _⟩ := I.list (.inl (.inl h))
    exact ⟨_, _, begins_list a its.toArray, p.isList, fun it h' e => ⟨_, e, rfl, rfl⟩⟩
  inj := fun I h1 h2 => by
    have := h1.symm.trans h2
    cases this
    rfl
  has := fun ⟨o, e, _, d⟩ => ⟨o, e, fun v z => by rw [d] at z; cases z⟩
  keep := fun h k => h.at fun o e => k o e
  draw := fun {X pins σ H s xs} it I h n0 hh => by
    obtain ⟨its, rv, p, _⟩ := I.list (.inl (.inl h))
    have ne : a ≠ it := ne_of_none h n0
    have len : its.toArray.size = xs.length := by rw [List.size_toArray, ← rv.length]
    refine ⟨[it, a], _, _, len ▸ Draws.list (A := X.A.in1) hh it a ne its.toArray, by simp, fun b hb => ?_, fun n v hn hv => ?_, fun n hi => ⟨hi, p.isList⟩, fun n h' hs => hs.1⟩
    · rcases (show b = it ∨ b = a by simpa using hb) with rfl | rfl
      · exact .inl rfl
      · exact .inr ⟨_, h⟩
    · obtain ⟨u, e1, e2⟩ := rv.get (List.getElem?_eq_getElem hn)
      have e1' : its.toArray[n]? = some u := by simpa using e1
      have hv' : its.toArray[n]? = some v := hv
      cases e1'.symm.trans hv'
      exact ⟨_, List.getElem?_eq_getElem hn, e2⟩
theorem src_text (x : Str) (t : Tok) : Src (.str x t) (fun _ xs => xs = x.cps.toList.map fun c => V.str ⟨#[c]⟩) (fun it n h => h.IsStrIter it (strIterType x) x t n) where
  start := fun I h => ⟨_, _, begins_text x t, trivial, fun it h' e => ⟨_, e, rfl, rfl⟩⟩
  inj := fun I h1 h2 => h1.trans h2.symm
  has := fun ⟨o, e, _, d⟩ => ⟨o, e, fun v z => by rw [d] at z; cases z⟩
  keep := fun ⟨o, e, r⟩ k => ⟨o, k o e, r⟩
  draw := fun {X pins σ H s xs} it I h n0 hh => by
    subst h
    have len : x.cps.size = (x.cps.toList.map fun c => V.str ⟨#[c]⟩).length := by simp
    refine ⟨[it], _, _, len ▸ Draws.text (A := X.A.in1) hh it x t, by simp, fun b hb => .inl (by simpa using hb), fun n v hn hv => ?_, fun n hi => hi, fun n h' hs => hs⟩
    obtain ⟨c, u, e, rfl⟩ := hv
    refine ⟨.str ⟨#[c]⟩, ?_, ⟨u, rfl⟩⟩
    rw [List.getElem?_map, Array.getElem?_toList, e]
    rfl
/-- the two as they stand at each turn, the items in new pairs -/
def ItzM (A1 A2 : Hp → List V → Prop) : It :=
  ⟨fun n H => ∃ (xs ys : List V), A1 H xs ∧ A2 H ys ∧ n < xs.length ∧ n < ys.length,
    fun n H v H' => ∃ T x y, v = .ref T ∧ H T = none ∧ H' = upd H T (.tup [x, y]) ∧ (∀ xs, A1 H xs → xs[n]? = some x) ∧ ∀ ys, A2 H ys → ys[n]? = some y,
    fun n H => ∃ xs ys : List V, A1 H xs ∧ A2 H ys ∧ n ≤ xs.length ∧ n ≤ ys.length ∧ (n = xs.length ∨ n = ys.length)⟩
theorem walk_zipX {A1 A2 : Hp → List V → Prop} {xs ys : List V} {n : Nat} (h : n = min xs.length ys.length) : Walk (ItzM A1 A2) n (fun H => A1 H xs ∧ A2 H ys) (YPair (fun i => xs[i]?) (fun i => ys[i]?)) := by
  subst h
  refine ⟨fun i _ hi q => ⟨xs, ys, q.1, q.2, by omega, by omega⟩, fun _ q => ⟨xs, ys, q.1, q.2, by omega, by omega, by omega⟩, ?_⟩
  rintro i H v H' _ q ⟨T, x, y, h1, h2, h3, h4, h5⟩
  exact ⟨T, x, y, h1, h2, h3, h4 xs q.1, h5 ys q.2⟩
section
variable {P : Program} {w : World} {K : PySem.W.Frag} {elts : List Expr} {kk : Nat} {tpos : Pos} {u1 u2 : Value} {A1 A2 : Hp → List V → Prop} {t1 t2 : Addr → Nat → Heap → Prop} {z TI TO i1 i2 : Addr}
theorem sep_of {H : Hp} {f1 f2 : List Addr} (nd : [z, TI, TO, i1, i2].Nodup) (fz : ∀ b ∈ [z, TI, TO, i1, i2], H b = none) (m1 : i1 ∈ f1) (o1 : ∀ b ∈ f1, b = i1 ∨ ∃ o, H b = some o) (m2 : i2 ∈ f2) (o2 : ∀ b ∈ f2, b = i2 ∨ ∃ o, H b = some o) :
    ZipSep2 z TI TO i1 i2 f1 f2 := by
  simp only [List.nodup_cons, List.mem_cons, List.not_mem_nil, or_false, not_or] at nd
  obtain ⟨⟨a1, a2, a3, a4⟩, ⟨a5, a6, a7⟩, ⟨a8, a9⟩, a10, _⟩ := nd
  have no1 : ∀ b, b ∈ [z, TI, TO, i1, i2] → b ≠ i1 → b ∉ f1 := fun b hb n hm => (o1 b hm).elim n fun ⟨o, e⟩ => by rw [fz b hb] at e; cases e
  have no2 : ∀ b, b ∈ [z, TI, TO, i1, i2] → b ≠ i2 → b ∉ f2 := fun b hb n hm => (o2 b hm).elim n fun ⟨o, e⟩ => by rw [fz b hb] at e; cases e
  exact { TIz := Ne.symm a1, TOz := Ne.symm a2, TITO := a5, TIi1 := a6, mem1 := m1, zf1 := no1 _ (by simp) a3, Tf1 := no1 _ (by simp) a8, TIi2 := a7, mem2 := m2, zf2 := no2 _ (by simp) a4, Tf2 := no2 _ (by simp) a9, sep1_2 := no2 _ (by simp) a10, sep2_1 := no1 _ (by simp) (Ne.symm a10) }
set_option maxHeartbeats 2000000 in
theorem turn_zipM (S1 : Src u1 A1 t1) (S2 : Src u2 A2 t2) (nd : [z, TI, TO, i1, i2].Nodup) :
    Turn P w K (.Tuple elts kk tpos) (ItzM A1 A2) [z, TI, TO, i1, i2] z (fun n h => IsZip h z TI TO .none ∧ IsTupOf2 h TI (.ref i1) (.ref i2) ∧ (∃ x y, IsTupOf2 h TO x y) ∧ t1 i1 n h ∧ t2 i2 n h) where
  mem := by simp
  obj := fun n h st c hc => by
    obtain ⟨hz, hI, ⟨x, y, hO⟩, h1, h2⟩ := st
    rcases (show c = z ∨ c = TI ∨ c = TO ∨ c = i1 ∨ c = i2 by simpa using hc) with rfl | rfl | rfl | rfl | rfl
    · exact ⟨_, hz, fun v q => nomatch q⟩
    · exact ⟨_, hI, fun v q => nomatch q⟩
    · exact ⟨_, hO, fun v q => nomatch q⟩
    · exact S1.has h1
    · exact S2.has h2
  keep := fun n h h' ⟨hz, hI, ⟨x, y, hO⟩, h1, h2⟩ k => ⟨k z (by simp) _ hz, k TI (by simp) _ hI, ⟨x, y, k TO (by simp) _ hO⟩, S1.keep h1 fun o q => k i1 (by simp) o q, S2.keep h2 fun o q => k i2 (by simp) o q⟩
  item := by
    intro X hP hw hK hc n pins s σ H E I hf st go
    subst hP hw hK
    obtain ⟨hz, hI, ⟨x0, y0, hO⟩, h1, h2⟩ := st
    obtain ⟨xs, ys, ax, ay, lx, ly⟩ := go
    have fz := fun b (hb : b ∈ [z, TI, TO, i1, i2]) => (hf b hb).1
    obtain ⟨f1, P1, St1, D1, m1, o1, v1, in1, out1⟩ := S1.draw i1 I ax (fz _ (by simp)) (I.ok.hd hc)
    obtain ⟨f2, P2, St2, D2, m2, o2, v2, in2, out2⟩ := S2.draw i2 I ay (fz _ (by simp)) (I.ok.hd hc)
    have sep := sep_of nd fz m1 o1 m2 o2
    have ltz := Heap.lt_size hz
    refine wpAny_pyNext_zipD2_item sep D1 D2 hz hI hO (in1 n h1) (in2 n h2) lx ly fun p q g tk pv qv gz gO g1 g2 gT gs gk => ⟨_, rfl, wpAny_letOwnedTupleGo_zip (s := { s with heap := g, toks := tk }) gz fun g' gz' sb => ?_⟩
    obtain ⟨x, ex, rx⟩ := v1 n p lx pv
    obtain ⟨y, ey, ry⟩ := v2 n q ly qv
    have gT' : g'.get? s.heap.objs.size = some { cls := .type "tuple", data := .seq #[p, q] } := (sb.2 _ (Nat.ne_of_gt ltz)).trans gT
    have new : ObjOk X.prog X.w (upd H s.heap.objs.size (.tup [x, y])) g' s.heap.objs.size (.tup [x, y]) := ⟨by show 2 ≤ sizeLine; decide, [p, q], .cons rx (.cons ry .nil), ⟨_, gT', rfl, _, rfl⟩⟩
    have J : Inv X pins σ (upd H s.heap.objs.size (.tup [x, y])) { s with heap := g', toks := tk } :=
      I.turnedNew (ch := [z, TI, TO, i1, i2]) (fun b ob nb e => (sb.2 b (fun e' => nb (by simp [e']))).trans (gk b ob (fun e' => nb (by simp [e'])) (fun e' => nb (by simp [e'])) (fun e' => nb (by simp [e'])) (fun e' => nb (by simp [e'])) e)) hf (Nat.le_refl _) new
    have keepz : ∀ {b ob}, b ≠ z → g.get? b = some ob → g'.get? b = some ob := fun n e => (sb.2 _ n).trans e
    refine ⟨.ref s.heap.objs.size, _, J, rfl, ⟨_, x, y, rfl, I.hok.fresh (Nat.le_refl _), rfl, fun l hl => by rw [S1.inj I hl ax]; exact ex, fun l hl => by rw [S2.inj I hl ay]; exact ey⟩, ⟨gz', ?_, ⟨p, q, keepz sep.TOz gO⟩, S1.keep (out1 _ _ g1) fun ob e => keepz sep.zi1.symm e, S2.keep (out2 _ _ g2) fun ob e => keepz sep.zi2.symm e⟩, fun b hb => ?_⟩
    · refine keepz sep.TIz (gk _ _ sep.TIz sep.TITO sep.TIi1 sep.TIi2 hI)
    · have lt : b < s.heap.objs.size := by
        rcases (show b = z ∨ b = TI ∨ b = TO ∨ b = i1 ∨ b = i2 by simpa using hb) with rfl | rfl | rfl | rfl | rfl
        · exact ltz
        · exact Heap.lt_size hI
        · exact Heap.lt_size hO
        · obtain ⟨_, e, _⟩ := S1.has h1; exact Heap.lt_size e
        · obtain ⟨_, e, _⟩ := S2.has h2; exact Heap.lt_size e
      rw [upd_ne (Nat.ne_of_lt lt)]
      exact fz b hb
  done := by
    intro X hP hw hK hc n pins s σ H E I hf st stop
    subst hP hw hK
    obtain ⟨hz, hI, ⟨x0, y0, hO⟩, h1, h2⟩ := st
    obtain ⟨xs, ys, ax, ay, lx, ly, en⟩ := stop
    have fz := fun b (hb : b ∈ [z, TI, TO, i1, i2]) => (hf b hb).1
    obtain ⟨f1, P1, St1, D1, m1, o1, v1, in1, out1⟩ := S1.draw i1 I ax (fz _ (by simp)) (I.ok.hd hc)
    obtain ⟨f2, P2, St2, D2, m2, o2, v2, in2, out2⟩ := S2.draw i2 I ay (fz _ (by simp)) (I.ok.hd hc)
    refine wpAny_pyNext_zipD2_end (sep_of nd fz m1 o1 m2 o2) D1 D2 hz hI hO (in1 n h1) (in2 n h2) lx ly en fun g tk gk => ⟨rfl, I.turnedL (ch := [z, TI, TO, i1, i2]) (fun b ob nb e =>
      gk b ob (fun e' => nb (by simp [e'])) (fun e' => nb (by simp [e'])) (fun e' => nb (by simp [e'])) (fun e' => nb (by simp [e'])) e) hf⟩
  self := fun A n s Q E st h => wpAny_pyIter_zip st.1 h
end
theorem apart5 (n : Nat) : [n + 4, n + 2, n + 3, n, n + 1].Nodup := by
  simp only [List.nodup_cons, List.mem_cons, List.not_mem_nil, or_false, not_or]
  exact ⟨⟨by omega, by omega, by omega, by omega⟩, ⟨by omega, by omega, by omega⟩, ⟨by omega, by omega⟩, by omega, not_false, .nil⟩
theorem le5 (n b : Nat) (h : b ∈ [n + 4, n + 2, n + 3, n, n + 1]) : n ≤ b := by
  simp only [List.mem_cons, List.not_mem_nil, or_false] at h
  omega
/-- zip(e1, e2) -/
def iZipM (P : Program) (w : World) (K : PySem.W.Frag) (ta : TA) : TI := fun σ H R => ta σ H fun vs H1 => ∃ (x y : V) (A1 A2 : Hp → List V → Prop) (xs ys : List V), vs = [x, y] ∧ A1 H1 xs ∧ A2 H1 ys ∧
  (∀ u, RelV x u → ∃ t, Src u A1 t) ∧ (∀ u, RelV y u → ∃ t, Src u A2 t) ∧ R (ItzM A1 A2) H1
theorem pi_zipM {X : Cx} {e e2 : Expr} {ta : TA} {p pos tpos : Pos} {elts : List Expr} {kk : Nat} (hg : Gl X "zip") (hm : X.mg "zip" = none) (ha : PA X [e, e2] ta)
    (hs : starEach [e, e2] X.env = (false, eval e X.env) :: starEach [e2] X.env := by rfl) (hpl : (backTo pos (starEach [e2] X.env)).any (·.1) = false := by rfl) :
    PI X (.Tuple elts kk tpos) (.Call (.Name "zip" p) [e, e2] [] pos) (iZipM X.prog X.w X.K ta) := by
  constructor
  intro pins s σ H R I h
  refine Call_ (ld_blt I hg hm PyProof.Rows.boot_zip (PyProof.Rows.callWith_type1 (thn (ha.run pos pins s σ H _ I h) fun us s1 ⟨vs, H1, I1, r1, x, y, A1, A2, xs, ys, ev, ax, ay, k1, k2, q⟩ => ?_) hs hpl))
  subst ev
  cases r1 with
  | @cons _ u1 _ ur ra r2 =>
  cases r2 with
  | @cons _ u2 _ _ rb r3 =>
  cases r3
  obtain ⟨t1, S1⟩ := k1 u1 ra
  obtain ⟨t2, S2⟩ := k2 u2 rb
  obtain ⟨o1, G1, B1, g1, z1⟩ := S1.start I1 ax
  obtain ⟨o2, G2, B2, g2, z2⟩ := S2.start I1 ay
  refine zip_begins2 B1 B2 g1 g2 fun h' hz hI hO e1 e2 sz hk => wpAny_pyIter_zip hz ?_
  have I2 : Inv X pins σ H1 { s1 with heap := h' } := I1.kept (t' := s1.toks) hk
  refine ⟨_, _, _, _, H1, rfl, I2, turn_zipM S1 S2 (z := s1.heap.objs.size + 4) (TI := s1.heap.objs.size + 2) (TO := s1.heap.objs.size + 3) (i1 := s1.heap.objs.size) (i2 := s1.heap.objs.size + 1) ?_, ⟨hz, hI, ⟨_, _, hO⟩, z1 _ _ e1, z2 _ _ e2⟩, fun b hb => ?_, q⟩
  · exact apart5 _
  · have le : s1.heap.objs.size ≤ b := le5 _ _ hb
    exact I1.fpOk le (I1.hok.fresh le)
end Lh

namespace Lh
open PySem PySem.Spec PyProof.Rows L2
section
variable {P : Program} {w : World} {K : PySem.W.Frag} {mg : Str → Option Value} {base : Heap}
def spSame : Nat → Sp
  | 0 => fun _ _ _ _ => False
  | n + 1 => fun vs H Q _ => ∃ (bx : Addr) (v u : V) (d : PyData), vs = [v, u] ∧ Rp bx H v d ∧ Rp bx H u d ∧ okD n d ∧ ∀ H', Same H H' → Q (.bl true) H'
theorem ok_same (T : Txt K mg w) : ∀ n, FnOk P w K mg base CX0 n T.f_same T.fd_same p_same (spSame n)
  | 0 => ⟨fun _ _ _ _ h => h.elim, fun _ _ _ _ _ _ _ _ _ _ _ _ _ h => h.elim⟩
  | n + 1 => by
    have G_same : FnOk P w K mg base CX0 n T.f_same T.fd_same p_same (spSame n) := ok_same T n
    refine T.F_same.ok sc_same (fun vs H Q E h => ?_) (fun cdv A outer s H vs Q E hr h => ?_)
    · obtain ⟨bx, v, u, d, rfl, _⟩ := h
      rfl
    · obtain ⟨bx, v, u, d, rfl, hv, hu, hd, q⟩ := h
      refine ⟨_, (pss_cons (ps_if (pt_val (pe_callB call_isiT (by rfl) T.m_isinstance (by decide +kernel) (pa_cons (pv 1) (pa_cons (pe_tup (pa_cons (pe_bltn (v := .ty "list") (by rfl) T.m_list (by decide +kernel) rfl) (pa_cons (pe_bltn (v := .ty "tuple") (by rfl) T.m_tuple (by decide +kernel) rfl) pa_nil))) pa_nil))))
        (pss_cons (ps_if (PW.pt (pw_or (pt_cmpR op_ne (pe_callB call_isi (by rfl) T.m_isinstance (by decide +kernel) (pa_cons (pv 0) (pa_cons (pe_bltn (v := .ty "list") (by rfl) T.m_list (by decide +kernel) rfl) pa_nil))) (pe_callB call_isi (by rfl) T.m_isinstance (by decide +kernel) (pa_cons (pv 1) (pa_cons (pe_bltn (v := .ty "list") (by rfl) T.m_list (by decide +kernel) rfl) pa_nil))) (nomark _)) (pw_or1 (pt_cmpR op_ne (pe_callB call_isi (by rfl) T.m_isinstance (by decide +kernel) (pa_cons (pv 0) (pa_cons (pe_bltn (v := .ty "tuple") (by rfl) T.m_tuple (by decide +kernel) rfl) pa_nil))) (pe_callB call_isi (by rfl) T.m_isinstance (by decide +kernel) (pa_cons (pv 1) (pa_cons (pe_bltn (v := .ty "tuple") (by rfl) T.m_tuple (by decide +kernel) rfl) pa_nil))) (nomark _)))))
          (pss_one (ps_ret pe_bl))
          pss_nil)
        (pss_one (ps_ret (pe_and (pe_cmpR op_eq (pe_callB call_len_seq (by rfl) T.m_len (by decide +kernel) (pa_cons (pv 0) pa_nil)) (pe_callB call_len_seq (by rfl) T.m_len (by decide +kernel) (pa_cons (pv 1) pa_nil)) (nomark _)) (pe_one (pe_callB (cr_all rfl) (by rfl) T.m_all (by decide +kernel) (pa_cons (pe_lc (own := [("_law_one", 2), ("_law_two", 3)]) (g := gTup K 2 (gCons (gName 2) (gCons (gName 3) gNil))) (by rfl) sc_same.nd (RZ.pi_zipA (by rfl) T.m_zip (pa_cons (pv 0) (pa_cons (pv 1) pa_nil))) (blkOk_by (own := [("_law_one", 2), ("_law_two", 3)]) (N := n_same) (sc := defScope s_same) (by decide +kernel)) (fun _ _ _ _ _ => (pg_tup rfl (pgs_cons (pg_name (i := 2) sc_same.nd rfl (.inl rfl) (.inr rfl)) (pgs_cons (pg_name (i := 3) sc_same.nd rfl (.inl rfl) (.inr rfl)) pgs_nil)))) (fun _ _ _ _ _ => pts_nil) (fun _ _ _ _ _ => (pe_call G_same hr (by rfl) T.g_same T.F_same.kp T.b_same .nil pass0 (pa_cons (pv 2) (pa_cons (pv 3) pa_nil))))) pa_nil)))))))
        pss_nil)
      (pss_cons (ps_if (PW.pt (pw_or (pt_cmpR op_isN (pv 1) pe_non (nomark _)) (pw_or1 (pt_cmpR op_isN (pv 0) pe_non (nomark _)))))
        (pss_one (ps_ret (pe_and (pe_cmpR op_isN (pv 1) pe_non (nomark _)) (pe_one (pe_cmpR op_isN (pv 0) pe_non (nomark _))))))
        pss_nil)
      (pss_cons (ps_if (PW.pt (pw_or (pt_val (pe_callB call_isi (by rfl) T.m_isinstance (by decide +kernel) (pa_cons (pv 1) (pa_cons (pe_bltn (v := .ty "bool") (by rfl) T.m_bool (by decide +kernel) rfl) pa_nil)))) (pw_or1 (pt_val (pe_callB call_isi (by rfl) T.m_isinstance (by decide +kernel) (pa_cons (pv 1) (pa_cons (pe_bltn (v := .ty "str") (by rfl) T.m_str (by decide +kernel) rfl) pa_nil)))))))
        (pss_one (ps_ret (pe_and (pe_cmpR op_eq (pe_callB call_isi (by rfl) T.m_isinstance (by decide +kernel) (pa_cons (pv 0) (pa_cons (pe_bltn (v := .ty "bool") (by rfl) T.m_bool (by decide +kernel) rfl) pa_nil))) (pe_callB call_isi (by rfl) T.m_isinstance (by decide +kernel) (pa_cons (pv 1) (pa_cons (pe_bltn (v := .ty "bool") (by rfl) T.m_bool (by decide +kernel) rfl) pa_nil))) (nomark _)) (pe_one (pe_cmpR op_eq (pv 0) (pv 1) (nomark _))))))
        pss_nil)
      (pss_one (ps_ret (pe_and (pe_callB call_isi (by rfl) T.m_isinstance (by decide +kernel) (pa_cons (pv 0) (pa_cons (pe_bltn (v := .ty "int") (by rfl) T.m_int (by decide +kernel) rfl) pa_nil))) (pe_and (pe_not (pe_callB call_isi (by rfl) T.m_isinstance (by decide +kernel) (pa_cons (pv 0) (pa_cons (pe_bltn (v := .ty "bool") (by rfl) T.m_bool (by decide +kernel) rfl) pa_nil)))) (pe_one (pe_cmpR op_eq (pv 0) (pv 1) (nomark _)))))))))), ?_⟩
      have ty : ∀ {H' : Hp} {x : V}, Same H H' → Rp bx H x d → TyX K H' x (.type (tyD d)) := fun s h => (h.ext (Ext.of s)).ty
      have sz : ∀ {m : Nat}, m ≤ 8388608 → m < sizeLine := fun h => Nat.lt_of_le_of_lt h (by decide)
      cases d with
      | none =>
        cases hv
        cases hu
        refine rd_isi2 (x := .non) (T := "NoneType") rfl (.base .non) (by decide +kernel : kitB "NoneType" "list" = some false) (by decide +kernel : kitB "NoneType" "tuple" = some false) (fun p hp => ?_) (fun p hp => .base .non)
        refine ⟨_, rfl, iteN rfl ?_⟩
        refine ⟨.non, rfl, rfl, _, rfl, iteP (decide_eq_true rfl) (iteP rfl ?_)⟩
        refine ⟨.non, rfl, rfl, _, rfl, iteP (decide_eq_true rfl) ?_⟩
        exact ⟨.non, rfl, rfl, blT (decide_eq_true rfl) (q _ (same_upd hp))⟩
      | bool b =>
        cases hv
        cases hu
        refine rd_isi2 (x := .bl b) (T := "bool") rfl (.base (.bl b)) (by decide +kernel : kitB "bool" "list" = some false) (by decide +kernel : kitB "bool" "tuple" = some false) (fun p hp => ?_) (fun p hp => .base (.bl b))
        refine ⟨_, rfl, iteN rfl ?_⟩
        refine ⟨.bl b, rfl, rfl, _, rfl, iteN (decide_eq_false (by intro z; cases z)) ⟨.bl b, rfl, rfl, _, rfl, iteN (decide_eq_false (by intro z; cases z)) ?_⟩⟩
        refine rd_isi (x := .bl b) (T := "bool") rfl (.base (.bl b)) (by decide +kernel : kitB "bool" "bool" = some true) ⟨_, rfl, iteP rfl (iteP rfl ?_)⟩
        refine rd_isi (x := .bl b) (T := "bool") rfl (.base (.bl b)) (by decide +kernel : kitB "bool" "bool" = some true) ?_
        refine rd_isi (x := .bl b) (T := "bool") rfl (.base (.bl b)) (by decide +kernel : kitB "bool" "bool" = some true) ⟨rfl, _, rfl, iteP (decide_eq_true rfl) ?_⟩
        exact ⟨.bl b, rfl, .bl b, rfl, rfl, blT (decide_eq_true rfl) (q _ (same_upd hp))⟩
      | int i =>
        cases hv
        cases hu
        refine rd_isi2 (x := .int i) (T := "int") rfl (.base (.int i)) (by decide +kernel : kitB "int" "list" = some false) (by decide +kernel : kitB "int" "tuple" = some false) (fun p hp => ?_) (fun p hp => .base (.int i))
        refine ⟨_, rfl, iteN rfl ?_⟩
        refine ⟨.int i, rfl, rfl, _, rfl, iteN (decide_eq_false (by intro z; cases z)) ⟨.int i, rfl, rfl, _, rfl, iteN (decide_eq_false (by intro z; cases z)) ?_⟩⟩
        refine rd_isi (x := .int i) (T := "int") rfl (.base (.int i)) (by decide +kernel : kitB "int" "bool" = some false) ⟨_, rfl, iteN rfl ?_⟩
        refine rd_isi (x := .int i) (T := "int") rfl (.base (.int i)) (by decide +kernel : kitB "int" "str" = some false) ⟨_, rfl, iteN rfl ?_⟩
        refine rd_isi (x := .int i) (T := "int") rfl (.base (.int i)) (by decide +kernel : kitB "int" "int" = some true) ⟨_, rfl, iteP rfl ?_⟩
        refine rd_isi (x := .int i) (T := "int") rfl (.base (.int i)) (by decide +kernel : kitB "int" "bool" = some false) ⟨_, rfl, _, rfl, iteP rfl ?_⟩
        exact ⟨.int i, rfl, .int i, rfl, rfl, blT (decide_eq_true rfl) (q _ (same_upd hp))⟩
      | str x =>
        cases hv
        cases hu
        refine rd_isi2 (x := .str x) (T := "str") rfl (.base (.str x)) (by decide +kernel : kitB "str" "list" = some false) (by decide +kernel : kitB "str" "tuple" = some false) (fun p hp => ?_) (fun p hp => .base (.str x))
        refine ⟨_, rfl, iteN rfl ?_⟩
        refine ⟨.str x, rfl, rfl, _, rfl, iteN (decide_eq_false (by intro z; cases z)) ⟨.str x, rfl, rfl, _, rfl, iteN (decide_eq_false (by intro z; cases z)) ?_⟩⟩
        refine rd_isi (x := .str x) (T := "str") rfl (.base (.str x)) (by decide +kernel : kitB "str" "bool" = some false) ⟨_, rfl, iteN rfl ?_⟩
        refine rd_isi (x := .str x) (T := "str") rfl (.base (.str x)) (by decide +kernel : kitB "str" "str" = some true) ⟨_, rfl, iteP rfl ?_⟩
        refine rd_isi (x := .str x) (T := "str") rfl (.base (.str x)) (by decide +kernel : kitB "str" "bool" = some false) ?_
        refine rd_isi (x := .str x) (T := "str") rfl (.base (.str x)) (by decide +kernel : kitB "str" "bool" = some false) ⟨rfl, _, rfl, iteP (decide_eq_true rfl) ?_⟩
        exact ⟨.str x, rfl, .str x, rfl, rfl, blT (decide_eq_true rfl) (q _ (same_upd hp))⟩
      | list ds =>
        cases n with
        | zero => exact hd.elim
        | succ n =>
        obtain ⟨hlen, hds⟩ := hd
        refine rd_isi2 (x := u) (T := "list") rfl hu.ty (by decide +kernel : kitB "list" "list" = some true) (by decide +kernel : kitB "list" "tuple" = some false) (fun p hp => ?_) (fun p hp => ty (same_upd hp) hu)
        have s1 := same_upd (o := .tup [.ty "list", .ty "tuple"]) hp
        refine ⟨_, rfl, iteP rfl ?_⟩
        refine rd_isi (x := v) (T := "list") rfl (ty s1 hv) (by decide +kernel : kitB "list" "list" = some true) ?_
        refine rd_isi (x := u) (T := "list") rfl (ty s1 hu) (by decide +kernel : kitB "list" "list" = some true) ⟨rfl, _, rfl, iteN rfl ?_⟩
        refine rd_isi (x := v) (T := "list") rfl (ty s1 hv) (by decide +kernel : kitB "list" "tuple" = some false) ?_
        refine rd_isi (x := u) (T := "list") rfl (ty s1 hu) (by decide +kernel : kitB "list" "tuple" = some false) ⟨rfl, _, rfl, iteN rfl ?_⟩
        have hv1 := hv.ext (Ext.of s1)
        have hu1 := hu.ext (Ext.of s1)
        generalize hH1 : upd H p (.tup [.ty "list", .ty "tuple"]) = H1 at *
        cases hv1 with
        | @lst a xs _ ha na rx =>
        cases hu1 with
        | @lst b ys _ hb nb ry =>
        have ex : xs.length = ds.length := rx.length
        have ey : ys.length = ds.length := ry.length
        refine ⟨.ref a, rfl, a, _, rfl, .inl (.inl (.inl ha)), .ref b, rfl, b, _, rfl, .inl (.inl (.inl hb)), rfl, _, rfl, iteP (decide_eq_true (by rw [ex, ey])) ?_⟩
        refine ⟨.ref a, rfl, .ref b, rfl, a, b, xs, ys, rfl, .inl ⟨.inl (.inl ha), .inl (.inl hb), fun D hD => ?_⟩⟩
        refine lc_it (walk_zip (xs := xs) (ys := ys) (n := ds.length) (by rw [ex, ey, Nat.min_self])) (fun i H3 => Same H1 H3 ∧ H3 D = some (.lst (List.replicate i (.bl true)))) ⟨same_upd hD, upd_same⟩ ?_ ?_ ?_
        · rintro i H3 _ ⟨sm, _⟩
          exact ⟨.inl (.inl (sm _ _ ha)), .inl (.inl (sm _ _ hb))⟩
        · rintro i x H3 H4 hi ⟨sm, hD3⟩ ⟨t, x1, x2, rfl, nt, rfl, e1, e2⟩
          have sT := same_upd (o := .tup [x1, x2]) nt
          refine ⟨t, _, rfl, .inl (.inl upd_same), rfl, _, _, rfl, _, _, rfl, rfl, rfl, yes (iteT ?_)⟩
          obtain ⟨z1, f1, r1⟩ := rx.get (List.getElem?_eq_getElem hi)
          obtain ⟨z2, f2, r2⟩ := ry.get (List.getElem?_eq_getElem hi)
          have g1 : x1 = z1 := Option.some.inj (e1.symm.trans f1)
          have g2 : x2 = z2 := Option.some.inj (e2.symm.trans f2)
          subst g1 g2
          refine ⟨x1, rfl, x2, rfl, bx, x1, x2, ds[i], rfl, r1.ext (Ext.of (sm.trans sT)), r2.ext (Ext.of (sm.trans sT)), hds _ (List.getElem_mem hi), fun H5 s5 => ?_⟩
          refine ⟨_, s5 _ _ (sT _ _ hD3), by rw [List.length_replicate]; exact sz (by omega), same_mut (sm.trans (sT.trans s5)) hD, ?_⟩
          rw [upd_same, List.replicate_succ']
        · rintro H3 ⟨sm, hD3⟩
          refine ⟨D, List.replicate ds.length true, rfl, .inl (.inl (by rw [hD3, List.map_replicate])), blT ?_ (q _ (s1.trans sm))⟩
          rw [List.all_eq_true]
          intro z hz
          rw [List.eq_of_mem_replicate hz]
          rfl
      | tuple ds =>
        cases n with
        | zero => exact hd.elim
        | succ n =>
        obtain ⟨hlen, hds⟩ := hd
        refine rd_isi2 (x := u) (T := "tuple") rfl hu.ty (by decide +kernel : kitB "tuple" "list" = some false) (by decide +kernel : kitB "tuple" "tuple" = some true) (fun p hp => ?_) (fun p hp => ty (same_upd hp) hu)
        have s1 := same_upd (o := .tup [.ty "list", .ty "tuple"]) hp
        refine ⟨_, rfl, iteP rfl ?_⟩
        refine rd_isi (x := v) (T := "tuple") rfl (ty s1 hv) (by decide +kernel : kitB "tuple" "list" = some false) ?_
        refine rd_isi (x := u) (T := "tuple") rfl (ty s1 hu) (by decide +kernel : kitB "tuple" "list" = some false) ⟨rfl, _, rfl, iteN rfl ?_⟩
        refine rd_isi (x := v) (T := "tuple") rfl (ty s1 hv) (by decide +kernel : kitB "tuple" "tuple" = some true) ?_
        refine rd_isi (x := u) (T := "tuple") rfl (ty s1 hu) (by decide +kernel : kitB "tuple" "tuple" = some true) ⟨rfl, _, rfl, iteN rfl ?_⟩
        have hv1 := hv.ext (Ext.of s1)
        have hu1 := hu.ext (Ext.of s1)
        generalize hH1 : upd H p (.tup [.ty "list", .ty "tuple"]) = H1 at *
        cases hv1 with
        | @tup a xs _ ha na rx =>
        cases hu1 with
        | @tup b ys _ hb nb ry =>
        have ex : xs.length = ds.length := rx.length
        have ey : ys.length = ds.length := ry.length
        refine ⟨.ref a, rfl, a, _, rfl, .inr ha.sq, .ref b, rfl, b, _, rfl, .inr hb.sq, rfl, _, rfl, iteP (decide_eq_true (by rw [ex, ey])) ?_⟩
        refine ⟨.ref a, rfl, .ref b, rfl, a, b, xs, ys, rfl, .inr ⟨ha.sq, hb.sq, fun D hD => ?_⟩⟩
        refine lc_it (walk_zipT (xs := xs) (ys := ys) (n := ds.length) ex ey) (fun i H3 => Same H1 H3 ∧ H3 D = some (.lst (List.replicate i (.bl true)))) ⟨same_upd hD, upd_same⟩ ?_ ?_ ?_
        · rintro i H3 _ ⟨sm, _⟩
          exact ⟨(ha.ext (Ext.of (bx := bx) sm) na).sq, (hb.ext (Ext.of (bx := bx) sm) nb).sq⟩
        · rintro i x H3 H4 hi ⟨sm, hD3⟩ ⟨t, x1, x2, rfl, nt, rfl, e1, e2⟩
          have sT := same_upd (o := .tup [x1, x2]) nt
          refine ⟨t, _, rfl, .inl (.inl upd_same), rfl, _, _, rfl, _, _, rfl, rfl, rfl, yes (iteT ?_)⟩
          obtain ⟨z1, f1, r1⟩ := rx.get (List.getElem?_eq_getElem hi)
          obtain ⟨z2, f2, r2⟩ := ry.get (List.getElem?_eq_getElem hi)
          have g1 : x1 = z1 := Option.some.inj (e1.symm.trans f1)
          have g2 : x2 = z2 := Option.some.inj (e2.symm.trans f2)
          subst g1 g2
          refine ⟨x1, rfl, x2, rfl, bx, x1, x2, ds[i], rfl, r1.ext (Ext.of (sm.trans sT)), r2.ext (Ext.of (sm.trans sT)), hds _ (List.getElem_mem hi), fun H5 s5 => ?_⟩
          refine ⟨_, s5 _ _ (sT _ _ hD3), by rw [List.length_replicate]; exact sz (by omega), same_mut (sm.trans (sT.trans s5)) hD, ?_⟩
          rw [upd_same, List.replicate_succ']
        · rintro H3 ⟨sm, hD3⟩
          refine ⟨D, List.replicate ds.length true, rfl, .inl (.inl (by rw [hD3, List.map_replicate])), blT ?_ (q _ (s1.trans sm))⟩
          rw [List.all_eq_true]
          intro z hz
          rw [List.eq_of_mem_replicate hz]
          rfl
      | dict kvs => cases hv
end
end Lh

namespace Lh
open PySem PySem.Spec PyProof.Rows L2
theorem strict_of {ns : List Int} (h : ns.Pairwise (· ≤ ·)) (nd : ns.Nodup) : ns.Pairwise (· < ·) := by
  refine (h.and (List.nodup_iff_pairwise_ne.mp nd)).imp fun z => ?_
  have := z.1
  have := z.2
  omega
theorem cut_to {α : Type} (xs : List α) (k : Nat) (h : k ≤ xs.length) : cutI xs none (some (k : Int)) = xs.take k := by
  unfold cutI
  rw [HT.sIx_none, HT.sIx_nat, Nat.sub_zero, List.drop_zero, Nat.min_eq_left h]
theorem cut_from {α : Type} (xs : List α) (k : Nat) (h : k ≤ xs.length) : cutI xs (some (k : Int)) none = xs.drop k := by
  unfold cutI
  rw [HT.sIx_none, HT.sIx_nat, Nat.min_eq_left h]
  exact List.take_of_length_le (by rw [List.length_drop]; omega)
theorem rep_one (v : V) : ∀ n : Nat, (List.replicate n [v]).flatten = List.replicate n v
  | 0 => rfl
  | n + 1 => by rw [List.replicate_succ, List.flatten_cons, rep_one v n, List.replicate_succ]; rfl
theorem merge_get : ∀ (kv : List (Int × Int)) (acc : List (Key × V)) (p : Int), (∃ y, valV (mergeK acc (kvOf kv)) (Sum.inl p) = some (.int y) ∧ (p, y) ∈ kv) ∨ (p ∉ kv.map (·.1) ∧ valV (mergeK acc (kvOf kv)) (Sum.inl p) = valV acc (Sum.inl p))
  | [], acc, p => .inr ⟨by simp, rfl⟩
  | (a, b) :: t, acc, p => by
    have e : mergeK acc (kvOf ((a, b) :: t)) = mergeK (putK acc (Sum.inl a) (.int b)) (kvOf t) := rfl
    rw [e]
    rcases merge_get t (putK acc (Sum.inl a) (.int b)) p with ⟨y, h1, h2⟩ | ⟨h1, h2⟩
    · exact .inl ⟨y, h1, List.mem_cons_of_mem _ h2⟩
    · rw [h2, valV_put]
      by_cases c : p = a
      · subst c
        rw [if_pos rfl]
        exact .inl ⟨b, rfl, List.mem_cons_self⟩
      · have c' : ¬ (Sum.inl p : Key) = Sum.inl a := fun z => c (Sum.inl.inj z)
        rw [if_neg c']
        refine .inr ⟨fun z => ?_, rfl⟩
        rcases List.mem_cons.mp z with z | z
        · exact c z
        · exact h1 z
theorem pairs_at {H : Hp} {ps : List Addr} {lot : List (Int × Int)} (h : Paired (PairAtH H) ps lot) : ∀ (n : Nat) (h1 : n < ps.length) (h2 : n < lot.length), PairAtH H ps[n] lot[n] := by
  induction h with
  | nil => intro n h1; exact absurd h1 (by simp)
  | cons r t ih =>
    intro n h1 h2
    cases n with
    | zero => exact r
    | succ n => exact ih n (by simpa using h1) (by simpa using h2)
theorem lotI_pairs (r : Rule) (ns : List Int) (p : Int) : ((seenPairs r).filter fun q => decide (nth ns q.1 < nth ns p)).map (fun q => (q.1, nth ns q.1)) = lotI r ns p := by
  unfold lotI
  rw [← seen_persons r, List.filter_map, List.map_map]
  rfl
section
variable {P : Program} {w : World} {K : PySem.W.Frag} {mg : Str → Option Value} {base : Heap}
def spFlat : Sp := fun vs H Q _ => ∃ (bx : Addr) (c m : Int), vs = [.ref bx, .int m] ∧ 0 < m ∧ m ≤ 12 ∧ c + 1000 ≤ 1000000000 ∧ Box bx c H ∧
  ∀ (l : Addr) (us : List V) (rs : List Rule) (H' : Hp), Ext bx H H' → Box bx (c + 1000) H' → H l = none → H' l = some (.lst us) → RulesAt H' us rs → Halls rs → Q (.ref l) H'
def spShown : Sp := fun vs H Q _ => ∃ (bx l : Addr) (c : Int) (us : List V), vs = [.ref bx, .ref l] ∧ c + 100 ≤ 1000000000 ∧ us.length ≤ 12 ∧ Box bx c H ∧ H l = some (.lst us) ∧ l ≠ bx ∧
  ∀ (t : Addr) (ns : List Int) (H' : Hp), Ext bx H H' → Box bx (c + 100) H' → H t = none → TupAt H' t (ns.map V.int) → ns.length = us.length → (∀ n ∈ ns, 0 ≤ n) → Q (.ref t) H'
end
end Lh

namespace Lh
open PySem PySem.Spec PyProof.Rows L2
def pairD (q : Int × Int) : PyData := .tuple [.int q.1, .int q.2]
def Rule.data : Rule → PyData
  | .held n => .tuple [.str "held", .int n]
  | .sum own ties => .tuple [.str "sum", .int own, .tuple (ties.map pairD)]
  | .cap own ties most => .tuple [.str "cap", .int own, .tuple (ties.map pairD), .int most]
  | .kinds own seen => .tuple [.str "kinds", .int own, .tuple (seen.map PyData.int)]
  | .next seen => .tuple [.str "next", .tuple (seen.map PyData.int)]
  | .free seen => .tuple [.str "free", .tuple (seen.map PyData.int)]
theorem Box.neF {bx : Addr} {c : Int} {H : Hp} (h : Box bx c H) {p : Addr} {o : Obj} {u : HO} (n : H p = some (.frz o u)) : p ≠ bx := by
  obtain ⟨a, b, n', h, _⟩ := h
  exact ne_of n h (by intro z; cases z)
theorem pairs_rp {bx : Addr} {c : Int} {H : Hp} (b : Box bx c H) : ∀ {ps : List Addr} {ties : List (Int × Int)}, Paired (PairAtH H) ps ties → RpAll bx H (ps.map V.ref) (ties.map pairD)
  | _, _, .nil => .nil
  | _, _, .cons h r => .cons (.tup (.inl h) (b.neT h) (.cons (.int _) (.cons (.int _) .nil))) (pairs_rp b r)
theorem TiesAt.rp {bx : Addr} {c : Int} {H : Hp} (b : Box bx c H) {t : Addr} {ties : List (Int × Int)} (h : TiesAt H t ties) : Rp bx H (.ref t) (.tuple (ties.map pairD)) := by
  obtain ⟨o, ps, od, ht, pr⟩ := h
  exact .tup (.inr ⟨o, od, ht⟩) (b.neF ht) (pairs_rp b pr)
theorem SeenAt.rp {bx : Addr} {c : Int} {H : Hp} (b : Box bx c H) {t : Addr} {seen : List Int} (h : SeenAt H t seen) : Rp bx H (.ref t) (.tuple (seen.map PyData.int)) := by
  rcases h with ht | ⟨o, od, ht⟩
  · exact .tup (.inl ht) (b.neT ht) (RpAll.ints seen)
  · exact .tup (.inr ⟨o, od, ht⟩) (b.neF ht) (RpAll.ints seen)
theorem RuleAt.rp {bx : Addr} {c : Int} {H : Hp} (b : Box bx c H) {v : V} : ∀ {r : Rule}, RuleAt H v r → Rp bx H v r.data
  | .held n, ⟨a, e, h⟩ => by rw [e]; exact .tup (.inl h) (b.neT h) (.cons (.str _) (.cons (.int _) .nil))
  | .sum _ _, ⟨a, t, e, h, q⟩ => by rw [e]; exact .tup (.inl h) (b.neT h) (.cons (.str _) (.cons (.int _) (.cons (q.rp b) .nil)))
  | .cap _ _ _, ⟨a, t, e, h, q⟩ => by rw [e]; exact .tup (.inl h) (b.neT h) (.cons (.str _) (.cons (.int _) (.cons (q.rp b) (.cons (.int _) .nil))))
  | .kinds _ _, ⟨a, t, e, h, q⟩ => by rw [e]; exact .tup (.inl h) (b.neT h) (.cons (.str _) (.cons (.int _) (.cons (q.rp b) .nil)))
  | .next _, ⟨a, t, e, h, q⟩ => by rw [e]; exact .tup (.inl h) (b.neT h) (.cons (.str _) (.cons (q.rp b) .nil))
  | .free _, ⟨a, t, e, h, q⟩ => by rw [e]; exact .tup (.inl h) (b.neT h) (.cons (.str _) (.cons (q.rp b) .nil))
/-! ### data that can be shown -/
def tame (w : Nat) : Nat → PyData → Prop
  | _, .none => True
  | _, .bool _ => True
  | _, .int i => i.natAbs < 10 ^ 12
  | _, .str x => x.cps.size ≤ 10 ∧ ∀ c ∈ x.cps.toList, c < 16 ^ 8
  | n + 1, .list ds => ds.length ≤ w ∧ ∀ d ∈ ds, tame w n d
  | n + 1, .tuple ds => ds.length ≤ w ∧ ∀ d ∈ ds, tame w n d
  | _, _ => False
def Bk (w : Nat) : Nat → Nat
  | 0 => 10
  | n + 1 => 10 + w * (Bk w n + 1)
theorem Bk_ge (w : Nat) : ∀ n, 10 ≤ Bk w n
  | 0 => Nat.le_refl _
  | n + 1 => Nat.le_add_right _ _
theorem log_small {i : Int} (h : i.natAbs < 10 ^ 12) : i.natAbs.log2 < 1920 := by
  by_cases z : i.natAbs = 0
  · rw [z]; decide
  · rw [Nat.log2_lt z]
    exact Nat.lt_trans h (Nat.lt_of_lt_of_le (by decide : 10 ^ 12 < 2 ^ 40) (Nat.pow_le_pow_right (by decide) (by decide)))
structure Shown (n : Nat) (b : Nat) (d : PyData) : Prop where
  sh : d.showable = true
  nd : d.hasDict = false
  dp : d.depth ≤ n
  lv : d.leavesShort 13 = true
  bk : d.bulk ≤ b
theorem all_sh : ∀ {ds : List PyData} {n b : Nat}, (∀ d ∈ ds, Shown n b d) → PyData.showableAll ds = true ∧ PyData.hasDictAll ds = false ∧ PyData.depthAll ds ≤ n ∧ PyData.leavesShortAll 13 ds = true ∧ PyData.bulkAll ds ≤ ds.length * (b + 1)
  | [], n, b, _ => ⟨rfl, rfl, Nat.zero_le _, rfl, by show 0 ≤ _; omega⟩
  | d :: r, n, b, h => by
    have h1 := h d List.mem_cons_self
    obtain ⟨a1, a2, a3, a4, a5⟩ := all_sh (ds := r) (n := n) (b := b) (fun x hx => h x (List.mem_cons_of_mem _ hx))
    refine ⟨?_, ?_, ?_, ?_, ?_⟩
    · show (d.showable && PyData.showableAll r) = true
      rw [h1.sh, a1]; rfl
    · show (d.hasDict || PyData.hasDictAll r) = false
      rw [h1.nd, a2]; rfl
    · show max d.depth (PyData.depthAll r) ≤ n
      have := h1.dp
      omega
    · show (d.leavesShort 13 && PyData.leavesShortAll 13 r) = true
      rw [h1.lv, a4]; rfl
    · show d.bulk + 1 + PyData.bulkAll r ≤ (r.length + 1) * (b + 1)
      have := h1.bk
      rw [Nat.add_mul]
      omega
theorem tame_shown (w : Nat) : ∀ (n : Nat) (d : PyData), tame w n d → Shown n (Bk w n) d
  | n, .none, _ => ⟨rfl, rfl, Nat.zero_le _, rfl, Nat.zero_le _⟩
  | n, .bool _, _ => ⟨rfl, rfl, Nat.zero_le _, rfl, Nat.zero_le _⟩
  | n, .int i, h => by
    have h' : i.natAbs < 10 ^ 12 := by cases n <;> exact h
    exact ⟨decide_eq_true (log_small h'), rfl, Nat.zero_le _, decide_eq_true (PyData.shown_int_le h'), Nat.zero_le _⟩
  | n, .str x, h => by
    have h' : x.cps.size ≤ 10 ∧ ∀ c ∈ x.cps.toList, c < 16 ^ 8 := by cases n <;> exact h
    refine ⟨rfl, rfl, Nat.zero_le _, ?_, Nat.le_trans h'.1 (Bk_ge w n)⟩
    show (x.cps.toList.all fun c => decide (c < 16 ^ 8)) = true
    rw [List.all_eq_true]
    exact fun c hc => decide_eq_true (h'.2 c hc)
  | 0, .list _, h => h.elim
  | 0, .tuple _, h => h.elim
  | n + 1, .list ds, ⟨hl, h⟩ => by
    obtain ⟨a1, a2, a3, a4, a5⟩ := all_sh (fun d hd => tame_shown w n d (h d hd))
    refine ⟨a1, a2, Nat.succ_le_succ a3, a4, ?_⟩
    show PyData.bulkAll ds ≤ 10 + w * (Bk w n + 1)
    have := Nat.mul_le_mul_right (Bk w n + 1) hl
    omega
  | n + 1, .tuple ds, ⟨hl, h⟩ => by
    obtain ⟨a1, a2, a3, a4, a5⟩ := all_sh (fun d hd => tame_shown w n d (h d hd))
    refine ⟨a1, a2, Nat.succ_le_succ a3, a4, ?_⟩
    show PyData.bulkAll ds ≤ 10 + w * (Bk w n + 1)
    have := Nat.mul_le_mul_right (Bk w n + 1) hl
    omega
  | 0, .dict _, h => h.elim
  | n + 1, .dict _, h => h.elim
theorem tame_fits {w n : Nat} {d : PyData} (h : tame w n d) (hb : Bk w n ≤ 2 ^ 20) : d.shown.length ≤ sizeLine :=
  PyData.shown_fits_bulk (B := 13) (by decide) (by decide) (tame_shown w n d h).lv (Nat.le_trans (tame_shown w n d h).bk hb)
theorem tame_ok {w : Nat} (hw : w ≤ 8388608) : ∀ (n : Nat) (d : PyData), tame w n d → okD n d
  | n, .none, _ => by cases n <;> trivial
  | n, .bool _, _ => by cases n <;> trivial
  | n, .int i, _ => by cases n <;> trivial
  | n, .str x, _ => by cases n <;> trivial
  | 0, .list _, h => h.elim
  | 0, .tuple _, h => h.elim
  | n + 1, .list ds, ⟨hl, h⟩ => ⟨Nat.le_trans hl hw, fun d hd => tame_ok hw n d (h d hd)⟩
  | n + 1, .tuple ds, ⟨hl, h⟩ => ⟨Nat.le_trans hl hw, fun d hd => tame_ok hw n d (h d hd)⟩
  | 0, .dict _, h => h.elim
  | n + 1, .dict _, h => h.elim
theorem tame_int {w n : Nat} {i : Int} (h : i.natAbs < 10 ^ 12) : tame w n (.int i) := by cases n <;> exact h
theorem tame_word {w n : Nat} {x : Str} (h : x.cps.size ≤ 10 ∧ ∀ c ∈ x.cps.toList, c < 16 ^ 8) : tame w n (.str x) := by cases n <;> exact h
theorem tame_pairs {w n : Nat} (hw : 2 ≤ w) {l : List (Int × Int)} (h : ∀ q ∈ l, q.1.natAbs < 10 ^ 12 ∧ q.2.natAbs < 10 ^ 12) (hl : l.length ≤ w) : tame w (n + 2) (.tuple (l.map pairD)) := by
  refine ⟨by rw [List.length_map]; exact hl, fun d hd => ?_⟩
  obtain ⟨q, hq, rfl⟩ := List.mem_map.mp hd
  refine ⟨hw, fun x hx => ?_⟩
  have := h q hq
  rcases List.mem_cons.mp hx with e | e
  · rw [e]; exact tame_int this.1
  · rw [List.mem_singleton.mp e]; exact tame_int this.2
theorem tame_seen {w n : Nat} {l : List Int} (h : ∀ q ∈ l, q.natAbs < 10 ^ 12) (hl : l.length ≤ w) : tame w (n + 1) (.tuple (l.map PyData.int)) := by
  refine ⟨by rw [List.length_map]; exact hl, fun d hd => ?_⟩
  obtain ⟨q, hq, rfl⟩ := List.mem_map.mp hd
  exact tame_int (h q hq)
theorem tame_rule {w : Nat} (hw : 4 ≤ w) {many : Int} (hm : many ≤ 1000000) : ∀ {r : Rule}, r.Wf many → r.persons.length ≤ w → tame w 3 r.data
  | .held n, h, _ => by
    have h' : 0 ≤ n ∧ n ≤ 1000000 := by
      first
        | exact h
        | exact ⟨(show smallI n from h).1, Int.le_trans (show smallI n from h).2 (by decide)⟩
    refine ⟨by show 2 ≤ w; omega, fun d hd => ?_⟩
    simp only [List.mem_cons, List.not_mem_nil, or_false] at hd
    rcases hd with rfl | rfl
    · exact tame_word (by decide +kernel)
    · exact tame_int (by omega)
  | .sum own ties, ⟨ho, rs, w1⟩, hl => by
    unfold smallI at ho
    have hl' : ties.length ≤ w := by simpa [Rule.persons] using hl
    refine ⟨by show 3 ≤ w; omega, fun d hd => ?_⟩
    simp only [List.mem_cons, List.not_mem_nil, or_false] at hd
    rcases hd with rfl | rfl | rfl
    · exact tame_word (by decide +kernel)
    · exact tame_int (by omega)
    · refine tame_pairs (by omega) (fun q hq => ?_) hl'
      have h1 := rs.2 _ (List.mem_map_of_mem (f := (·.1)) hq)
      have h2 := w1 q hq
      omega
  | .cap own ties most, ⟨ho, rs, w1, hmo⟩, hl => by
    unfold smallI at ho hmo
    have hl' : ties.length ≤ w := by simpa [Rule.persons] using hl
    refine ⟨by show 4 ≤ w; omega, fun d hd => ?_⟩
    simp only [List.mem_cons, List.not_mem_nil, or_false] at hd
    rcases hd with rfl | rfl | rfl | rfl
    · exact tame_word (by decide +kernel)
    · exact tame_int (by omega)
    · refine tame_pairs (by omega) (fun q hq => ?_) hl'
      have h1 := rs.2 _ (List.mem_map_of_mem (f := (·.1)) hq)
      have h2 := w1 q hq
      omega
    · exact tame_int (by omega)
  | .kinds own seen, ⟨ho, rs⟩, hl => by
    unfold smallI at ho
    refine ⟨by show 3 ≤ w; omega, fun d hd => ?_⟩
    simp only [List.mem_cons, List.not_mem_nil, or_false] at hd
    rcases hd with rfl | rfl | rfl
    · exact tame_word (by decide +kernel)
    · exact tame_int (by omega)
    · exact tame_seen (fun q hq => by have := rs.2 q hq; omega) hl
  | .next seen, rs, hl => by
    have rs' : Rising many seen := rs
    refine ⟨by show 2 ≤ w; omega, fun d hd => ?_⟩
    simp only [List.mem_cons, List.not_mem_nil, or_false] at hd
    rcases hd with rfl | rfl
    · exact tame_word (by decide +kernel)
    · exact tame_seen (fun q hq => by have := rs'.2 q hq; omega) hl
  | .free seen, rs, hl => by
    have rs' : Rising many seen := rs
    refine ⟨by show 2 ≤ w; omega, fun d hd => ?_⟩
    simp only [List.mem_cons, List.not_mem_nil, or_false] at hd
    rcases hd with rfl | rfl
    · exact tame_word (by decide +kernel)
    · exact tame_seen (fun q hq => by have := rs'.2 q hq; omega) hl
end Lh

namespace Lh
open PySem PySem.Spec PyProof.Rows L2
theorem okD_ints {n : Nat} {ns : List Int} (h : ns.length ≤ 8388608) : okD (n + 1) (.tuple (ns.map PyData.int)) := by
  refine ⟨by rw [List.length_map]; exact h, fun d hd => ?_⟩
  obtain ⟨x, _, rfl⟩ := List.mem_map.mp hd
  cases n <;> trivial
def wayD (nss : List (List Int)) : PyData := .list (nss.map fun ms => .tuple (ms.map PyData.int))
theorem okD_way {n : Nat} {nss : List (List Int)} (h : nss.length ≤ 8388608) (h2 : ∀ ms ∈ nss, ms.length ≤ 8388608) : okD (n + 2) (wayD nss) := by
  refine ⟨by rw [List.length_map]; exact h, fun d hd => ?_⟩
  obtain ⟨x, hx, rfl⟩ := List.mem_map.mp hd
  exact okD_ints (h2 x hx)
theorem tup_nb {bx : Addr} {c : Int} {H : Hp} {t : Addr} {xs : List V} (b : Box bx c H) (h : TupAt H t xs) : t ≠ bx := by
  obtain ⟨_, _, _, hb, _⟩ := b
  rcases h with h | ⟨o, _, h⟩
  · exact ne_of h hb (by intro z; cases z)
  · exact ne_of h hb (by intro z; cases z)
theorem StandsAt.rp {bx : Addr} {c : Int} {H : Hp} (b : Box bx c H) : ∀ {vs : List V} {nss : List (List Int)}, StandsAt H vs nss → RpAll bx H vs (nss.map fun ms => .tuple (ms.map PyData.int))
  | _, _, .nil => .nil
  | _, _, .cons ⟨t, e, h⟩ r => by
    subst e
    exact .cons (.tup h (tup_nb b h) (RpAll.ints _)) (StandsAt.rp b r)
theorem StandsAt.drop {H : Hp} : ∀ {vs : List V} {nss : List (List Int)} (k : Nat), StandsAt H vs nss → StandsAt H (vs.drop k) (nss.drop k)
  | _, _, 0, h => h
  | _, _, k + 1, .nil => .nil
  | _, _, k + 1, .cons _ r => StandsAt.drop k r
theorem StandsAt.take {H : Hp} : ∀ {vs : List V} {nss : List (List Int)} (k : Nat), StandsAt H vs nss → StandsAt H (vs.take k) (nss.take k)
  | _, _, 0, h => .nil
  | _, _, k + 1, .nil => .nil
  | _, _, k + 1, .cons h r => .cons h (StandsAt.take k r)
/-- what stands while a hall is asked -/
structure F7 (C bx : Addr) (c : Int) (H0 : Hp) (l x t : Addr) (us : List V) (rs : List Rule) (ns : List Int) (Hk : Hp) : Prop where
  e : Ext bx H0 Hk
  b : Box bx c Hk
  hl : Hk l = some (.lst us)
  ra : RulesAt Hk us rs
  hA : HallAt C Hk x rs
  hS : TupAt Hk t (ns.map V.int)
theorem F7.same {C bx : Addr} {c : Int} {H0 : Hp} {l x t : Addr} {us : List V} {rs : List Rule} {ns : List Int} {Hk H' : Hp} (f : F7 C bx c H0 l x t us rs ns Hk) (s : Same Hk H') : F7 C bx c H0 l x t us rs ns H' :=
  ⟨f.e.trans (Ext.of s), f.b.same s, s _ _ f.hl, f.ra.keep (Keep.same s), f.hA.keep s, f.hS.keep (Keep.same s)⟩
theorem F7.draw {C bx : Addr} {c c' : Int} {H0 : Hp} {l x t : Addr} {us : List V} {rs : List Rule} {ns : List Int} {Hk H' : Hp} (f : F7 C bx c H0 l x t us rs ns Hk) (nl : l ≠ bx) (e : Ext bx Hk H') (b : Box bx c' H') : F7 C bx c' H0 l x t us rs ns H' :=
  ⟨f.e.trans e, b, e _ _ nl f.hl, f.ra.keep (Keep.ext e f.b), f.hA.ext e f.b, f.hS.keep (Keep.ext e f.b)⟩
theorem F7.lst {C bx : Addr} {c : Int} {H0 : Hp} {l x t d : Addr} {us ys zs : List V} {rs : List Rule} {ns : List Int} {Hk : Hp} (f : F7 C bx c H0 l x t us rs ns Hk) (hd : Hk d = some (.lst ys)) (n1 : d ≠ bx) (n2 : l ≠ d) (n0 : H0 d = none) : F7 C bx c H0 l x t us rs ns (upd Hk d (.lst zs)) := by
  have kT := keep_lst (ys := zs) hd
  refine ⟨f.e.new n0, f.b.at n1, by rw [upd_ne n2]; exact f.hl, f.ra.keep kT, ?_, f.hS.keep kT⟩
  obtain ⟨dx, t', vs, h1, h2, h3⟩ := f.hA
  refine ⟨dx, t', vs, ?_, h2.keep kT, h3.keep kT⟩
  rw [upd_ne (ne_of h1 hd (by intro z; cases z))]
  exact h1
def tupD (ms : List Int) : PyData := .tuple (ms.map PyData.int)
theorem TupAt.rpI {bx : Addr} {c : Int} {H : Hp} (b : Box bx c H) {t : Addr} {ms : List Int} (h : TupAt H t (ms.map V.int)) : Rp bx H (.ref t) (tupD ms) := .tup h (tup_nb b h) (RpAll.ints _)
theorem okD_tups {n : Nat} {ds : List (List Int)} (h : ds.length ≤ 8388608) (h2 : ∀ ms ∈ ds, ms.length ≤ 8388608) : okD (n + 2) (.list (ds.map tupD)) := okD_way h h2
theorem okD_intsL {n : Nat} {ns : List Int} (h : ns.length ≤ 8388608) : okD (n + 1) (.list (ns.map PyData.int)) := by
  refine ⟨by rw [List.length_map]; exact h, fun d hd => ?_⟩
  obtain ⟨x, _, rfl⟩ := List.mem_map.mp hd
  cases n <;> trivial
def spRight : Sp := fun vs H Q _ => ∃ bx : Addr, vs = [.ref bx] ∧ Box bx 0 H ∧ ∀ H', Ext bx H H' → Q (.bl true) H'
end Lh

namespace Lh
open PySem PySem.Spec PyProof.Rows L2
/-! ### k45 -/
def LsE (bx : Addr) (H : Hp) : List V → List (List Nat) → Prop := Paired fun u l => ∃ b, u = .ref b ∧ b ≠ bx ∧ H b = some (.lst (l.map vN))
def TsE (bx : Addr) (H : Hp) : List V → List (List Nat) → Prop := Paired fun u l => ∃ b, u = .ref b ∧ b ≠ bx ∧ TupAt H b (l.map vN)
theorem LsE.ext {bx : Addr} {H H' : Hp} (e : Ext bx H H') : ∀ {us : List V} {ls : List (List Nat)}, LsE bx H us ls → LsE bx H' us ls
  | _, _, .nil => .nil
  | _, _, .cons ⟨b, h1, h2, h3⟩ r => .cons ⟨b, h1, h2, e _ _ h2 h3⟩ (LsE.ext e r)
theorem TsE.ext {bx : Addr} {H H' : Hp} (e : Ext bx H H') : ∀ {us : List V} {ls : List (List Nat)}, TsE bx H us ls → TsE bx H' us ls
  | _, _, .nil => .nil
  | _, _, .cons ⟨b, h1, h2, h3⟩ r => .cons ⟨b, h1, h2, h3.ext e h2⟩ (TsE.ext e r)
theorem LsE.l {bx : Addr} {H : Hp} : ∀ {us : List V} {ls : List (List Nat)}, LsE bx H us ls → LsL H us ls
  | _, _, .nil => .nil
  | _, _, .cons ⟨b, h1, h2, h3⟩ r => .cons ⟨b, h1, h3⟩ (LsE.l r)
theorem TsE.l {bx : Addr} {H : Hp} : ∀ {us : List V} {ls : List (List Nat)}, TsE bx H us ls → LsAt H us ls
  | _, _, .nil => .nil
  | _, _, .cons ⟨b, h1, h2, h3⟩ r => .cons ⟨b, h1, .inr h3⟩ (TsE.l r)
theorem LsE.of {bx : Addr} {H0 H : Hp} {c : Int} (b : Box bx c H0) : ∀ {us : List V} {ls : List (List Nat)}, LsL H us ls → (∀ u ∈ us, ∃ b, u = V.ref b ∧ H0 b = none) → LsE bx H us ls
  | _, _, .nil, _ => .nil
  | _, _, .cons ⟨a, h1, h2⟩ r, n => .cons ⟨a, h1, by
      obtain ⟨a', e, na⟩ := n _ List.mem_cons_self
      rw [h1] at e
      cases e
      exact b.ne na, h2⟩ (LsE.of b r fun u hu => n u (List.mem_cons_of_mem _ hu))
theorem LsE.get {bx : Addr} {H : Hp} : ∀ {us : List V} {ls : List (List Nat)}, LsE bx H us ls → ∀ (i : Nat) (h : i < ls.length), ∃ b, us[i]? = some (.ref b) ∧ b ≠ bx ∧ H b = some (.lst (ls[i].map vN))
  | _, _, .nil, i, h => absurd h (by simp)
  | _, _, .cons ⟨b, e, n, h⟩ r, 0, _ => ⟨b, congrArg some e, n, h⟩
  | _, _, .cons _ r, i + 1, h => LsE.get r i (by simpa using h)
def singles (n : Nat) : List (List Nat) := (List.range n).map fun p => [p]
theorem singles_flat : ∀ l : List Nat, (l.map fun p => [p]).flatten = l
  | [] => rfl
  | x :: r => by rw [List.map_cons, List.flatten_cons, singles_flat r]; rfl
theorem singles_part {n : Nat} (h : n ≤ 60) : Part n (singles n) := by
  refine ⟨h, fun l hl => ?_, ?_, fun p => ?_⟩
  · obtain ⟨p, _, rfl⟩ := List.mem_map.mp hl
    exact List.cons_ne_nil _ _
  · unfold singles
    rw [singles_flat]
    exact List.nodup_range
  · unfold singles
    rw [singles_flat]
    exact List.mem_range
theorem singles_len (n : Nat) : (singles n).length = n := by unfold singles; rw [List.length_map, List.length_range]
theorem singles_at {n i : Nat} (h : i < (singles n).length) : (singles n)[i] = [i] := by
  simp only [singles, List.getElem_map, List.getElem_range]
theorem singles_no (st : List Int) (n : Nat) : NoBad st (singles n) := fun j hj => by
  rw [singles_at hj]
  unfold unl shownOf
  refine decide_eq_false ?_
  rintro ⟨x, hx, y, hy, h⟩
  rw [List.map_cons, List.map_nil] at hx hy
  exact h ((List.mem_singleton.mp hx).trans (List.mem_singleton.mp hy).symm)
theorem singles_small (st : List Int) : smallOf st (singles st.length) = st := by
  refine List.ext_getElem (by unfold smallOf; rw [List.length_map, singles_len]) fun i h1 h2 => ?_
  simp only [smallOf, List.getElem_map, singles_at]
  exact nthG h2
/-- the wide standing while it is filled -/
def partW (st : List Int) (ls : List (List Nat)) (n : Nat) (ps : List Nat) : List Int := (List.range n).map fun p : Nat => if p ∈ ps then nth st (wh ls p : Int) else 0
theorem rep0 : ∀ n : Nat, (List.replicate n [V.int 0]).flatten = (List.replicate n (0 : Int)).map V.int
  | 0 => rfl
  | n + 1 => by rw [List.replicate_succ, List.flatten_cons, rep0 n, List.replicate_succ]; rfl
theorem partW_len {st : List Int} {ls : List (List Nat)} {n : Nat} {ps : List Nat} : (partW st ls n ps).length = n := by unfold partW; rw [List.length_map, List.length_range]
theorem partW_zero {st : List Int} {ls : List (List Nat)} {n : Nat} : partW st ls n [] = List.replicate n 0 := by
  refine List.ext_getElem (by rw [partW_len, List.length_replicate]) fun i h1 h2 => ?_
  simp only [partW, List.getElem_map, List.getElem_replicate, List.not_mem_nil, if_false]
theorem partW_end {st : List Int} {ls : List (List Nat)} {n : Nat} (h : Part n ls) : partW st ls n ls.flatten = wideOf st ls n := by
  unfold partW wideOf
  refine List.map_congr_left fun p hp => ?_
  rw [if_pos ((h.all p).mpr (List.mem_range.mp hp))]
theorem partW_put {st : List Int} {ls : List (List Nat)} {n p : Nat} {ps : List Nat} : (partW st ls n ps).set p (nth st (wh ls p : Int)) = partW st ls n (ps ++ [p]) := by
  refine List.ext_getElem (by rw [List.length_set, partW_len, partW_len]) fun i h1 h2 => ?_
  rw [List.getElem_set]
  simp only [partW, List.getElem_map, List.getElem_range]
  by_cases c : p = i
  · subst c
    rw [if_pos rfl, if_pos (by simp)]
  · rw [if_neg c]
    by_cases d : i ∈ ps
    · rw [if_pos d, if_pos (by simp [d])]
    · rw [if_neg d, if_neg (by simp [d, Ne.symm c])]
theorem wide_len {st : List Int} {ls : List (List Nat)} {n : Nat} : (wideOf st ls n).length = n := by unfold wideOf; rw [List.length_map, List.length_range]
theorem wide_at {st : List Int} {ls : List (List Nat)} {n p : Nat} (h : p < n) : nth (wideOf st ls n) (p : Int) = nth st (wh ls p : Int) := by
  rw [nthG (by rw [wide_len]; exact h)]
  simp only [wideOf, List.getElem_map, List.getElem_range]
theorem wide_no {st : List Int} {ls : List (List Nat)} {n : Nat} (h : Part n ls) : NoBad (wideOf st ls n) ls := fun j hj => by
  have e : ∀ p ∈ ls[j], nth (wideOf st ls n) (p : Int) = nth st (j : Int) := fun p hp => by
    rw [wide_at ((h.inner hj).2 p hp), wh_is hj h.once hp]
  unfold unl shownOf
  refine decide_eq_false ?_
  rintro ⟨x, hx, y, hy, ne⟩
  obtain ⟨p, hp, rfl⟩ := List.mem_map.mp hx
  obtain ⟨r, hr, rfl⟩ := List.mem_map.mp hy
  exact ne ((e p hp).trans (e r hr).symm)
theorem wide_small {st : List Int} {ls : List (List Nat)} {n : Nat} (h : Part n ls) (l : st.length = ls.length) : smallOf (wideOf st ls n) ls = st := by
  refine List.ext_getElem (by unfold smallOf; rw [List.length_map, l]) fun i h1 h2 => ?_
  have hi : i < ls.length := by omega
  have l0 : 0 < ls[i].length := List.length_pos_iff.mpr (h.bare _ (List.getElem_mem hi))
  have eh : ls[i].headD 0 = ls[i][0] := by rw [List.headD_eq_head?_getD, List.head?_eq_getElem?, List.getElem?_eq_getElem l0]; rfl
  simp only [smallOf, List.getElem_map]
  rw [eh, wide_at ((h.inner hi).2 _ (List.getElem_mem l0)), wh_is hi h.once (List.getElem_mem l0), nthG h2]
theorem bad_or (st : List Int) (ls : List (List Nat)) : NoBad st ls ∨ ∃ i, FirstBad st ls i := by
  by_cases h : ∃ i, ∃ h : i < ls.length, unl (shownOf st ls[i]) = true
  · right
    have : ∀ k, (∃ i, i < k ∧ ∃ h : i < ls.length, unl (shownOf st ls[i]) = true) → ∃ i, FirstBad st ls i := by
      intro k
      induction k with
      | zero => rintro ⟨i, hi, _⟩; omega
      | succ k ih =>
        intro hk
        by_cases c : ∃ i, i < k ∧ ∃ h : i < ls.length, unl (shownOf st ls[i]) = true
        · exact ih c
        · obtain ⟨i, hi, hl, hu⟩ := hk
          have ei : i = k := Nat.le_antisymm (by omega) (Nat.le_of_not_lt fun z => c ⟨i, z, hl, hu⟩)
          refine ⟨i, hl, hu, fun j hj => Bool.eq_false_iff.mpr fun z => c ⟨j, by omega, by omega, z⟩⟩
    obtain ⟨i, hi⟩ := h
    exact this (i + 1) ⟨i, by omega, hi⟩
  · left
    exact fun j hj => Bool.eq_false_iff.mpr fun z => h ⟨j, hj, z⟩
theorem first_one {st : List Int} {ls : List (List Nat)} {i j : Nat} (h1 : FirstBad st ls i) (h2 : FirstBad st ls j) : i = j := by
  obtain ⟨a1, a2, a3⟩ := h1
  obtain ⟨b1, b2, b3⟩ := h2
  rcases Nat.lt_trichotomy i j with c | c | c
  · rw [b3 i c] at a2; cases a2
  · exact c
  · rw [a3 j c] at b2; cases b2
theorem first_not {st : List Int} {ls : List (List Nat)} {i : Nat} (h1 : FirstBad st ls i) (h2 : NoBad st ls) : False := by
  obtain ⟨a1, a2, _⟩ := h1
  rw [h2 i a1] at a2
  cases a2
/-- what told and due tell -/
def ansD (st : List Int) (ls : List (List Nat)) (d : PyData) : Prop := (∃ i, FirstBad st ls i ∧ d = .int (i : Int)) ∨ (NoBad st ls ∧ d = tupD (smallOf st ls))
theorem small_len (st : List Int) (ls : List (List Nat)) : (smallOf st ls).length = ls.length := by unfold smallOf; rw [List.length_map]
theorem frz_rp {bx : Addr} {c : Int} {H : Hp} (b : Box bx c H) {l : Addr} {o : Obj} {ms : List Int} (od : o.dict = none) (h : H l = some (.frz o (.tup (ms.map V.int)))) : Rp bx H (.ref l) (tupD ms) := TupAt.rpI b (.inr ⟨o, od, h⟩)
def lD (l : List Nat) : PyData := .list (l.map fun p : Nat => PyData.int (p : Int))
def keptD (W : List Int) (ls : List (List Nat)) : PyData := .list [.list (W.map PyData.int), .list (ls.map lD)]
theorem rp_vN {bx : Addr} {H : Hp} : ∀ l : List Nat, RpAll bx H (l.map vN) (l.map fun p : Nat => PyData.int (p : Int))
  | [] => .nil
  | p :: r => .cons (.int _) (rp_vN r)
theorem LsE.rp {bx : Addr} {H : Hp} : ∀ {us : List V} {ls : List (List Nat)}, LsE bx H us ls → RpAll bx H us (ls.map lD)
  | _, _, .nil => .nil
  | _, _, .cons ⟨b, h1, h2, h3⟩ r => by
    subst h1
    exact .cons (.lst h3 h2 (rp_vN _)) (LsE.rp r)
theorem kept_tame {W : List Int} {ls : List (List Nat)} (h1 : W.length ≤ 12) (h2 : ls.length ≤ 12) (h3 : ∀ x ∈ W, x.natAbs < 10 ^ 12) (h4 : ∀ l ∈ ls, l.length ≤ 12 ∧ ∀ p ∈ l, p < 60) : tame 12 3 (keptD W ls) := by
  refine ⟨by show 2 ≤ 12; decide, fun d hd => ?_⟩
  rcases List.mem_cons.mp hd with rfl | hd
  · refine ⟨by rw [List.length_map]; exact h1, fun d hd => ?_⟩
    obtain ⟨x, hx, rfl⟩ := List.mem_map.mp hd
    exact h3 x hx
  · rw [List.mem_singleton.mp hd]
    refine ⟨by rw [List.length_map]; exact h2, fun d hd => ?_⟩
    obtain ⟨l, hl, rfl⟩ := List.mem_map.mp hd
    obtain ⟨a, b⟩ := h4 l hl
    refine ⟨by rw [List.length_map]; exact a, fun d hd => ?_⟩
    obtain ⟨p, hp, rfl⟩ := List.mem_map.mp hd
    have := b p hp
    show ((p : Int)).natAbs < 10 ^ 12
    omega
/-- what told and due tell, at hand -/
def Ans (st : List Int) (ls : List (List Nat)) (H : Hp) (v : V) : Prop := (∃ i, FirstBad st ls i ∧ v = vN i) ∨ (NoBad st ls ∧ ∃ (l : Addr) (o : Obj), v = .ref l ∧ o.dict = none ∧ H l = some (.frz o (.tup ((smallOf st ls).map V.int))))
theorem Ans.same {st : List Int} {ls : List (List Nat)} {H H' : Hp} {v : V} (s : Same H H') (h : Ans st ls H v) : Ans st ls H' v :=
  h.imp id fun ⟨n, l, o, e, d, z⟩ => ⟨n, l, o, e, d, s _ _ z⟩
theorem Ans.no {st : List Int} {ls : List (List Nat)} {H : Hp} {v : V} (h : Ans st ls H v) (n : NoBad st ls) : ∃ (l : Addr) (o : Obj), v = .ref l ∧ o.dict = none ∧ H l = some (.frz o (.tup ((smallOf st ls).map V.int))) := by
  rcases h with ⟨i, f, _⟩ | ⟨_, h⟩
  · exact (first_not f n).elim
  · exact h
theorem Ans.two {bx : Addr} {c : Int} {st : List Int} {ls : List (List Nat)} {H : Hp} {v u : V} (b : Box bx c H) (hl : ls.length ≤ 60) (h1 : Ans st ls H v) (h2 : Ans st ls H u) : ∃ d, Rp bx H v d ∧ Rp bx H u d ∧ okD 4 d := by
  rcases h1 with ⟨i, f, rfl⟩ | ⟨n, l, o, rfl, od, h⟩
  · rcases h2 with ⟨j, g, rfl⟩ | ⟨n, _⟩
    · have := first_one f g
      subst this
      exact ⟨.int (i : Int), .int _, .int _, trivial⟩
    · exact (first_not f n).elim
  · obtain ⟨l', o', rfl, od', h'⟩ := h2.no n
    exact ⟨tupD (smallOf st ls), frz_rp b od h, frz_rp b od' h', okD_ints (n := 3) (by rw [small_len]; omega)⟩
theorem fn_imp {P : Program} {w : World} {K : PySem.W.Frag} {mg : Str → Option Value} {base : Heap} {CX : CXT} {k : Nat} {f : Addr} {fd : FuncData} {ps : List Str} {sp sp' : Sp} (F : FnOk P w K mg base CX k f fd ps sp)
    (h : ∀ vs H Q E, sp' vs H Q E → sp vs H Q E) : FnOk P w K mg base CX k f fd ps sp' :=
  ⟨fun vs H Q E q => F.len vs H Q E (h _ _ _ _ q), fun B out t H args us vs Q E a b c d e => F.run B out t H args us vs Q E a b c d (h _ _ _ _ e)⟩
def spTold2 : Sp := fun vs H Q _ => ∃ (a t : Addr) (st : List Int) (us : List V) (ls : List (List Nat)), vs = [.ref a, .ref t] ∧ TupAt H a (st.map V.int) ∧ SeqH H t us ∧ LsAt H us ls ∧ Part st.length ls ∧
  ∀ (v : V) (H' : Hp), Same H H' → Ans st ls H' v → Q v H'
theorem told2_of (vs : List V) (H : Hp) (Q : VK) (E : XK) (h : spTold2 vs H Q E) : spToldL vs H Q E := by
  obtain ⟨a, t, st, us, ls, rfl, h1, h2, h3, h4, q⟩ := h
  exact ⟨a, t, st, us, ls, rfl, h1, h2, h3, h4, fun i H' f s => q _ H' s (.inl ⟨i, f, rfl⟩), fun n l o H' s _ od hl => q _ H' s (.inr ⟨n, l, o, rfl, od, hl⟩)⟩
def spDue2 : Sp := fun vs H Q _ => ∃ (a t : Addr) (st : List Int) (us : List V) (ls : List (List Nat)), vs = [.ref a, .ref t] ∧ H a = some (.lst (st.map V.int)) ∧ H t = some (.lst us) ∧ LsL H us ls ∧ Part st.length ls ∧
  ∀ (v : V) (H' : Hp), Same H H' → Ans st ls H' v → Q v H'
theorem due2_of (vs : List V) (H : Hp) (Q : VK) (E : XK) (h : spDue2 vs H Q E) : spDueL vs H Q E := by
  obtain ⟨a, t, st, us, ls, rfl, h1, h2, h3, h4, q⟩ := h
  exact ⟨a, t, st, us, ls, rfl, h1, h2, h3, h4, fun i H' f s => q _ H' s (.inl ⟨i, f, rfl⟩), fun n l o H' s _ od hl => q _ H' s (.inr ⟨n, l, o, rfl, od, hl⟩)⟩
section
variable {P : Program} {w : World} {K : PySem.W.Frag} {mg : Str → Option Value} {base : Heap}
set_option maxHeartbeats 16000000 in
theorem ok_right (T : Txt K mg w) : FnG P w K mg base 7 T.f_right T.fd_right p_right spRight := by
  have G_take := ok_take (P := P) (w := w) (base := base) T
  have G_lists := ok_lists (P := P) (w := w) (base := base) T
  have G_told := fn_imp (ok_told (P := P) (w := w) (base := base) T) told2_of
  have G_due := fn_imp (ok_due (P := P) (w := w) (base := base) T) due2_of
  have G_told_small := ok_told_small (P := P) (w := w) (base := base) T
  have G_told_wide := ok_told_wide (P := P) (w := w) (base := base) T
  have G_same := ok_same (P := P) (w := w) (base := base) T 5
  refine okG T.F_right sc_right (fun vs H Q E h => ?_) (fun cdv A outer s H vs Q E hr hG h => ?_)
  · obtain ⟨bx, rfl, _⟩ := h
    rfl
  · obtain ⟨bx, rfl, hB, q⟩ := h
    refine ⟨_, (pss_cons (ps_set (i := 1) sc_right.nd rfl (.inl rfl) (pe_op op_add pe_int (pe_call G_take (hr.mono (by decide)) (by rfl) T.g_take T.F_take.kp T.b_take .nil pass0 (pa_cons (pv 0) (pa_cons pe_int pa_nil)))))
      (pss_cons (ps_set (i := 2) sc_right.nd rfl (.inl rfl) (pe_call G_lists (hr.mono (by decide)) (by rfl) T.g_lists T.F_lists.kp T.b_lists .nil pass0 (pa_cons (pe_lc (own := [("_law_one", 3)]) (g := gName 3) (by rfl) sc_right.nd (pi_range1 (by rfl) T.m_range (pa_cons (pv 1) pa_nil)) (blkOk_by (own := [("_law_one", 3)]) (N := n_right) (sc := defScope s_right) (by decide +kernel)) (fun _ _ _ _ _ => (pg_name (i := 3) sc_right.nd rfl (.inl rfl) (.inr rfl))) (fun _ _ _ _ _ => pts_nil) (fun _ _ _ _ _ => (pe_call G_take (hr.mono (by decide)) (by rfl) T.g_take T.F_take.kp T.b_take .nil pass0 (pa_cons (pv 0) (pa_cons (pe_op op_add pe_int (pe_call G_take (hr.mono (by decide)) (by rfl) T.g_take T.F_take.kp T.b_take .nil pass0 (pa_cons (pv 0) (pa_cons pe_int pa_nil)))) pa_nil))))) pa_nil)))
      (pss_cons (ps_par (i := 4) (j := 5) (by rfl) sc_right.nd rfl rfl (by decide) rfl rfl (pa_cons (pe_lc (own := [("_law_one", 3)]) (g := gName 3) (by rfl) sc_right.nd (pi_range1 (by rfl) T.m_range (pa_cons (pv 1) pa_nil)) (blkOk_by (own := [("_law_one", 3)]) (N := n_right) (sc := defScope s_right) (by decide +kernel)) (fun _ _ _ _ _ => (pg_name (i := 3) sc_right.nd rfl (.inl rfl) (.inr rfl))) (fun _ _ _ _ _ => pts_nil) (fun _ _ _ _ _ => (pe_lst (pa_cons (pv 3) pa_nil)))) (pa_cons (pe_callTy call_tupleF (by rfl) T.m_tuple (by decide +kernel) (pa_cons (pe_lc (own := [("_law_some", 6)]) (g := gName 6) (by rfl) sc_right.nd (pi_list (pv 2)) (blkOk_by (own := [("_law_some", 6)]) (N := n_right) (sc := defScope s_right) (by decide +kernel)) (fun _ _ _ _ _ => (pg_name (i := 6) sc_right.nd rfl (.inl rfl) (.inr rfl))) (fun _ _ _ _ _ => pts_nil) (fun _ _ _ _ _ => (pe_callTy (T := "tuple") (r := rTupN K) call_tupleF (by rfl) T.m_tuple (by decide +kernel) (pa_cons (pv 6) pa_nil)))) pa_nil)) pa_nil)) (by rfl))
      (pss_cons (ps_for PassesOwn.never rfl (pi_range1 (by rfl) T.m_range (pa_cons pe_int pa_nil)) (pg_name (i := 7) sc_right.nd rfl (.inr rfl))
        (pss_cons (ps_set (i := 8) sc_right.nd rfl (.inl rfl) (pe_callTy call_tupleF (by rfl) T.m_tuple (by decide +kernel) (pa_cons (pe_lc (own := [("_law_some", 6)]) (g := gName 6) (by rfl) sc_right.nd (pi_list (pv 2)) (blkOk_by (own := [("_law_some", 6)]) (N := n_right) (sc := defScope s_right) (by decide +kernel)) (fun _ _ _ _ _ => (pg_name (i := 6) sc_right.nd rfl (.inl rfl) (.inr rfl))) (fun _ _ _ _ _ => pts_nil) (fun _ _ _ _ _ => (pe_ix (r := rIxL K) ix_list (pe_lst (pa_cons (pe_call G_take (hr.mono (by decide)) (by rfl) T.g_take T.F_take.kp T.b_take .nil pass0 (pa_cons (pv 0) (pa_cons pe_int pa_nil))) (pa_cons (pe_call G_take (hr.mono (by decide)) (by rfl) T.g_take T.F_take.kp T.b_take .nil pass0 (pa_cons (pv 0) (pa_cons (pe_op op_pow pe_int pe_int) pa_nil))) pa_nil))) (pe_op op_mod (pv 7) pe_int) (fun _ _ => rfl)))) pa_nil)))
        (pss_cons (ps_par (i := 9) (j := 10) (by rfl) sc_right.nd rfl rfl (by decide) rfl rfl (pa_cons (pe_op op_rep (pe_lst (pa_cons pe_int pa_nil)) (pv 1)) (pa_cons (pe_lst pa_nil) pa_nil)) (by rfl))
        (pss_cons (ps_for PassesOwn.never rfl (pi_zipM (by rfl) T.m_zip (pa_cons (pv 8) (pa_cons (pv 2) pa_nil))) (pg_tup rfl (pgs_cons (pg_name (i := 11) sc_right.nd rfl (.inl rfl)) (pgs_cons (pg_name (i := 6) sc_right.nd rfl (.inl rfl)) pgs_nil)))
          (pss_one (ps_for PassesOwn.never rfl (pi_list (pv 6)) (pg_name (i := 3) sc_right.nd rfl (.inl rfl))
            (pss_one (ps_asg (pv 11) (pg_sub (pv 9) (pv 3) set_list))))))
        (pss_cons (ps_if (pt_not (pt_val (pe_call G_same (hr.mono (by decide)) (by rfl) T.g_same T.F_same.kp T.b_same .nil pass0 (pa_cons (pe_lst (pa_cons (pe_call G_told_wide (hr.mono (by decide)) (by rfl) T.g_told_wide T.F_told_wide.kp T.b_told_wide .nil pass0 (pa_cons (pv 8) (pa_cons (pv 2) pa_nil))) (pa_cons (pe_call G_told_wide (hr.mono (by decide)) (by rfl) T.g_told_wide T.F_told_wide.kp T.b_told_wide .nil pass0 (pa_cons (pv 8) (pa_cons (pv 5) pa_nil))) pa_nil))) (pa_cons (pe_op op_rep (pe_lst (pa_cons (pe_callTy call_tupleF (by rfl) T.m_tuple (by decide +kernel) (pa_cons (pv 9) pa_nil)) pa_nil)) pe_int) pa_nil)))))
          (pss_one (ps_ret pe_bl))
          pss_nil)
        (pss_cons (ps_if (pt_not (pt_val (pe_call G_same (hr.mono (by decide)) (by rfl) T.g_same T.F_same.kp T.b_same .nil pass0 (pa_cons (pe_lst (pa_cons (pe_call G_told (hr.mono (by decide)) (by rfl) T.g_told T.F_told.kp T.b_told .nil pass0 (pa_cons (pe_callTy call_tupleF (by rfl) T.m_tuple (by decide +kernel) (pa_cons (pv 9) pa_nil)) (pa_cons (pv 2) pa_nil))) (pa_cons (pe_call G_told (hr.mono (by decide)) (by rfl) T.g_told T.F_told.kp T.b_told .nil pass0 (pa_cons (pe_callTy call_tupleF (by rfl) T.m_tuple (by decide +kernel) (pa_cons (pv 9) pa_nil)) (pa_cons (pv 5) pa_nil))) pa_nil))) (pa_cons (pe_lst (pa_cons (pv 8) (pa_cons (pv 8) pa_nil))) pa_nil)))))
          (pss_one (ps_ret pe_bl))
          pss_nil)
        (pss_cons (ps_for PassesOwn.never rfl (pi_range1 (by rfl) T.m_range (pa_cons (pe_op op_add pe_int (pe_call G_take (hr.mono (by decide)) (by rfl) T.g_take T.F_take.kp T.b_take .nil pass0 (pa_cons (pv 0) (pa_cons pe_int pa_nil)))) pa_nil)) (pg_name (i := 12) sc_right.nd rfl (.inl rfl))
          (pss_one (ps_asg (pe_call G_take (hr.mono (by decide)) (by rfl) T.g_take T.F_take.kp T.b_take .nil pass0 (pa_cons (pv 0) (pa_cons pe_int pa_nil))) (pg_sub (pv 9) (pe_call G_take (hr.mono (by decide)) (by rfl) T.g_take T.F_take.kp T.b_take .nil pass0 (pa_cons (pv 0) (pa_cons (pv 1) pa_nil))) set_list))))
        (pss_cons (ps_set (i := 13) sc_right.nd rfl (.inl rfl) (pe_callB (call_reprD hG hr.units) (by rfl) T.m_repr (by decide +kernel) (pa_cons (pe_lst (pa_cons (pv 9) (pa_cons (pv 2) pa_nil))) pa_nil)))
        (pss_cons (ps_if (PW.pt (pw_or (pt_not (pt_val (pe_call G_same (hr.mono (by decide)) (by rfl) T.g_same T.F_same.kp T.b_same .nil pass0 (pa_cons (pe_call G_told (hr.mono (by decide)) (by rfl) T.g_told T.F_told.kp T.b_told .nil pass0 (pa_cons (pe_callTy call_tupleF (by rfl) T.m_tuple (by decide +kernel) (pa_cons (pv 9) pa_nil)) (pa_cons (pv 2) pa_nil))) (pa_cons (pe_call G_due (hr.mono (by decide)) (by rfl) T.g_due T.F_due.kp T.b_due .nil pass0 (pa_cons (pv 9) (pa_cons (pv 2) pa_nil))) pa_nil))))) (pw_or1 (pt_cmpR op_ne (pe_callB (call_reprD hG hr.units) (by rfl) T.m_repr (by decide +kernel) (pa_cons (pe_lst (pa_cons (pv 9) (pa_cons (pv 2) pa_nil))) pa_nil)) (pv 13) (nomark _)))))
          (pss_one (ps_ret pe_bl))
          pss_nil)
        (pss_one (ps_if (pt_not (pt_val (pe_call G_same (hr.mono (by decide)) (by rfl) T.g_same T.F_same.kp T.b_same .nil pass0 (pa_cons (pe_call G_told_small (hr.mono (by decide)) (by rfl) T.g_told_small T.F_told_small.kp T.b_told_small .nil pass_none (pa_cons (pe_callTy call_tupleF (by rfl) T.m_tuple (by decide +kernel) (pa_cons (pv 9) pa_nil)) (pa_cons (pv 4) pa_nil))) (pa_cons (pe_callTy call_tupleF (by rfl) T.m_tuple (by decide +kernel) (pa_cons (pv 9) pa_nil)) pa_nil)))))
          (pss_one (ps_ret pe_bl))
          pss_nil)))))))))))
      (pss_one (ps_ret pe_bl)))))), ?_⟩
    -- how many
    refine ⟨.ref bx, rfl, bx, _, 12, rfl, by decide, by decide, by decide, hB, fun r1 H1 r10 r11 e1 b1 => ⟨1, r1, rfl, rfl, ?_⟩⟩
    obtain ⟨n, en, n1, n12⟩ : ∃ n : Nat, 1 + r1 = (n : Int) ∧ 1 ≤ n ∧ n ≤ 12 := ⟨(1 + r1).toNat, by omega, by omega, by omega⟩
    dsimp only
    rw [en]
    -- whose
    refine ⟨.int (n : Int), rfl, (n : Int), rfl, by omega, Int.lt_of_le_of_lt (by omega : (n : Int) ≤ 60) (by decide), fun D1 nD1 => ?_⟩
    have nb1 := b1.ne nD1
    have nD0 := e1.free nb1 nD1
    refine lc_it walk_range (fun i H3 => ∃ ws : List Int, Ext bx H H3 ∧ Box bx (2 + 2 * i) H3 ∧ H3 D1 = some (.lst (ws.map V.int)) ∧ ws.length = i) ⟨[], e1.new nD0, (b1.new nD1).mono (by decide), upd_same, rfl⟩ (fun _ _ _ _ => trivial) ?_ ?_
    · rintro i y H3 H4 hi ⟨ws, e3, b3, h3, lw⟩ ⟨rfl, rfl⟩
      have hi' : i < n := by have : i < (n : Int).toNat := hi; omega
      refine ⟨rfl, yes (iteT ?_)⟩
      refine ⟨.ref bx, rfl, .ref bx, rfl, bx, _, 6, rfl, by decide, by decide, by omega, b3, fun r4 H5 r40 r41 e4 b4 => ⟨1, r4, rfl, rfl, ?_⟩⟩
      refine ⟨bx, _, 1 + r4, rfl, by omega, by omega, by omega, b4, fun r5 H6 r50 r51 e5 b5 => ?_⟩
      have h6 := e5 _ _ nb1 (e4 _ _ nb1 h3)
      refine ⟨_, h6, by rw [List.length_map]; exact small1000 (by omega), ws ++ [r5], ?_, ?_, ?_, by rw [List.length_append, lw]; rfl⟩
      · exact ((e3.trans e4).trans e5).new nD0
      · exact (b5.mono (by omega)).at nb1
      · rw [upd_same, List.map_append]; rfl
    · rintro H2 ⟨ws, e2, b2, h2, lw⟩
      have lw' : ws.length = n := by rw [lw]; omega
      have b2' : Box bx 30 H2 := b2.mono (by omega)
      clear b2
      refine ⟨D1, ws, rfl, h2, by omega, fun t us ls H3 s3 nt h3 la fr pa => ?_⟩
      rw [lw'] at pa
      have b3 := b2'.same s3
      have e3 := e2.trans (Ext.of s3)
      have tb := b2'.ne nt
      have laE : LsE bx H3 us ls := LsE.of b2' la fr
      clear la
      have lu : us.length = ls.length := Paired.length laE
      have ll := pa.len
      -- each by itself, and as tuples
      refine ⟨.int (n : Int), rfl, (n : Int), rfl, by omega, Int.lt_of_le_of_lt (by omega : (n : Int) ≤ 60) (by decide), fun D2 nD2 => ?_⟩
      have db := b3.ne nD2
      have nD20 := e3.free db nD2
      refine lc_it walk_range (fun i H4 => ∃ ub : List V, Same H3 H4 ∧ H4 D2 = some (.lst ub) ∧ LsE bx H4 ub (singles i) ∧ ∀ u ∈ ub, u ≠ V.ref D2) ⟨[], same_upd nD2, upd_same, .nil, fun u h => absurd h (by simp)⟩ (fun _ _ _ _ => trivial) ?_ ?_
      · rintro i y H4 H5 hi ⟨ub, s4, h4, lb, nn⟩ ⟨rfl, rfl⟩
        have hi' : i < n := by have : i < (n : Int).toNat := hi; omega
        have zi : (0 : Int) + (i : Int) = i := Int.zero_add _
        dsimp only
        rw [zi]
        refine ⟨rfl, yes (iteT ⟨.int (i : Int), rfl, by show 1 ≤ sizeLine; decide, fun p np => ?_⟩)⟩
        have sp := same_upd (o := .lst [.int (i : Int)]) np
        have lu2 : ub.length = i := by rw [Paired.length lb]; unfold singles; rw [List.length_map, List.length_range]
        have pb := (b3.same s4).ne np
        have h5 := sp _ _ h4
        have nDp : D2 ≠ p := ne_of_none h4 np
        refine ⟨_, h5, small1000 (by omega), ub ++ [V.ref p], same_mut (s4.trans sp) nD2, upd_same, ?_, ?_⟩
        · have k : ∀ {vs : List V} {ms : List (List Nat)}, LsE bx H5 vs ms → (∀ u ∈ vs, u ≠ V.ref D2) → LsE bx (upd (upd H5 p (.lst [.int (i : Int)])) D2 (.lst (ub ++ [V.ref p]))) vs ms := by
            intro vs ms h
            induction h with
            | nil => intro _; exact .nil
            | cons hd tl ih =>
              obtain ⟨b, z1, z2, z3⟩ := hd
              intro hn
              refine .cons ⟨b, z1, z2, ?_⟩ (ih fun u hu => hn u (List.mem_cons_of_mem _ hu))
              rw [upd_ne (fun z => hn _ List.mem_cons_self (by rw [z1, z]))]
              exact sp _ _ z3
          have e : singles (i + 1) = singles i ++ [[i]] := by unfold singles; rw [List.range_succ, List.map_append]; rfl
          rw [e]
          exact Paired.snoc (R := fun (u : V) (l : List Nat) => ∃ b, u = V.ref b ∧ b ≠ bx ∧ (upd (upd H5 p (.lst [.int (i : Int)])) D2 (.lst (ub ++ [V.ref p]))) b = some (.lst (l.map vN))) ⟨p, rfl, pb, by rw [upd_ne nDp.symm]; exact upd_same⟩ (k lb nn)
        · intro u hu
          rcases List.mem_append.mp hu with hu | hu
          · exact nn u hu
          · rw [List.mem_singleton.mp hu]
            exact fun z => nDp (V.ref.inj z).symm
      · rintro H4 ⟨ub, s4, h4, lb, _⟩
        have e4 := e3.trans (Ext.of s4)
        have b4 := b3.same s4
        have h4t := s4 _ _ h3
        rw [Int.toNat_natCast] at lb
        have la4 := laE.ext (Ext.of s4)
        refine ⟨.ref t, rfl, t, rfl, ⟨_, .inl (.inl h4t)⟩, fun D3 nD3 => ?_⟩
        have db3 := b4.ne nD3
        refine lc_it (walk_list (xs := us)) (fun i H5 => ∃ ut : List V, Same H4 H5 ∧ H5 D3 = some (.lst ut) ∧ TsE bx H5 ut (ls.take i) ∧ ∀ u ∈ ut, u ≠ V.ref D3) ⟨[], same_upd nD3, upd_same, .nil, fun u h => absurd h (by simp)⟩ (fun _ _ _ h => let ⟨_, s, _⟩ := h; .inl (.inl (s _ _ h4t))) ?_ ?_
        · rintro i y H5 H6 hi ⟨ut, s5, h5, lt, nn⟩ ⟨rfl, hy⟩
          rw [lu] at hi
          obtain ⟨b, eb, nbx, hb⟩ := la4.get i hi
          cases eb.symm.trans hy
          refine ⟨rfl, yes (iteT ⟨.ref b, rfl, b, _, rfl, .inl (.inl (s5 _ _ hb)), fun l o nl od => ?_⟩)⟩
          have sl := same_upd (o := .frz o (.tup (ls[i].map vN))) nl
          have h6 := sl _ _ h5
          have lu3 : ut.length = i := by rw [Paired.length lt, List.length_take]; omega
          have lbx := (b4.same s5).ne nl
          have nDl : D3 ≠ l := ne_of_none h5 nl
          refine ⟨_, h6, small1000 (by omega), ut ++ [V.ref l], same_mut (s5.trans sl) nD3, upd_same, ?_, ?_⟩
          · have k : ∀ {vs : List V} {ms : List (List Nat)}, TsE bx H6 vs ms → (∀ u ∈ vs, u ≠ V.ref D3) → TsE bx (upd (upd H6 l (.frz o (.tup (ls[i].map vN)))) D3 (.lst (ut ++ [V.ref l]))) vs ms := by
              intro vs ms h
              induction h with
              | nil => intro _; exact .nil
              | cons hd tl ih =>
                obtain ⟨b, z1, z2, z3⟩ := hd
                intro hn
                refine .cons ⟨b, z1, z2, ?_⟩ (ih fun u hu => hn u (List.mem_cons_of_mem _ hu))
                have nb : b ≠ D3 := fun z => hn _ List.mem_cons_self (by rw [z1, z])
                rcases z3.keep (Keep.same sl) with z | ⟨o', d', z⟩
                · exact .inl (by rw [upd_ne nb]; exact z)
                · exact .inr ⟨o', d', by rw [upd_ne nb]; exact z⟩
            have e : ls.take (i + 1) = ls.take i ++ [ls[i]] := by rw [List.take_add_one, List.getElem?_eq_getElem hi]; rfl
            rw [e]
            exact Paired.snoc (R := fun (u : V) (l' : List Nat) => ∃ b, u = V.ref b ∧ b ≠ bx ∧ TupAt (upd (upd H6 l (.frz o (.tup (ls[i].map vN)))) D3 (.lst (ut ++ [V.ref l]))) b (l'.map vN)) ⟨l, rfl, lbx, .inr ⟨o, od, by rw [upd_ne nDl.symm]; exact upd_same⟩⟩ (k lt nn)
          · intro u hu
            rcases List.mem_append.mp hu with hu | hu
            · exact nn u hu
            · rw [List.mem_singleton.mp hu]
              exact fun z => nDl (V.ref.inj z).symm
        · rintro H5 ⟨ut, s5, h5, lt, _⟩
          rw [lu, List.take_length] at lt
          refine ⟨D3, ut, rfl, .inl (.inl h5), fun tt o ntt od => ?_⟩
          have stt := same_upd (o := .frz o (.tup ut)) ntt
          have b6 := ((b4.same s5).same stt)
          have e6 := (e4.trans (Ext.of s5)).trans (Ext.of stt)
          have la6 := la4.ext (Ext.of (s5.trans stt))
          have lb6 := lb.ext (Ext.of (bx := bx) (s5.trans stt))
          have lt6 := lt.ext (Ext.of (bx := bx) stt)
          have h6t := (s5.trans stt) _ _ h4t
          have h6b := (s5.trans stt) _ _ h4
          have h6u : TupAt (upd H5 tt (.frz o (.tup ut))) tt ut := .inr ⟨o, od, upd_same⟩
          have ntb := (b4.same s5).ne ntt
          generalize upd H5 tt (.frz o (.tup ut)) = Hb at *
          -- the turns
          refine ⟨_, _, rfl, 4, rfl, by decide, by decide, ?_⟩
          refine for_it walk_range (fun i σ H3 => ∃ y3 y6 y7 y8 y9 y10 y11 y12 y13 : Option V, σ = [some (.ref bx), some (.int (n : Int)), some (.ref t), y3, some (.ref D2), some (.ref tt), y6, y7, y8, y9, y10, y11, y12, y13] ∧ Ext bx Hb H3 ∧ Box bx (30 + 200 * i) H3) ⟨_, _, _, _, _, _, _, _, _, rfl, Ext.refl _, b6.mono (by omega)⟩ (fun _ _ _ _ _ => trivial) ?_ ?_
          · rintro i y σ H7 H7' hi ⟨y3, y6, y7, y8, y9, y10, y11, y12, y13, rfl, e7, b7⟩ ⟨rfl, rfl⟩
            have hi' : i < 4 := hi
            dsimp only
            have h7t := e7 _ _ tb h6t
            have la7 := la6.ext e7
            -- small
            refine ⟨.ref t, rfl, t, rfl, ⟨_, .inl (.inl h7t)⟩, fun D4 nD4 => ?_⟩
            have db4 := b7.ne nD4
            refine lc_it (walk_list (xs := us)) (fun j H8 => ∃ st : List Int, Ext bx H7' H8 ∧ Box bx (30 + 200 * i + 2 * j) H8 ∧ H8 D4 = some (.lst (st.map V.int)) ∧ st.length = j ∧ ∀ x ∈ st, 0 ≤ x ∧ x < 1000000) ⟨[], (Ext.refl _).new nD4, (b7.new nD4).mono (by omega), upd_same, rfl, fun x h => absurd h (by simp)⟩ (fun _ _ _ h => let ⟨_, e, _⟩ := h; .inl (.inl (e _ _ tb h7t))) ?_ ?_
            · rintro j y H8 H8' hj ⟨st, e8, b8, h8, ls8, bd⟩ ⟨rfl, hy⟩
              have hj' : j < us.length := hj
              refine ⟨rfl, yes (iteT ?_)⟩
              refine ⟨.ref bx, rfl, bx, _, 3, rfl, by decide, by decide, by omega, b8, fun r4 H9 r40 r41 e9 b9 => ?_⟩
              refine ⟨.ref bx, rfl, 10, 6, rfl, rfl, ⟨by decide, by decide, by decide⟩, bx, _, _, rfl, by decide, by decide, by omega, b9, fun r5 H10 r50 r51 e10 b10 => ?_⟩
              refine ⟨by show 2 ≤ sizeLine; decide, fun l nl => ?_⟩
              have zi : (0 : Int) + (i : Int) = i := Int.zero_add _
              have r51' : r5 < 1000000 := r51
              obtain ⟨v, mv, av⟩ := pick (xs := [V.int r4, V.int r5]) (i := (0 + (i : Int)) % 2) (by omega) (by show _ < (2 : Int); omega)
              obtain ⟨x, rfl, x0, x1⟩ : ∃ x, v = V.int x ∧ 0 ≤ x ∧ x < 1000000 := by
                rcases List.mem_cons.mp mv with rfl | mv
                · exact ⟨r4, rfl, r40, by omega⟩
                · rw [List.mem_singleton.mp mv]; exact ⟨r5, rfl, r50, r51'⟩
              refine ⟨.int (0 + (i : Int)), rfl, _, 2, rfl, rfl, by show (0 : Int) < 2; decide, l, _, _, _, rfl, rfl, .inl (.inl upd_same), av, ?_⟩
              have h10 := e10 _ _ db4 (e9 _ _ db4 h8)
              have nlb := b10.ne nl
              have nDl : D4 ≠ l := ne_of_none h10 nl
              refine ⟨_, by rw [upd_ne nDl]; exact h10, by rw [List.length_map]; exact small1000 (by omega), st ++ [x], ?_, ?_, ?_, by rw [List.length_append, ls8]; rfl, ?_⟩
              · exact (((e8.trans e9).trans e10).trans (Ext.of (same_upd nl))).new nD4
              · exact ((b10.new nl).mono (by omega)).at db4
              · rw [upd_same, List.map_append]; rfl
              · intro z hz
                rcases List.mem_append.mp hz with hz | hz
                · exact bd z hz
                · rw [List.mem_singleton.mp hz]; exact ⟨x0, x1⟩
            · rintro H8 ⟨st, e8, b8, h8, ls8, bd⟩
              have b8' : Box bx (30 + 200 * i + 130) H8 := b8.mono (by omega)
              clear b8
              refine ⟨D4, _, rfl, .inl (.inl h8), fun sm os nsm osd => ?_⟩
              have ssm := same_upd (o := .frz os (.tup (st.map V.int))) nsm
              have hsm : TupAt (upd H8 sm (.frz os (.tup (st.map V.int)))) sm (st.map V.int) := .inr ⟨os, osd, upd_same⟩
              have b9 := b8'.same ssm
              have e9 := (e7.trans e8).trans (Ext.of ssm)
              have nsb := b8'.ne nsm
              generalize upd H8 sm (.frz os (.tup (st.map V.int))) = H9 at *
              have lst : st.length = ls.length := by omega
              have h9t := e9 _ _ tb h6t
              have la9 := la6.ext e9
              have lt9 := lt6.ext e9
              have lb9 := lb6.ext e9
              have h9u := h6u.ext e9 ntb
              have h9b := e9 _ _ db h6b
              -- wide
              refine ⟨by show 1 ≤ sizeLine; decide, fun p1 np1 => ?_⟩
              have sp1 := same_upd (o := .lst [.int 0]) np1
              refine ⟨.int (n : Int), rfl, p1, (n : Int), _, rfl, rfl, upd_same, by omega, Int.lt_of_le_of_lt (by omega : (n : Int) ≤ 60) (by decide), by show 1 * n ≤ sizeLine; exact Nat.le_trans (by omega : 1 * n ≤ 60) (by decide), fun wl nwl => ?_⟩
              refine ⟨by show 0 ≤ sizeLine; decide, fun sl nsl => ?_⟩
              have nwb := (b9.same sp1).ne nwl
              have ew : (List.replicate (n : Int).toNat [V.int 0]).flatten = (partW st ls n (done ls 0 0)).map V.int := by
                rw [Int.toNat_natCast]
                show _ = (partW st ls n []).map V.int
                rw [partW_zero, rep0]
              rw [ew] at nsl ⊢
              have swl := same_upd (o := .lst ((partW st ls n (done ls 0 0)).map V.int)) nwl
              have ssl := same_upd (o := .lst []) nsl
              have nw9 := sp1.free nwl
              have s10 := sp1.trans (swl.trans ssl)
              have hw10 := ssl _ _ (upd_same (H := upd H9 p1 (.lst [.int 0])) (a := wl) (o := .lst ((partW st ls n (done ls 0 0)).map V.int)))
              have b10 := b9.same s10
              have e10 : Ext bx H9 _ := Ext.of s10
              generalize upd (upd (upd H9 p1 (.lst [.int 0])) wl (.lst ((partW st ls n (done ls 0 0)).map V.int))) sl (.lst []) = H10 at *
              refine ⟨_, _, rfl, ?_⟩
              have wsm : wl ≠ sm := fun z => by
                rcases hsm with h | ⟨_, _, h⟩
                all_goals
                  rw [← z, nw9] at h
                  cases h
              have wt : wl ≠ t := fun z => by rw [← z, nw9] at h9t; cases h9t
              refine ⟨.ref sm, rfl, .ref t, rfl, .ref sm, .ref t, (fun H xs => TupAt H sm xs), (fun H xs => H t = some (.lst xs)), st.map V.int, us, rfl, hsm.ext e10 nsb, e10 _ _ tb h9t, fun u r => ?_, fun u r => ?_, ?_⟩
              · cases r; exact ⟨_, src_tup sm⟩
              · cases r; exact ⟨_, src_list t⟩
              refine for_it (walk_zipX (xs := st.map V.int) (ys := us) (n := ls.length) (by rw [List.length_map]; omega)) (fun j σ H3 => ∃ z3 z6 z11 : Option V, σ = [some (.ref bx), some (.int (n : Int)), some (.ref t), z3, some (.ref D2), some (.ref tt), z6, some (.int (0 + (i : Int))), some (.ref sm), some (.ref wl), some (.ref sl), z11, y12, y13] ∧ Ext bx H9 H3 ∧ Box bx (30 + 200 * i + 130) H3 ∧ H3 wl = some (.lst ((partW st ls n (done ls j 0)).map V.int))) ⟨_, _, _, rfl, e10, b10, hw10⟩ ?_ ?_ ?_
              · rintro j σ H11 _ ⟨z3, z6, z11, rfl, e11, b11, hw11⟩
                exact ⟨hsm.ext e11 nsb, e11 _ _ tb h9t⟩
              · rintro j x σ H11 H12 hj ⟨z3, z6, z11, rfl, e11, b11, hw11⟩ ⟨T0, x1, x2, rfl, nT, rfl, ex1, ex2⟩
                have hj' : j < ls.length := hj
                obtain ⟨b, eb, nbx, hb⟩ := la9.get j hj'
                have ex1' : (st.map V.int)[j]? = some x1 := ex1
                rw [List.getElem?_map, List.getElem?_eq_getElem (by omega : j < st.length)] at ex1'
                cases ex1'
                have ex2' : us[j]? = some x2 := ex2
                cases eb.symm.trans ex2'
                have sT := same_upd (o := .tup [.int (st[j]'(by omega)), .ref b]) nT
                refine ⟨T0, _, rfl, .inl (.inl upd_same), rfl, _, _, rfl, _, _, rfl, rfl, ?_⟩
                have e12 : Ext bx H9 _ := e11.trans (Ext.of sT)
                have b12 := b11.same sT
                have hw12 := sT _ _ hw11
                generalize upd H11 T0 (.tup [.int (st[j]'(by omega)), .ref b]) = H12 at *
                obtain ⟨il, ip⟩ := pa.inner hj'
                have wb : wl ≠ b := fun z => by rw [← z, nw9] at hb; cases hb
                refine ⟨.ref b, rfl, b, rfl, ⟨_, .inl (.inl (e12 _ _ nbx hb))⟩, ?_⟩
                refine for_it (walk_list (xs := ls[j].map vN)) (fun k σ H3 => ∃ z3 : Option V, σ = [some (.ref bx), some (.int (n : Int)), some (.ref t), z3, some (.ref D2), some (.ref tt), some (.ref b), some (.int (0 + (i : Int))), some (.ref sm), some (.ref wl), some (.ref sl), some (.int (st[j]'(by omega))), y12, y13] ∧ Ext bx H9 H3 ∧ Box bx (30 + 200 * i + 130) H3 ∧ H3 wl = some (.lst ((partW st ls n (done ls j k)).map V.int))) ⟨_, rfl, e12, b12, hw12⟩ ?_ ?_ ?_
                · rintro k σ H13 _ ⟨z3, rfl, e13, _⟩
                  exact .inl (.inl (e13 _ _ nbx hb))
                · rintro k y σ H13 H14 hk ⟨z3, rfl, e13, b13, hw13⟩ ⟨rfl, hy⟩
                  rw [List.length_map] at hk
                  rw [List.getElem?_map, List.getElem?_eq_getElem hk] at hy
                  cases hy
                  have hp := ip _ (List.getElem_mem hk)
                  refine ⟨_, rfl, .ref wl, rfl, vN ls[j][k], rfl, wl, _, _, ls[j][k], rfl, rfl, hw13, ?_, ?_⟩
                  · show ixN ((partW st ls n (done ls j k)).map V.int).length ((ls[j][k] : Nat) : Int) = some _
                    unfold ixN
                    rw [List.length_map, partW_len, if_pos (by omega), if_pos (by omega), Int.toNat_natCast]
                  · refine ⟨_, rfl, e13.new nw9, b13.at nwb, ?_⟩
                    rw [upd_same, done_next hj' hk, ← partW_put, List.map_set, wh_is hj' pa.once (List.getElem_mem hk), nthG]
                · rintro σ H13 ⟨z3, rfl, e13, b13, hw13⟩
                  rw [List.length_map, done_on hj'] at hw13
                  exact ⟨_, _, _, rfl, e13, b13, hw13⟩
              · rintro σ H11 ⟨z3, z6, z11, rfl, e11, b11, hw11⟩
                rw [done_end, partW_end pa] at hw11
                have lW : (wideOf st ls n).length = n := wide_len
                have bW : ∀ x ∈ wideOf st ls n, 0 ≤ x ∧ x < 1000000 := fun x hx => by
                  obtain ⟨p, hp, rfl⟩ := List.mem_map.mp hx
                  obtain ⟨hw, _⟩ := wh_at ((pa.all p).mpr (List.mem_range.mp hp))
                  rw [nthG (by omega : wh ls p < st.length)]
                  exact bd _ (List.getElem_mem _)
                have paW : Part (wideOf st ls n).length ls := by rw [lW]; exact pa
                have noW := wide_no (st := st) pa
                have smW := wide_small pa lst
                generalize hW : wideOf st ls n = W at *
                have h11s := hsm.ext e11 nsb
                have h11t := e11 _ _ tb h9t
                have h11u := h9u.ext e11 ntb
                have la11 := la9.ext e11
                have lt11 := lt9.ext e11
                -- told wide
                refine ⟨.ref sm, rfl, .ref t, rfl, sm, t, st, us, ls, n, rfl, h11s, lst, .inl h11t, la11.l.ls, pa, fun l1 o1 HA sA nl1 od1 hl1 => ?_⟩
                refine ⟨.ref sm, rfl, .ref tt, rfl, sm, tt, st, ut, ls, n, rfl, h11s.keep (Keep.same sA), lst, .inr (h11u.keep (Keep.same sA)), lt11.l.same sA, pa, fun l2 o2 HB' sB nl2 od2 hl2 => ?_⟩
                refine ⟨by show 2 ≤ sizeLine; decide, fun lA nlA => ?_⟩
                have slA := same_upd (o := .lst [.ref l1, .ref l2]) nlA
                have hwA := slA _ _ (sB _ _ (sA _ _ hw11))
                rw [hW] at hl1 hl2
                refine ⟨.ref wl, rfl, wl, _, rfl, .inl (.inl hwA), fun l3 o3 nl3 od3 => ?_⟩
                have sl3 := same_upd (o := .frz o3 (.tup (W.map V.int))) nl3
                refine ⟨by show 1 ≤ sizeLine; decide, fun lB nlB => ?_⟩
                have slB := same_upd (o := .lst [.ref l3]) nlB
                refine ⟨lB, 2, _, rfl, rfl, upd_same, by decide, by decide, by show 1 * 2 ≤ sizeLine; decide, fun lC nlC => ?_⟩
                have slC := same_upd (o := .lst (List.replicate (2 : Int).toNat [V.ref l3]).flatten) nlC
                have sCC := sl3.trans (slB.trans slC)
                have b12 := (((b11.same sA).same sB).same slA).same sCC
                have hl3 := (slB.trans slC) _ _ (upd_same (H := upd HB' lA (.lst [.ref l1, .ref l2])) (a := l3) (o := .frz o3 (.tup (W.map V.int))))
                have s12 := ((sA.trans sB).trans slA).trans sCC
                refine ⟨bx, .ref lA, .ref lC, .list [tupD W, tupD W], rfl, .lst (sCC _ _ upd_same) (((b11.same sA).same sB).ne nlA) (.cons (frz_rp b12 od1 (((sB.trans slA).trans sCC) _ _ hl1)) (.cons (frz_rp b12 od2 ((slA.trans sCC) _ _ hl2)) .nil)),
                  .lst upd_same ((((((b11.same sA).same sB).same slA).same sl3).same slB).ne nlC) (.cons (frz_rp b12 od3 hl3) (.cons (frz_rp b12 od3 hl3) .nil)), okD_tups (n := 2) (ds := [W, W]) (by show 2 ≤ 8388608; decide) (fun ms hm => by
                    have : ms = W := by
                      rcases List.mem_cons.mp hm with e | hm
                      · exact e
                      · exact List.mem_singleton.mp hm
                    rw [this, lW]
                    omega), fun H13 s13 => ⟨_, rfl, iteN rfl ?_⟩⟩
                have e13 := e11.trans (Ext.of (s12.trans s13))
                have b13 := b12.same s13
                have hw13 := (s12.trans s13) _ _ hw11
                have t13 := e13 _ _ tb h9t
                have u13 := h9u.ext e13 ntb
                have la13 := la9.ext e13
                have lt13 := lt9.ext e13
                clear s12 sCC hl3 b12 slC slB sl3 hwA slA hl2 sB hl1 sA nl1 nl2 nlA nl3 nlB nlC
                -- told small again
                refine ⟨.ref wl, rfl, wl, _, rfl, .inl (.inl hw13), fun l4 o4 nl4 od4 => ?_⟩
                have sl4 := same_upd (o := .frz o4 (.tup (W.map V.int))) nl4
                have hl4 : TupAt (upd H13 l4 (.frz o4 (.tup (W.map V.int)))) l4 (W.map V.int) := .inr ⟨o4, od4, upd_same⟩
                refine ⟨.ref t, rfl, l4, t, W, us, ls, rfl, hl4, .inl (sl4 _ _ t13), la13.l.ls.same sl4, paW, fun v5 HC sC an5 => ?_⟩
                obtain ⟨l5, o5, rfl, od5, hl5⟩ := an5.no noW
                have s14 := sl4.trans sC
                have hw14 := s14 _ _ hw13
                refine ⟨.ref wl, rfl, wl, _, rfl, .inl (.inl hw14), fun l6 o6 nl6 od6 => ?_⟩
                have sl6 := same_upd (o := .frz o6 (.tup (W.map V.int))) nl6
                have hl6 : TupAt (upd HC l6 (.frz o6 (.tup (W.map V.int)))) l6 (W.map V.int) := .inr ⟨o6, od6, upd_same⟩
                have s15 := s14.trans sl6
                refine ⟨.ref tt, rfl, l6, tt, W, ut, ls, rfl, hl6, .inr (u13.keep (Keep.same s15)), lt13.l.same s15, paW, fun v7 HD sD an7 => ?_⟩
                obtain ⟨l7, o7, rfl, od7, hl7⟩ := an7.no noW
                refine ⟨by show 2 ≤ sizeLine; decide, fun lD nlD => ?_⟩
                have slD := same_upd (o := .lst [.ref l5, .ref l7]) nlD
                refine ⟨.ref sm, rfl, .ref sm, rfl, by show 2 ≤ sizeLine; decide, fun lE nlE => ?_⟩
                have slE := same_upd (o := .lst [.ref sm, .ref sm]) nlE
                have s16 := (s15.trans sD).trans slD
                have s17 := s16.trans slE
                have b17 := b13.same s17
                rw [smW] at hl5 hl7
                have sm17 : TupAt _ sm (st.map V.int) := hsm.ext (e13.trans (Ext.of s17)) nsb
                refine ⟨bx, .ref lD, .ref lE, .list [tupD st, tupD st], rfl, .lst (slE _ _ upd_same) ((b13.same (s15.trans sD)).ne nlD) (.cons (frz_rp b17 od5 (((sl6.trans sD).trans (slD.trans slE)) _ _ hl5)) (.cons (frz_rp b17 od7 ((slD.trans slE) _ _ hl7)) .nil)),
                  .lst upd_same ((b13.same s16).ne nlE) (.cons (sm17.rpI b17) (.cons (sm17.rpI b17) .nil)), okD_tups (n := 2) (ds := [st, st]) (by show 2 ≤ 8388608; decide) (fun ms hm => by
                    have : ms = st := by
                      rcases List.mem_cons.mp hm with e | hm
                      · exact e
                      · exact List.mem_singleton.mp hm
                    rw [this]
                    omega), fun H18 s18 => ⟨_, rfl, iteN rfl ?_⟩⟩
                have e18 := e13.trans (Ext.of (s17.trans s18))
                have b18 := b17.same s18
                have hw18 := (s17.trans s18) _ _ hw13
                clear sm17 b17 s17 s16 slE slD an7 hl7 sD hl6 s15 sl6 hw14 s14 an5 hl5 sC hl4 sl4 hw13 b13 u13 t13 la13 lt13 nl4 nl6 nlD nlE
                -- bent
                refine ⟨.ref bx, rfl, bx, _, 2, rfl, by decide, by decide, by omega, b18, fun r1' H19 r10' r11' e19 b19 => ⟨1, r1', rfl, rfl, _, rfl, by omega, Int.lt_of_le_of_lt (by omega : 1 + r1' ≤ 60) (by decide), ?_⟩⟩
                have hw19 := e19 _ _ nwb hw18
                refine for_it walk_range (fun k σ H3 => ∃ (z12 : Option V) (V' : List Int), σ = [some (.ref bx), some (.int (n : Int)), some (.ref t), z3, some (.ref D2), some (.ref tt), z6, some (.int (0 + (i : Int))), some (.ref sm), some (.ref wl), some (.ref sl), z11, z12, y13] ∧ Ext bx H9 H3 ∧ Box bx (30 + 200 * i + 135 + 2 * k) H3 ∧ H3 wl = some (.lst (V'.map V.int)) ∧ V'.length = n ∧ ∀ x ∈ V', 0 ≤ x ∧ x < 1000000) ⟨_, W, rfl, e18.trans e19, b19.mono (by omega), hw19, lW, bW⟩ (fun _ _ _ _ _ => trivial) ?_ ?_
                · rintro k x σ H20 H21 hk ⟨z12, V', rfl, e20, b20, hw20, lV, bV⟩ ⟨rfl, rfl⟩
                  have hk' : k < 3 := by have : k < (1 + r1').toNat := hk; omega
                  refine ⟨.ref bx, rfl, bx, _, 4, rfl, by decide, by decide, by omega, b20, fun r2 H22 r20 r21 e22 b22 => ?_⟩
                  refine ⟨.ref wl, rfl, .ref bx, rfl, .int (n : Int), rfl, bx, _, (n : Int), rfl, by omega, by omega, by omega, b22, fun r3 H23 r30 r31 e23 b23 => ?_⟩
                  have hw23 := e23 _ _ nwb (e22 _ _ nwb hw20)
                  refine ⟨wl, _, _, r3.toNat, rfl, rfl, hw23, ?_, ?_⟩
                  · show ixN (V'.map V.int).length r3 = some _
                    unfold ixN
                    rw [List.length_map, lV, if_pos (by omega), if_pos (by omega)]
                  · refine ⟨_, V'.set r3.toNat r2, rfl, (((e20.trans e22).trans e23)).new nw9, (b23.mono (by omega)).at nwb, by rw [upd_same, List.map_set], by rw [List.length_set]; exact lV, fun x hx => ?_⟩
                    rcases List.mem_or_eq_of_mem_set hx with h | h
                    · exact bV x h
                    · rw [h]; omega
                · rintro σ H20 ⟨z12, V', rfl, e20, b20', hw20, lV, bV⟩
                  have b20 : Box bx (30 + 200 * i + 150) H20 := b20'.mono (by omega)
                  clear b20'
                  have paV : Part V'.length ls := by rw [lV]; exact pa
                  have t20 := e20 _ _ tb h9t
                  have la20 := la9.ext e20
                  -- kept
                  refine ⟨.ref wl, rfl, .ref t, rfl, by show 2 ≤ sizeLine; decide, fun lK nlK => ?_⟩
                  have slK := same_upd (o := .lst [.ref wl, .ref t]) nlK
                  have rep : ∀ {Hx : Hp} {a : Addr} {cc : Int}, Box bx cc Hx → a ≠ bx → Hx a = some (.lst [.ref wl, .ref t]) → Hx wl = some (.lst (V'.map V.int)) → Hx t = some (.lst us) → LsE bx Hx us ls → Dp K Hx (.ref a) (keptD V' ls) := fun bo na ha hw ht hl =>
                    Rp.dp (Rp.lst (bx := bx) ha na (.cons (.lst hw nwb (RpAll.ints _)) (.cons (.lst ht tb hl.rp) .nil)))
                  have tm : tame 12 3 (keptD V' ls) := kept_tame (by omega) (by omega) (fun x hx => by have := bV x hx; omega) (fun l hl => by
                    obtain ⟨j, hj, rfl⟩ := List.getElem_of_mem hl
                    obtain ⟨il, ip⟩ := pa.inner hj
                    exact ⟨by omega, fun p hp => by have := ip p hp; omega⟩)
                  have sw := tame_shown 12 3 _ tm
                  have fits := tame_fits tm (by decide)
                  refine ⟨lK, _, rfl, rep (b20.same slK) (b20.ne nlK) upd_same (slK _ _ hw20) (slK _ _ t20) (la20.ext (Ext.of slK)), sw.sh, sw.nd, Nat.le_trans sw.dp (by decide), fits, ?_⟩
                  -- told beside due
                  have hw21 := slK _ _ hw20
                  refine ⟨.ref wl, rfl, wl, _, rfl, .inl (.inl hw21), fun l4 o4 nl4 od4 => ?_⟩
                  have sl4 := slK.trans (same_upd (o := .frz o4 (.tup (V'.map V.int))) nl4)
                  have hl4 : TupAt (upd (upd H20 lK (.lst [.ref wl, .ref t])) l4 (.frz o4 (.tup (V'.map V.int)))) l4 (V'.map V.int) := .inr ⟨o4, od4, upd_same⟩
                  refine ⟨.ref t, rfl, l4, t, V', us, ls, rfl, hl4, .inl (sl4 _ _ t20), (la20.ext (Ext.of sl4)).l.ls, paV, fun v5 HC sC an5 => ?_⟩
                  have s21 := sl4.trans sC
                  refine ⟨.ref wl, rfl, .ref t, rfl, wl, t, V', us, ls, rfl, s21 _ _ hw20, s21 _ _ t20, (la20.ext (Ext.of s21)).l, paV, fun v6 HD sD an6 => ?_⟩
                  have s22 := s21.trans sD
                  have b22 := b20.same s22
                  obtain ⟨d, rd1, rd2, okd⟩ := Ans.two b22 (by omega) (an5.same sD) an6
                  refine ⟨bx, v5, v6, d, rfl, rd1, rd2, okd, fun HE sE => ⟨_, rfl, ?_⟩⟩
                  have s23 := s22.trans sE
                  have b23 := b20.same s23
                  refine iteN rfl ?_
                  refine ⟨.ref wl, rfl, .ref t, rfl, by show 2 ≤ sizeLine; decide, fun lL nlL => ?_⟩
                  have slL := same_upd (o := .lst [.ref wl, .ref t]) nlL
                  refine ⟨lL, _, rfl, rep (b23.same slL) (b23.ne nlL) upd_same (slL _ _ (s23 _ _ hw20)) (slL _ _ (s23 _ _ t20)) (la20.ext (Ext.of (s23.trans slL))), sw.sh, sw.nd, Nat.le_trans sw.dp (by decide), fits, _, rfl, rfl, _, rfl, iteN (by rw [decide_eq_true rfl]; rfl) ?_⟩
                  have s24 := s23.trans slL
                  have b24 := b20.same s24
                  -- each by itself
                  have e24 := e20.trans (Ext.of s24)
                  have hw24 := s24 _ _ hw20
                  refine ⟨.ref wl, rfl, wl, _, rfl, .inl (.inl hw24), fun l8 o8 nl8 od8 => ?_⟩
                  have sl8 := same_upd (o := .frz o8 (.tup (V'.map V.int))) nl8
                  have hl8 := upd_same (H := upd HE lL (.lst [.ref wl, .ref t])) (a := l8) (o := .frz o8 (.tup (V'.map V.int)))
                  refine ⟨.ref D2, rfl, l8, D2, V', ub, singles n, rfl, .inr ⟨o8, od8, hl8⟩, .inl (sl8 _ _ (e24 _ _ db h9b)), (lb9.ext (e24.trans (Ext.of sl8))).l.ls, by rw [lV]; exact singles_part (by omega), fun j _ _ fb _ _ _ => (first_not fb (singles_no V' n)).elim, fun _ l9 o9 HF sF nl9 od9 hl9 => ?_⟩
                  have s25 := (s24.trans sl8).trans sF
                  refine ⟨.ref wl, rfl, wl, _, rfl, .inl (.inl (s25 _ _ hw20)), fun l10 o10 nl10 od10 => ?_⟩
                  have sl10 := same_upd (o := .frz o10 (.tup (V'.map V.int))) nl10
                  have b26 := b20.same (s25.trans sl10)
                  have esm : smallOf V' (singles n) = V' := by rw [← lV]; exact singles_small V'
                  rw [esm] at hl9
                  refine ⟨bx, .ref l9, .ref l10, tupD V', rfl, frz_rp b26 od9 (sl10 _ _ hl9), frz_rp b26 od10 upd_same, okD_ints (n := 3) (by omega), fun HG sG => ⟨_, rfl, iteN rfl ?_⟩⟩
                  have s27 := (s25.trans sl10).trans sG
                  exact ⟨_, _, _, _, _, _, _, _, _, rfl, e9.trans (e20.trans (Ext.of s27)), (b20.same s27).mono (by omega)⟩
          · rintro σ H3 ⟨y3, y6, y7, y8, y9, y10, y11, y12, y13, rfl, e7, b7⟩
            exact q H3 (e6.trans e7)
end
end Lh

namespace Lh
open PySem PySem.Spec PyProof.Rows L2
section
variable {P : Program} {w : World} {K : PySem.W.Frag} {mg : Str → Option Value} {base : Heap}
def spLaw (K : PySem.W.Frag) : Sp := fun vs H Q _ => ∃ (a : Addr) (ns : List Int), vs = [.ref a] ∧ SqL K H a (ns.map V.int) ∧ ns.length ≤ 63 ∧ ∀ H', Q (.bl true) H'
theorem ok_law (T : Txt K mg w) : FnG P w K mg base 8 T.f_law T.fd_law ["_law_script"] (spLaw K) := by
  have G_folded := ok_folded (P := P) (w := w) (base := base) T
  have G_dip := ok_dip (P := P) (w := w) (base := base) T
  have G_right := ok_right (P := P) (w := w) (base := base) T
  refine okG T.F_law sc_law (fun vs H Q E h => ?_) (fun cdv A outer s H vs Q E hr hG h => ?_)
  · obtain ⟨a, ns, rfl, _⟩ := h
    rfl
  · obtain ⟨a, ns, rfl, hS, hl, q⟩ := h
    refine ⟨_, (pss_cons (ps_set (i := 1) sc_law.nd rfl (.inr rfl) (pe_call G_folded (hr.mono (by decide)) (by rfl) T.g_folded T.F_folded.kp T.b_folded .nil pass0 (pa_cons (pv 0) (pa_cons pe_int pa_nil))))
      (pss_one (ps_ret (pe_callB (cr_all rfl) (by rfl) T.m_all (by decide +kernel) (pa_cons (pe_lc (own := [("_law_k", 2)]) (g := gName 2) (by rfl) sc_law.nd (pi_range1 (by rfl) T.m_range (pa_cons (pe_callB (call_max2 rfl) (by rfl) T.m_max (by decide +kernel) (pa_cons pe_int (pa_cons (pe_callB call_len_seq (by rfl) T.m_len (by decide +kernel) (pa_cons (pv 1) pa_nil)) pa_nil))) pa_nil)) (blkOk_by (own := [("_law_k", 2)]) (N := n_law) (sc := defScope s_law) (by decide +kernel)) (fun _ _ _ _ _ => (pg_name (i := 2) sc_law.nd rfl (.inl rfl) (.inr rfl))) (fun _ _ _ _ _ => pts_nil) (fun _ _ _ _ _ => (pe_callG G_right (hr.mono (by decide)) hG (by rfl) T.g_right T.F_right.kp T.b_right (pa_cons (pe_call G_dip (hr.mono (by decide)) (by rfl) T.g_dip T.F_dip.kp T.b_dip .nil pass0 (pa_cons (pv 1) (pa_cons (pv 2) pa_nil))) pa_nil)))) pa_nil))))), ?_⟩
    refine ⟨.ref a, rfl, a, ns, rfl, hS, hl, fun p ms H1 s1 np hp ml => ?_⟩
    refine ⟨.ref p, rfl, p, _, rfl, .inl (.inl (.inl hp)), 1, _, rfl, _, rfl, ?_, ?_, fun D hD => ?_⟩
    · rw [List.length_map]; split <;> omega
    · rw [List.length_map]; split <;> omega
    generalize hn : (if ((ms.map V.int).length : Int) > 1 then ((ms.map V.int).length : Int) else 1).toNat = n
    have hn3 : n ≤ 3 := by
      rw [← hn, List.length_map]
      split <;> omega
    refine lc_it walk_range (fun i H3 => H3 p = some (.lst (ms.map V.int)) ∧ H3 D = some (.lst (List.replicate i (.bl true)))) ⟨same_upd hD _ _ hp, upd_same⟩ (fun _ _ _ _ => trivial) ?_ ?_
    · rintro i x H3 H4 hi ⟨h1, h2⟩ ⟨rfl, rfl⟩
      refine ⟨rfl, yes (iteT ?_)⟩
      refine ⟨.ref p, rfl, .int (0 + i), rfl, p, ms, i, by show [V.ref p, V.int (0 + (i : Int))] = _; rw [Int.zero_add], .inl (.inl h1), by omega, fun bx H5 s5 nb bB => ?_⟩
      refine ⟨bx, rfl, bB, fun H6 e6 => ?_⟩
      have nD : D ≠ bx := ne_of_none h2 nb
      have nP : p ≠ bx := ne_of_none h1 nb
      have nPD : p ≠ D := ne_of_none hp hD
      refine ⟨_, e6 _ _ nD (s5 _ _ h2), by rw [List.length_replicate]; exact small1000 (by omega), ?_, ?_⟩
      · rw [upd_ne nPD]; exact e6 _ _ nP (s5 _ _ h1)
      · rw [upd_same, List.replicate_succ']
    · rintro H3 ⟨h1, h2⟩
      refine ⟨D, List.replicate n true, rfl, .inl (.inl (by rw [h2, List.map_replicate])), blT ?_ (q _)⟩
      rw [List.all_eq_true]
      intro z hz
      rw [List.eq_of_mem_replicate hz]
      rfl
end

set_option maxHeartbeats 4000000 in
theorem all_mk {l : PySem.W.OpenLaw} {w : World} {K : PySem.W.Frag} {h : Heap} {mg : Str → Option Value} {fa : Addr} (X : K.In h) (G : h.Ns mainGlobals mg) (hfa : mg "law" = some (.ref fa))
    {CNotAlike : Addr} (aCNotAlike : PySem.W.nsIn K mainGlobals "NotAlike" = some (some (.ref CNotAlike)))
    {CNotLike : Addr} (aCNotLike : PySem.W.nsIn K mainGlobals "NotLike" = some (some (.ref CNotLike)))
    {f0 : Addr} {od0 an0 : Option Addr} {sl0 : Array (Option Value)} {oc0 kV0 dc0 pm0 cd0 ct0 : Value}
    (a0 : PySem.W.findIn K (.ref CNotLike) "__init__" = some (some (.ref f0))) (i0 : PySem.W.isFn K (.ref f0) = true)
    (l0 : K.lookup f0 = some ⟨oc0, od0, .func (PySem.W.fnOf "__init__" "NotLike.__init__" (defArgs s_NotLike_init) (defBody s_NotLike_init) (defScope s_NotLike_init) .none kV0 dc0 pm0 an0 cd0 ct0), sl0⟩) (c0 : PySem.W.codeIn K cd0 "NotLike.__init__" = true) (k0 : PySem.W.keepIn K (.ref f0) = true)
    {f1 : Addr} {od1 an1 : Option Addr} {sl1 : Array (Option Value)} {oc1 kV1 dc1 pm1 cd1 ct1 : Value}
    (a1 : PySem.W.nsIn K mainGlobals "places_of" = some (some (.ref f1)))
    (l1 : K.lookup f1 = some ⟨oc1, od1, .func (PySem.W.fnOf "places_of" "places_of" (defArgs s_places_of) (defBody s_places_of) (defScope s_places_of) .none kV1 dc1 pm1 an1 cd1 ct1), sl1⟩) (c1 : PySem.W.codeIn K cd1 "places_of" = true) (k1 : PySem.W.keepIn K (.ref f1) = true)
    {f2 : Addr} {od2 an2 : Option Addr} {sl2 : Array (Option Value)} {oc2 kV2 dc2 pm2 cd2 ct2 : Value}
    (a2 : PySem.W.nsIn K mainGlobals "told_small" = some (some (.ref f2)))
    (l2 : K.lookup f2 = some ⟨oc2, od2, .func (PySem.W.fnOf "told_small" "told_small" (defArgs s_told_small) (defBody s_told_small) (defScope s_told_small) .none kV2 dc2 pm2 an2 cd2 ct2), sl2⟩) (c2 : PySem.W.codeIn K cd2 "told_small" = true) (k2 : PySem.W.keepIn K (.ref f2) = true)
    {f3 : Addr} {od3 an3 : Option Addr} {sl3 : Array (Option Value)} {oc3 kV3 dc3 pm3 cd3 ct3 : Value}
    (a3 : PySem.W.nsIn K mainGlobals "told_wide" = some (some (.ref f3)))
    (l3 : K.lookup f3 = some ⟨oc3, od3, .func (PySem.W.fnOf "told_wide" "told_wide" (defArgs s_told_wide) (defBody s_told_wide) (defScope s_told_wide) .none kV3 dc3 pm3 an3 cd3 ct3), sl3⟩) (c3 : PySem.W.codeIn K cd3 "told_wide" = true) (k3 : PySem.W.keepIn K (.ref f3) = true)
    {f4 : Addr} {od4 an4 : Option Addr} {sl4 : Array (Option Value)} {oc4 kV4 dc4 pm4 cd4 ct4 : Value}
    (a4 : PySem.W.nsIn K mainGlobals "_law_dip" = some (some (.ref f4)))
    (l4 : K.lookup f4 = some ⟨oc4, od4, .func (PySem.W.fnOf "_law_dip" "_law_dip" (defArgs s_dip) (defBody s_dip) (defScope s_dip) .none kV4 dc4 pm4 an4 cd4 ct4), sl4⟩) (c4 : PySem.W.codeIn K cd4 "_law_dip" = true) (k4 : PySem.W.keepIn K (.ref f4) = true)
    {f5 : Addr} {od5 an5 : Option Addr} {sl5 : Array (Option Value)} {oc5 kV5 dc5 pm5 cd5 ct5 : Value}
    (a5 : PySem.W.nsIn K mainGlobals "_law_take" = some (some (.ref f5)))
    (l5 : K.lookup f5 = some ⟨oc5, od5, .func (PySem.W.fnOf "_law_take" "_law_take" (defArgs s_take) (defBody s_take) (defScope s_take) .none kV5 dc5 pm5 an5 cd5 ct5), sl5⟩) (c5 : PySem.W.codeIn K cd5 "_law_take" = true) (k5 : PySem.W.keepIn K (.ref f5) = true)
    {f6 : Addr} {od6 an6 : Option Addr} {sl6 : Array (Option Value)} {oc6 kV6 dc6 pm6 cd6 ct6 : Value}
    (a6 : PySem.W.nsIn K mainGlobals "_law_folded" = some (some (.ref f6)))
    (l6 : K.lookup f6 = some ⟨oc6, od6, .func (PySem.W.fnOf "_law_folded" "_law_folded" (defArgs s_folded) (defBody s_folded) (defScope s_folded) .none kV6 dc6 pm6 an6 cd6 ct6), sl6⟩) (c6 : PySem.W.codeIn K cd6 "_law_folded" = true) (k6 : PySem.W.keepIn K (.ref f6) = true)
    {f7 : Addr} {od7 an7 : Option Addr} {sl7 : Array (Option Value)} {oc7 kV7 dc7 pm7 cd7 ct7 : Value}
    (a7 : PySem.W.nsIn K mainGlobals "_law_same" = some (some (.ref f7)))
    (l7 : K.lookup f7 = some ⟨oc7, od7, .func (PySem.W.fnOf "_law_same" "_law_same" (defArgs s_same) (defBody s_same) (defScope s_same) .none kV7 dc7 pm7 an7 cd7 ct7), sl7⟩) (c7 : PySem.W.codeIn K cd7 "_law_same" = true) (k7 : PySem.W.keepIn K (.ref f7) = true)
    {f8 : Addr} {od8 an8 : Option Addr} {sl8 : Array (Option Value)} {oc8 kV8 dc8 pm8 cd8 ct8 : Value}
    (a8 : PySem.W.nsIn K mainGlobals "_law_lists" = some (some (.ref f8)))
    (l8 : K.lookup f8 = some ⟨oc8, od8, .func (PySem.W.fnOf "_law_lists" "_law_lists" (defArgs s_lists) (defBody s_lists) (defScope s_lists) .none kV8 dc8 pm8 an8 cd8 ct8), sl8⟩) (c8 : PySem.W.codeIn K cd8 "_law_lists" = true) (k8 : PySem.W.keepIn K (.ref f8) = true)
    {f9 : Addr} {od9 an9 : Option Addr} {sl9 : Array (Option Value)} {oc9 kV9 dc9 pm9 cd9 ct9 : Value}
    (a9 : PySem.W.nsIn K mainGlobals "_law_told" = some (some (.ref f9)))
    (l9 : K.lookup f9 = some ⟨oc9, od9, .func (PySem.W.fnOf "_law_told" "_law_told" (defArgs s_told) (defBody s_told) (defScope s_told) .none kV9 dc9 pm9 an9 cd9 ct9), sl9⟩) (c9 : PySem.W.codeIn K cd9 "_law_told" = true) (k9 : PySem.W.keepIn K (.ref f9) = true)
    {f10 : Addr} {od10 an10 : Option Addr} {sl10 : Array (Option Value)} {oc10 kV10 dc10 pm10 cd10 ct10 : Value}
    (a10 : PySem.W.nsIn K mainGlobals "_law_due" = some (some (.ref f10)))
    (l10 : K.lookup f10 = some ⟨oc10, od10, .func (PySem.W.fnOf "_law_due" "_law_due" (defArgs s_due) (defBody s_due) (defScope s_due) .none kV10 dc10 pm10 an10 cd10 ct10), sl10⟩) (c10 : PySem.W.codeIn K cd10 "_law_due" = true) (k10 : PySem.W.keepIn K (.ref f10) = true)
    {f11 : Addr} {od11 an11 : Option Addr} {sl11 : Array (Option Value)} {oc11 kV11 dc11 pm11 cd11 ct11 : Value}
    (a11 : PySem.W.nsIn K mainGlobals "_law_right" = some (some (.ref f11)))
    (l11 : K.lookup f11 = some ⟨oc11, od11, .func (PySem.W.fnOf "_law_right" "_law_right" (defArgs s_right) (defBody s_right) (defScope s_right) .none kV11 dc11 pm11 an11 cd11 ct11), sl11⟩) (c11 : PySem.W.codeIn K cd11 "_law_right" = true) (k11 : PySem.W.keepIn K (.ref f11) = true)
    {f12 : Addr} {od12 an12 : Option Addr} {sl12 : Array (Option Value)} {oc12 kV12 dc12 pm12 cd12 ct12 : Value}
    (a12 : PySem.W.nsIn K mainGlobals "law" = some (some (.ref f12)))
    (l12 : K.lookup f12 = some ⟨oc12, od12, .func (PySem.W.fnOf "law" "law" (defArgs s_law) (defBody s_law) (defScope s_law) .none kV12 dc12 pm12 an12 cd12 ct12), sl12⟩) (c12 : PySem.W.codeIn K cd12 "law" = true) (k12 : PySem.W.keepIn K (.ref f12) = true)
    (ebNotAlike : PySem.W.subIn K (.ref CNotAlike) (.type "BaseException") = some true) (hdNotAlike : PySem.W.hasDictIn K CNotAlike = true) (tyNotAlike : PySem.W.typeIn K (.ref CNotAlike) = some (.type "type"))
    (ebNotLike : PySem.W.subIn K (.ref CNotLike) (.type "BaseException") = some true) (hdNotLike : PySem.W.hasDictIn K CNotLike = true) (tyNotLike : PySem.W.typeIn K (.ref CNotLike) = some (.type "type"))
    {nmNotLike qqNotLike : Str} {NNotLike : Addr} {bsNotLike : List Value} {snNotLike : List Str} {sbNotLike : List Value} {abNotLike : Bool} {coNotLike : Option Bool} {ddNotLike : Option Addr} {m0NotLike m1NotLike m2NotLike m3NotLike m5NotLike : Option Value}
    (xLNotLike : K.lookup CNotLike = some (excClassObj nmNotLike qqNotLike CNotLike NNotLike bsNotLike [.type "ValueError", .type "Exception", .type "BaseException", .type "object"] true snNotLike sbNotLike abNotLike coNotLike ddNotLike m0NotLike m1NotLike m2NotLike m3NotLike m5NotLike "ValueError.__new__"))
    (saNotLike : PySem.W.findIn K (.ref CNotLike) "__setattr__" = some (some (.builtin "object.__setattr__"))) (kcNotLike : PySem.W.keepIn K (.ref CNotLike) = true) (tiNotLike : PySem.W.typeIn K (.ref f0) = some (.type "function"))
    (gaNotLike : PySem.W.findIn K (.ref CNotLike) "__getattribute__" = some (some (.builtin "BaseException.__getattribute__"))) (ggNotLike : PySem.W.findIn K (.ref CNotLike) "__getattr__" = some none)
    (j1NotLike : PySem.W.findIn K (.ref CNotLike) "__class__" = some (some (.builtin "object.__class__"))) (j2NotLike : PySem.W.specialIn K (.builtin "object.__class__") "__get__" = some (some (.builtin "getset_descriptor.__get__"))) (j3NotLike : PySem.W.takesIn K (.builtin "object.__class__") = some true) (j4NotLike : PySem.W.mroIn K CNotLike (.type "object") = some true)
    (nNotLike_at : PySem.W.findIn K (.ref CNotLike) "at" = some none)
    (sbNotLike_NotAlike : PySem.W.subIn K (.ref CNotLike) (.ref CNotAlike) = some false)
    (sbNotLike_NotLike : PySem.W.subIn K (.ref CNotLike) (.ref CNotLike) = some true)
    (suNotLike_ValueError : PySem.W.subIn K (.ref CNotLike) (.type "ValueError") = some true)
    (viVE : PySem.W.findCls K (.type "ValueError") (.type "type") "__init__" = some (.val (.builtin "ValueError.__init__")))
    (z0 : PySem.W.nsIn K mainGlobals "ValueError" = some none)
    (z1 : PySem.W.nsIn K mainGlobals "abs" = some none)
    (z2 : PySem.W.nsIn K mainGlobals "all" = some none)
    (z3 : PySem.W.nsIn K mainGlobals "bool" = some none)
    (z4 : PySem.W.nsIn K mainGlobals "enumerate" = some none)
    (z5 : PySem.W.nsIn K mainGlobals "int" = some none)
    (z6 : PySem.W.nsIn K mainGlobals "isinstance" = some none)
    (z7 : PySem.W.nsIn K mainGlobals "len" = some none)
    (z8 : PySem.W.nsIn K mainGlobals "list" = some none)
    (z9 : PySem.W.nsIn K mainGlobals "max" = some none)
    (z10 : PySem.W.nsIn K mainGlobals "range" = some none)
    (z11 : PySem.W.nsIn K mainGlobals "repr" = some none)
    (z12 : PySem.W.nsIn K mainGlobals "set" = some none)
    (z13 : PySem.W.nsIn K mainGlobals "str" = some none)
    (z14 : PySem.W.nsIn K mainGlobals "tuple" = some none)
    (z15 : PySem.W.nsIn K mainGlobals "zip" = some none) :
    ∃ fd : FuncData, (∀ (t : Shared) (v : Value), BindsTo t fd ⟨[v], []⟩ [("_law_script", v)]) ∧ ∀ base : Heap, K.In base → base.Ns mainGlobals mg → FnG l.prog w K mg base 8 fa fd ["_law_script"] (spLaw K) := by
  have e := hfa.symm.trans (PySem.W.mg_of X G a12)
  cases e
  refine ⟨PySem.W.fnOf "law" "law" (defArgs s_law) (defBody s_law) (defScope s_law) .none kV12 dc12 pm12 an12 cd12 ct12, fun t v => .of_eq rfl, fun base _ _ => ?_⟩
  exact ok_law (w := w) {
    t_NotLike_init := ⟨_, _, fun_mk (st := s_NotLike_init) l0 c0 k0, (fun_mk (st := s_NotLike_init) l0 c0 k0).binds (ps := p_NotLike_init) fun _ _ _ _ _ _ us hl => match us, hl with | [_, _], _ => rfl⟩,
    t_places_of := ⟨_, _, fun_mk (st := s_places_of) l1 c1 k1, (fun_mk (st := s_places_of) l1 c1 k1).binds (ps := p_places_of) fun _ _ _ _ _ _ us hl => match us, hl with | [_], _ => rfl⟩,
    g_places_of := PySem.W.mg_of X G a1,
    t_told_small := ⟨_, _, fun_mk (st := s_told_small) l2 c2 k2, (fun_mk (st := s_told_small) l2 c2 k2).binds (ps := p_told_small) fun _ _ _ _ _ _ us hl => match us, hl with | [_, _], _ => rfl⟩,
    g_told_small := PySem.W.mg_of X G a2,
    t_told_wide := ⟨_, _, fun_mk (st := s_told_wide) l3 c3 k3, (fun_mk (st := s_told_wide) l3 c3 k3).binds (ps := p_told_wide) fun _ _ _ _ _ _ us hl => match us, hl with | [_, _], _ => rfl⟩,
    g_told_wide := PySem.W.mg_of X G a3,
    t_dip := ⟨_, _, fun_mk (st := s_dip) l4 c4 k4, (fun_mk (st := s_dip) l4 c4 k4).binds (ps := p_dip) fun _ _ _ _ _ _ us hl => match us, hl with | [_, _], _ => rfl⟩,
    g_dip := PySem.W.mg_of X G a4,
    t_take := ⟨_, _, fun_mk (st := s_take) l5 c5 k5, (fun_mk (st := s_take) l5 c5 k5).binds (ps := p_take) fun _ _ _ _ _ _ us hl => match us, hl with | [_, _], _ => rfl⟩,
    g_take := PySem.W.mg_of X G a5,
    t_folded := ⟨_, _, fun_mk (st := s_folded) l6 c6 k6, (fun_mk (st := s_folded) l6 c6 k6).binds (ps := p_folded) fun _ _ _ _ _ _ us hl => match us, hl with | [_, _], _ => rfl⟩,
    g_folded := PySem.W.mg_of X G a6,
    t_same := ⟨_, _, fun_mk (st := s_same) l7 c7 k7, (fun_mk (st := s_same) l7 c7 k7).binds (ps := p_same) fun _ _ _ _ _ _ us hl => match us, hl with | [_, _], _ => rfl⟩,
    g_same := PySem.W.mg_of X G a7,
    t_lists := ⟨_, _, fun_mk (st := s_lists) l8 c8 k8, (fun_mk (st := s_lists) l8 c8 k8).binds (ps := p_lists) fun _ _ _ _ _ _ us hl => match us, hl with | [_], _ => rfl⟩,
    g_lists := PySem.W.mg_of X G a8,
    t_told := ⟨_, _, fun_mk (st := s_told) l9 c9 k9, (fun_mk (st := s_told) l9 c9 k9).binds (ps := p_told) fun _ _ _ _ _ _ us hl => match us, hl with | [_, _], _ => rfl⟩,
    g_told := PySem.W.mg_of X G a9,
    t_due := ⟨_, _, fun_mk (st := s_due) l10 c10 k10, (fun_mk (st := s_due) l10 c10 k10).binds (ps := p_due) fun _ _ _ _ _ _ us hl => match us, hl with | [_, _], _ => rfl⟩,
    g_due := PySem.W.mg_of X G a10,
    t_right := ⟨_, _, fun_mk (st := s_right) l11 c11 k11, (fun_mk (st := s_right) l11 c11 k11).binds (ps := p_right) fun _ _ _ _ _ _ us hl => match us, hl with | [_], _ => rfl⟩,
    g_right := PySem.W.mg_of X G a11,
    t_law := ⟨_, _, fun_mk (st := s_law) l12 c12 k12, (fun_mk (st := s_law) l12 c12 k12).binds (ps := p_law) fun _ _ _ _ _ _ us hl => match us, hl with | [_], _ => rfl⟩,
    g_law := PySem.W.mg_of X G a12,
    C_NotAlike := CNotAlike,
    g_NotAlike := PySem.W.mg_of X G aCNotAlike,
    C_NotLike := CNotLike,
    g_NotLike := PySem.W.mg_of X G aCNotLike,
    ox_NotLike := ⟨⟨nmNotLike, qqNotLike, NNotLike, bsNotLike, _, snNotLike, sbNotLike, abNotLike, coNotLike, ddNotLike, m0NotLike, m1NotLike, m2NotLike, m3NotLike, m5NotLike, xLNotLike, by decide +kernel⟩, saNotLike, ebNotLike, tyNotLike, kcNotLike⟩,
    me_NotLike_init := ⟨a0, i0, k0⟩,
    ti_NotLike := tiNotLike,
    na_NotLike_at := nNotLike_at,
    xf_NotLike := ⟨gaNotLike, ggNotLike, ebNotLike, hdNotLike⟩,
    xc_NotLike := ⟨gaNotLike, ggNotLike, ebNotLike, hdNotLike, j1NotLike, j2NotLike, j3NotLike, j4NotLike⟩,
    em_NotLike_NotAlike := PySem.W.exm_ref ebNotAlike hdNotAlike tyNotAlike sbNotLike_NotAlike,
    em_NotLike_NotLike := PySem.W.exm_ref ebNotLike hdNotLike tyNotLike sbNotLike_NotLike,
    ki_NotLike_NotLike := if_pos (beq_self_eq_true _),
    ki_NotLike_ValueError := kit_type (by decide +kernel) suNotLike_ValueError,
    ki_NotLike_NotAlike := kit_not hdNotAlike tyNotAlike sbNotLike_NotAlike sbNotLike_NotLike,
    vi_ValueError := viVE,
    m_ValueError := PySem.W.mg_none_of X G z0,
    m_abs := PySem.W.mg_none_of X G z1,
    m_all := PySem.W.mg_none_of X G z2,
    m_bool := PySem.W.mg_none_of X G z3,
    m_enumerate := PySem.W.mg_none_of X G z4,
    m_int := PySem.W.mg_none_of X G z5,
    m_isinstance := PySem.W.mg_none_of X G z6,
    m_len := PySem.W.mg_none_of X G z7,
    m_list := PySem.W.mg_none_of X G z8,
    m_max := PySem.W.mg_none_of X G z9,
    m_range := PySem.W.mg_none_of X G z10,
    m_repr := PySem.W.mg_none_of X G z11,
    m_set := PySem.W.mg_none_of X G z12,
    m_str := PySem.W.mg_none_of X G z13,
    m_tuple := PySem.W.mg_none_of X G z14,
    m_zip := PySem.W.mg_none_of X G z15 }
end Lh
open PySem PySem.W PyProof.Rows
set_option maxHeartbeats 0 in
theorem PySem.Challenge.cw_lesserhall_k45_told_small_and_wide_holds : PySem.Challenge.rw_lesserhall_k45_told_small_and_wide.Holds := by
  w_on; o_law; k_head; (case hw => w_witness2)
  k_fill
  refine Lh.walk_G (l := PySem.Challenge.rw_lesserhall_k45_told_small_and_wide) (n := 63) (k := 8) (x := "_law_script") (sp := fun w => Lh.spLaw _) rfl (by decide) rfl ⟨rfl, by decide, by decide⟩ (fun w h Y => PySem.W.kIn_of Y) ?F (fun _ _ a ns hl _ hS => ⟨a, ns, rfl, hS, hl, fun _ => rfl⟩)
  case F =>
    intro w mg fa h KX G hmg
    refine' Lh.all_mk KX G hmg ?aCNotAlike ?aCNotLike ?a0 ?i0 ?l0 ?c0 ?k0 ?a1 ?l1 ?c1 ?k1 ?a2 ?l2 ?c2 ?k2 ?a3 ?l3 ?c3 ?k3 ?a4 ?l4 ?c4 ?k4 ?a5 ?l5 ?c5 ?k5 ?a6 ?l6 ?c6 ?k6 ?a7 ?l7 ?c7 ?k7 ?a8 ?l8 ?c8 ?k8 ?a9 ?l9 ?c9 ?k9 ?a10 ?l10 ?c10 ?k10 ?a11 ?l11 ?c11 ?k11 ?a12 ?l12 ?c12 ?k12 ?ebNotAlike ?hdNotAlike ?tyNotAlike ?ebNotLike ?hdNotLike ?tyNotLike ?xLNotLike ?saNotLike ?kcNotLike ?tiNotLike ?gaNotLike ?ggNotLike ?j1NotLike ?j2NotLike ?j3NotLike ?j4NotLike ?nNotLike_at ?sbNotLike_NotAlike ?sbNotLike_NotLike ?suNotLike_ValueError ?viVE ?z0 ?z1 ?z2 ?z3 ?z4 ?z5 ?z6 ?z7 ?z8 ?z9 ?z10 ?z11 ?z12 ?z13 ?z14 ?z15
    (case aCNotAlike => k_is); (case aCNotLike => k_is); (case a0 => k_is); (case i0 => k_is); (case l0 => k_is); (case c0 => k_is); (case k0 => k_is); (case a1 => k_is); (case l1 => k_is); (case c1 => k_is); (case k1 => k_is); (case a2 => k_is); (case l2 => k_is); (case c2 => k_is); (case k2 => k_is); (case a3 => k_is); (case l3 => k_is); (case c3 => k_is); (case k3 => k_is); (case a4 => k_is); (case l4 => k_is); (case c4 => k_is); (case k4 => k_is); (case a5 => k_is); (case l5 => k_is); (case c5 => k_is); (case k5 => k_is); (case a6 => k_is); (case l6 => k_is); (case c6 => k_is); (case k6 => k_is); (case a7 => k_is); (case l7 => k_is); (case c7 => k_is); (case k7 => k_is); (case a8 => k_is); (case l8 => k_is); (case c8 => k_is); (case k8 => k_is); (case a9 => k_is); (case l9 => k_is); (case c9 => k_is); (case k9 => k_is); (case a10 => k_is); (case l10 => k_is); (case c10 => k_is); (case k10 => k_is); (case a11 => k_is); (case l11 => k_is); (case c11 => k_is); (case k11 => k_is); (case a12 => k_is); (case l12 => k_is); (case c12 => k_is); (case k12 => k_is); (case ebNotAlike => k_is); (case hdNotAlike => k_is); (case tyNotAlike => k_is); (case ebNotLike => k_is); (case hdNotLike => k_is); (case tyNotLike => k_is); (case xLNotLike => k_is); (case saNotLike => k_is); (case kcNotLike => k_is); (case tiNotLike => k_is); (case gaNotLike => k_is); (case ggNotLike => k_is); (case j1NotLike => k_is); (case j2NotLike => k_is); (case j3NotLike => k_is); (case j4NotLike => k_is); (case nNotLike_at => k_is); (case sbNotLike_NotAlike => first | rfl | k_is); (case sbNotLike_NotLike => first | rfl | k_is); (case suNotLike_ValueError => k_is); (case viVE => k_is); (case z0 => k_is); (case z1 => k_is); (case z2 => k_is); (case z3 => k_is); (case z4 => k_is); (case z5 => k_is); (case z6 => k_is); (case z7 => k_is); (case z8 => k_is); (case z9 => k_is); (case z10 => k_is); (case z11 => k_is); (case z12 => k_is); (case z13 => k_is); (case z14 => k_is); (case z15 => k_is)
