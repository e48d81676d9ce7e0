import PyProof.Rows.All
import Wide.All
import OpenK.AllK
import Wide.FinOn
import HandS.ForMost
import HandS.Flow
import HandS.IsInst
import HandS.Zip
import HandS.SortInts
import HandS.Defaults
import HandS.Conv
import HandS.Strs
import HandS.MakeKwOnly
import PyProof.ReprRoads
import HandS.SetFor
import HandS.SortKw
import KE.DataMinMax
import KE.KDictPairs
import PyProof.ReprLen
import HandS.Exc
import HandS.WordsExc
import HandS.ExcOwn
import HandS.ExcInit
import KE.KExcIs
import HandS.ExcIs
import HandS.ExcField
import KE.KTryMore
import KE.KExcInit
import PyProof.ExcBaseAll.IndexError
import PyProof.ExcBaseAll.RuntimeError
import PyProof.ExcBaseAll.OverflowError
import HandS.ExcBuiltin
import HandS.Walk
import HandS.TupAny
import HandS.More
import KE.GoesMore
import PyProof.ReprBulk
import PySem.Challenge.RW_lesserhall_k37_lines_and_rings
set_option Elab.async false
set_option linter.all false
set_option maxRecDepth 100000

namespace Lh
open PySem PySem.Spec PyProof.Rows L2

/-! ### heaps -/
/-- all that was tracked is as it was, but for the box -/
def Ext (bx : Addr) (H H' : Hp) : Prop := ∀ a o, a ≠ bx → H a = some o → H' a = some o
theorem Ext.refl {bx : Addr} (H : Hp) : Ext bx H H := fun _ _ _ h => h
theorem Ext.trans {bx : Addr} {H H1 H2 : Hp} (a : Ext bx H H1) (b : Ext bx H1 H2) : Ext bx H H2 := fun x o n h => b x o n (a x o n h)
theorem Ext.of {bx : Addr} {H H' : Hp} (a : Same H H') : Ext bx H H' := fun x o _ h => a x o h
theorem Ext.new {bx : Addr} {H H' : Hp} {p : Addr} {o : HO} (e : Ext bx H H') (h : H p = none) : Ext bx H (upd H' p o) := fun x u n hx => by
  rw [upd_ne (ne_of_none hx h)]
  exact e x u n hx
theorem Ext.box {bx : Addr} {H H' : Hp} {o : HO} (e : Ext bx H H') : Ext bx H (upd H' bx o) := fun x u n hx => by
  rw [upd_ne n]
  exact e x u n hx
theorem Ext.free {bx : Addr} {H H' : Hp} (e : Ext bx H H') {l : Addr} (n : l ≠ bx) (h : H' l = Option.none) : H l = Option.none := by
  cases q : H l with
  | none => rfl
  | some o =>
    rw [e l o n q] at h
    cases h
theorem same_upd {H : Hp} {p : Addr} {o : HO} (h : H p = none) : Same H (upd H p o) := fun b x e => by
  rw [upd_ne (ne_of_none e h)]
  exact e
theorem same_mut {H H' : Hp} {p : Addr} {o : HO} (e : Same H H') (h : H p = none) : Same H (upd H' p o) := fun a u ha => by
  rw [upd_ne (ne_of_none ha h)]
  exact e a u ha

/-- the box: three ints, the last a count -/
def Box (bx : Addr) (c : Int) (H : Hp) : Prop := ∃ a b n : Int, H bx = some (.lst [.int a, .int b, .int n]) ∧ 0 ≤ a ∧ 0 ≤ b ∧ b < 2 ^ 62 ∧ 0 ≤ n ∧ n ≤ c
theorem Box.has {bx : Addr} {c : Int} {H : Hp} (h : Box bx c H) : ∃ o, H bx = some o := by
  obtain ⟨a, b, n, h, _⟩ := h
  exact ⟨_, h⟩
theorem Box.ne {bx : Addr} {c : Int} {H : Hp} (h : Box bx c H) {p : Addr} (n : H p = none) : p ≠ bx := by
  obtain ⟨o, h⟩ := h.has
  exact (ne_of_none h n).symm
theorem Box.neT {bx : Addr} {c : Int} {H : Hp} (h : Box bx c H) {p : Addr} {xs : List V} (n : H p = some (.tup xs)) : p ≠ bx := by
  obtain ⟨a, b, n', h, _⟩ := h
  exact ne_of n h (by intro z; cases z)
theorem Box.mono {bx : Addr} {c d : Int} {H : Hp} (h : Box bx c H) (e : c ≤ d) : Box bx d H := by
  obtain ⟨a, b, n, h, h1, h2, h3, h4, h5⟩ := h
  exact ⟨a, b, n, h, h1, h2, h3, h4, by omega⟩
theorem Box.same {bx : Addr} {c : Int} {H H' : Hp} (h : Box bx c H) (e : Same H H') : Box bx c H' := by
  obtain ⟨a, b, n, h, r⟩ := h
  exact ⟨a, b, n, e _ _ h, r⟩
theorem Box.new {bx : Addr} {c : Int} {H : Hp} (h : Box bx c H) {p : Addr} {o : HO} (n : H p = none) : Box bx c (upd H p o) := h.same (same_upd n)
theorem Box.at {bx : Addr} {c : Int} {H : Hp} (h : Box bx c H) {p : Addr} {o : HO} (n : p ≠ bx) : Box bx c (upd H p o) := by
  obtain ⟨a, b, m, h, r⟩ := h
  exact ⟨a, b, m, by rw [upd_ne n.symm]; exact h, r⟩

/-- a tuple, one whose object is known to bear no names among them -/
def TupAt (H : Hp) (a : Addr) (xs : List V) : Prop := H a = some (.tup xs) ∨ ∃ o : Obj, o.dict = none ∧ H a = some (.frz o (.tup xs))
theorem TupAt.sq {K : PySem.W.Frag} {H : Hp} {a : Addr} {xs : List V} (h : TupAt H a xs) : SqT K H a xs := by
  rcases h with h | ⟨o, _, h⟩
  · exact .inl (.inl h)
  · exact .inl (.inr ⟨o, h⟩)
theorem TupAt.ext {bx : Addr} {H H' : Hp} {a : Addr} {xs : List V} (e : Ext bx H H') (n : a ≠ bx) (h : TupAt H a xs) : TupAt H' a xs := by
  rcases h with h | ⟨o, d, h⟩
  · exact .inl (e _ _ n h)
  · exact .inr ⟨o, d, e _ _ n h⟩
theorem TupAt.ty {K : PySem.W.Frag} {H : Hp} {a : Addr} {xs : List V} (h : TupAt H a xs) : TyX K H (.ref a) (.type "tuple") := by
  rcases h with h | ⟨o, d, h⟩
  · exact .base (.tup h)
  · exact .fTuple h
/-! data in the heap, the box not among it -/
mutual
inductive Rp (bx : Addr) (H : Hp) : V → PyData → Prop
  | non : Rp bx H .non .none
  | bl (b : Bool) : Rp bx H (.bl b) (.bool b)
  | int (i : Int) : Rp bx H (.int i) (.int i)
  | str (x : Str) : Rp bx H (.str x) (.str x)
  | lst {a : Addr} {xs : List V} {ds : List PyData} : H a = some (.lst xs) → a ≠ bx → RpAll bx H xs ds → Rp bx H (.ref a) (.list ds)
  | tup {a : Addr} {xs : List V} {ds : List PyData} : TupAt H a xs → a ≠ bx → RpAll bx H xs ds → Rp bx H (.ref a) (.tuple ds)
inductive RpAll (bx : Addr) (H : Hp) : List V → List PyData → Prop
  | nil : RpAll bx H [] []
  | cons {v : V} {vs : List V} {d : PyData} {ds : List PyData} : Rp bx H v d → RpAll bx H vs ds → RpAll bx H (v :: vs) (d :: ds)
end
mutual
theorem Rp.ext {bx : Addr} {H H' : Hp} (e : Ext bx H H') : ∀ {v : V} {d : PyData}, Rp bx H v d → Rp bx H' v d
  | _, _, .non => .non
  | _, _, .bl b => .bl b
  | _, _, .int i => .int i
  | _, _, .str x => .str x
  | _, _, .lst h n r => .lst (e _ _ n h) n (RpAll.ext e r)
  | _, _, .tup h n r => .tup (h.ext e n) n (RpAll.ext e r)
theorem RpAll.ext {bx : Addr} {H H' : Hp} (e : Ext bx H H') : ∀ {vs : List V} {ds : List PyData}, RpAll bx H vs ds → RpAll bx H' vs ds
  | _, _, .nil => .nil
  | _, _, .cons h r => .cons (Rp.ext e h) (RpAll.ext e r)
end
mutual
theorem Rp.dp {bx : Addr} {K : PySem.W.Frag} {H : Hp} : ∀ {v : V} {d : PyData}, Rp bx H v d → Dp K H v d
  | _, _, .non => .non
  | _, _, .bl b => .bl b
  | _, _, .int i => .int i
  | _, _, .str x => .str x
  | _, _, .lst h n r => .lst (.inl (.inl h)) (RpAll.dp r)
  | _, _, .tup h n r => .tup h.sq (RpAll.dp r)
theorem RpAll.dp {bx : Addr} {K : PySem.W.Frag} {H : Hp} : ∀ {vs : List V} {ds : List PyData}, RpAll bx H vs ds → DpAll K H vs ds
  | _, _, .nil => .nil
  | _, _, .cons h r => .cons (Rp.dp h) (RpAll.dp r)
end
theorem RpAll.length {bx : Addr} {H : Hp} : ∀ {vs : List V} {ds : List PyData}, RpAll bx H vs ds → vs.length = ds.length
  | _, _, .nil => rfl
  | _, _, .cons _ r => by rw [List.length_cons, List.length_cons, r.length]
theorem RpAll.get {bx : Addr} {H : Hp} : ∀ {vs : List V} {ds : List PyData} {i : Nat} {d : PyData}, RpAll bx H vs ds → ds[i]? = some d → ∃ v, vs[i]? = some v ∧ Rp bx H v d
  | _, _, _, _, .nil, e => by simp at e
  | _, _, 0, _, .cons r _, e => by simp at e; subst e; exact ⟨_, rfl, r⟩
  | _, _, i + 1, d, .cons _ t, e => by
    obtain ⟨u, h1, h2⟩ := RpAll.get (i := i) (d := d) t (by simpa using e)
    exact ⟨u, by simpa using h1, h2⟩
theorem RpAll.append {bx : Addr} {H : Hp} : ∀ {vs ws : List V} {ds es : List PyData}, RpAll bx H vs ds → RpAll bx H ws es → RpAll bx H (vs ++ ws) (ds ++ es)
  | _, _, _, _, .nil, s => s
  | _, _, _, _, .cons r t, s => .cons r (RpAll.append t s)
theorem RpAll.ints {bx : Addr} {H : Hp} : ∀ (ns : List Int), RpAll bx H (ns.map V.int) (ns.map PyData.int)
  | [] => .nil
  | n :: r => .cons (.int n) (RpAll.ints r)
theorem RpAll.ofInts {bx : Addr} {H : Hp} : ∀ {ns : List Int} {vs : List V}, RpAll bx H vs (ns.map PyData.int) → vs = ns.map V.int
  | [], _, .nil => rfl
  | n :: r, _, .cons (.int _) t => by rw [RpAll.ofInts t]; rfl
end Lh

namespace Lh
open PySem PySem.Spec PyProof.Rows L2

/-! ### defs that want to know that no repr is under way around them -/
structure FnG (P : Program) (w : World) (K : PySem.W.Frag) (mg : Str → Option Value) (base : Heap) (k : Nat) (f : Addr) (fd : FuncData) (ps : List Str) (sp : Sp) : Prop where
  len : ∀ vs H Q E, sp vs H Q E → vs.length = ps.length
  run : ∀ (B : Around) (out : List Env) (t : Shared) (H : Hp) (args : Args) (us : List Value) (vs : List V) (Q : VK) (E : XK), Room k B → B.guards = some [] →
    Env0 P w K mg base B out t H → BindsTo t fd args (ps.zip us) → Vals vs us → sp vs H Q E → codeAny (model P w) B (.call (.ref f) args) (CR CX0 out P w H t Q E) t
section
variable {P : Program} {w : World} {K : PySem.W.Frag} {mg : Str → Option Value} {base : Heap}
theorem okG {x qual : Str} {st : Stmt} {f : Addr} {fd : FuncData} {N ps : List Str} {k : Nat} {sp : Sp} (F : Fun K x qual st f fd) (S : FnScope N ps (defScope st)) (len : ∀ vs H Q E, sp vs H Q E → vs.length = ps.length)
    (body : ∀ (cd : Value) (B : Around) (out : List Env) (t : Shared) (H : Hp) (vs : List V) (Q : VK) (E : XK), Room k (B.deeper (envOfC qual (defScope st) t.heap.objs.size f cd)) →
      (B.deeper (envOfC qual (defScope st) t.heap.objs.size f cd)).guards = some [] → sp vs H Q E →
      ∃ r, PSs (cxOf CX0 P w K mg base N qual (defScope st) f cd B out t H E).nox (defBody st) r ∧ r { nx := fun _ H' => Q .non H', rt := Q } (start N vs) H) : FnG P w K mg base (k + 1) f fd ps sp := by
  obtain ⟨oc, od, kV, doc, pm, an, cd, ct, osl, rfl, lk, hcd⟩ := F.ex
  refine ⟨len, fun B out t H args us vs Q E hr hG e0 hb r hsp => ?_⟩
  have hl := len _ _ _ _ hsp
  have kx : K.In t.heap := e0.mod.kin.keeps fun b o e => (e0.bs b o e).1
  have li : t.heap.NoLimit := e0.mod.nolimit.keeps fun b o e => (e0.bs b o e).1
  have kind : ∀ y ∈ ps.zip us, (defScope st).names.lookup y.1 = some .local ∨ ((defScope st).names.lookup y.1 = some .cell ∧ ((cellsFrom (t.heap.objs.size + 1) (defScope st).names []).lookup y.1).isSome = true) := by
    rintro ⟨n, v⟩ hy
    rcases S.par n (List.of_mem_zip hy).1 with q | q
    · exact .inl q
    · exact .inr ⟨q, PySem.W.cellsFrom_some _ _ _ (.inl q)⟩
  refine codeAny_call_function hr.depth (kx _ _ lk) rfl S.co S.gen rfl (PySem.W.codeRec_of kx hcd) (hb _ _ _ _ ?_)
  refine wpAny_newFunctionEnv_cells S.kind kind fun env he t1 x => ?_
  subst he
  refine ⟨li.keeps x.toInCall.keep, codeAny_func ?_⟩
  obtain ⟨rd, h0, hq⟩ := body cd B out t H vs Q E (hr.deeper _) hG hsp
  have hrd := h0.nox
  have I : Inv (cxOf CX0 P w K mg base N qual (defScope st) f cd B out t H E) [] (start N vs) H t1 := inv_start S hr.hd e0 hl r x
  refine wpAny_mono (hrd.run [] t1 (start N vs) H _ I hq) (fun fl t' hs => ?_) fun e t' hs => hs
  have fin : ∀ {σ' : L2.St} {H' : Hp} {v : V} {u : Value}, Inv (cxOf CX0 P w K mg base N qual (defScope st) f cd B out t H E) [] σ' H' t' → RelV v u → Q v H' → CE out P w H t Q u t' := by
    intro σ' H' v u J rv q
    exact ⟨v, H', J.os, J.bare, J.base, J.hok, rv, q⟩
  cases fl with
  | ret u =>
    obtain ⟨v, σ', H', J, rv, q⟩ := hs
    exact fin J rv q
  | next =>
    obtain ⟨σ', H', J, q⟩ := hs
    exact fin (v := V.non) (u := Value.none) J rfl q
  | brk => obtain ⟨_, _, _, q⟩ := hs; exact False.elim q
  | cont => obtain ⟨_, _, _, q⟩ := hs; exact False.elim q
end
section
variable {X : Cx} {k n : Nat} {f : Addr} {fd : FuncData} {ps ks : List Str} {sp : Sp} {x : Str} {p pos : Pos} {e : Expr} {es : List Expr} {kws : List Keyword} {t tk : TA} {g : List Value → List Value → List Value} {gV : List V → List V → List V}
theorem pe_callG (F : FnG X.prog X.w X.K X.mg X.base k f fd ps sp) (hr : Room k X.A) (hG : X.A.guards = some []) (hg : Gl X x) (hm : X.mg x = some (.ref f)) (hk : PySem.W.keepIn X.K (.ref f) = true) (hb : Binds X.K fd ps [])
    (ha : PA X (e :: es) t) (hdb : (x == ("__debug__" : Str)) = false := by decide) (he : starEach (e :: es) X.env = (false, eval e X.env) :: starEach es X.env := by rfl) (hpl : (backTo pos (starEach es X.env)).any (·.1) = false := by rfl) :
    PE X (.Call (.Name x p) (e :: es) [] pos) (tCall sp [] E0 t) := by
  refine ⟨fun pins s σ H Q I h => ?_⟩
  refine wpAny_Call_Name_kw (ld_glob I hg hm ?_ hdb)
  refine PySem.W.callWith_K (h₀ := X.base) I.ok.mod.kin hk (thn (ha.run pos pins s σ H _ I h) fun us s1 ⟨vs, H1, I1, r, q⟩ => ⟨I1.kIn, ?_⟩) he hpl
  have r2 : Vals (vs ++ []) (us ++ []) := r.append .nil
  have hl : (us ++ []).length = ps.length := by rw [← r2.length]; exact F.len _ _ _ _ q
  refine wpAny_call (codeAny_mono (F.run X.A X.stack s1 H1 ⟨us, []⟩ (us ++ []) (vs ++ []) Q E0 hr hG I1.env0 (hb s1 us I1.kIn hl) r2 q) fun r s' hq => ?_)
  cases r with
  | error e => exact False.elim hq
  | ok fl =>
    cases fl with
    | ret u => exact I1.after hq
    | next => exact False.elim hq
    | brk => exact False.elim hq
    | cont => exact False.elim hq
/-- f(k = v, ..): keywords alone -/
theorem pe_callN0 (F : FnOk X.prog X.w X.K X.mg X.base CX0 k f fd ps sp) (hr : Room k X.A) (hg : Gl X x) (hm : X.mg x = some (.ref f)) (hk : PySem.W.keepIn X.K (.ref f) = true) (hb : KBn X.K fd ps 0 ks g gV)
    (hkw : PK X kws tk) (hall : (backToKw pos (keywordEach kws X.env)).all (·.1.isSome) = true := by rfl) (hks : (backToKw pos (keywordEach kws X.env)).filterMap (·.1) = ks := by rfl)
    (hdb : (x == ("__debug__" : Str)) = false := by decide)
    (hpl : ((backTo pos (starEach [] X.env)).any (·.1) || (backToKw pos (keywordEach kws X.env)).any (·.1.isNone)) = false := by rfl) :
    PE X (.Call (.Name x p) [] kws pos) (tCallN 0 ks.length sp gV E0 tNil tk) := by
  refine ⟨fun pins s σ H Q I h => ?_⟩
  refine wpAny_Call_Name_kw (ld_glob I hg hm ?_ hdb)
  refine PySem.W.callWith_KW0 (h₀ := X.base) I.ok.mod.kin hk hall ?_ hpl
  refine thn (hkw.run pos pins s σ H _ I h) fun ws s2 ⟨zs, H2, I2, rz, l1, l2, q2⟩ => ⟨I2.kIn, ?_⟩
  rw [hks]
  exact run_fnN (us := []) (vs := []) F hr hb pass0 I2 .nil rz rfl l2 q2
end
/-- values put in another order -/
def permV {α : Type} (js : List Nat) (xs : List α) : List α := js.filterMap fun j => xs[j]?
theorem permV_rel (js : List Nat) : ∀ {vs : List V} {us : List Value}, Vals vs us → Vals (permV js vs) (permV js us) := by
  intro vs us r
  induction js with
  | nil => exact .nil
  | cons j js ih =>
    unfold permV
    rw [List.filterMap_cons, List.filterMap_cons]
    cases e : vs[j]? with
    | none =>
      rw [r.none_of e]
      exact ih
    | some v =>
      obtain ⟨u, e1, e2⟩ := r.get e
      rw [e1]
      exact .cons e2 ih

/-! ### the law's call -/
theorem law_callG {P : Program} {w : World} {K : PySem.W.Frag} {mg mb : Str → Option Value} {k : Nat} {fa a : Addr} {fd : FuncData} {x : Str} {sp : Sp} {t : Shared} {vs : List Value} {ns : List Int}
    (kx : K.In t.heap) (hns : t.heap.Ns mainGlobals mg) (hb : t.heap.Ns builtinsNs mb) (hbb : ∀ x : Str, x ≠ "__name__" → mb x = bootBuiltins x) (li : t.heap.NoLimit) (hg : t.gens = #[])
    (ha : t.heap.get? a = some { cls := .type "list", data := .seq vs.toArray }) (hi : IntsAre vs ns) (hl : ns.length ≤ sizeLine) (hr : Room k callerA)
    (F : ∀ base : Heap, K.In base → base.Ns mainGlobals mg → FnG P w K mg base k fa fd [x] sp) (bd : ∀ (s : Shared) (u : Value), BindsTo s fd ⟨[u], []⟩ [(x, u)])
    (hsp : ∀ H : Hp, Only H → SqL K H a (ns.map V.int) → sp [.ref a] H (fun v _ => v = .bl true) fun _ _ _ => False) :
    codeAny (model P w) callerA (.call (.ref fa) ⟨[.ref a], []⟩) (fun r t' => r = .ok (.ret (.bool true)) ∧ OldK t.heap t'.heap ∧ t'.os = t.os ∧ AllBare t'.gens) t := by
  have rv := vals_ints hi
  have lenV := hi.length
  have core : ∀ H : Hp, Only H → SqL K H a (ns.map V.int) → HOk P w H t.heap → (∀ b, H b ≠ none → b = a) → (H a ≠ none → K.lookup a = none) →
      codeAny (model P w) callerA (.call (.ref fa) ⟨[.ref a], []⟩) (fun r t' => r = .ok (.ret (.bool true)) ∧ OldK t.heap t'.heap ∧ t'.os = t.os ∧ AllBare t'.gens) t := by
    intro H hO hS ok hA hK
    have bo : ∀ {b : Addr} {o : Obj}, t.heap.get? b = some o → H b = none → (hidT t.heap H).get? b = some o := fun e n => hidT_get e n
    have nd : ∀ {b : Addr} {o : Obj} {es : Array DictEntry} {ep : Nat}, t.heap.get? b = some o → o.data = .dict es ep → H b = none := by
      intro b o es ep e d
      cases q : H b with
      | none => rfl
      | some u =>
        have e' : b = a := hA b (by rw [q]; simp)
        subst e'
        rw [ha] at e; cases e
        have d2 : Data.seq vs.toArray _ = Data.dict es ep := d
        cases d2
    have nk : ∀ {b : Addr} {m : Str → Option Value}, t.heap.Ns b m → (hidT t.heap H).Ns b m := by
      rintro b m ⟨o, es, ep, e, d, r⟩
      exact ⟨o, es, ep, bo e (nd e d), d, r⟩
    have kb : K.In (hidT t.heap H) := by
      intro b o e
      refine bo (kx b o e) ?_
      cases q : H b with
      | none => rfl
      | some u =>
        have e' : b = a := hA b (by rw [q]; simp)
        subst e'
        rw [hK (by rw [q]; simp)] at e; cases e
    have hM : Mod K mg (hidT t.heap H) := by
      obtain ⟨mc, h1, h2⟩ := li
      exact ⟨kb, nk hns, ⟨mb, nk hb, hbb⟩, ⟨mc, nk h1, h2⟩⟩
    have e0 : Env0 P w K mg (hidT t.heap H) callerA [] t H := by
      refine ⟨rfl, hM, fun b o e => of_hidT e, Nat.le_of_eq (hidT_size _ _), trivial, ?_, ok, .of_eq hg⟩
      intro b hb
      exact absurd (show b ∈ ([] : List Addr) from hb) (by simp)
    refine codeAny_mono ((F _ kb (nk hns)).run callerA [] t H ⟨[.ref a], []⟩ [.ref a] [.ref a] _ _ hr rfl e0 (bd t (.ref a)) (.cons rfl .nil) (hsp H hO hS)) ?_
    intro r t' h
    cases r with
    | error e => exact False.elim h
    | ok fl =>
      cases fl with
      | next => exact False.elim h
      | brk => exact False.elim h
      | cont => exact False.elim h
      | ret u =>
        obtain ⟨v, H', os, bare, un, ok', r', q⟩ := h
        have q2 : v = .bl true := q
        subst q2
        obtain rfl : u = Value.bool true := r'
        refine ⟨rfl, OldK.of_keep fun b o e => ?_, os, bare⟩
        cases q : H b with
        | none =>
          refine un.keep b o e q ?_ (by simp)
          intro z
          exact absurd (show b ∈ ([] : List Addr) from z) (by simp)
        | some u =>
          rcases hO b with z | ⟨ob, xs, z⟩
          · rw [q] at z; cases z
          · have z2 := un.frzs b ob _ z
            obtain ⟨e1, _⟩ := ok b _ z
            obtain ⟨e2, _⟩ := ok' b _ z2
            rw [e] at e1; cases e1
            exact e2
  cases hk : K.lookup a with
  | some o =>
    have e := kx a o hk
    rw [ha] at e
    cases e
    refine core (fun _ => none) (fun _ => .inl rfl) (.inr ⟨_, vs.toArray, _, hk, rfl, rfl, rfl, by rw [List.size_toArray, lenV]; exact hl, by simpa using rv⟩) ?_ (fun b z => absurd rfl z) fun z => absurd rfl z
    intro b u z
    have z2 : (none : Option HO) = some u := z
    cases z2
  | none =>
    refine core (fun b => if b = a then some (.frz { cls := .type "list", data := .seq vs.toArray } (.lst (ns.map V.int))) else none) (fun b => ?_) (.inl (.inr ⟨_, if_pos rfl⟩)) (fun b u z => ?_) (fun b z => ?_) fun _ => hk
    · by_cases hb : b = a
      · exact .inr ⟨_, _, if_pos hb⟩
      · exact .inl (if_neg hb)
    · by_cases hb : b = a
      · have z2 := (if_pos hb).symm.trans z
        cases z2
        subst hb
        exact ⟨ha, by rw [List.length_map]; exact hl, vs, _, rv, ha⟩
      · have z2 := (if_neg hb).symm.trans z
        cases z2
    · by_cases hb : b = a
      · exact hb
      · exact absurd (if_neg hb) z
theorem walk_G {l : PySem.W.OpenLaw} {n k : Nat} {q : Program} {loose : List Str} {XP : (Str → Option Value) → Heap → Prop} {YP : World → Heap → Prop} {d : DefRec} {K : Params → PySem.W.Frag} {sp : World → Sp} {x : Str}
    (hn : l.most = some n) (hn2 : n ≤ sizeLine) (hdf : d.params.defaults = []) (hr : Room k callerA)
    (hY : ∀ (w : World) (h : Heap), YP w h → (K w.params).In h)
    (F : ∀ (w : World) (mg : Str → Option Value) (fa : Addr) (h : Heap), (K w.params).In h → h.Ns mainGlobals mg → mg d.name = some (.ref fa) →
      ∃ fd : FuncData, (∀ (s : Shared) (u : Value), BindsTo s fd ⟨[u], []⟩ [(x, u)]) ∧
        ∀ base : Heap, (K w.params).In base → base.Ns mainGlobals mg → FnG l.prog w (K w.params) mg base k fa fd [x] (sp w))
    (hsp : ∀ (w : World) (H : Hp) (a : Addr) (ns : List Int), ns.length ≤ n → Only H → SqL (K w.params) H a (ns.map V.int) → sp w [.ref a] H (fun v _ => v = .bl true) fun _ _ _ => False) :
    PySem.W.WalkO q loose XP YP l.row.toRowW d [] (fun f vs => PySem.call f vs) := by
  refine Att.attach_call hn hdf ?_
  intro w s₀ t mg mb fa o pm cd doc a vs ns G Y ho hd hcd hmg hobj hints hlen hg
  obtain ⟨fd, hb, hF⟩ := F w mg fa _ (hY w _ Y) G.T.g hmg
  exact law_callG (hY w _ Y) G.T.g G.T.b G.T.builtins G.T.nolimit hg hobj hints (Nat.le_trans hlen hn2) hr hF hb (fun H hO hS => hsp w H a ns hlen hO hS)
end Lh

namespace Lh
open PySem PySem.Spec PyProof.Rows L2
/-! ### set(numbers), numbers a list -/
/-- a set as it is first laid -/
abbrev bareSet (w : World) : Obj := { cls := .type "set", dict := none, data := .set #[] 0 (.fresh 0 0 (!w.params.followText "set-order")) }
/-- the set at the heap's end holds just ns, all else is kept -/
def Filled (w : World) (s t : Shared) (ns : List Int) : Prop := ∃ (g : Heap) (tk c : Nat), t = { s with heap := g, toks := tk } ∧ SetR w g s.heap.objs.size (fun j => decide (j ∈ ns)) c ∧ c ≤ ns.length ∧ ∀ b o, s.heap.get? b = some o → g.get? b = some o
theorem ints_at : ∀ {us : List Value} {ns : List Int}, IntsAre us ns → us.length = ns.length ∧ ∀ (i : Nat) (v : Value), us[i]? = some v → ∃ k t, ns[i]? = some k ∧ v = .int k t
  | _, _, .nil => ⟨rfl, fun i v e => absurd e (by simp)⟩
  | _, _, .cons n t r => by
    obtain ⟨h1, h2⟩ := ints_at r
    refine ⟨congrArg (· + 1) h1, fun i v e => ?_⟩
    cases i with
    | zero => exact ⟨n, t, rfl, (Option.some.inj e).symm⟩
    | succ i => exact h2 i v e
section
variable {P : Program} {w : World} {A : Around} {E : Value → Shared → Prop} {s : Shared} {l : Addr} {items : Array Value} {ns : List Int}
set_option maxHeartbeats 3200000 in
theorem set_init (hh : A.handled = none) (hl : s.heap.IsList l items) (hi : IntsAre items.toList ns) (hb : ns.length + 1 < scanBound) :
    codeAny (model P w) A (.call (.builtin "set.__init__") ⟨[.ref s.heap.objs.size, .ref l], []⟩) (wants (fun r t => r = .none ∧ Filled w s t ns) E) { s with heap := s.heap.push (bareSet w) } := by
  obtain ⟨hsz, hat⟩ := ints_at hi
  rw [Array.length_toList] at hsz
  have top : (s.heap.push (bareSet w)).get? s.heap.objs.size = some (bareSet w) := Heap.get?_push_size _ rfl
  refine codeAny_call_builtin F.called_set.init.plain F.entry_set_init (check_set_init_1 ⟨_, top, rfl⟩ ?_)
  have hl0 := hl
  obtain ⟨⟨k, dc, da, sl⟩, ho, ek, n, ed⟩ := hl
  dsimp only at ek ed
  subst ek ed
  have lt := Heap.lt_size ho
  have ho2 : (s.heap.push (bareSet w)).get? l = _ := Heap.get?_push_of_some _ ho
  have f1 := F.sub_list_set
  have f2 := F.sub_list_frozenset
  have f3 : (Value.type "list" == Value.type "dict") = false := by decide
  unfold Builtin.«set.__init__»
  unfold noKeywords
  unfold Builtin.Frozenset.updateFrom
  generalize ei : pyIter = it
  wp_walk
  subst ei
  have sz : (s.heap.push (bareSet w)).objs.size = s.heap.objs.size + 1 := Heap.size_push ..
  refine wpAny_pyIter_list (hl0.push _) (wpAny_bind (wpAny_runValue ?_))
  have wk := fun (B : Around) (hB : B.handled = none) => (Walks.list (prog := P) (w := w) (A := B) hB (s.heap.push (bareSet w)).objs.size l (by rw [sz]; exact Nat.ne_of_lt (Nat.lt_succ_of_lt lt)) items).toS
  refine set_update_ints (wk _ (by simp [hh])) s.heap.objs.size (by rw [sz]; exact fun z => (List.mem_cons.mp z).elim (Nat.ne_of_lt (Nat.lt_succ_self _)) fun z => Nat.ne_of_gt lt (List.mem_singleton.mp z)) ns hsz hb (fun i v e => hat i v (by rw [Array.getElem?_toList]; exact e)) items.size 0 _ (by omega) (Nat.zero_le _) ⟨⟨_, Heap.get?_push_size _ rfl, rfl, rfl⟩, (hl0.push _).push _⟩ ⟨0, Nat.le_refl 0, setR_new_at (Heap.get?_push_of_some _ top)⟩ ?_
  rintro ⟨g, g2, d2, tk, o2⟩ c mv hc R
  cases (show g2 = s.gens from mv.gens)
  cases (show d2 = s.drawn from mv.drawn)
  cases (show o2 = s.os from mv.os)
  refine wpAny_pure (show wpAny _ _ (ret Value.none) _ _ _ from wpAny_pure ⟨rfl, g, tk, c, rfl, R, by omega, fun b o e => ?_⟩)
  have lb := Heap.lt_size e
  exact mv.heap b o (by rw [sz]; exact fun z => (List.mem_cons.mp z).elim (Nat.ne_of_lt lb) fun z => Nat.ne_of_lt (Nat.lt_succ_of_lt lb) (List.mem_singleton.mp z)) (Heap.get?_push_of_some _ (Heap.get?_push_of_some _ e))
set_option maxHeartbeats 3200000 in
theorem set_of_list (ns : List Int) {Q : Value → Shared → Prop} (hh : A.handled = none) (hl : s.heap.IsList l items) (hi : IntsAre items.toList ns) (hb : ns.length + 1 < scanBound) (q : ∀ t, Filled w s t ns → Q (.ref s.heap.objs.size) t) :
    wpAny (model P w) A (call (.type "set") [.ref l]) Q E s := by
  have c1 := F.called_set.made
  have c2 := F.called_set.sub
  have c3 := F.called_set.notType
  have c4 := F.called_set.canCreate
  have c5 := F.typeCall_set_1 (.ref l)
  have c6 := F.called_set.init.lookup
  have c7 := F.called_set.init.bind (.ref s.heap.objs.size)
  obtain ⟨m1, m2, c8⟩ := F.called_set.mro
  refine wpAny_call (codeAny_of_tree (show wpAny _ _ (callAny (.type "set") _) _ _ _ from wpAny_pure ⟨Code.quiet_builtin _ (by decide +kernel), codeAny_builtin F.entry_type_call ?_⟩))
  rw [Around.under_plain (weight_type_call_type "set" [.ref l] []) rfl]
  repeat any_goals first | assumption | wp_step
  refine codeAny_mono (code_set_led1 (.ref l) (E := E) (Q₁ := fun x t => x = .ref s.heap.objs.size ∧ t = { s with heap := s.heap.push (bareSet w) }) ⟨rfl, rfl⟩) ?_
  rintro (e | fl) t ht
  · exact ht
  cases fl with
  | next => exact ht.elim
  | brk => exact ht.elim
  | cont => exact ht.elim
  | ret x =>
    obtain ⟨rfl, rfl⟩ := ht
    have ty : Shared.TypeIs { s with heap := s.heap.push (bareSet w) } (.ref s.heap.objs.size) "set" := ⟨_, Heap.get?_push_size _ rfl, rfl⟩
    repeat any_goals first | assumption | wp_step
    refine codeAny_mono (set_init (E := E) (by simp [hh]) hl hi hb) ?_
    rintro (e | fl) t2 ht2
    · exact ht2
    cases fl with
    | next => exact ht2.elim
    | brk => exact ht2.elim
    | cont => exact ht2.elim
    | ret y =>
      obtain ⟨rfl, f⟩ := ht2
      repeat any_goals first | assumption | wp_step
      exact q _ f
end
end Lh

namespace Lh
open PySem PySem.Spec PyProof.Rows L2
section
variable {X : Cx}
/-- repr of data -/
def rRepr (K : PySem.W.Frag) : List V → Hp → VK → Prop := fun xs H Q => ∃ (a : Addr) (d : PyData), xs = [.ref a] ∧ Dp K H (.ref a) d ∧ d.showable = true ∧ d.hasDict = false ∧ d.depth ≤ 60 ∧ d.shown.length ≤ sizeLine ∧ Q (.str d.shown) H
theorem call_reprD (hG : X.A.guards = some []) (hu : X.A.units + 64 < cLine) : CallR X (.builtin "repr") (rRepr X.K) := by
  intro pins s σ H xs us Q I r h
  obtain ⟨a, d, rfl, hd, h1, h2, h3, h4, q⟩ := h
  have e := Vals.ref1 r
  subst e
  obtain ⟨as, rd⟩ := Dp.reads I d (.ref a) (.ref a) hd rfl
  exact repr_of_reads' rd h1 (fun z => by rw [h2] at z; cases z) hG (by omega) (fun b o e => e) (fun h' u tk hk => ⟨.str d.shown, H, I.kept hk, ⟨u, rfl⟩, q⟩) h4
/-- max(numbers, default=d) of a list of ints -/
def rMaxD (K : PySem.W.Frag) : List V → List V → Hp → VK → Prop := fun xs zs H Q => ∃ (a : Addr) (ns : List Int) (d : Int), xs = [.ref a] ∧ zs = [.int d] ∧ SqL K H a (ns.map V.int) ∧
  ∀ m, (ns = [] → m = d) → (ns ≠ [] → m ∈ ns ∧ ∀ y ∈ ns, y ≤ m) → Q (.int m) H
theorem foldl_max (ns : List Int) : ∀ n : Int, (ns.foldl max n = n ∨ ns.foldl max n ∈ ns) ∧ n ≤ ns.foldl max n ∧ ∀ y ∈ ns, y ≤ ns.foldl max n := by
  induction ns with
  | nil => intro n; exact ⟨.inl rfl, Int.le_refl _, fun y h => absurd h (by simp)⟩
  | cons m r ih =>
    intro n
    obtain ⟨h1, h2, h3⟩ := ih (max n m)
    rw [List.foldl_cons]
    refine ⟨?_, by omega, fun y hy => ?_⟩
    · rcases h1 with h1 | h1
      · by_cases c : n ≤ m
        · right; rw [h1]; rw [Int.max_eq_right c]; exact List.mem_cons_self
        · left; rw [h1]; omega
      · right; exact List.mem_cons_of_mem _ h1
    · rcases List.mem_cons.mp hy with rfl | hy
      · omega
      · exact h3 y hy
theorem cr_maxD (hc : X.calm = true) (hu : X.A.units + 64 < cLine) : CallRK X (.builtin "max") [Str.ofString "default"] (rMaxD X.K) := by
  intro pins s σ H xs zs us ws Q I r rz h
  obtain ⟨a, ns, d, rfl, rfl, hs, q⟩ := h
  obtain ⟨its, rv, hl, _⟩ := I.list hs
  rw [Vals.ref1 r]
  cases rz with
  | cons rd rt =>
    cases rt
    obtain ⟨td, rfl⟩ := rd
    obtain ⟨as, ra⟩ := Dp.readsAll I (ns.map PyData.int) _ its (RpAll.dp (bx := 0) (RpAll.ints ns)) rv
    have dpt : ∀ l : List Int, PyData.depthAll (l.map PyData.int) = 0 := fun l => by
      induction l with
      | nil => rfl
      | cons x r ih => rw [List.map_cons]; show max 0 (PyData.depthAll (r.map PyData.int)) = 0; rw [ih]; rfl
    refine PySem.W.max_list_default (I.ok.hd hc) hl.isList (vs := its.toArray) (xs := ns.map PyData.int) (by simpa using ra) ⟨fun x hx y hy => ?_, fun x hx => ?_⟩ (by rw [dpt]; omega) (fun e h' tk hk => ?_) (fun y ys i v h' tk bs e hv rd hk => ?_)
    · obtain ⟨i, _, rfl⟩ := List.mem_map.mp hx
      obtain ⟨j, _, rfl⟩ := List.mem_map.mp hy
      rfl
    · obtain ⟨i, _, rfl⟩ := List.mem_map.mp hx
      intro z; cases z
    · have e0 : ns = [] := List.map_eq_nil_iff.mp e
      exact ⟨.int d, H, I.kept hk, ⟨_, rfl⟩, q d (fun _ => rfl) (fun z => absurd e0 z)⟩
    · cases ns with
      | nil => cases e
      | cons n r =>
        rw [List.map_cons] at e
        cases e
        rw [PySem.W.maxD_ints] at rd
        cases rd
        obtain ⟨h1, h2, h3⟩ := foldl_max r n
        refine ⟨.int (r.foldl max n), H, I.kept hk, ⟨_, rfl⟩, q _ (fun z => by cases z) (fun _ => ⟨?_, fun y hy => ?_⟩)⟩
        · rcases h1 with h1 | h1
          · rw [h1]; exact List.mem_cons_self
          · exact List.mem_cons_of_mem _ h1
        · rcases List.mem_cons.mp hy with rfl | hy
          · exact h2
          · exact h3 y hy
/-- set(numbers) of a list of ints -/
def rSetL (K : PySem.W.Frag) (w : World) : List V → Hp → VK → Prop := fun xs H Q => ∃ (a : Addr) (ns : List Int), xs = [.ref a] ∧ SqL K H a (ns.map V.int) ∧ ns.length ≤ 1000 ∧
  ∀ (p : Addr) (c : Nat) (ks : List Int), H p = none → ks.Nodup → ks.length = c → c ≤ ns.length → (∀ k, k ∈ ks ↔ k ∈ ns) → Q (.ref p) (upd H p (SetO w p (fun j => decide (j ∈ ns)) c))
theorem cr_setL (hc : X.calm = true) : CallR X (.type "set") (rSetL X.K X.w) := by
  intro pins s σ H xs us Q I r h
  obtain ⟨a, ns, rfl, hs, hl, q⟩ := h
  obtain ⟨its, rv, pl, _⟩ := I.list hs
  rw [Vals.ref1 r]
  refine set_of_list ns (I.ok.hd hc) pl.isList (by simpa using RZ.intsAre_vals rv) (by unfold scanBound; omega) ?_
  rintro t ⟨h', tk, c, rfl, R, hle, hk⟩
  have R' := R
  obtain ⟨o, es, ep, t, ho, _, _, _, nd, hm, _, _, hn, _⟩ := R'
  refine ⟨.ref s.heap.objs.size, upd H s.heap.objs.size (SetO X.w s.heap.objs.size (fun j => decide (j ∈ ns)) c), I.laid (t' := tk) hk (Nat.le_refl _) (setO_new R), rfl, ?_⟩
  refine q _ c (es.toList.map keyOf) (I.hok.fresh (Nat.le_refl _)) nd (by rw [List.length_map, Array.length_toList]; exact hn) hle fun k => ?_
  rw [← hm k]
  exact decide_eq_true_iff
/-- len of such a set -/
def rLenSet (w : World) : List V → Hp → VK → Prop := fun xs H Q => ∃ (a : Addr) (S : Int → Bool) (c : Nat), xs = [.ref a] ∧ H a = some (SetO w a S c) ∧ c ≤ 1000 ∧ Q (.int (c : Int)) H
theorem cr_lenSet : CallR X (.builtin "len") (rLenSet X.w) := by
  intro pins s σ H xs us Q I r h
  obtain ⟨a, S, c, rfl, ha, hl, q⟩ := h
  rw [Vals.ref1 r]
  obtain ⟨o, es, ep, t, ho, hx, hd, _, _, _, _, hf, hn, _⟩ := setO_get I ha
  refine call_len_set ho hx hd hf (by rw [hn]; omega) ⟨.int (c : Int), H, I.tok _, ⟨_, by rw [hn]⟩, q⟩
/-- tuple(numbers) of a list: a new tuple, whose object bears no names -/
theorem call_tupleF : CallR X (.type "tuple") (fun xs H Q => ∃ p ys, xs = [.ref p] ∧ SqL X.K H p ys ∧ ∀ l (o : Obj), H l = none → o.dict = none → Q (.ref l) (upd H l (.frz o (.tup ys)))) := by
  intro pins s σ H xs us Q I r h
  obtain ⟨p, ys, rfl, hq, q⟩ := h
  rw [Vals.ref1 r]
  obtain ⟨its, rv, pl, hz⟩ := I.list hq
  have hlen := rv.length
  refine call_tuple_list pl.isList (fun h' kp => ?_) (by simp only [List.size_toArray]; omega)
  have J : Inv X pins σ H { s with heap := h' } := I.kept (t' := s.toks) kp
  have J2 := J.laid (t' := s.toks) (o := .frz { cls := .type "tuple", data := .seq its.toArray } (.tup ys)) (h' := h'.push { cls := .type "tuple", data := .seq its.toArray })
    (fun b o e => Heap.get?_push_of_some _ e) (Nat.le_refl _) ⟨Heap.get?_push_size _ rfl, hz, its, rv, IsTup.new _ _⟩
  exact ⟨.ref h'.objs.size, _, J2, rfl, q _ _ (J.hok.fresh (Nat.le_refl _)) rfl⟩
/-- dict(pairs) of such a tuple of pairs -/
theorem call_dictT (hc : X.calm = true) : CallR X (.type "dict") (fun xs H Q => ∃ (a : Addr) (o : Obj) (ps : List Addr) (kvs : List (Key × V)), xs = [.ref a] ∧ o.dict = none ∧ H a = some (.frz o (.tup (ps.map V.ref))) ∧ Paired (fun p kv => SqT X.K H p [kV kv.1, kv.2]) ps kvs ∧
    ∀ p, H p = none → Q (.ref p) (upd H p (.dK (mergeK [] kvs)))) := by
  intro pins s σ H xs us Q I r h
  obtain ⟨a, o, ps, kvs, rfl, hod, ha, hp, q⟩ := h
  rw [Vals.ref1 r]
  obtain ⟨hget, hz, its, rv, o', ho', hcls, n, hdat⟩ := I.hok a _ ha
  rw [hget] at ho'
  cases ho'
  have ei := refs_at rv
  subst ei
  rw [List.length_map] at hz
  obtain ⟨prs, rel, hl, hpr⟩ := pairs_of I hp
  have ch : ∀ j : Fin prs.length, ∃ u b, ps[j.val]? = some b ∧ IsTup s.heap b #[u, prs[j].2] ∧ keyIs prs[j].1 u = true := fun j => by
    obtain ⟨b, u, e1, e2, e3⟩ := hpr j.val prs[j] (List.getElem?_eq_getElem j.isLt)
    exact ⟨u, b, e1, e2, e3⟩
  let us : Fin prs.length → Value := fun j => Classical.choose (ch j)
  have hus : ∀ j, ∃ b, ps[j.val]? = some b ∧ IsTup s.heap b #[us j, prs[j].2] ∧ keyIs prs[j].1 (us j) = true := fun j => Classical.choose_spec (ch j)
  let qs : List (Value × Value) := List.ofFn fun j : Fin prs.length => (us j, prs[j].2)
  have qlen : qs.length = prs.length := List.length_ofFn
  have qat : ∀ i k v, qs[i]? = some (k, v) → ∃ h : i < prs.length, k = us ⟨i, h⟩ ∧ v = prs[i].2 := fun i k v e => by
    have hi : i < prs.length := by
      have := (List.getElem?_eq_some_iff.mp e).1
      rw [qlen] at this
      exact this
    refine ⟨hi, ?_⟩
    rw [List.getElem?_ofFn, dif_pos hi] at e
    cases e
    exact ⟨rfl, rfl⟩
  refine PySem.call_dict_pairs (knd := mixKind X.prog X.w) (kvs := prs) (PairArg.tuple (prog := X.prog) (w := X.w) a (ps.map Value.ref).toArray (fun j => ps.getD j 0) qs) (I.ok.hd hc) ⟨⟨o, n, hget, hcls, hod, hdat⟩, ?_, fun j k v e => ?_⟩ ⟨qlen.symm, fun i k v e => ?_⟩ (by rw [qlen, hl]; exact hz) (fun h' tk hd' hk => ?_)
  · rw [qlen, hl]; simp
  · obtain ⟨hj, rfl, rfl⟩ := qat j k v e
    obtain ⟨b, e1, e2, _⟩ := hus ⟨j, hj⟩
    have eb : ps.getD j 0 = b := by rw [List.getD_eq_getElem?_getD, e1]; rfl
    dsimp only
    rw [eb]
    refine ⟨?_, .inl e2⟩
    simp only [List.getElem?_toArray, List.getElem?_map]
    rw [e1]; rfl
  · obtain ⟨hj, rfl, rfl⟩ := qat i k v e
    obtain ⟨b, e1, e2, e3⟩ := hus ⟨i, hj⟩
    exact ⟨prs[i].1, List.getElem?_eq_getElem hj, e3⟩
  · have hm : (s.heap.objs.size == sysModules) = false := beq_eq_false_iff_ne.mpr (Nat.ne_of_gt I.big)
    have hlen : (mergeK [] kvs).length ≤ sizeLine := by
      refine Nat.le_trans (length_mergeK kvs []) ?_
      rw [List.length_nil, Nat.zero_add, rel.length, hl]
      exact hz
    exact ⟨.ref s.heap.objs.size, upd H s.heap.objs.size (.dK (mergeK [] kvs)), I.laid (t' := tk) (fun b o e => hk b o (by simp) e) (Nat.le_refl _) (show ObjOk X.prog X.w _ _ _ (.dK (mergeK [] kvs)) from ⟨hlen, hm, merged [] prs, KV.merge rel .nil, hd'⟩), rfl, q _ (I.hok.fresh (Nat.le_refl _))⟩
end
end Lh

namespace Lh
open PySem PySem.Spec PyProof.Rows L2
/-! ### an exception that a suite keeps under another name -/
/-- at a: an exception that was caught, of that class, its fields at d -/
def exK (a : Addr) (cls : Value) (d : Option Addr) : HO := .ext fun h => ∃ (oe : Obj) (vs : Array Value), h.get? a = some oe ∧ Zc cls d oe ∧ oe.data = .fields vs
theorem exK_at {P : Program} {w : World} {H : Hp} {h : Heap} {a : Addr} {cls : Value} {d : Option Addr} (hok : HOk P w H h) (e : H a = some (exK a cls d)) :
    ∃ (oe : Obj) (vs : Array Value), h.get? a = some oe ∧ Zc cls d oe ∧ oe.data = .fields vs := by
  have x : ObjOk P w H h a (.ext fun h => ∃ (oe : Obj) (vs : Array Value), h.get? a = some oe ∧ Zc cls d oe ∧ oe.data = .fields vs) := hok a _ e
  exact x.1
theorem Inv_track {X : Cx} {pins : List (Addr × Obj)} {σ : L2.St} {H : Hp} {s : Shared} {a : Addr} {oe : Obj} {vs : Array Value} {cls : Value} {d : Option Addr} (I : Inv X pins σ H s) (ha : s.heap.get? a = some oe)
    (hz : Zc cls d oe) (hd : oe.data = .fields vs) (na : H a = none) (n0 : X.s_0.heap.get? a = none) (hp : ∀ p ∈ X.pn ++ pins, p.1 ≠ a) : Inv X pins σ (upd H a (exK a cls d)) s := by
  have nL : a ≠ X.env.locals := by
    intro z
    obtain ⟨m, ⟨o, es, ep, ho, hdd, _⟩, _⟩ := I.loc
    rw [← z, ha] at ho
    cases ho
    rw [hd] at hdd
    cases hdd
  have nC : ∀ x c, X.env.cells.lookup x = some c → c ≠ a := by
    intro x c e z
    obtain ⟨v, o, ho, hc⟩ := I.cell x c e
    rw [z, ha] at ho
    cases ho
    rw [hd] at hc
    cases hc
  have ne0 : ∀ b o, X.s_0.heap.get? b = some o → b ≠ a := fun b o e z => by
    rw [z, n0] at e
    cases e
  have neS : ∀ {b : Addr} {u : HO}, H b = some u → b ≠ a := fun e => ne_of_none e na
  refine ⟨I.ok, I.os, I.bare, ⟨I.base.keep, I.base.slot, fun b o e n hx => by rw [upd_ne (ne0 b o e)]; exact I.base.free b o e n hx, I.base.there, fun b xs e => ?_, fun b o u e => ?_, fun b ps e => ?_⟩, I.loc, I.cell,
    by rw [upd_ne nL.symm]; exact I.free, fun x c e => by rw [upd_ne (nC x c e)]; exact I.freeC x c e, fun p h => ?_, fun b u e => ?_, I.len⟩
  · exact (upd_ne (neS (I.base.tups b xs e))).trans (I.base.tups b xs e)
  · exact (upd_ne (neS (I.base.frzs b o u e))).trans (I.base.frzs b o u e)
  · exact let ⟨m, q⟩ := I.base.tbls b ps e; ⟨m, (upd_ne (neS q)).trans q⟩
  · obtain ⟨e, n, r⟩ := I.pin p h
    exact ⟨e, by rw [upd_ne (hp p h)]; exact n, r⟩
  · by_cases hb : b = a
    · subst hb
      rw [upd_same] at e
      cases e
      exact ⟨⟨oe, vs, ha, hz, hd⟩, ⟨oe, ha⟩, fun h1 h2 ⟨o, v, q, r⟩ k => ⟨o, v, k o q, r⟩⟩
    · rw [upd_ne hb] at e
      exact (I.hok b u e).stay (fun c v hc q => q) (fun c q => by rw [upd_ne (neS q)]; exact q) fun c xs q => by rw [upd_ne (neS q)]; exact q
theorem fly_keeps {base h h' : Heap} {l : List Env} {e : Addr} {Z : Obj → Prop} (k : ∀ b o, h.get? b = some o → h'.get? b = some o) (f : HandSPX.FlyingZ base l e Z h) : HandSPX.FlyingZ base l e Z h' := by
  obtain ⟨f1, f2, f3, oe, vs, T, oT, ts, he, hz, hd, h1, hn, hT, hoT, hdT, h3⟩ := f
  exact ⟨fun b o q => k b o (f1 b o q), f2, f3.of_keeps (fun b o q _ => ⟨o, k b o q, rfl⟩), oe, vs, T, oT, ts, k _ _ he, hz, hd, h1, hn, hT, k _ _ hoT, hdT, h3⟩
/-- what 'except (x, ..) as n: suite' wishes of an exception whose class the test meets; behind it the exception is kept -/
def wKeep (Mt : Value → Prop) (i : Nat) (ts : Addr → Value → Option Addr → TS) (D : Ends) : WX := fun cls d σ H =>
  Mt cls ∧ ∀ a, H a = none → ts a cls d { nx := fun σ' H' => D.nx (σ'.set i none) (upd H' a (exK a cls d)), rt := fun _ _ => False, bk := fun _ _ => False, ct := fun _ _ => False } (σ.set i (some (.ref a))) H
section
variable {X : Cx} {pins : List (Addr × Obj)} {σ : L2.St} {H : Hp} {sI : Shared} {B h3 : Heap} {a : Addr} {Z : Obj → Prop}
/-- where an exception that landed stands: on no frame, on no pin, and it is new to the def -/
structure Apart (X : Cx) (pins : List (Addr × Obj)) (a : Addr) : Prop where
  loc : a ≠ X.env.locals
  fs : a ∉ X.fs
  new : X.s_0.heap.get? a = none
  pin : ∀ p ∈ X.pn ++ pins, p.1 ≠ a
theorem Apart.of (hst : X.stack = X.env :: X.outer) (hfm : X.env.frame = some X.env.locals) (hex : X.ex = []) (J : Inv X pins σ H sI) (ground : ∀ b o, sI.heap.get? b = some o → b ∉ frs X.stack → B.get? b = some o)
    (fl : HandSPX.FlyingZ B (X.env :: X.outer) a Z h3) : Apart X pins a := by
  obtain ⟨oa, va, ga, _, da⟩ := fl.there
  have off : a ∉ frs (X.env :: X.outer) := by
    intro hm
    obtain ⟨_, u, gu, hu⟩ := fl.2.2.1.mem hm
    cases ga.symm.trans gu
    exact hu _ da
  have other : ∀ {b o}, sI.heap.get? b = some o → b ∉ frs X.stack → b ≠ a := by
    intro b o gb nb z
    cases (ground b o gb nb).symm.trans (z ▸ fl.2.1)
  constructor
  · exact fun z => off (List.mem_filterMap.mpr ⟨X.env, .head _, hfm.trans (congrArg some z.symm)⟩)
  · exact fun z => let ⟨v, hv, q⟩ := List.mem_filterMap.mp z; off (List.mem_filterMap.mpr ⟨v, .tail _ hv, q⟩)
  · match g0 : X.s_0.heap.get? a with
    | none => rfl
    | some o =>
      obtain ⟨u, gu⟩ := J.base.there a o g0 (by simp [hex])
      exact absurd rfl (other gu (hst ▸ off))
  · intro p hp
    obtain ⟨gp, _, n1, n2, _⟩ := J.pin p hp
    exact other gp fun z => (List.mem_cons.mp (J.stkSub _ z)).elim n1 n2
variable {x y z n : Str} {c1 c2 c3 : Value} {i : Nat} {body suite : List Stmt} {b₀ : Stmt} {p1 p2 p3 pt pos pos' : Pos} {tb : WX → TS} {ts : Addr → Value → Option Addr → TS}
/-- a class by its name, read while an exception is handled -/
theorem named {s : Shared} {oa : Obj} {va : Array Value} (J : Inv X pins σ H s) (ga : s.heap.get? a = some oa) (da : oa.data = .fields va) (na : H a = none) (ap : Apart X pins a) {z : Str} {c : Value} {np : Pos} (hz : Names X z c)
    {Q E : Value → Shared → Prop} (q : Q c s) : wpAny (model X.prog X.w) (X.A.mark (some (.ref a))) (eval (.Name z np) X.env) Q E s := by
  have S := J.suite ga da na ap.loc ap.fs
  rcases hz with ⟨g1, g2, g3 | ⟨g3, g4, g5⟩⟩
  · exact ld_glob (X := X.suite a ((a, oa) :: (X.pn ++ pins))) S g1 g3 q g2
  · exact ld_blt (X := X.suite a ((a, oa) :: (X.pn ++ pins))) S g1 g3 g4 q g5 g2
/-- behind the suite the exception is tracked -/
theorem kept_on (ok : X.Ok) (hN : X.N.Nodup) (hi : X.N[i]? = some n) (hln : X.env.kindOf n = some .local) (ap : Apart X pins a) {oa : Obj} {va : Array Value} {cls : Value} {d : Option Addr} (hz : Zc cls d oa) (da : oa.data = .fields va)
    {σ6 : L2.St} {H6 : Hp} {s6 : Shared} (S : Inv (X.suite a ((a, oa) :: (X.pn ++ pins))) [] σ6 H6 s6) {Q : Shared → Prop} {E : Value → Shared → Prop} (q : ∀ s7, Inv X pins (σ6.set i none) (upd H6 a (exK a cls d)) s7 → Q s7) :
    wpAny (model X.prog X.w) X.A (do bindName X.env n .none; unbindBehindTheSuite X.env n pos') (fun _ s7 => Q s7) E s6 := by
  have pin' : ∀ p ∈ X.pn ++ ((a, oa) :: pins), p ∈ ((a, oa) :: (X.pn ++ pins)) ++ [] := fun p hp => by
    simp only [List.mem_append, List.mem_cons, List.append_nil] at hp ⊢
    rcases hp with z | z | z
    · exact .inr (.inl z)
    · exact .inl z
    · exact .inr (.inr z)
  have J : Inv X ((a, oa) :: pins) σ6 H6 s6 := ⟨ok, S.os, S.bare, S.base, S.loc, S.cell, S.free, S.freeC, fun p hp => S.pin p (pin' p hp), S.hok, S.len⟩
  refine gone_ok J hN hi hln fun s7 J7 => ?_
  have here := J7.pin (a, oa) (by simp)
  exact q s7 (Inv_track (J7.pins_of fun p hp => J7.pin p (by simp [hp])) here.1 hz da here.2.1 ap.new ap.pin)
/-- a clause's test says yes to exceptions of the classes Mt, and changes nothing but that it makes something -/
def Tests (X : Cx) (tst : Expr) (Mt : Value → Prop) : Prop := ∀ {pins : List (Addr × Obj)} {σ : L2.St} {H : Hp} {s : Shared} {a : Addr} {oa : Obj} {va : Array Value} {cls : Value} {d : Option Addr}, Inv X pins σ H s → s.heap.get? a = some oa → Zc cls d oa →
  oa.data = .fields va → H a = none → Apart X pins a → Mt cls → ∀ {R : Bool → Shared → Prop} {E : Value → Shared → Prop}, (∀ g, (∀ b o, s.heap.get? b = some o → g.get? b = some o) → R true { s with heap := g }) →
  wpAny (model X.prog X.w) (X.A.mark (some (.ref a))) (eval tst X.env) (fun c t => wpAny (model X.prog X.w) (X.A.mark (some (.ref a))) (excMatches (.ref a) c) R E t) E s
theorem tests2 (hc1 : Names X x c1) (hc2 : Names X y c2) {cx : Nat} : Tests X (.Tuple [.Name x p1, .Name y p2] cx pt) (fun cls => PySem.W.exmAny X.K cls [c1, c2] = some true) := by
  intro pins σ H s a oa va cls d I ga za da na ap one R E q
  refine wpAny_Tuple_spliced ?_
  show wpAny _ _ (spliced [(false, eval (.Name x p1) X.env), (false, eval (.Name y p2) X.env)]) _ _ _
  refine Calls.spliced_cons (named I ga da na ap hc1 (Calls.spliced_cons (named I ga da na ap hc2 (Calls.spliced_nil ⟨by show 2 ≤ sizeLine; decide, ?_⟩))))
  have old : ∀ b o, s.heap.get? b = some o → (s.heap.push { cls := .type "tuple", data := .seq [c1, c2].toArray }).get? b = some o := fun _ _ z => Heap.get?_push_of_some _ z
  have knd : PySem.W.Looks (model X.prog X.w) (s.heap.push { cls := .type "tuple", data := .seq [c1, c2].toArray }) (typeOf (.ref a)) cls := fun _ _ _ _ k q => wpAny_typeOf_ref (k _ _ (old _ _ ga)) (za.1.symm ▸ q)
  exact (PySem.W.exm_tup2 (M := model X.prog X.w) (I.kIn.keeps old) knd (Heap.get?_push_size s.heap rfl) one).here (q _ old)
theorem tests3 (hc1 : Names X x c1) (hc2 : Names X y c2) (hc3 : Names X z c3) {cx : Nat} : Tests X (.Tuple [.Name x p1, .Name y p2, .Name z p3] cx pt) (fun cls => PySem.W.exmAny X.K cls [c1, c2, c3] = some true) := by
  intro pins σ H s a oa va cls d I ga za da na ap one R E q
  refine wpAny_Tuple_spliced ?_
  show wpAny _ _ (spliced [(false, eval (.Name x p1) X.env), (false, eval (.Name y p2) X.env), (false, eval (.Name z p3) X.env)]) _ _ _
  refine Calls.spliced_cons (named I ga da na ap hc1 (Calls.spliced_cons (named I ga da na ap hc2 (Calls.spliced_cons (named I ga da na ap hc3 (Calls.spliced_nil ⟨by show 3 ≤ sizeLine; decide, ?_⟩))))))
  have old : ∀ b o, s.heap.get? b = some o → (s.heap.push { cls := .type "tuple", data := .seq [c1, c2, c3].toArray }).get? b = some o := fun _ _ z => Heap.get?_push_of_some _ z
  have knd : PySem.W.Looks (model X.prog X.w) (s.heap.push { cls := .type "tuple", data := .seq [c1, c2, c3].toArray }) (typeOf (.ref a)) cls := fun _ _ _ _ k q => wpAny_typeOf_ref (k _ _ (old _ _ ga)) (za.1.symm ▸ q)
  exact (PySem.W.exm_tup3 (M := model X.prog X.w) (I.kIn.keeps old) knd (Heap.get?_push_size s.heap rfl) one).here (q _ old)
set_option maxHeartbeats 2000000 in
theorem ps_try_keep {tst : Expr} {Mt : Value → Prop} (hst : X.stack = X.env :: X.outer) (hfm : X.env.frame = some X.env.locals) (hex : X.ex = []) (hN : X.N.Nodup) (hi : X.N[i]? = some n) (hln : X.env.kindOf n = some .local) (htst : Tests X tst Mt)
    (hbody : ∀ (W : WX) (pn : List (Addr × Obj)) (xe : Value → Shared → Prop), Takes (X.tr pn xe) W → PassesOwn (model X.prog X.w) X.A X.env xe → PSs (X.tr pn xe) body (tb W))
    (hsuite : ∀ (a : Addr) (oa : Obj) (cls : Value) (d : Option Addr) (pn : List (Addr × Obj)), Zc cls d oa → (∃ va, oa.data = .fields va) → PSs (X.suite a ((a, oa) :: pn)) (b₀ :: suite) (ts a cls d)) :
    PS X (.Try body [.ExceptHandler (some tst) (some n) (b₀ :: suite) pos'] [] [] pos) (fun D σ H => tb (wKeep Mt i ts D) D σ H) := by
  constructor
  intro pins s σ H D I want
  have ok := I.ok
  have frm : X.A.frames = some (X.env :: X.outer) := ok.frames.trans (congrArg some hst)
  refine wpAny_Try_except (wpAny_mono ((hbody (wKeep Mt i ts D) (X.pn ++ pins)
      (fun e t1 => wpAny (model X.prog X.w) X.A (noteFrame e X.env) (fun _ t2 => wpAny (model X.prog X.w) X.A (setFlight e none) (fun _ t3 => wpAny (model X.prog X.w) X.A (handleBy e X.env
        [.ExceptHandler (some tst) (some n) (b₀ :: suite) pos']) (SP X pins D) X.xe t3) X.xe t2) X.xe t1)
      (fun u t air => ?_) PassesOwn.looking).run [] s σ H D (I.toTry _) want) (fun fl t fin => ?_) fun _ _ z => z)
  case refine_2 =>
    cases fl with
    | next => exact let ⟨σ1, H1, I1, q⟩ := fin; wpAny_execs_nil ⟨σ1, H1, I1.ofTry ok, q⟩
    | brk => exact let ⟨σ1, H1, I1, q⟩ := fin; ⟨σ1, H1, I1.ofTry ok, q⟩
    | cont => exact let ⟨σ1, H1, I1, q⟩ := fin; ⟨σ1, H1, I1.ofTry ok, q⟩
    | ret u => exact let ⟨v, σ1, H1, I1, r, q⟩ := fin; ⟨v, σ1, H1, I1.ofTry ok, r, q⟩
  case refine_1 =>
    obtain ⟨a, B, t0, _, σ1, H1, cls, d, rfl, I0, ground, up, sky, na, os, bare, one, then_⟩ := air
    have I1 : Inv X pins σ1 H1 t0 := I0.ofTry ok
    refine Sky.land (L := X.env.locals) Zc.steady frm hfm (hst ▸ sky) fun g fl upg => ?_
    have ap := Apart.of hst hfm hex I1 ground fl
    have I3 : Inv X pins σ1 H1 { t with heap := g } := I1.landed ground fl.1 (up.trans upg) os bare
    obtain ⟨oa, va, ga, za, da⟩ := fl.there
    refine wpAny_handleBy_cons (codeAny_handlers_test (htst I3 ga za da na ap one fun g' old => ?_)) (fun z => nomatch z)
    refine codeAny_handlers_suite_as ?_
    refine HandSPX.lands_againZ (fly_keeps old fl) fun g4 fl4 up4 => ?_
    have I4 : Inv X pins σ1 H1 { t with heap := g4 } := I1.landed ground fl4.1 (((up.trans upg).trans (.of_keeps old)).trans up4) os bare
    obtain ⟨ob, vb, gb, zb, db⟩ := fl4.there
    refine store_ok (X := X.suite a ((a, ob) :: (X.pn ++ pins))) (v := .ref a) (I4.suite gb db na ap.loc ap.fs) hN hi (.inl hln) rfl (fun s5 S5 => ?_) (.inr hln)
    refine wpAny_mono ((hsuite a ob cls d (X.pn ++ pins) zb ⟨_, db⟩).run [] s5 _ H1 _ S5 (then_ a na)) (fun fw s6 fin => ?_) fun _ _ z => False.elim z
    cases fw with
    | next => exact let ⟨σ6, H6, S6, q⟩ := fin; kept_on ok hN hi hln ap zb db S6 fun s7 I7 => ⟨_, _, I7, q⟩
    | brk => exact let ⟨_, _, _, q⟩ := fin; q.elim
    | cont => exact let ⟨_, _, _, q⟩ := fin; q.elim
    | ret u => exact let ⟨_, _, _, _, _, q⟩ := fin; q.elim
end
section
variable {X : Cx}
/-- an exception that is kept, with its fields, as the library's words have it -/
theorem inst_of {pins : List (Addr × Obj)} {σ : L2.St} {H : Hp} {s : Shared} {a C dd : Addr} {fs : List (Str × V)} (I : Inv X pins σ H s) (ha : H a = some (exK a (.ref C) (some dd))) (hd : H dd = some (.xd fs)) :
    ∃ (ox od : Obj) (mA : Str → Option Value), PySem.W.InstAt s.heap a ox C (some od) ∧ (∀ f, RelO (fs.lookup f) (mA f)) ∧ ∀ f, PySem.W.lookIn f od = some (mA f) := by
  obtain ⟨oe, vs, he, hz, hdat⟩ := exK_at I.hok ha
  obtain ⟨mA, hns, hr⟩ : ∃ mA, s.heap.Ns1 dd mA ∧ ∀ f, RelO (fs.lookup f) (mA f) := I.hok dd _ hd
  obtain ⟨od, ho, hl⟩ := lookIn_ns hns
  exact ⟨oe, od, mA, ⟨he, hz.1, by unfold PySem.W.notCls; rw [hdat] <;> rfl, by rw [hz.2]; exact ho⟩, hr, hl⟩
/-- isinstance(e, c), e an exception that is kept -/
def rIsX (K : PySem.W.Frag) : List V → Hp → VK → Prop := fun xs H Q => ∃ (a C dd : Addr) (fs : List (Str × V)) (c : V) (cv : Value) (b : Bool), xs = [.ref a, c] ∧ H a = some (exK a (.ref C) (some dd)) ∧ H dd = some (.xd fs) ∧ ExcC K C ∧
  (∀ u, RelV c u → u = cv) ∧ PySem.W.kitOne K (.ref C) cv = some b ∧ Q (.bl b) H
theorem call_isX : CallR X (.builtin "isinstance") (rIsX X.K) := by
  intro pins s σ H xs us Q I r h
  obtain ⟨a, C, dd, fs, c, cv, b, rfl, ha, hd, F, hcv, e, q⟩ := h
  obtain ⟨ox, od, mA, J, _⟩ := inst_of I ha hd
  cases r with
  | cons rx rr =>
    cases rr with
    | cons rt rr =>
      cases rr
      cases rx
      cases hcv _ rt
      have F1 := PySem.W.any_some F.hd
      obtain ⟨cd, hc, _⟩ := F1
      exact PySem.W.kia_one (PySem.W.kitx_exc (by rw [hc]; rfl) F.hg F.hk F.hs F.ha F.hn F.ht F.hm) I.kIn J e (fun z => nomatch z) fun tk => ⟨.bl b, H, I.kept (t' := tk) fun _ _ z => z, rfl, q⟩
/-- isinstance(e, (c, ..)) -/
def rIsXT (K : PySem.W.Frag) : List V → Hp → VK → Prop := fun xs H Q => ∃ (a C dd p : Addr) (fs : List (Str × V)) (cs : List V) (cvs : List Value) (b : Bool), xs = [.ref a, .ref p] ∧ H a = some (exK a (.ref C) (some dd)) ∧ H dd = some (.xd fs) ∧ ExcC K C ∧ H p = some (.tup cs) ∧
  (∀ us, Vals cs us → us = cvs) ∧ PySem.W.kitAny K (.ref C) cvs = some b ∧ Q (.bl b) H
theorem call_isXT : CallR X (.builtin "isinstance") (rIsXT X.K) := by
  intro pins s σ H xs us Q I r h
  obtain ⟨a, C, dd, p, fs, cs, cvs, b, rfl, ha, hd, F, hp, hcv, e, q⟩ := h
  obtain ⟨ox, od, mA, J, _⟩ := inst_of I ha hd
  cases r with
  | cons rx rr =>
    cases rr with
    | cons rt rr =>
      cases rr
      cases rx
      cases rt
      obtain ⟨its, rv, o, ho, hc, n, hdat⟩ := (I.hok p _ hp).2
      cases hcv _ rv
      obtain ⟨oc, od', oda, osl⟩ := o
      dsimp only at hc hdat
      subst hc hdat
      obtain ⟨cd, hcl, _⟩ := PySem.W.any_some F.hd
      exact PySem.W.kia_tup (PySem.W.kitx_exc (by rw [hcl]; rfl) F.hg F.hk F.hs F.ha F.hn F.ht F.hm) I.kIn J ho e (fun z => nomatch z) fun tk => ⟨.bl b, H, I.kept (t' := tk) fun _ _ z => z, rfl, q⟩
/-- two words of one call, whichever is at hand -/
theorem call_or {f : Value} {r1 r2 : List V → Hp → VK → Prop} (h1 : CallR X f r1) (h2 : CallR X f r2) : CallR X f (fun xs H Q => r1 xs H Q ∨ r2 xs H Q) := by
  intro pins s σ H xs us Q I r h
  exact h.elim (h1 pins s σ H xs us Q I r) (h2 pins s σ H xs us Q I r)
/-- e.f, e an exception that is kept -/
def tXk (K : PySem.W.Frag) (f : Str) (te : TE) : TE := fun σ H Q => te σ H fun x H1 => ∃ (a C dd : Addr) (fs : List (Str × V)) (v : V), x = .ref a ∧ H1 a = some (exK a (.ref C) (some dd)) ∧ H1 dd = some (.xd fs) ∧ XfC K C ∧
  PySem.W.findIn K (.ref C) f = some none ∧ fs.lookup f = some v ∧ Q v H1
theorem pe_xk {e : Expr} {te : TE} {pos : Pos} {f : Str} (he : PE X e te) (hb : attributeBase e f X.env (eval e X.env) = eval e X.env := by rfl) : PE X (.Attribute e f pos) (tXk X.K f te) := by
  refine ⟨fun pins s σ H Q I h => attr_of hb (thn (he.run pins s σ H _ I h) fun u s1 hh => ?_)⟩
  obtain ⟨x, H1, I1, rx, a, C, dd, fs, v, rfl, ha, hd, T, hno, l, q⟩ := hh
  cases rx
  obtain ⟨ox, od, mA, J, hr, hl⟩ := inst_of I1 ha hd
  obtain ⟨u, hu, ru⟩ := RelO.some_of (v := v) (o := mA f) (by rw [← l]; exact hr f)
  have fo := PySem.W.findObj_own T.hdC hno rfl ((hl f).trans (congrArg some hu))
  exact HandSPX.exc_get I1.kIn J T.ga T.gg T.exC fo (handed_of ru) ⟨v, H1, I1.tok _, ru, q⟩
/-- what lets no exception out, of a def that may -/
theorem pass_none : Passes (L2.CX X.prog X.w) X (fun _ _ _ => False) := fun _ _ _ _ _ _ _ c => by
  obtain ⟨_, _, _, _, _, _, _, _, _, _, _, _, w⟩ := c
  exact w.elim
end
theorem kit_not {K : PySem.W.Frag} {C D : Addr} (hd : PySem.W.hasDictIn K D = true) (ht : PySem.W.typeIn K (.ref D) = some (.type "type")) (h : PySem.W.subIn K (.ref C) (.ref D) = some false) (hs : PySem.W.subIn K (.ref C) (.ref C) = some true) :
    PySem.W.kitOne K (.ref C) (.ref D) = some false := by
  have ne : (Value.ref C == Value.ref D) = false := by
    refine Bool.eq_false_iff.mpr fun z => ?_
    rw [← beq_iff_eq.mp z, hs] at h
    cases h
  obtain ⟨cd, hc, _⟩ := PySem.W.any_some hd
  unfold PySem.W.kitOne PySem.W.kitCls
  rw [ne, if_neg Bool.false_ne_true]
  dsimp only
  rw [hc, ht]
  exact h
theorem kit_type {K : PySem.W.Frag} {C : Addr} {T : String} {b : Bool} (hm : PySem.W.kitMeta T = true) (h : PySem.W.subIn K (.ref C) (.type T) = some b) : PySem.W.kitOne K (.ref C) (.type T) = some b := by
  have ne : (Value.ref C == Value.type T) = false := by simp
  unfold PySem.W.kitOne PySem.W.kitCls
  rw [ne, if_neg Bool.false_ne_true]
  dsimp only
  rw [hm, if_pos rfl]
  exact h
/-- a def that may raise, called where it doesn't -/
theorem fn_calm {P : Program} {w : World} {K : PySem.W.Frag} {mg : Str → Option Value} {base : Heap} {k : Nat} {f : Addr} {fd : FuncData} {ps : List Str} {sp : Sp} (F : FnOk P w K mg base (L2.CX P w) k f fd ps sp) :
    FnOk P w K mg base CX0 k f fd ps (fun vs H Q _ => sp vs H Q (fun _ _ _ => False)) := by
  refine ⟨fun vs H Q _ q => F.len vs H Q _ q, fun B out t H args us vs Q E a b c d e => codeAny_mono (F.run B out t H args us vs Q _ a b c d e) fun r t' h => ?_⟩
  cases r with
  | ok fl =>
    cases fl with
    | ret u => exact h
    | next => exact h
    | brk => exact h
    | cont => exact h
  | error e =>
    obtain ⟨_, _, _, _, _, _, _, _, _, _, _, _, no⟩ := h
    exact no.elim
theorem exm_three {K : PySem.W.Frag} {cls c1 c2 c3 : Value} {b1 b2 b3 : Bool} (h1 : PySem.W.exmOne K cls c1 = some b1) (h2 : PySem.W.exmOne K cls c2 = some b2) (h3 : PySem.W.exmOne K cls c3 = some b3) : PySem.W.exmAny K cls [c1, c2, c3] = some (b1 || (b2 || b3)) := by
  unfold PySem.W.exmAny
  rw [h1]
  unfold PySem.W.exmAny
  rw [h2]
  unfold PySem.W.exmAny
  rw [h3]
  unfold PySem.W.exmAny
  simp
theorem exm_two {K : PySem.W.Frag} {cls c1 c2 : Value} {b1 b2 : Bool} (h1 : PySem.W.exmOne K cls c1 = some b1) (h2 : PySem.W.exmOne K cls c2 = some b2) : PySem.W.exmAny K cls [c1, c2] = some (b1 || b2) := by
  unfold PySem.W.exmAny
  rw [h1]
  unfold PySem.W.exmAny
  rw [h2]
  unfold PySem.W.exmAny
  simp
/-- __init__(self, v): nothing but ValueError's own and self.f = v -/
def spInitF (C : Addr) (f : Str) : Sp := fun vs H Q _ => ∃ (a : Addr) (v : V), vs = [.ref a, v] ∧ H a = some (exo a C none) ∧ ∀ dx, H dx = none → dx ≠ a → Q .non (upd (upd H dx (exd dx [(f, v)])) a (exo a C (some dx)))
end Lh

set_option maxHeartbeats 4000000
namespace LhX
open PySem PySem.Builtin PySem.Builtin.ObjectAttr PyProof.Rows
/-! ### exceptions of own classes over any class that Python has -/
section
variable {P : Program} {w : World} {A : Around} {E : Value → Shared → Prop} {R : Result → Shared → Prop} {h0 : Heap} {gs : Array GenState} {dr : Drawn} {n0 : Nat} {oo : OsState}
/-- the first name that goes into an empty dict -/
theorem first_in {M : Model} {dd : Addr} {f : Str} {tk : Tok} {u : Value} {Q : Fin → Shared → Prop} (empty : h0.Ns dd (fun _ => none))
    (back : ∀ h1 tk1, h1.Ns1 dd (fun y => if y = f then some u else none) → Heap.SameBut dd h0 h1 → Q (.done (.ret .none)) ⟨h1, gs, dr, tk1, oo⟩) :
    wpAny M A (storeInDict dd (.str f tk) f u) Q E ⟨h0, gs, dr, n0, oo⟩ := by
  unfold storeInDict newKeyGuard
  apply wpAny_bind
  apply wpAny_pure
  apply wpAny_bind
  refine wpAny_nsSet1 (Heap.Ns1.of_empty empty) ?_
  intro h1 now same
  obtain ⟨od, _, _, at_, data, few⟩ := now.count (Within.cons f u Within.nil)
  apply wpAny_bind
  refine wpAny_lookBehind at_ ?_ ?_
  · rw [data]
    exact pastItsLine_dict (Nat.le_trans few (Nat.le_add_left 1 sizeLine))
  · wp_walk
    exact back h1 _ now same
/-- an own class: its own names for bases first, then those of the class that it stands over -/
structure Over (mro bm : List Value) : Prop where
  has : ∀ x : String, mro.contains (.type x) = bm.contains (.type x)
  pass : ∀ self : Value, refuseLoop self "__setattr__" mro = pure ()
  some_ : mro.isEmpty = false
theorem over_one {bm : List Value} {C : Addr} (p : ∀ self : Value, refuseLoop self "__setattr__" bm = pure ()) : Over (.ref C :: bm) bm where
  has := fun x => by rw [List.contains_cons]; rfl
  pass := fun self => by rw [refuseLoop_ref]; exact p self
  some_ := rfl
/-- self.f = u, where self has no dict yet -/
theorem put_first {K : W.Frag} {f : Str} {tk : Tok} {u : Value} {x C : Addr} {vals : Array Value} {cd : ClassData} {bm : List Value}
    (kin : K.In h0) (here : h0.get? x = some { cls := .ref C, data := .fields vals }) (isC : W.clsIn K C = some cd) (ov : Over cd.mro bm) (ob : bm.contains (.type "object") = true) (dy : cd.hasDict = true) (noF : W.findIn K (.ref C) f = some none)
    (back : ∀ h1 tk1 dd, (∀ b o, b ≠ x → h0.get? b = some o → h1.get? b = some o) → h0.objs.size ≤ dd → dd ≠ x → h1.get? x = some { cls := .ref C, dict := some dd, data := .fields vals } →
      h1.Ns1 dd (fun y => if y = f then some u else none) → R (.ok (.ret .none)) ⟨h1, gs, dr, tk1, oo⟩) :
    codeAny (model P w) A (.call (.builtin "object.__setattr__") ⟨[.ref x, .str f tk, u], []⟩) R ⟨h0, gs, dr, n0, oo⟩ := by
  have inst : W.InstAt h0 x { cls := .ref C, data := .fields vals } C none := ⟨here, rfl, rfl, trivial⟩
  have facts := F.store_object
  have apart : x ≠ h0.objs.size := Nat.ne_of_lt (Heap.lt_size here)
  have isO : W.mroIn K C (.type "object") = some true := by
    unfold W.mroIn
    rw [isC, Option.bind_some, if_neg (by rw [ov.some_]; decide), ov.has, ob]
  have lookO : W.Looks (model P w) h0 (isInstance (.ref x) (.type "object")) true := inst.type.andThen (W.looks_mroIn kin isO)
  have lookM : W.Looks (model P w) h0 (mroOf (.ref C)) cd.mro := (W.looks_clsIn kin isC).andThen .now
  have lookC : W.Looks (model P w) h0 (classData C) cd := W.looks_clsIn kin isC
  have lookN : W.Looks (model P w) h0 (storeTaker? none) none := .now
  have lookF := W.looks_findIn (M := model P w) kin noF
  refine codeAny_call_builtin facts.slot.plain facts.entry ?_
  refine @W.check_slot (model P w) _ _ ⟨h0, gs, dr, n0, oo⟩ "object.__setattr__" "object" "__setattr__" (.ref x) [.str f tk, u] [] _ facts.kind facts.split lookO (facts.args (.ref x) (.str f tk) u) ?_
  rw [W.osa_eq, refuse_eq]
  apply wpAny_bind
  apply wpAny_bind
  refine inst.type.at ?_
  apply wpAny_bind
  refine lookM.at ?_
  rw [ov.pass]
  apply wpAny_pure
  apply wpAny_bind
  refine inst.type.at ?_
  apply wpAny_bind
  refine lookF.at ?_
  apply wpAny_bind
  refine lookN.at ?_
  show wpAny _ _ (storeInOwnDict (.ref x) (.ref C) (.str f tk) f u false) _ _ _
  cases cd with
  | mk c1 c2 c3 c4 c5 c6 c7 c8 c9 c10 c11 =>
    have dy : c6 = true := dy
    subst dy
    unfold storeInOwnDict ownDictForStores
    repeat (first | with_reducible refine first_in ?_ ?_ | with_reducible refine wpAny_loadPart_at here ?_ | with_reducible refine lookC.at ?_ | wp_step)
    · refine ⟨_, #[], _, (Heap.get?_update_ne _ _ _ _ apart.symm).trans (Heap.get?_push_at rfl rfl), rfl, ?_, fun _ => rfl⟩
      intro e he
      simp at he
    · intro h1 tk1 now same
      have pushed : ∀ b o, h0.get? b = some o → (h0.push { cls := .type "dict", data := .dict #[] }).get? b = some o := fun b o e => Heap.get?_push_of_some _ e
      refine back h1 tk1 h0.objs.size ?_ (Nat.le_refl _) apart.symm ?_ now
      · intro b o nb e
        rw [same.2 b (Nat.ne_of_lt (Heap.lt_size e)), Heap.get?_update_ne _ _ _ _ nb]
        exact pushed b o e
      · rw [same.2 x apart]
        exact Heap.get?_update_self _ (pushed _ _ here) rfl
end
end LhX
namespace Lh
open PySem PySem.Spec PyProof.Rows L2 PySem.Builtin PySem.Builtin.ObjectAttr
/-- an own exception class over the class B of Python's -/
structure OvC (K : PySem.W.Frag) (C : Addr) (B newId initId : String) (bm : List Value) : Prop where
  facts : PySem.ExcBaseFacts B newId initId bm
  obj : bm.contains (.type "object") = true
  cls : ∃ nm qn N bs rest sn sub ab col dd a0 a1 a2 a3 a5, K.lookup C = some (excClassObj nm qn C N bs rest true sn sub ab col dd a0 a1 a2 a3 a5 newId) ∧ (∀ x : String, rest.contains (.type x) = bm.contains (.type x)) ∧ LhX.Over (.ref C :: rest) bm
  setter : PySem.W.findIn K (Value.ref C) "__setattr__" = some (some (Value.builtin "object.__setattr__"))
  isExc : PySem.W.subIn K (Value.ref C) (Value.type "BaseException") = some true
  itsType : PySem.W.typeIn K (Value.ref C) = some (Value.type "type")
  stays : PySem.W.keepIn K (Value.ref C) = true
section
variable {X : Cx} {pins : List (Addr × Obj)} {σ : L2.St} {H : Hp} {s : Shared} {a C : Addr} {f : Str} {y : V} {u : Value} {B newId initId : String} {bm : List Value} {A : Around} {E : Value → Shared → Prop}
theorem upd_back {H : Hp} {a : Addr} {o : HO} (e : H a = some o) : upd H a o = H := by
  funext b
  by_cases z : b = a
  · subst z
    rw [upd_same, e]
  · exact upd_ne z
/-- self.f = y -/
theorem own_put {Q : Unit → Shared → Prop} (T : OvC X.K C B newId initId bm) (I : Inv X pins σ H s) (e : H a = some (exo a C none)) (no : PySem.W.findIn X.K (.ref C) f = some none) (ry : L2.RelV y u)
    (back : ∀ dx s1, H dx = none → dx ≠ a → Inv X pins σ (upd (upd H dx (exd dx [(f, y)])) a (exo a C (some dx))) s1 → Q () s1) : wpAny (model X.prog X.w) A (setAttr (.ref a) f u) Q E s := by
  obtain ⟨nm, qn, N, bs, rest, sn, sub, ab, col, dd, a0, a1, a2, a3, a5, look, _, ov⟩ := T.cls
  have isC : PySem.W.clsIn X.K C = some { name := nm, bases := bs, mro := .ref C :: rest, ns := N, qualname := qn, hasDict := true, slotNames := sn, subclasses := sub, abstract := ab, collection := col, hasDel := false } := by
    unfold PySem.W.clsIn
    rw [look] <;> rfl
  obtain ⟨tt, here⟩ := exo_at I.hok e
  cases s with
  | mk h0 g0 d0 t0 o0 =>
  refine PySem.W.set_plain I.kIn (ox := { cls := .ref C, dict := none, data := .fields #[.ref tt, .none, .none, .none, .bool false, .none] }) (od := none) ⟨here, rfl, rfl, trivial⟩ T.setter ?_
  refine LhX.put_first I.kIn here isC ov T.obj rfl no ?_
  intro h1 tk1 dx kept big ne hx hn
  have free : H dx = none := I.hok.fresh big
  have nd : ∀ {b : Addr} {o : Obj}, h0.get? b = some o → b ≠ dx := fun {b o} z => Nat.ne_of_lt (Nat.lt_of_lt_of_le (Heap.lt_size z) big)
  have na : ∀ {b : Addr}, H b = none → b ≠ a := fun {b} n z => by subst z; exact absurd e (by rw [n]; intro q; cases q)
  have stays : ∀ {b : Addr} {o : HO}, H b = some o → (∀ d, o ≠ exo a C d) → (upd (upd H dx (exd dx [(f, y)])) a (exo a C (some dx))) b = some o := fun {b o} hb df => by
    have n1 : b ≠ a := fun z => by subst z; exact df none (Option.some.inj (hb.symm.trans e))
    rw [upd_ne n1, upd_ne (ne_of_none hb free)]
    exact hb
  have un : Un X.fs [] H (upd (upd H dx (exd dx [(f, y)])) a (exo a C (some dx))) h0 h1 := {
    keep := fun b o z n _ _ => kept b o (na n) z
    slot := fun b o z n _ _ => ⟨_, kept b o (na n) z⟩
    free := fun b o z n _ => (upd_ne (na n)).trans ((upd_ne (nd z)).trans n)
    there := fun b o z _ => by
      by_cases c : b = a
      · subst c; exact ⟨_, hx⟩
      · exact ⟨_, kept b o c z⟩
    tups := fun b xs z => stays z fun d => exo_tup.symm
    frzs := fun b o v z => stays z fun d => exo_frz.symm
    tbls := fun b ps z => ⟨#[], by rw [stays z fun d => exo_tbl.symm]; simp⟩ }
  refine back dx _ free ne (I.un (t' := tk1) un fun b o z => ?_)
  by_cases c : b = a
  · subst c
    rw [upd_same] at z
    cases z
    exact exo_ok hx
  rw [upd_ne c] at z
  by_cases c2 : b = dx
  · subst c2
    rw [upd_same] at z
    cases z
    exact exd_ok hn (relO_put (fs := []) ry fun _ => True.intro)
  rw [upd_ne c2] at z
  refine (I.hok b o z).stay (fun b2 v hc k => kept b2 v ?_ k) (fun b2 hc => stays hc fun d => exo_own.symm) (fun b2 xs hc => stays hc fun d => exo_tup.symm)
  rcases hc with rfl | hc
  · exact c
  · exact at_ne e hc exo_own
/-- B.__init__(self, ..) -/
theorem own_start {us : List Value} {Q : Value → Shared → Prop} (T : OvC X.K C B newId initId bm) (I : Inv X pins σ H s) (e : H a = some (exo a C none)) (few : us.length ≤ sizeLine) (back : ∀ s1, Inv X pins σ H s1 → Q .none s1) :
    wpAny (model X.prog X.w) A (call (.builtin initId) (.ref a :: us)) Q E s := by
  obtain ⟨nm, qn, N, bs, rest, sn, sub, ab, col, dd, a0, a1, a2, a3, a5, look, has, _⟩ := T.cls
  obtain ⟨tt, here⟩ := exo_at I.hok e
  cases s with
  | mk h0 g0 d0 t0 o0 =>
  refine wpAny_call (PySem.HandSPX.init_base T.facts has (I.kIn _ _ look) here few ?_)
  intro h1 t1 kept hx
  have J := I.write (t' := t0) (x := a) (e := a) (o := exo a C none) (by rw [e]; exact True.intro) (.inl rfl) kept ⟨_, hx⟩ (exo_ok hx)
  rw [upd_back e] at J
  exact back _ J
end
theorem ty_IndexError : typeOf (.type "IndexError") = pure (.type "type") := by kernel_rfl
theorem ty_RuntimeError : typeOf (.type "RuntimeError") = pure (.type "type") := by kernel_rfl
theorem ty_OverflowError : typeOf (.type "OverflowError") = pure (.type "type") := by kernel_rfl
theorem boot_RuntimeError : bootBuiltins "RuntimeError" = some (.type "RuntimeError") := by decide +kernel
/-- B.__init__(self, ..), B a class of Python's -/
def tBase (K : PySem.W.Frag) (B initId : String) (ta : TA) : TE := fun σ H Q => ta σ H fun vs H1 => ∃ (a C : Addr) (ws : List V), vs = .ref a :: ws ∧ ws.length ≤ 1000 ∧ (∃ newId bm, OvC K C B newId initId bm) ∧ H1 a = some (exo a C none) ∧ Q .non H1
/-- self.f = e, the first of an exception -/
def tPut (K : PySem.W.Frag) (f : Str) (to te : TE) : TS := fun D σ H => te σ H fun y H1 => to σ H1 fun x H2 => ∃ a C : Addr, x = .ref a ∧ (∃ B newId initId bm, OvC K C B newId initId bm) ∧ PySem.W.findIn K (.ref C) f = some none ∧
  H2 a = some (exo a C none) ∧ ∀ dx, H2 dx = none → dx ≠ a → D.nx σ (upd (upd H2 dx (exd dx [(f, y)])) a (exo a C (some dx)))
section
variable {X : Cx} {B newId initId : String} {bm : List Value} {e o : Expr} {es : List Expr} {ta : TA} {to te : TE} {f : Str} {p p' p1 p2 pos : Pos}
theorem pe_base {pl : Sem Bool} (ty : typeOf (.type B) = pure (.type "type")) (boot : bootBuiltins (Str.ofString B) = some (.type B)) (hg : Gl X (Str.ofString B)) (hm : X.mg (Str.ofString B) = none)
    (vI : PySem.W.findCls X.K (.type B) (.type "type") "__init__" = some (.val (.builtin initId))) (ha : PA X (e :: es) ta) (n1 : Str.ofString B ≠ "__name__") (n2 : (Str.ofString B == ("__debug__" : Str)) = false) (st : Manifest.isStub B = false) (hh : PySem.W.handedIn (.builtin initId) = true)
    (call : eval (.Call (.Attribute (.Name (Str.ofString B) p1) "__init__" p2) (e :: es) [] pos) X.env = (do
      let ov ← eval (.Name (Str.ofString B) p1) X.env
      standAt p2.atName
      let (f, first) ← holding [ov] (getMethod ov "__init__" pl)
      callWith pos f first (backTo pos (starEach (e :: es) X.env)) (backToKw pos (keywordEach [] X.env))) := by rfl)
    (each : starEach (e :: es) X.env = (false, eval e X.env) :: starEach es X.env := by rfl) (plain : (backTo pos (starEach es X.env)).any (·.1) = false := by rfl) :
    PE X (.Call (.Attribute (.Name (Str.ofString B) p1) "__init__" p2) (e :: es) [] pos) (tBase X.K B initId ta) := by
  constructor
  intro pins s σ H Q I h
  refine PySem.W.methodCall_KW (ld_blt I hg hm boot ?_ n1 n2) call
  obtain ⟨m, fr⟩ := I.fr
  refine PySem.W.method_type fr I.ok.mod.kin ty st vI hh ?_
  show wpAny _ _ (callWith pos (Value.builtin initId) [] (backTo pos (starEach (e :: es) X.env)) []) _ _ _
  refine PyProof.Rows.callWith_method1 (thn (ha.run pos pins _ σ H _ (I.tok _) h) ?_) each plain
  rintro us s1 ⟨vs, H1, I1, r1, a, C, ws, ev, few, ⟨newId, bm, T⟩, ea, q⟩
  subst ev
  cases r1 with
  | @cons _ u0 _ ur ra rr =>
    cases (show u0 = Value.ref a from ra)
    refine own_start T I1 ea ?_ fun s2 J => ⟨.non, H1, J, rfl, q⟩
    rw [← Paired.length rr]
    exact Nat.le_of_lt (small1000 few)
theorem ps_put (ho : PE X o to) (he : PE X e te) (hs : swapsWith e (some (.Attribute o f p')) pos.line X.env = pure false := by rfl) : PS X (.Assign [.Attribute o f p'] e pos) (tPut X.K f to te) := by
  constructor
  intro pins s σ H D I h
  refine plainObj_wpAny_Assign_Attribute (thn (he.run pins s σ H _ I h) ?_) hs
  rintro v s1 ⟨y, H1, I1, r1, q1⟩
  refine thn (ho.run pins s1 σ H1 _ I1 q1) ?_
  rintro u s2 ⟨x, H2, I2, r2, a, C, rfl, ⟨_, _, _, _, T⟩, no, ea, q⟩
  cases (show u = Value.ref a from r2)
  exact own_put T I2 ea no r1 fun dx s3 n ne J => ⟨σ, _, J, q dx n ne⟩
/-- C(e, ..) of such a class, for a raise -/
theorem pmk_own {CX : CXT} {x : Str} {C fI : Addr} {k : Nat} {fd : FuncData} {ps : List Str} {sp : Sp} {ds : List Value} {dvs : List V} (T : OvC X.K C B newId initId bm) (iC : PySem.W.findIn X.K (.ref C) "__init__" = some (some (.ref fI))) (tI : PySem.W.typeIn X.K (.ref fI) = some (.type "function"))
    (F1 : FnOk X.prog X.w X.K X.mg X.base CX k fI fd ps sp) (hr : Room (k + 1) X.A)
    (hb : Binds X.K fd ps ds) (hd : Vals dvs ds) (hx : Passes CX X (fun _ _ _ => False)) (hg : Gl X x)
    (hm : X.mg x = some (.ref C)) (ha : PA X (e :: es) ta)
    (ndb : (x == ("__debug__" : Str)) = false := by decide) (each : starEach (e :: es) X.env = (false, eval e X.env) :: starEach es X.env := by rfl) (plain : (backTo pos (starEach es X.env)).any (·.1) = false := by rfl) :
    PMk X (.Call (.Name x p) (e :: es) [] pos) (tMkO C sp dvs ta) := by
  intro pins s σ H Q I h
  obtain ⟨nm, qn, N, bs, rest, sn, sub, ab, col, dd, a0, a1, a2, a3, a5, look, has, _⟩ := T.cls
  refine wpAny_Call_Name_kw (ld_glob I hg hm ?_ ndb)
  refine PySem.W.callWith_K (h₀ := X.base) I.ok.mod.kin T.stays (thn (ha.run pos pins s σ H _ I h) ?_) each plain
  rintro us s1 ⟨vs, H1, I1, r1, few, q1⟩
  refine ⟨I1.kIn, ?_⟩
  show wpAny _ _ (call (.ref C) us) _ _ _
  cases s1 with
  | mk h1 g1 d1 t1 o1 =>
  have le1 : h1.objs.size ≤ h1.objs.size + 1 := Nat.le_add_right _ 1
  obtain ⟨a, ea⟩ : ∃ a, h1.objs.size + 1 = a := ⟨_, rfl⟩
  have na : H1 a = none := by rw [← ea]; exact I1.hok.fresh le1
  have spa := q1 a na
  obtain ⟨hN, eN⟩ : ∃ hN, (h1.push (PySem.W.kdv_tup us)).push (PySem.HandSPX.excO C h1.objs.size) = hN := ⟨_, rfl⟩
  have grow : ∀ b o, h1.get? b = some o → hN.get? b = some o := fun b o z => by
    rw [← eN]
    exact Heap.get?_push_of_some _ (Heap.get?_push_of_some _ z)
  have there : hN.get? a = some (PySem.HandSPX.excO C h1.objs.size) := by
    rw [← eN, ← ea]
    heap_get
  have I2 : Inv X pins σ (upd H1 a (exo a C none)) ⟨hN, g1, d1, t1, o1⟩ := I1.laid (t' := t1) (a := a) (o := exo a C none) (h' := hN) grow (by rw [← ea]; exact le1) (exo_ok there)
  have rel : Vals (V.ref a :: (vs ++ dvs)) (Value.ref a :: (us ++ ds)) := .cons rfl (r1.append hd)
  have len : (Value.ref a :: us ++ ds).length = ps.length := (rel.length.symm.trans (F1.len _ _ _ _ spa))
  have fewU : us.length ≤ sizeLine := by
    rw [← Paired.length r1]
    exact Nat.le_of_lt (small1000 few)
  refine wpAny_call (PySem.HandSPX.call_own T.facts has (I1.kIn _ _ look) (PySem.W.looks_findIn I1.kIn iC) (fun self => PySem.W.bind_fn I1.kIn self tI) fewU ?_)
  rw [ea, eN]
  refine codeAny_mono (F1.run _ X.stack _ _ ⟨Value.ref a :: us, []⟩ (Value.ref a :: (us ++ ds)) _ _ (fun _ _ _ => False) (hr.make C us []) (I2.env0.make C us []) (hb _ (Value.ref a :: us) I2.kIn len) rel spa) ?_
  intro r s2 back
  cases r with
  | error er => exact hx pins σ _ _ er s2 I2 back
  | ok fl =>
    cases fl with
    | ret u =>
      obtain ⟨v, H2, os2, bare2, un2, hok2, rv, ev, d, fs, e1, e2, e3, q2⟩ := back
      subst ev
      cases s2 with
      | mk h2 g2 d2 t2 o2 => exact ⟨rv, mk_end (raises_own T.isExc T.itsType) I1 (by rw [← ea]; exact le1) grow un2 hok2 os2 bare2 e1 e2 e3 q2⟩
    | _ => exact False.elim back
end
/-- such an exception's own __init__, that keeps one thing -/
def spInitO (C : Addr) (f : Str) : Sp := spInitF C f
end Lh

namespace Lh
open PySem PySem.Spec PyProof.Rows L2
def topS (i : Nat) : Stmt := PySem.Challenge.pw_lesserhall_k37_lines_and_rings.main.body.getD i (.Pass ⟨0, 0, 0, 0⟩)
abbrev s__wall : Stmt := topS 0
abbrev n__wall : List Str := ["k"]
abbrev p__wall : List Str := ["k"]
theorem sc__wall : FnScope n__wall p__wall (defScope s__wall) := ⟨rfl, rfl, rfl, by decide +kernel, rfl, by decide +kernel, by decide +kernel⟩
abbrev s_NoRest_init : Stmt := inClass (topS 4) 0
abbrev n_NoRest_init : List Str := ["self", "number"]
abbrev p_NoRest_init : List Str := ["self", "number"]
theorem sc_NoRest_init : FnScope n_NoRest_init p_NoRest_init (defScope s_NoRest_init) := ⟨rfl, rfl, rfl, by decide +kernel, rfl, by decide +kernel, by decide +kernel⟩
abbrev s_is_number : Stmt := topS 6
abbrev n_is_number : List Str := ["thing"]
abbrev p_is_number : List Str := ["thing"]
theorem sc_is_number : FnScope n_is_number p_is_number (defScope s_is_number) := ⟨rfl, rfl, rfl, by decide +kernel, rfl, by decide +kernel, by decide +kernel⟩
abbrev s_is_person : Stmt := topS 7
abbrev n_is_person : List Str := ["many", "thing"]
abbrev p_is_person : List Str := ["many", "thing"]
theorem sc_is_person : FnScope n_is_person p_is_person (defScope s_is_person) := ⟨rfl, rfl, rfl, by decide +kernel, rfl, by decide +kernel, by decide +kernel⟩
abbrev s_are_persons : Stmt := topS 8
abbrev n_are_persons : List Str := ["many", "thing", "one"]
abbrev p_are_persons : List Str := ["many", "thing"]
theorem sc_are_persons : FnScope n_are_persons p_are_persons (defScope s_are_persons) := ⟨rfl, rfl, rfl, by decide +kernel, rfl, by decide +kernel, by decide +kernel⟩
abbrev s_rises : Stmt := topS 9
abbrev n_rises : List Str := ["things", "one", "other"]
abbrev p_rises : List Str := ["things"]
theorem sc_rises : FnScope n_rises p_rises (defScope s_rises) := ⟨rfl, rfl, rfl, by decide +kernel, rfl, by decide +kernel, by decide +kernel⟩
abbrev s_is_rule : Stmt := topS 12
abbrev n_is_rule : List Str := ["many", "thing", "parts", "part", "piece"]
abbrev p_is_rule : List Str := ["many", "thing"]
theorem sc_is_rule : FnScope n_is_rule p_is_rule (defScope s_is_rule) := ⟨rfl, rfl, rfl, by decide +kernel, rfl, by decide +kernel, by decide +kernel⟩
abbrev s_is_part : Stmt := topS 13
abbrev n_is_part : List Str := ["many", "part", "thing"]
abbrev p_is_part : List Str := ["many", "part", "thing"]
theorem sc_is_part : FnScope n_is_part p_is_part (defScope s_is_part) := ⟨rfl, rfl, rfl, by decide +kernel, rfl, by decide +kernel, by decide +kernel⟩
abbrev s_are_ties : Stmt := topS 14
abbrev n_are_ties : List Str := ["many", "thing", "one", "person", "weight"]
abbrev p_are_ties : List Str := ["many", "thing"]
theorem sc_are_ties : FnScope n_are_ties p_are_ties (defScope s_are_ties) := ⟨rfl, rfl, rfl, by decide +kernel, rfl, by decide +kernel, by decide +kernel⟩
abbrev s_is_tie : Stmt := topS 15
abbrev n_is_tie : List Str := ["many", "thing"]
abbrev p_is_tie : List Str := ["many", "thing"]
theorem sc_is_tie : FnScope n_is_tie p_is_tie (defScope s_is_tie) := ⟨rfl, rfl, rfl, by decide +kernel, rfl, by decide +kernel, by decide +kernel⟩
abbrev s_seen_by : Stmt := topS 16
abbrev n_seen_by : List Str := ["rule", "word", "person", "weight"]
abbrev p_seen_by : List Str := ["rule"]
theorem sc_seen_by : FnScope n_seen_by p_seen_by (defScope s_seen_by) := ⟨rfl, rfl, rfl, by decide +kernel, rfl, by decide +kernel, by decide +kernel⟩
abbrev s_Hall_init : Stmt := inClass (topS 18) 0
abbrev n_Hall_init : List Str := ["self", "rules", "person", "rule"]
abbrev p_Hall_init : List Str := ["self", "rules"]
theorem sc_Hall_init : FnScope n_Hall_init p_Hall_init (defScope s_Hall_init) := ⟨rfl, rfl, rfl, by decide +kernel, rfl, by decide +kernel, by decide +kernel⟩
abbrev s_Hall_must_have : Stmt := inClass (topS 18) 1
abbrev n_Hall_must_have : List Str := ["self", "person"]
abbrev p_Hall_must_have : List Str := ["self", "person"]
theorem sc_Hall_must_have : FnScope n_Hall_must_have p_Hall_must_have (defScope s_Hall_must_have) := ⟨rfl, rfl, rfl, by decide +kernel, rfl, by decide +kernel, by decide +kernel⟩
abbrev s_Hall_rules : Stmt := inClass (topS 18) 2
abbrev n_Hall_rules : List Str := ["self"]
abbrev p_Hall_rules : List Str := ["self"]
theorem sc_Hall_rules : FnScope n_Hall_rules p_Hall_rules (defScope s_Hall_rules) := ⟨rfl, rfl, rfl, by decide +kernel, rfl, by decide +kernel, by decide +kernel⟩
abbrev s_Hall_rule : Stmt := inClass (topS 18) 3
abbrev n_Hall_rule : List Str := ["self", "person"]
abbrev p_Hall_rule : List Str := ["self", "person"]
theorem sc_Hall_rule : FnScope n_Hall_rule p_Hall_rule (defScope s_Hall_rule) := ⟨rfl, rfl, rfl, by decide +kernel, rfl, by decide +kernel, by decide +kernel⟩
abbrev s_Hall_sees : Stmt := inClass (topS 18) 4
abbrev n_Hall_sees : List Str := ["self", "person"]
abbrev p_Hall_sees : List Str := ["self", "person"]
theorem sc_Hall_sees : FnScope n_Hall_sees p_Hall_sees (defScope s_Hall_sees) := ⟨rfl, rfl, rfl, by decide +kernel, rfl, by decide +kernel, by decide +kernel⟩
abbrev s_Hall_seers : Stmt := inClass (topS 18) 5
abbrev n_Hall_seers : List Str := ["self", "person"]
abbrev p_Hall_seers : List Str := ["self", "person"]
theorem sc_Hall_seers : FnScope n_Hall_seers p_Hall_seers (defScope s_Hall_seers) := ⟨rfl, rfl, rfl, by decide +kernel, rfl, by decide +kernel, by decide +kernel⟩
abbrev s_Hall_eq : Stmt := inClass (topS 18) 6
abbrev n_Hall_eq : List Str := ["self", "other"]
abbrev p_Hall_eq : List Str := ["self", "other"]
theorem sc_Hall_eq : FnScope n_Hall_eq p_Hall_eq (defScope s_Hall_eq) := ⟨rfl, rfl, rfl, by decide +kernel, rfl, by decide +kernel, by decide +kernel⟩
abbrev s_Hall_len : Stmt := inClass (topS 18) 7
abbrev n_Hall_len : List Str := ["self"]
abbrev p_Hall_len : List Str := ["self"]
theorem sc_Hall_len : FnScope n_Hall_len p_Hall_len (defScope s_Hall_len) := ⟨rfl, rfl, rfl, by decide +kernel, rfl, by decide +kernel, by decide +kernel⟩
abbrev s_Hall_repr : Stmt := inClass (topS 18) 8
abbrev n_Hall_repr : List Str := ["self"]
abbrev p_Hall_repr : List Str := ["self"]
theorem sc_Hall_repr : FnScope n_Hall_repr p_Hall_repr (defScope s_Hall_repr) := ⟨rfl, rfl, rfl, by decide +kernel, rfl, by decide +kernel, by decide +kernel⟩
abbrev s_line_hall : Stmt := topS 20
abbrev n_line_hall : List Str := ["many", "ring", "ties", "person", "one"]
abbrev p_line_hall : List Str := ["many", "ring"]
theorem sc_line_hall : FnScope n_line_hall p_line_hall (defScope s_line_hall) := ⟨rfl, rfl, rfl, by decide +kernel, rfl, by decide +kernel, by decide +kernel⟩
abbrev s_ways_of : Stmt := topS 21
abbrev n_ways_of : List Str := ["many", "lower", "ways", "step"]
abbrev p_ways_of : List Str := ["many"]
theorem sc_ways_of : FnScope n_ways_of p_ways_of (defScope s_ways_of) := ⟨rfl, rfl, rfl, by decide +kernel, rfl, by decide +kernel, by decide +kernel⟩
abbrev s_line_counts : Stmt := topS 22
abbrev n_line_counts : List Str := ["many", "ring"]
abbrev p_line_counts : List Str := ["many", "ring"]
theorem sc_line_counts : FnScope n_line_counts p_line_counts (defScope s_line_counts) := ⟨rfl, rfl, rfl, by decide +kernel, rfl, by decide +kernel, by decide +kernel⟩
abbrev s_ways_behind : Stmt := topS 23
abbrev n_ways_behind : List Str := ["left", "shown", "ring"]
abbrev p_ways_behind : List Str := ["left", "shown", "ring"]
theorem sc_ways_behind : FnScope n_ways_behind p_ways_behind (defScope s_ways_behind) := ⟨rfl, rfl, rfl, by decide +kernel, rfl, by decide +kernel, by decide +kernel⟩
abbrev s_line_rest : Stmt := topS 24
abbrev n_line_rest : List Str := ["many", "number", "ring", "rest", "left", "ways"]
abbrev p_line_rest : List Str := ["many", "number", "ring"]
theorem sc_line_rest : FnScope n_line_rest p_line_rest (defScope s_line_rest) := ⟨rfl, rfl, rfl, by decide +kernel, rfl, by decide +kernel, by decide +kernel⟩
abbrev s_line_number : Stmt := topS 25
abbrev n_line_number : List Str := ["rest", "ring", "number", "person", "shown"]
abbrev p_line_number : List Str := ["rest", "ring"]
theorem sc_line_number : FnScope n_line_number p_line_number (defScope s_line_number) := ⟨rfl, rfl, rfl, by decide +kernel, rfl, by decide +kernel, by decide +kernel⟩
abbrev s_dip : Stmt := topS 27
abbrev n_dip : List Str := ["_law_script", "_law_k", "_law_cell"]
abbrev p_dip : List Str := ["_law_script", "_law_k"]
theorem sc_dip : FnScope n_dip p_dip (defScope s_dip) := ⟨rfl, rfl, rfl, by decide +kernel, rfl, by decide +kernel, by decide +kernel⟩
abbrev s_take : Stmt := topS 28
abbrev n_take : List Str := ["_law_box", "_law_many", "_law_found", "_law_once", "_law_pair"]
abbrev p_take : List Str := ["_law_box", "_law_many"]
theorem sc_take : FnScope n_take p_take (defScope s_take) := ⟨rfl, rfl, rfl, by decide +kernel, rfl, by decide +kernel, by decide +kernel⟩
abbrev s_folded : Stmt := topS 29
abbrev n_folded : List Str := ["_law_script", "_law_many", "_law_cells", "_law_k", "_law_cell"]
abbrev p_folded : List Str := ["_law_script", "_law_many"]
theorem sc_folded : FnScope n_folded p_folded (defScope s_folded) := ⟨rfl, rfl, rfl, by decide +kernel, rfl, by decide +kernel, by decide +kernel⟩
abbrev s_same : Stmt := topS 30
abbrev n_same : List Str := ["_law_found", "_law_due", "_law_one", "_law_two"]
abbrev p_same : List Str := ["_law_found", "_law_due"]
theorem sc_same : FnScope n_same p_same (defScope s_same) := ⟨rfl, rfl, rfl, by decide +kernel, rfl, by decide +kernel, by decide +kernel⟩
abbrev s_seen : Stmt := topS 31
abbrev n_seen : List Str := ["_law_rule", "_law_one"]
abbrev p_seen : List Str := ["_law_rule"]
theorem sc_seen : FnScope n_seen p_seen (defScope s_seen) := ⟨rfl, rfl, rfl, by decide +kernel, rfl, by decide +kernel, by decide +kernel⟩
abbrev s_lot : Stmt := topS 32
abbrev n_lot : List Str := ["_law_rules", "_law_shown", "_law_one", "_law_other", "_law_weight"]
abbrev p_lot : List Str := ["_law_rules", "_law_shown", "_law_one"]
theorem sc_lot : FnScope n_lot p_lot (defScope s_lot) := ⟨rfl, rfl, rfl, by decide +kernel, rfl, by decide +kernel, by decide +kernel⟩
abbrev s_tells : Stmt := topS 33
abbrev n_tells : List Str := ["_law_rule", "_law_lot_here", "_law_word", "_law_numbers", "_law_other", "_law_number", "_law_k", "_law_weights", "_law_there", "_law_total"]
abbrev p_tells : List Str := ["_law_rule", "_law_lot_here"]
theorem sc_tells : FnScope n_tells p_tells (defScope s_tells) := ⟨rfl, rfl, rfl, by decide +kernel, rfl, by decide +kernel, by decide +kernel⟩
abbrev s_turned : Stmt := topS 34
abbrev n_turned : List Str := ["_law_rules", "_law_shown", "_law_persons", "_law_told", "_law_one", "_law_number"]
abbrev p_turned : List Str := ["_law_rules", "_law_shown", "_law_persons"]
theorem sc_turned : FnScope n_turned p_turned (defScope s_turned) := ⟨rfl, rfl, rfl, by decide +kernel, rfl, by decide +kernel, by decide +kernel⟩
abbrev s_restless : Stmt := topS 35
abbrev n_restless : List Str := ["_law_rules", "_law_shown", "_law_later", "_law_one", "_law_number"]
abbrev p_restless : List Str := ["_law_rules", "_law_shown"]
theorem sc_restless : FnScope n_restless p_restless (defScope s_restless) := ⟨rfl, rfl, rfl, by decide +kernel, rfl, by decide +kernel, by decide +kernel⟩
abbrev s_bits : Stmt := topS 36
abbrev n_bits : List Str := ["_law_many", "_law_found", "_law_turn", "_law_longer", "_law_row"]
abbrev p_bits : List Str := ["_law_many"]
theorem sc_bits : FnScope n_bits p_bits (defScope s_bits) := ⟨rfl, rfl, rfl, by decide +kernel, rfl, by decide +kernel, by decide +kernel⟩
abbrev s_next_rules : Stmt := topS 37
abbrev n_next_rules : List Str := ["_law_many", "_law_is_ring", "_law_rules", "_law_one"]
abbrev p_next_rules : List Str := ["_law_many", "_law_is_ring"]
theorem sc_next_rules : FnScope n_next_rules p_next_rules (defScope s_next_rules) := ⟨rfl, rfl, rfl, by decide +kernel, rfl, by decide +kernel, by decide +kernel⟩
abbrev s_refused : Stmt := topS 38
abbrev n_refused : List Str := ["_law_many", "_law_number", "_law_is_ring", "_law_caught", "error"]
abbrev p_refused : List Str := ["_law_many", "_law_number", "_law_is_ring"]
theorem sc_refused : FnScope n_refused p_refused (defScope s_refused) := ⟨rfl, rfl, rfl, by decide +kernel, rfl, by decide +kernel, by decide +kernel⟩
abbrev s_right : Stmt := topS 39
abbrev n_right : List Str := ["_law_box", "_law_is_ring", "_law_many", "_law_rules", "_law_due", "_law_row", "_law_told", "_law_k", "_law_far", "_law_plain"]
abbrev p_right : List Str := ["_law_box"]
theorem sc_right : FnScope n_right p_right (defScope s_right) := ⟨rfl, rfl, rfl, by decide +kernel, rfl, by decide +kernel, by decide +kernel⟩
abbrev s_law : Stmt := topS 40
abbrev n_law : List Str := ["_law_script", "_law_cells", "_law_k"]
abbrev p_law : List Str := ["_law_script"]
theorem sc_law : FnScope n_law p_law (defScope s_law) := ⟨rfl, rfl, rfl, by decide +kernel, rfl, by decide +kernel, by decide +kernel⟩
structure FnT (K : PySem.W.Frag) (nm qual : Str) (st : Stmt) (ps : List Str) where
  f : Addr
  fd : FuncData
  F : Fun K nm qual st f fd
  b : Binds K fd ps []
structure FnKT (K : PySem.W.Frag) (nm qual : Str) (st : Stmt) (ps : List Str) (n : Nat) (kws : List (Str × V)) (ks : List Str) where
  f : Addr
  fd : FuncData
  F : FunD K nm qual (defArgs st) (defBody st) (defScope st) [] kws f fd
  b : ∃ ds, Vals (kws.map (·.2)) ds ∧ Binds K fd ps ds
  kb : KBn K fd ps n ks (fun us ws => us ++ ws) (fun vs zs => vs ++ zs)
structure Txt (K : PySem.W.Frag) (mg : Str → Option Value) (w : World) where
  t__wall : FnT K "_wall" "_wall" s__wall p__wall
  g__wall : mg "_wall" = some (.ref t__wall.f)
  t_NoRest_init : FnT K "__init__" "NoRest.__init__" s_NoRest_init p_NoRest_init
  t_is_number : FnT K "is_number" "is_number" s_is_number p_is_number
  g_is_number : mg "is_number" = some (.ref t_is_number.f)
  t_is_person : FnT K "is_person" "is_person" s_is_person p_is_person
  g_is_person : mg "is_person" = some (.ref t_is_person.f)
  t_are_persons : FnT K "are_persons" "are_persons" s_are_persons p_are_persons
  g_are_persons : mg "are_persons" = some (.ref t_are_persons.f)
  t_rises : FnT K "rises" "rises" s_rises p_rises
  g_rises : mg "rises" = some (.ref t_rises.f)
  t_is_rule : FnT K "is_rule" "is_rule" s_is_rule p_is_rule
  g_is_rule : mg "is_rule" = some (.ref t_is_rule.f)
  t_is_part : FnT K "is_part" "is_part" s_is_part p_is_part
  g_is_part : mg "is_part" = some (.ref t_is_part.f)
  t_are_ties : FnT K "are_ties" "are_ties" s_are_ties p_are_ties
  g_are_ties : mg "are_ties" = some (.ref t_are_ties.f)
  t_is_tie : FnT K "is_tie" "is_tie" s_is_tie p_is_tie
  g_is_tie : mg "is_tie" = some (.ref t_is_tie.f)
  t_seen_by : FnT K "seen_by" "seen_by" s_seen_by p_seen_by
  g_seen_by : mg "seen_by" = some (.ref t_seen_by.f)
  t_Hall_init : FnT K "__init__" "Hall.__init__" s_Hall_init p_Hall_init
  t_Hall_must_have : FnT K "must_have" "Hall.must_have" s_Hall_must_have p_Hall_must_have
  t_Hall_rules : FnT K "rules" "Hall.rules" s_Hall_rules p_Hall_rules
  t_Hall_rule : FnT K "rule" "Hall.rule" s_Hall_rule p_Hall_rule
  t_Hall_sees : FnT K "sees" "Hall.sees" s_Hall_sees p_Hall_sees
  t_Hall_seers : FnT K "seers" "Hall.seers" s_Hall_seers p_Hall_seers
  t_Hall_eq : FnT K "__eq__" "Hall.__eq__" s_Hall_eq p_Hall_eq
  t_Hall_len : FnT K "__len__" "Hall.__len__" s_Hall_len p_Hall_len
  t_Hall_repr : FnT K "__repr__" "Hall.__repr__" s_Hall_repr p_Hall_repr
  t_line_hall : FnKT K "line_hall" "line_hall" s_line_hall p_line_hall 1 [("ring", .bl false)] ["ring"]
  g_line_hall : mg "line_hall" = some (.ref t_line_hall.f)
  t_ways_of : FnT K "ways_of" "ways_of" s_ways_of p_ways_of
  g_ways_of : mg "ways_of" = some (.ref t_ways_of.f)
  t_line_counts : FnKT K "line_counts" "line_counts" s_line_counts p_line_counts 1 [("ring", .bl false)] ["ring"]
  g_line_counts : mg "line_counts" = some (.ref t_line_counts.f)
  t_ways_behind : FnT K "ways_behind" "ways_behind" s_ways_behind p_ways_behind
  g_ways_behind : mg "ways_behind" = some (.ref t_ways_behind.f)
  t_line_rest : FnKT K "line_rest" "line_rest" s_line_rest p_line_rest 2 [("ring", .bl false)] ["ring"]
  g_line_rest : mg "line_rest" = some (.ref t_line_rest.f)
  t_line_number : FnKT K "line_number" "line_number" s_line_number p_line_number 1 [("ring", .bl false)] ["ring"]
  g_line_number : mg "line_number" = some (.ref t_line_number.f)
  t_dip : FnT K "_law_dip" "_law_dip" s_dip p_dip
  g_dip : mg "_law_dip" = some (.ref t_dip.f)
  t_take : FnT K "_law_take" "_law_take" s_take p_take
  g_take : mg "_law_take" = some (.ref t_take.f)
  t_folded : FnT K "_law_folded" "_law_folded" s_folded p_folded
  g_folded : mg "_law_folded" = some (.ref t_folded.f)
  t_same : FnT K "_law_same" "_law_same" s_same p_same
  g_same : mg "_law_same" = some (.ref t_same.f)
  t_seen : FnT K "_law_seen" "_law_seen" s_seen p_seen
  g_seen : mg "_law_seen" = some (.ref t_seen.f)
  t_lot : FnT K "_law_lot" "_law_lot" s_lot p_lot
  g_lot : mg "_law_lot" = some (.ref t_lot.f)
  t_tells : FnT K "_law_tells" "_law_tells" s_tells p_tells
  g_tells : mg "_law_tells" = some (.ref t_tells.f)
  t_turned : FnT K "_law_turned" "_law_turned" s_turned p_turned
  g_turned : mg "_law_turned" = some (.ref t_turned.f)
  t_restless : FnT K "_law_restless" "_law_restless" s_restless p_restless
  g_restless : mg "_law_restless" = some (.ref t_restless.f)
  t_bits : FnT K "_law_bits" "_law_bits" s_bits p_bits
  g_bits : mg "_law_bits" = some (.ref t_bits.f)
  t_next_rules : FnT K "_law_next_rules" "_law_next_rules" s_next_rules p_next_rules
  g_next_rules : mg "_law_next_rules" = some (.ref t_next_rules.f)
  t_refused : FnT K "_law_refused" "_law_refused" s_refused p_refused
  g_refused : mg "_law_refused" = some (.ref t_refused.f)
  t_right : FnT K "_law_right" "_law_right" s_right p_right
  g_right : mg "_law_right" = some (.ref t_right.f)
  t_law : FnT K "law" "law" s_law p_law
  g_law : mg "law" = some (.ref t_law.f)
  C_Hall : Addr
  g_Hall : mg "Hall" = some (.ref C_Hall)
  cl_Hall : Cls K C_Hall
  mk_Hall : Mk K C_Hall t_Hall_init.f
  me_Hall_init : Meth K C_Hall "__init__" t_Hall_init.f
  me_Hall_must_have : Meth K C_Hall "must_have" t_Hall_must_have.f
  me_Hall_rules : Meth K C_Hall "rules" t_Hall_rules.f
  me_Hall_rule : Meth K C_Hall "rule" t_Hall_rule.f
  me_Hall_sees : Meth K C_Hall "sees" t_Hall_sees.f
  me_Hall_seers : Meth K C_Hall "seers" t_Hall_seers.f
  me_Hall_eq : Meth K C_Hall "__eq__" t_Hall_eq.f
  me_Hall_len : Meth K C_Hall "__len__" t_Hall_len.f
  me_Hall_repr : Meth K C_Hall "__repr__" t_Hall_repr.f
  na_Hall_kept : NoAttr K C_Hall "kept"
  C_BadHall : Addr
  g_BadHall : mg "BadHall" = some (.ref C_BadHall)
  C_NoPerson : Addr
  g_NoPerson : mg "NoPerson" = some (.ref C_NoPerson)
  C_NoRest : Addr
  g_NoRest : mg "NoRest" = some (.ref C_NoRest)
  ox_NoRest : OvC K C_NoRest "IndexError" "IndexError.__new__" "IndexError.__init__" [.type "IndexError", .type "LookupError", .type "Exception", .type "BaseException", .type "object"]
  me_NoRest_init : Meth K C_NoRest "__init__" t_NoRest_init.f
  ti_NoRest : PySem.W.typeIn K (.ref t_NoRest_init.f) = some (.type "function")
  na_NoRest_number : PySem.W.findIn K (.ref C_NoRest) "number" = some none
  xf_NoRest : XfC K C_NoRest
  xc_NoRest : ExcC K C_NoRest
  em_NoRest_NoRest : PySem.W.exmOne K (.ref C_NoRest) (.ref C_NoRest) = some true
  ki_NoRest_NoPerson : PySem.W.kitOne K (.ref C_NoRest) (.ref C_NoPerson) = some false
  ki_NoRest_NoRest : PySem.W.kitOne K (.ref C_NoRest) (.ref C_NoRest) = some true
  ki_NoRest_IndexError : PySem.W.kitOne K (.ref C_NoRest) (.type "IndexError") = some true
  vi_IndexError : PySem.W.findCls K (.type "IndexError") (.type "type") "__init__" = some (.val (.builtin "IndexError.__init__"))
  D_PARTS : Addr
  g_PARTS : mg "PARTS" = some (.ref D_PARTS)
  es_PARTS : Array DictEntry
  en_PARTS : Nat
  kd_PARTS : KDict K w D_PARTS es_PARTS en_PARTS
  t_PARTS_held : Addr
  dk_PARTS_held : PySem.W.nsIn K D_PARTS "held" = some (some (.ref t_PARTS_held))
  sq_PARTS_held : ∀ H, SqT K H t_PARTS_held [.str "number"]
  t_PARTS_sum : Addr
  dk_PARTS_sum : PySem.W.nsIn K D_PARTS "sum" = some (some (.ref t_PARTS_sum))
  sq_PARTS_sum : ∀ H, SqT K H t_PARTS_sum [.str "number", .str "ties"]
  t_PARTS_cap : Addr
  dk_PARTS_cap : PySem.W.nsIn K D_PARTS "cap" = some (some (.ref t_PARTS_cap))
  sq_PARTS_cap : ∀ H, SqT K H t_PARTS_cap [.str "number", .str "ties", .str "number"]
  t_PARTS_kinds : Addr
  dk_PARTS_kinds : PySem.W.nsIn K D_PARTS "kinds" = some (some (.ref t_PARTS_kinds))
  sq_PARTS_kinds : ∀ H, SqT K H t_PARTS_kinds [.str "number", .str "seen"]
  t_PARTS_next : Addr
  dk_PARTS_next : PySem.W.nsIn K D_PARTS "next" = some (some (.ref t_PARTS_next))
  sq_PARTS_next : ∀ H, SqT K H t_PARTS_next [.str "seen"]
  t_PARTS_free : Addr
  dk_PARTS_free : PySem.W.nsIn K D_PARTS "free" = some (some (.ref t_PARTS_free))
  sq_PARTS_free : ∀ H, SqT K H t_PARTS_free [.str "seen"]
  m_IndexError : mg "IndexError" = none
  m_abs : mg "abs" = none
  m_all : mg "all" = none
  m_bool : mg "bool" = none
  m_dict : mg "dict" = none
  m_enumerate : mg "enumerate" = none
  m_int : mg "int" = none
  m_isinstance : mg "isinstance" = none
  m_len : mg "len" = none
  m_list : mg "list" = none
  m_max : mg "max" = none
  m_min : mg "min" = none
  m_range : mg "range" = none
  m_set : mg "set" = none
  m_sorted : mg "sorted" = none
  m_str : mg "str" = none
  m_sum : mg "sum" = none
  m_tuple : mg "tuple" = none
  m_zip : mg "zip" = none
abbrev Txt.f__wall {K : PySem.W.Frag} {mg : Str → Option Value} {w : World} (T : Txt K mg w) : Addr := T.t__wall.f
abbrev Txt.fd__wall {K : PySem.W.Frag} {mg : Str → Option Value} {w : World} (T : Txt K mg w) : FuncData := T.t__wall.fd
theorem Txt.F__wall {K : PySem.W.Frag} {mg : Str → Option Value} {w : World} (T : Txt K mg w) : Fun K "_wall" "_wall" s__wall T.f__wall T.fd__wall := T.t__wall.F
theorem Txt.b__wall {K : PySem.W.Frag} {mg : Str → Option Value} {w : World} (T : Txt K mg w) : Binds K T.fd__wall p__wall [] := T.t__wall.b
abbrev Txt.f_NoRest_init {K : PySem.W.Frag} {mg : Str → Option Value} {w : World} (T : Txt K mg w) : Addr := T.t_NoRest_init.f
abbrev Txt.fd_NoRest_init {K : PySem.W.Frag} {mg : Str → Option Value} {w : World} (T : Txt K mg w) : FuncData := T.t_NoRest_init.fd
theorem Txt.F_NoRest_init {K : PySem.W.Frag} {mg : Str → Option Value} {w : World} (T : Txt K mg w) : Fun K "__init__" "NoRest.__init__" s_NoRest_init T.f_NoRest_init T.fd_NoRest_init := T.t_NoRest_init.F
theorem Txt.b_NoRest_init {K : PySem.W.Frag} {mg : Str → Option Value} {w : World} (T : Txt K mg w) : Binds K T.fd_NoRest_init p_NoRest_init [] := T.t_NoRest_init.b
abbrev Txt.f_is_number {K : PySem.W.Frag} {mg : Str → Option Value} {w : World} (T : Txt K mg w) : Addr := T.t_is_number.f
abbrev Txt.fd_is_number {K : PySem.W.Frag} {mg : Str → Option Value} {w : World} (T : Txt K mg w) : FuncData := T.t_is_number.fd
theorem Txt.F_is_number {K : PySem.W.Frag} {mg : Str → Option Value} {w : World} (T : Txt K mg w) : Fun K "is_number" "is_number" s_is_number T.f_is_number T.fd_is_number := T.t_is_number.F
theorem Txt.b_is_number {K : PySem.W.Frag} {mg : Str → Option Value} {w : World} (T : Txt K mg w) : Binds K T.fd_is_number p_is_number [] := T.t_is_number.b
abbrev Txt.f_is_person {K : PySem.W.Frag} {mg : Str → Option Value} {w : World} (T : Txt K mg w) : Addr := T.t_is_person.f
abbrev Txt.fd_is_person {K : PySem.W.Frag} {mg : Str → Option Value} {w : World} (T : Txt K mg w) : FuncData := T.t_is_person.fd
theorem Txt.F_is_person {K : PySem.W.Frag} {mg : Str → Option Value} {w : World} (T : Txt K mg w) : Fun K "is_person" "is_person" s_is_person T.f_is_person T.fd_is_person := T.t_is_person.F
theorem Txt.b_is_person {K : PySem.W.Frag} {mg : Str → Option Value} {w : World} (T : Txt K mg w) : Binds K T.fd_is_person p_is_person [] := T.t_is_person.b
abbrev Txt.f_are_persons {K : PySem.W.Frag} {mg : Str → Option Value} {w : World} (T : Txt K mg w) : Addr := T.t_are_persons.f
abbrev Txt.fd_are_persons {K : PySem.W.Frag} {mg : Str → Option Value} {w : World} (T : Txt K mg w) : FuncData := T.t_are_persons.fd
theorem Txt.F_are_persons {K : PySem.W.Frag} {mg : Str → Option Value} {w : World} (T : Txt K mg w) : Fun K "are_persons" "are_persons" s_are_persons T.f_are_persons T.fd_are_persons := T.t_are_persons.F
theorem Txt.b_are_persons {K : PySem.W.Frag} {mg : Str → Option Value} {w : World} (T : Txt K mg w) : Binds K T.fd_are_persons p_are_persons [] := T.t_are_persons.b
abbrev Txt.f_rises {K : PySem.W.Frag} {mg : Str → Option Value} {w : World} (T : Txt K mg w) : Addr := T.t_rises.f
abbrev Txt.fd_rises {K : PySem.W.Frag} {mg : Str → Option Value} {w : World} (T : Txt K mg w) : FuncData := T.t_rises.fd
theorem Txt.F_rises {K : PySem.W.Frag} {mg : Str → Option Value} {w : World} (T : Txt K mg w) : Fun K "rises" "rises" s_rises T.f_rises T.fd_rises := T.t_rises.F
theorem Txt.b_rises {K : PySem.W.Frag} {mg : Str → Option Value} {w : World} (T : Txt K mg w) : Binds K T.fd_rises p_rises [] := T.t_rises.b
abbrev Txt.f_is_rule {K : PySem.W.Frag} {mg : Str → Option Value} {w : World} (T : Txt K mg w) : Addr := T.t_is_rule.f
abbrev Txt.fd_is_rule {K : PySem.W.Frag} {mg : Str → Option Value} {w : World} (T : Txt K mg w) : FuncData := T.t_is_rule.fd
theorem Txt.F_is_rule {K : PySem.W.Frag} {mg : Str → Option Value} {w : World} (T : Txt K mg w) : Fun K "is_rule" "is_rule" s_is_rule T.f_is_rule T.fd_is_rule := T.t_is_rule.F
theorem Txt.b_is_rule {K : PySem.W.Frag} {mg : Str → Option Value} {w : World} (T : Txt K mg w) : Binds K T.fd_is_rule p_is_rule [] := T.t_is_rule.b
abbrev Txt.f_is_part {K : PySem.W.Frag} {mg : Str → Option Value} {w : World} (T : Txt K mg w) : Addr := T.t_is_part.f
abbrev Txt.fd_is_part {K : PySem.W.Frag} {mg : Str → Option Value} {w : World} (T : Txt K mg w) : FuncData := T.t_is_part.fd
theorem Txt.F_is_part {K : PySem.W.Frag} {mg : Str → Option Value} {w : World} (T : Txt K mg w) : Fun K "is_part" "is_part" s_is_part T.f_is_part T.fd_is_part := T.t_is_part.F
theorem Txt.b_is_part {K : PySem.W.Frag} {mg : Str → Option Value} {w : World} (T : Txt K mg w) : Binds K T.fd_is_part p_is_part [] := T.t_is_part.b
abbrev Txt.f_are_ties {K : PySem.W.Frag} {mg : Str → Option Value} {w : World} (T : Txt K mg w) : Addr := T.t_are_ties.f
abbrev Txt.fd_are_ties {K : PySem.W.Frag} {mg : Str → Option Value} {w : World} (T : Txt K mg w) : FuncData := T.t_are_ties.fd
theorem Txt.F_are_ties {K : PySem.W.Frag} {mg : Str → Option Value} {w : World} (T : Txt K mg w) : Fun K "are_ties" "are_ties" s_are_ties T.f_are_ties T.fd_are_ties := T.t_are_ties.F
theorem Txt.b_are_ties {K : PySem.W.Frag} {mg : Str → Option Value} {w : World} (T : Txt K mg w) : Binds K T.fd_are_ties p_are_ties [] := T.t_are_ties.b
abbrev Txt.f_is_tie {K : PySem.W.Frag} {mg : Str → Option Value} {w : World} (T : Txt K mg w) : Addr := T.t_is_tie.f
abbrev Txt.fd_is_tie {K : PySem.W.Frag} {mg : Str → Option Value} {w : World} (T : Txt K mg w) : FuncData := T.t_is_tie.fd
theorem Txt.F_is_tie {K : PySem.W.Frag} {mg : Str → Option Value} {w : World} (T : Txt K mg w) : Fun K "is_tie" "is_tie" s_is_tie T.f_is_tie T.fd_is_tie := T.t_is_tie.F
theorem Txt.b_is_tie {K : PySem.W.Frag} {mg : Str → Option Value} {w : World} (T : Txt K mg w) : Binds K T.fd_is_tie p_is_tie [] := T.t_is_tie.b
abbrev Txt.f_seen_by {K : PySem.W.Frag} {mg : Str → Option Value} {w : World} (T : Txt K mg w) : Addr := T.t_seen_by.f
abbrev Txt.fd_seen_by {K : PySem.W.Frag} {mg : Str → Option Value} {w : World} (T : Txt K mg w) : FuncData := T.t_seen_by.fd
theorem Txt.F_seen_by {K : PySem.W.Frag} {mg : Str → Option Value} {w : World} (T : Txt K mg w) : Fun K "seen_by" "seen_by" s_seen_by T.f_seen_by T.fd_seen_by := T.t_seen_by.F
theorem Txt.b_seen_by {K : PySem.W.Frag} {mg : Str → Option Value} {w : World} (T : Txt K mg w) : Binds K T.fd_seen_by p_seen_by [] := T.t_seen_by.b
abbrev Txt.f_Hall_init {K : PySem.W.Frag} {mg : Str → Option Value} {w : World} (T : Txt K mg w) : Addr := T.t_Hall_init.f
abbrev Txt.fd_Hall_init {K : PySem.W.Frag} {mg : Str → Option Value} {w : World} (T : Txt K mg w) : FuncData := T.t_Hall_init.fd
theorem Txt.F_Hall_init {K : PySem.W.Frag} {mg : Str → Option Value} {w : World} (T : Txt K mg w) : Fun K "__init__" "Hall.__init__" s_Hall_init T.f_Hall_init T.fd_Hall_init := T.t_Hall_init.F
theorem Txt.b_Hall_init {K : PySem.W.Frag} {mg : Str → Option Value} {w : World} (T : Txt K mg w) : Binds K T.fd_Hall_init p_Hall_init [] := T.t_Hall_init.b
abbrev Txt.f_Hall_must_have {K : PySem.W.Frag} {mg : Str → Option Value} {w : World} (T : Txt K mg w) : Addr := T.t_Hall_must_have.f
abbrev Txt.fd_Hall_must_have {K : PySem.W.Frag} {mg : Str → Option Value} {w : World} (T : Txt K mg w) : FuncData := T.t_Hall_must_have.fd
theorem Txt.F_Hall_must_have {K : PySem.W.Frag} {mg : Str → Option Value} {w : World} (T : Txt K mg w) : Fun K "must_have" "Hall.must_have" s_Hall_must_have T.f_Hall_must_have T.fd_Hall_must_have := T.t_Hall_must_have.F
theorem Txt.b_Hall_must_have {K : PySem.W.Frag} {mg : Str → Option Value} {w : World} (T : Txt K mg w) : Binds K T.fd_Hall_must_have p_Hall_must_have [] := T.t_Hall_must_have.b
abbrev Txt.f_Hall_rules {K : PySem.W.Frag} {mg : Str → Option Value} {w : World} (T : Txt K mg w) : Addr := T.t_Hall_rules.f
abbrev Txt.fd_Hall_rules {K : PySem.W.Frag} {mg : Str → Option Value} {w : World} (T : Txt K mg w) : FuncData := T.t_Hall_rules.fd
theorem Txt.F_Hall_rules {K : PySem.W.Frag} {mg : Str → Option Value} {w : World} (T : Txt K mg w) : Fun K "rules" "Hall.rules" s_Hall_rules T.f_Hall_rules T.fd_Hall_rules := T.t_Hall_rules.F
theorem Txt.b_Hall_rules {K : PySem.W.Frag} {mg : Str → Option Value} {w : World} (T : Txt K mg w) : Binds K T.fd_Hall_rules p_Hall_rules [] := T.t_Hall_rules.b
abbrev Txt.f_Hall_rule {K : PySem.W.Frag} {mg : Str → Option Value} {w : World} (T : Txt K mg w) : Addr := T.t_Hall_rule.f
abbrev Txt.fd_Hall_rule {K : PySem.W.Frag} {mg : Str → Option Value} {w : World} (T : Txt K mg w) : FuncData := T.t_Hall_rule.fd
theorem Txt.F_Hall_rule {K : PySem.W.Frag} {mg : Str → Option Value} {w : World} (T : Txt K mg w) : Fun K "rule" "Hall.rule" s_Hall_rule T.f_Hall_rule T.fd_Hall_rule := T.t_Hall_rule.F
theorem Txt.b_Hall_rule {K : PySem.W.Frag} {mg : Str → Option Value} {w : World} (T : Txt K mg w) : Binds K T.fd_Hall_rule p_Hall_rule [] := T.t_Hall_rule.b
abbrev Txt.f_Hall_sees {K : PySem.W.Frag} {mg : Str → Option Value} {w : World} (T : Txt K mg w) : Addr := T.t_Hall_sees.f
abbrev Txt.fd_Hall_sees {K : PySem.W.Frag} {mg : Str → Option Value} {w : World} (T : Txt K mg w) : FuncData := T.t_Hall_sees.fd
theorem Txt.F_Hall_sees {K : PySem.W.Frag} {mg : Str → Option Value} {w : World} (T : Txt K mg w) : Fun K "sees" "Hall.sees" s_Hall_sees T.f_Hall_sees T.fd_Hall_sees := T.t_Hall_sees.F
theorem Txt.b_Hall_sees {K : PySem.W.Frag} {mg : Str → Option Value} {w : World} (T : Txt K mg w) : Binds K T.fd_Hall_sees p_Hall_sees [] := T.t_Hall_sees.b
abbrev Txt.f_Hall_seers {K : PySem.W.Frag} {mg : Str → Option Value} {w : World} (T : Txt K mg w) : Addr := T.t_Hall_seers.f
abbrev Txt.fd_Hall_seers {K : PySem.W.Frag} {mg : Str → Option Value} {w : World} (T : Txt K mg w) : FuncData := T.t_Hall_seers.fd
theorem Txt.F_Hall_seers {K : PySem.W.Frag} {mg : Str → Option Value} {w : World} (T : Txt K mg w) : Fun K "seers" "Hall.seers" s_Hall_seers T.f_Hall_seers T.fd_Hall_seers := T.t_Hall_seers.F
theorem Txt.b_Hall_seers {K : PySem.W.Frag} {mg : Str → Option Value} {w : World} (T : Txt K mg w) : Binds K T.fd_Hall_seers p_Hall_seers [] := T.t_Hall_seers.b
abbrev Txt.f_Hall_eq {K : PySem.W.Frag} {mg : Str → Option Value} {w : World} (T : Txt K mg w) : Addr := T.t_Hall_eq.f
abbrev Txt.fd_Hall_eq {K : PySem.W.Frag} {mg : Str → Option Value} {w : World} (T : Txt K mg w) : FuncData := T.t_Hall_eq.fd
theorem Txt.F_Hall_eq {K : PySem.W.Frag} {mg : Str → Option Value} {w : World} (T : Txt K mg w) : Fun K "__eq__" "Hall.__eq__" s_Hall_eq T.f_Hall_eq T.fd_Hall_eq := T.t_Hall_eq.F
theorem Txt.b_Hall_eq {K : PySem.W.Frag} {mg : Str → Option Value} {w : World} (T : Txt K mg w) : Binds K T.fd_Hall_eq p_Hall_eq [] := T.t_Hall_eq.b
abbrev Txt.f_Hall_len {K : PySem.W.Frag} {mg : Str → Option Value} {w : World} (T : Txt K mg w) : Addr := T.t_Hall_len.f
abbrev Txt.fd_Hall_len {K : PySem.W.Frag} {mg : Str → Option Value} {w : World} (T : Txt K mg w) : FuncData := T.t_Hall_len.fd
theorem Txt.F_Hall_len {K : PySem.W.Frag} {mg : Str → Option Value} {w : World} (T : Txt K mg w) : Fun K "__len__" "Hall.__len__" s_Hall_len T.f_Hall_len T.fd_Hall_len := T.t_Hall_len.F
theorem Txt.b_Hall_len {K : PySem.W.Frag} {mg : Str → Option Value} {w : World} (T : Txt K mg w) : Binds K T.fd_Hall_len p_Hall_len [] := T.t_Hall_len.b
abbrev Txt.f_Hall_repr {K : PySem.W.Frag} {mg : Str → Option Value} {w : World} (T : Txt K mg w) : Addr := T.t_Hall_repr.f
abbrev Txt.fd_Hall_repr {K : PySem.W.Frag} {mg : Str → Option Value} {w : World} (T : Txt K mg w) : FuncData := T.t_Hall_repr.fd
theorem Txt.F_Hall_repr {K : PySem.W.Frag} {mg : Str → Option Value} {w : World} (T : Txt K mg w) : Fun K "__repr__" "Hall.__repr__" s_Hall_repr T.f_Hall_repr T.fd_Hall_repr := T.t_Hall_repr.F
theorem Txt.b_Hall_repr {K : PySem.W.Frag} {mg : Str → Option Value} {w : World} (T : Txt K mg w) : Binds K T.fd_Hall_repr p_Hall_repr [] := T.t_Hall_repr.b
abbrev Txt.f_line_hall {K : PySem.W.Frag} {mg : Str → Option Value} {w : World} (T : Txt K mg w) : Addr := T.t_line_hall.f
abbrev Txt.fd_line_hall {K : PySem.W.Frag} {mg : Str → Option Value} {w : World} (T : Txt K mg w) : FuncData := T.t_line_hall.fd
theorem Txt.F_line_hall {K : PySem.W.Frag} {mg : Str → Option Value} {w : World} (T : Txt K mg w) : FunD K "line_hall" "line_hall" (defArgs s_line_hall) (defBody s_line_hall) (defScope s_line_hall) [] [("ring", .bl false)] T.f_line_hall T.fd_line_hall := T.t_line_hall.F
theorem Txt.b_line_hall {K : PySem.W.Frag} {mg : Str → Option Value} {w : World} (T : Txt K mg w) : ∃ ds, Vals [.bl false] ds ∧ Binds K T.fd_line_hall p_line_hall ds := T.t_line_hall.b
theorem Txt.kb_line_hall {K : PySem.W.Frag} {mg : Str → Option Value} {w : World} (T : Txt K mg w) : KBn K T.fd_line_hall p_line_hall 1 ["ring"] (fun us ws => us ++ ws) (fun vs zs => vs ++ zs) := T.t_line_hall.kb
abbrev Txt.f_ways_of {K : PySem.W.Frag} {mg : Str → Option Value} {w : World} (T : Txt K mg w) : Addr := T.t_ways_of.f
abbrev Txt.fd_ways_of {K : PySem.W.Frag} {mg : Str → Option Value} {w : World} (T : Txt K mg w) : FuncData := T.t_ways_of.fd
theorem Txt.F_ways_of {K : PySem.W.Frag} {mg : Str → Option Value} {w : World} (T : Txt K mg w) : Fun K "ways_of" "ways_of" s_ways_of T.f_ways_of T.fd_ways_of := T.t_ways_of.F
theorem Txt.b_ways_of {K : PySem.W.Frag} {mg : Str → Option Value} {w : World} (T : Txt K mg w) : Binds K T.fd_ways_of p_ways_of [] := T.t_ways_of.b
abbrev Txt.f_line_counts {K : PySem.W.Frag} {mg : Str → Option Value} {w : World} (T : Txt K mg w) : Addr := T.t_line_counts.f
abbrev Txt.fd_line_counts {K : PySem.W.Frag} {mg : Str → Option Value} {w : World} (T : Txt K mg w) : FuncData := T.t_line_counts.fd
theorem Txt.F_line_counts {K : PySem.W.Frag} {mg : Str → Option Value} {w : World} (T : Txt K mg w) : FunD K "line_counts" "line_counts" (defArgs s_line_counts) (defBody s_line_counts) (defScope s_line_counts) [] [("ring", .bl false)] T.f_line_counts T.fd_line_counts := T.t_line_counts.F
theorem Txt.b_line_counts {K : PySem.W.Frag} {mg : Str → Option Value} {w : World} (T : Txt K mg w) : ∃ ds, Vals [.bl false] ds ∧ Binds K T.fd_line_counts p_line_counts ds := T.t_line_counts.b
theorem Txt.kb_line_counts {K : PySem.W.Frag} {mg : Str → Option Value} {w : World} (T : Txt K mg w) : KBn K T.fd_line_counts p_line_counts 1 ["ring"] (fun us ws => us ++ ws) (fun vs zs => vs ++ zs) := T.t_line_counts.kb
abbrev Txt.f_ways_behind {K : PySem.W.Frag} {mg : Str → Option Value} {w : World} (T : Txt K mg w) : Addr := T.t_ways_behind.f
abbrev Txt.fd_ways_behind {K : PySem.W.Frag} {mg : Str → Option Value} {w : World} (T : Txt K mg w) : FuncData := T.t_ways_behind.fd
theorem Txt.F_ways_behind {K : PySem.W.Frag} {mg : Str → Option Value} {w : World} (T : Txt K mg w) : Fun K "ways_behind" "ways_behind" s_ways_behind T.f_ways_behind T.fd_ways_behind := T.t_ways_behind.F
theorem Txt.b_ways_behind {K : PySem.W.Frag} {mg : Str → Option Value} {w : World} (T : Txt K mg w) : Binds K T.fd_ways_behind p_ways_behind [] := T.t_ways_behind.b
abbrev Txt.f_line_rest {K : PySem.W.Frag} {mg : Str → Option Value} {w : World} (T : Txt K mg w) : Addr := T.t_line_rest.f
abbrev Txt.fd_line_rest {K : PySem.W.Frag} {mg : Str → Option Value} {w : World} (T : Txt K mg w) : FuncData := T.t_line_rest.fd
theorem Txt.F_line_rest {K : PySem.W.Frag} {mg : Str → Option Value} {w : World} (T : Txt K mg w) : FunD K "line_rest" "line_rest" (defArgs s_line_rest) (defBody s_line_rest) (defScope s_line_rest) [] [("ring", .bl false)] T.f_line_rest T.fd_line_rest := T.t_line_rest.F
theorem Txt.b_line_rest {K : PySem.W.Frag} {mg : Str → Option Value} {w : World} (T : Txt K mg w) : ∃ ds, Vals [.bl false] ds ∧ Binds K T.fd_line_rest p_line_rest ds := T.t_line_rest.b
theorem Txt.kb_line_rest {K : PySem.W.Frag} {mg : Str → Option Value} {w : World} (T : Txt K mg w) : KBn K T.fd_line_rest p_line_rest 2 ["ring"] (fun us ws => us ++ ws) (fun vs zs => vs ++ zs) := T.t_line_rest.kb
abbrev Txt.f_line_number {K : PySem.W.Frag} {mg : Str → Option Value} {w : World} (T : Txt K mg w) : Addr := T.t_line_number.f
abbrev Txt.fd_line_number {K : PySem.W.Frag} {mg : Str → Option Value} {w : World} (T : Txt K mg w) : FuncData := T.t_line_number.fd
theorem Txt.F_line_number {K : PySem.W.Frag} {mg : Str → Option Value} {w : World} (T : Txt K mg w) : FunD K "line_number" "line_number" (defArgs s_line_number) (defBody s_line_number) (defScope s_line_number) [] [("ring", .bl false)] T.f_line_number T.fd_line_number := T.t_line_number.F
theorem Txt.b_line_number {K : PySem.W.Frag} {mg : Str → Option Value} {w : World} (T : Txt K mg w) : ∃ ds, Vals [.bl false] ds ∧ Binds K T.fd_line_number p_line_number ds := T.t_line_number.b
theorem Txt.kb_line_number {K : PySem.W.Frag} {mg : Str → Option Value} {w : World} (T : Txt K mg w) : KBn K T.fd_line_number p_line_number 1 ["ring"] (fun us ws => us ++ ws) (fun vs zs => vs ++ zs) := T.t_line_number.kb
abbrev Txt.f_dip {K : PySem.W.Frag} {mg : Str → Option Value} {w : World} (T : Txt K mg w) : Addr := T.t_dip.f
abbrev Txt.fd_dip {K : PySem.W.Frag} {mg : Str → Option Value} {w : World} (T : Txt K mg w) : FuncData := T.t_dip.fd
theorem Txt.F_dip {K : PySem.W.Frag} {mg : Str → Option Value} {w : World} (T : Txt K mg w) : Fun K "_law_dip" "_law_dip" s_dip T.f_dip T.fd_dip := T.t_dip.F
theorem Txt.b_dip {K : PySem.W.Frag} {mg : Str → Option Value} {w : World} (T : Txt K mg w) : Binds K T.fd_dip p_dip [] := T.t_dip.b
abbrev Txt.f_take {K : PySem.W.Frag} {mg : Str → Option Value} {w : World} (T : Txt K mg w) : Addr := T.t_take.f
abbrev Txt.fd_take {K : PySem.W.Frag} {mg : Str → Option Value} {w : World} (T : Txt K mg w) : FuncData := T.t_take.fd
theorem Txt.F_take {K : PySem.W.Frag} {mg : Str → Option Value} {w : World} (T : Txt K mg w) : Fun K "_law_take" "_law_take" s_take T.f_take T.fd_take := T.t_take.F
theorem Txt.b_take {K : PySem.W.Frag} {mg : Str → Option Value} {w : World} (T : Txt K mg w) : Binds K T.fd_take p_take [] := T.t_take.b
abbrev Txt.f_folded {K : PySem.W.Frag} {mg : Str → Option Value} {w : World} (T : Txt K mg w) : Addr := T.t_folded.f
abbrev Txt.fd_folded {K : PySem.W.Frag} {mg : Str → Option Value} {w : World} (T : Txt K mg w) : FuncData := T.t_folded.fd
theorem Txt.F_folded {K : PySem.W.Frag} {mg : Str → Option Value} {w : World} (T : Txt K mg w) : Fun K "_law_folded" "_law_folded" s_folded T.f_folded T.fd_folded := T.t_folded.F
theorem Txt.b_folded {K : PySem.W.Frag} {mg : Str → Option Value} {w : World} (T : Txt K mg w) : Binds K T.fd_folded p_folded [] := T.t_folded.b
abbrev Txt.f_same {K : PySem.W.Frag} {mg : Str → Option Value} {w : World} (T : Txt K mg w) : Addr := T.t_same.f
abbrev Txt.fd_same {K : PySem.W.Frag} {mg : Str → Option Value} {w : World} (T : Txt K mg w) : FuncData := T.t_same.fd
theorem Txt.F_same {K : PySem.W.Frag} {mg : Str → Option Value} {w : World} (T : Txt K mg w) : Fun K "_law_same" "_law_same" s_same T.f_same T.fd_same := T.t_same.F
theorem Txt.b_same {K : PySem.W.Frag} {mg : Str → Option Value} {w : World} (T : Txt K mg w) : Binds K T.fd_same p_same [] := T.t_same.b
abbrev Txt.f_seen {K : PySem.W.Frag} {mg : Str → Option Value} {w : World} (T : Txt K mg w) : Addr := T.t_seen.f
abbrev Txt.fd_seen {K : PySem.W.Frag} {mg : Str → Option Value} {w : World} (T : Txt K mg w) : FuncData := T.t_seen.fd
theorem Txt.F_seen {K : PySem.W.Frag} {mg : Str → Option Value} {w : World} (T : Txt K mg w) : Fun K "_law_seen" "_law_seen" s_seen T.f_seen T.fd_seen := T.t_seen.F
theorem Txt.b_seen {K : PySem.W.Frag} {mg : Str → Option Value} {w : World} (T : Txt K mg w) : Binds K T.fd_seen p_seen [] := T.t_seen.b
abbrev Txt.f_lot {K : PySem.W.Frag} {mg : Str → Option Value} {w : World} (T : Txt K mg w) : Addr := T.t_lot.f
abbrev Txt.fd_lot {K : PySem.W.Frag} {mg : Str → Option Value} {w : World} (T : Txt K mg w) : FuncData := T.t_lot.fd
theorem Txt.F_lot {K : PySem.W.Frag} {mg : Str → Option Value} {w : World} (T : Txt K mg w) : Fun K "_law_lot" "_law_lot" s_lot T.f_lot T.fd_lot := T.t_lot.F
theorem Txt.b_lot {K : PySem.W.Frag} {mg : Str → Option Value} {w : World} (T : Txt K mg w) : Binds K T.fd_lot p_lot [] := T.t_lot.b
abbrev Txt.f_tells {K : PySem.W.Frag} {mg : Str → Option Value} {w : World} (T : Txt K mg w) : Addr := T.t_tells.f
abbrev Txt.fd_tells {K : PySem.W.Frag} {mg : Str → Option Value} {w : World} (T : Txt K mg w) : FuncData := T.t_tells.fd
theorem Txt.F_tells {K : PySem.W.Frag} {mg : Str → Option Value} {w : World} (T : Txt K mg w) : Fun K "_law_tells" "_law_tells" s_tells T.f_tells T.fd_tells := T.t_tells.F
theorem Txt.b_tells {K : PySem.W.Frag} {mg : Str → Option Value} {w : World} (T : Txt K mg w) : Binds K T.fd_tells p_tells [] := T.t_tells.b
abbrev Txt.f_turned {K : PySem.W.Frag} {mg : Str → Option Value} {w : World} (T : Txt K mg w) : Addr := T.t_turned.f
abbrev Txt.fd_turned {K : PySem.W.Frag} {mg : Str → Option Value} {w : World} (T : Txt K mg w) : FuncData := T.t_turned.fd
theorem Txt.F_turned {K : PySem.W.Frag} {mg : Str → Option Value} {w : World} (T : Txt K mg w) : Fun K "_law_turned" "_law_turned" s_turned T.f_turned T.fd_turned := T.t_turned.F
theorem Txt.b_turned {K : PySem.W.Frag} {mg : Str → Option Value} {w : World} (T : Txt K mg w) : Binds K T.fd_turned p_turned [] := T.t_turned.b
abbrev Txt.f_restless {K : PySem.W.Frag} {mg : Str → Option Value} {w : World} (T : Txt K mg w) : Addr := T.t_restless.f
abbrev Txt.fd_restless {K : PySem.W.Frag} {mg : Str → Option Value} {w : World} (T : Txt K mg w) : FuncData := T.t_restless.fd
theorem Txt.F_restless {K : PySem.W.Frag} {mg : Str → Option Value} {w : World} (T : Txt K mg w) : Fun K "_law_restless" "_law_restless" s_restless T.f_restless T.fd_restless := T.t_restless.F
theorem Txt.b_restless {K : PySem.W.Frag} {mg : Str → Option Value} {w : World} (T : Txt K mg w) : Binds K T.fd_restless p_restless [] := T.t_restless.b
abbrev Txt.f_bits {K : PySem.W.Frag} {mg : Str → Option Value} {w : World} (T : Txt K mg w) : Addr := T.t_bits.f
abbrev Txt.fd_bits {K : PySem.W.Frag} {mg : Str → Option Value} {w : World} (T : Txt K mg w) : FuncData := T.t_bits.fd
theorem Txt.F_bits {K : PySem.W.Frag} {mg : Str → Option Value} {w : World} (T : Txt K mg w) : Fun K "_law_bits" "_law_bits" s_bits T.f_bits T.fd_bits := T.t_bits.F
theorem Txt.b_bits {K : PySem.W.Frag} {mg : Str → Option Value} {w : World} (T : Txt K mg w) : Binds K T.fd_bits p_bits [] := T.t_bits.b
abbrev Txt.f_next_rules {K : PySem.W.Frag} {mg : Str → Option Value} {w : World} (T : Txt K mg w) : Addr := T.t_next_rules.f
abbrev Txt.fd_next_rules {K : PySem.W.Frag} {mg : Str → Option Value} {w : World} (T : Txt K mg w) : FuncData := T.t_next_rules.fd
theorem Txt.F_next_rules {K : PySem.W.Frag} {mg : Str → Option Value} {w : World} (T : Txt K mg w) : Fun K "_law_next_rules" "_law_next_rules" s_next_rules T.f_next_rules T.fd_next_rules := T.t_next_rules.F
theorem Txt.b_next_rules {K : PySem.W.Frag} {mg : Str → Option Value} {w : World} (T : Txt K mg w) : Binds K T.fd_next_rules p_next_rules [] := T.t_next_rules.b
abbrev Txt.f_refused {K : PySem.W.Frag} {mg : Str → Option Value} {w : World} (T : Txt K mg w) : Addr := T.t_refused.f
abbrev Txt.fd_refused {K : PySem.W.Frag} {mg : Str → Option Value} {w : World} (T : Txt K mg w) : FuncData := T.t_refused.fd
theorem Txt.F_refused {K : PySem.W.Frag} {mg : Str → Option Value} {w : World} (T : Txt K mg w) : Fun K "_law_refused" "_law_refused" s_refused T.f_refused T.fd_refused := T.t_refused.F
theorem Txt.b_refused {K : PySem.W.Frag} {mg : Str → Option Value} {w : World} (T : Txt K mg w) : Binds K T.fd_refused p_refused [] := T.t_refused.b
abbrev Txt.f_right {K : PySem.W.Frag} {mg : Str → Option Value} {w : World} (T : Txt K mg w) : Addr := T.t_right.f
abbrev Txt.fd_right {K : PySem.W.Frag} {mg : Str → Option Value} {w : World} (T : Txt K mg w) : FuncData := T.t_right.fd
theorem Txt.F_right {K : PySem.W.Frag} {mg : Str → Option Value} {w : World} (T : Txt K mg w) : Fun K "_law_right" "_law_right" s_right T.f_right T.fd_right := T.t_right.F
theorem Txt.b_right {K : PySem.W.Frag} {mg : Str → Option Value} {w : World} (T : Txt K mg w) : Binds K T.fd_right p_right [] := T.t_right.b
abbrev Txt.f_law {K : PySem.W.Frag} {mg : Str → Option Value} {w : World} (T : Txt K mg w) : Addr := T.t_law.f
abbrev Txt.fd_law {K : PySem.W.Frag} {mg : Str → Option Value} {w : World} (T : Txt K mg w) : FuncData := T.t_law.fd
theorem Txt.F_law {K : PySem.W.Frag} {mg : Str → Option Value} {w : World} (T : Txt K mg w) : Fun K "law" "law" s_law T.f_law T.fd_law := T.t_law.F
theorem Txt.b_law {K : PySem.W.Frag} {mg : Str → Option Value} {w : World} (T : Txt K mg w) : Binds K T.fd_law p_law [] := T.t_law.b
end Lh

namespace Lh
open PySem PySem.Spec PyProof.Rows L2
section
variable {P : Program} {w : World} {K : PySem.W.Frag} {mg : Str → Option Value} {base : Heap}
/-- what an expression comes to, then what follows -/
theorem use {te : TE} {σ : L2.St} {H : Hp} {Q : VK} (R : V → Hp → Prop) (h : ∀ Q' : VK, (∀ v H', R v H' → Q' v H') → te σ H Q') (hq : ∀ v H', R v H' → Q v H') : te σ H Q := h Q hq
/-! ### the draws -/
def spTake : Sp := fun vs H Q _ => ∃ (bx : Addr) (c m : Int), vs = [.ref bx, .int m] ∧ 0 < m ∧ m ≤ 1000000 ∧ c ≤ 1000000000 ∧ Box bx c H ∧
  ∀ (r : Int) (H' : Hp), 0 ≤ r → r < m → Ext bx H H' → Box bx (c + 1) H' → Q (.int r) H'
theorem ok_take (T : Txt K mg w) : FnOk P w K mg base CX0 1 T.f_take T.fd_take p_take spTake := by
  refine T.F_take.ok sc_take (fun vs H Q E h => ?_) (fun cdv A outer s H vs Q E hr h => ?_)
  · obtain ⟨bx, c, m, rfl, _⟩ := h
    rfl
  · obtain ⟨bx, c, m, rfl, m0, m1, c1, ⟨a, b, n, hb, a0, b0, b1, n0, n1⟩, q⟩ := h
    refine ⟨_, (pss_cons (ps_if (pt_cmpR op_gt (pe_ix ix_list (pv 0) pe_int (fun _ _ => rfl)) pe_int (nomark _))
        (pss_cons (ps_set (i := 2) sc_take.nd rfl (.inl rfl) (pe_op op_mod (pe_ix ix_list (pv 0) pe_int (fun _ _ => rfl)) (pv 1)))
        (pss_cons (ps_asg (pe_op op_fdiv (pe_ix ix_list (pv 0) pe_int (fun _ _ => rfl)) (pv 1)) (pg_sub (pv 0) pe_int set_list))
        (pss_one (ps_ret (pv 2)))))
        pss_nil)
      (pss_cons (ps_asg (pe_op op_add (pe_ix ix_list (pv 0) pe_int (fun _ _ => rfl)) pe_int) (pg_sub (pv 0) pe_int set_list))
      (pss_cons (ps_set (i := 3) sc_take.nd rfl (.inl rfl) (pe_op op_mod (pe_op op_pow (pe_op op_add (pe_ix ix_list (pv 0) pe_int (fun _ _ => rfl)) (pe_op op_mul pe_int (pe_ix ix_list (pv 0) pe_int (fun _ _ => rfl)))) pe_int) pe_int))
      (pss_cons (ps_set (i := 4) sc_take.nd rfl (.inl rfl) (pe_op op_mod (pe_op op_mul (pe_op op_add (pe_op op_add (pv 3) (pe_ix ix_list (pv 0) pe_int (fun _ _ => rfl))) (pe_op op_fdiv (pe_ix ix_list (pv 0) pe_int (fun _ _ => rfl)) pe_int)) (pe_op op_add (pe_op op_add (pe_op op_mod (pv 3) pe_int) pe_int) (pe_ix ix_list (pv 0) pe_int (fun _ _ => rfl)))) pe_int))
      (pss_one (ps_ret (pe_op op_mod (pe_op op_fdiv (pe_op op_mod (pe_op op_add (pe_op op_mul (pv 4) pe_int) (pv 3)) pe_int) pe_int) (pv 1)))))))), ?_⟩
    have i0 : ∀ x y z : V, atI [x, y, z] 0 = some x := fun _ _ _ => rfl
    have i1 : ∀ x y z : V, atI [x, y, z] 1 = some y := fun _ _ _ => rfl
    have i2 : ∀ x y z : V, atI [x, y, z] 2 = some z := fun _ _ _ => rfl
    have hS : SqL K H bx [.int a, .int b, .int n] := .inl (.inl hb)
    refine ⟨.ref bx, rfl, bx, _, 0, _, rfl, rfl, hS, i0 _ _ _, a, 0, rfl, rfl, _, rfl, ite2 (fun e => ?_) (fun e => ?_)⟩
    · refine ⟨.ref bx, rfl, bx, _, 0, _, rfl, rfl, hS, i0 _ _ _, .int m, rfl, a, m, rfl, rfl, m0, ?_⟩
      refine ⟨.ref bx, rfl, bx, _, 0, _, rfl, rfl, hS, i0 _ _ _, .int m, rfl, a, m, rfl, rfl, ⟨m0, by omega⟩, ?_⟩
      refine ⟨.ref bx, rfl, bx, _, 0, 0, rfl, rfl, hb, rfl, ?_⟩
      refine ⟨.int (a % m), rfl, q _ _ (Int.emod_nonneg _ (by omega)) (Int.emod_lt_of_pos _ m0) (Ext.refl _).box ⟨a / m, b, n, upd_same, Int.ediv_nonneg a0 (by omega), b0, b1, n0, by omega⟩⟩
    · have n2 : n + 1 ≤ 1000000001 := by omega
      refine ⟨.ref bx, rfl, bx, _, 2, _, rfl, rfl, hS, i2 _ _ _, n, 1, rfl, rfl, .ref bx, rfl, bx, _, 2, 2, rfl, rfl, hb, rfl, ?_⟩
      generalize hH1 : upd H bx (.lst (List.set [V.int a, .int b, .int n] 2 (.int (n + 1)))) = H1
      have hb1 : H1 bx = some (.lst [.int a, .int b, .int (n + 1)]) := by rw [← hH1]; exact upd_same
      have hS1 : SqL K H1 bx [.int a, .int b, .int (n + 1)] := .inl (.inl hb1)
      have bB : Box bx (c + 1) H1 := ⟨a, b, n + 1, hb1, a0, b0, b1, by omega, by omega⟩
      have eE : Ext bx H H1 := by rw [← hH1]; exact (Ext.refl _).box
      refine ⟨.ref bx, rfl, bx, _, 1, _, rfl, rfl, hS1, i1 _ _ _, .ref bx, rfl, bx, _, 2, _, rfl, rfl, hS1, i2 _ _ _, 39373, n + 1, rfl, rfl, .inl ⟨by decide, by decide⟩, b, _, rfl, rfl, _, 5, rfl, rfl, ⟨by decide, by decide, ?_⟩, _, 2147483647, rfl, rfl, by show (0 : Int) < 2147483647; decide, ?_⟩
      · omega
      dsimp only
      generalize hx : (b + 39373 * (n + 1)) ^ (5 : Int).toNat % 2147483647 = x
      have x0 : 0 ≤ x := by rw [← hx]; exact Int.emod_nonneg _ (by decide)
      have x1 : x < 2147483647 := by rw [← hx]; exact Int.emod_lt_of_pos _ (by decide)
      have d0 : 0 ≤ b / 1000003 := Int.ediv_nonneg b0 (by decide)
      have d1 : b / 1000003 ≤ b := Int.ediv_le_self _ b0
      have e0 : 0 ≤ x % 40009 := Int.emod_nonneg _ (by decide)
      have e1 : x % 40009 < 40009 := Int.emod_lt_of_pos _ (by decide)
      refine ⟨.int x, rfl, .ref bx, rfl, bx, _, 2, _, rfl, rfl, hS1, i2 _ _ _, x, n + 1, rfl, rfl, .ref bx, rfl, bx, _, 1, _, rfl, rfl, hS1, i1 _ _ _, b, 1000003, rfl, rfl, ⟨by decide, by decide⟩, _, _, rfl, rfl,
        .int x, rfl, x, 40009, rfl, rfl, by show (0 : Int) < 40009; decide, _, 7, rfl, rfl, .ref bx, rfl, bx, _, 2, _, rfl, rfl, hS1, i2 _ _ _, _, n + 1, rfl, rfl, _, _, rfl, rfl, .inr ⟨?_, ?_⟩, _, 2147483629, rfl, rfl, by show (0 : Int) < 2147483629; decide, ?_⟩
      · omega
      · omega
      dsimp only
      generalize hy : (x + (n + 1) + b / 1000003) * (x % 40009 + 7 + (n + 1)) % 2147483629 = y
      have y0 : 0 ≤ y := by rw [← hy]; exact Int.emod_nonneg _ (by decide)
      have y1 : y < 2147483629 := by rw [← hy]; exact Int.emod_lt_of_pos _ (by decide)
      refine ⟨.int y, rfl, y, 48271, rfl, rfl, .inr ⟨by decide, by decide⟩, .int x, rfl, _, x, rfl, rfl, _, 2147483587, rfl, rfl, by show (0 : Int) < 2147483587; decide, _, 64, rfl, rfl, ⟨by decide, by decide⟩, .int m, rfl, _, m, rfl, rfl, m0, ?_⟩
      exact q _ _ (Int.emod_nonneg _ (by omega)) (Int.emod_lt_of_pos _ m0) eE bB
def spDip (K : PySem.W.Frag) : Sp := fun vs H Q _ => ∃ (a : Addr) (ns : List Int) (k : Nat), vs = [.ref a, .int k] ∧ SqL K H a (ns.map V.int) ∧ k ≤ 1000 ∧
  ∀ (bx : Addr) (H' : Hp), Same H H' → H bx = none → Box bx 0 H' → Q (.ref bx) H'
theorem ok_dip (T : Txt K mg w) : FnOk P w K mg base CX0 1 T.f_dip T.fd_dip p_dip (spDip K) := by
  refine T.F_dip.ok sc_dip (fun vs H Q E h => ?_) (fun cdv A outer s H vs Q E hr h => ?_)
  · obtain ⟨a, ns, k, rfl, _⟩ := h
    rfl
  · obtain ⟨a, ns, k, rfl, hS, hk, q⟩ := h
    refine ⟨_, (pss_cons (ps_set (i := 2) sc_dip.nd rfl (.inl rfl) (pe_ifExp (pt_cmpR op_lt (pv 1) (pe_callB call_len_seq (by rfl) T.m_len (by decide +kernel) (pa_cons (pv 0) pa_nil)) (nomark _)) (pe_ix ix_list (pv 0) (pv 1) (fun _ _ => rfl)) pe_int))
      (pss_one (ps_ret (pe_lst (pa_cons (pe_op op_mul (pe_callB call_abs (by rfl) T.m_abs (by decide +kernel) (pa_cons (pv 2) pa_nil)) (pe_callTy call_int1 (by rfl) T.m_int (by decide +kernel) (pa_cons (pe_cmpR op_ge (pe_callB call_abs (by rfl) T.m_abs (by decide +kernel) (pa_cons (pv 2) pa_nil)) (pe_op op_pow pe_int pe_int) (nomark _)) pa_nil))) (pa_cons (pe_op op_add (pe_op op_add (pe_op op_mod (pv 2) pe_int) (pe_op op_mul pe_int (pv 1))) pe_int) (pa_cons pe_int pa_nil))))))), ?_⟩
    show tIf _ _ _ _ _ _
    refine use (fun v H' => ∃ x : Int, v = .int x ∧ H' = H) (fun Q' hQ => ?_) ?_
    · refine ⟨.int k, rfl, .ref a, rfl, a, _, rfl, .inl hS, k, _, rfl, rfl, _, rfl, ite2 (fun e => ?_) (fun e => ?_)⟩
      · have hk2 : k < ns.length := by
          have := of_decide_eq_true e
          rw [List.length_map] at this
          omega
        exact ⟨.ref a, rfl, .int k, rfl, a, _, k, .int ns[k], rfl, rfl, hS, atI_nat (by rw [List.getElem?_map, List.getElem?_eq_getElem hk2]; rfl), hQ _ _ ⟨_, rfl, rfl⟩⟩
      · exact hQ _ _ ⟨0, rfl, rfl⟩
    · rintro v H' ⟨x, rfl, rfl⟩
      have m0 : 0 ≤ x % 2305843009213693951 := Int.emod_nonneg _ (by decide)
      have m1 : x % 2305843009213693951 < 2305843009213693951 := Int.emod_lt_of_pos _ (by decide)
      refine ⟨.int x, rfl, x, rfl, .int x, rfl, x, rfl, 10, 18, rfl, rfl, ⟨by decide, by decide, by decide⟩, _, _, rfl, rfl, .inr ⟨_, rfl, ?_⟩⟩
      have bnd : ∀ b : Bool, (0 : Int) ≤ (if b then 1 else 0) ∧ (if b then (1 : Int) else 0) ≤ 1 := fun b => by cases b <;> decide
      refine ⟨_, _, rfl, rfl, .inr ⟨Int.lt_of_lt_of_le (by decide) (bnd _).1, Int.lt_of_le_of_lt (bnd _).2 (by decide)⟩, .int x, rfl, x, 2305843009213693951, rfl, rfl, by show (0 : Int) < 2305843009213693951; decide, .int k, rfl, 39373, k, rfl, rfl, .inl ⟨by decide, by decide⟩, _, _, rfl, rfl, _, 17, rfl, rfl, by show 3 ≤ sizeLine; decide, fun p hp => ?_⟩
      refine q p _ (same_upd hp) hp ⟨_, _, 0, upd_same, ?_, ?_, ?_, by decide, by decide⟩
      · refine Int.mul_nonneg ?_ (bnd _).1
        split <;> omega
      · show 0 ≤ x % 2305843009213693951 + 39373 * (k : Int) + 17
        omega
      · show x % 2305843009213693951 + 39373 * (k : Int) + 17 < 2 ^ 62
        omega
end
end Lh

namespace Lh
open PySem PySem.Spec PyProof.Rows L2
def cutI {α : Type} (xs : List α) (lo hi : Option Int) : List α := (xs.drop (HT.sIx xs.length 0 lo)).take (HT.sIx xs.length xs.length hi - HT.sIx xs.length 0 lo)
theorem cut_map {α : Type} (f : α → V) (xs : List α) (lo hi : Option Int) : cutV (xs.map f) lo hi = (cutI xs lo hi).map f := by
  unfold cutV cutI
  rw [List.length_map, List.map_take, List.map_drop]
theorem cutI_head {α : Type} (xs : List α) : (cutI xs none (some 3)).length = min 3 xs.length := by
  unfold cutI
  rw [HT.sIx_none, show HT.sIx xs.length xs.length (some 3) = min 3 xs.length from HT.sIx_nat xs.length _ 3, List.length_take, List.length_drop]
  omega
theorem cutI_tail {α : Type} (xs : List α) (h : xs.length ≤ 3) : (cutI xs (some 3) (some 63)).length = 0 := by
  unfold cutI
  rw [show HT.sIx xs.length 0 (some 3) = min 3 xs.length from HT.sIx_nat xs.length _ 3, List.length_take, List.length_drop]
  omega
section
variable {P : Program} {w : World} {K : PySem.W.Frag} {mg : Str → Option Value} {base : Heap}
def spFolded (K : PySem.W.Frag) : Sp := fun vs H Q _ => ∃ (a : Addr) (ns : List Int), vs = [.ref a, .int 3] ∧ SqL K H a (ns.map V.int) ∧ ns.length ≤ 63 ∧
  ∀ (p : Addr) (ms : List Int) (H' : Hp), Same H H' → H p = none → H' p = some (.lst (ms.map V.int)) → ms.length ≤ 3 → Q (.ref p) H'
theorem ok_folded (T : Txt K mg w) : FnOk P w K mg base CX0 1 T.f_folded T.fd_folded p_folded (spFolded K) := by
  refine T.F_folded.ok sc_folded (fun vs H Q E h => ?_) (fun cdv A outer s H vs Q E hr h => ?_)
  · obtain ⟨a, ns, rfl, _⟩ := h
    rfl
  · obtain ⟨a, ns, rfl, hS, hl, q⟩ := h
    refine ⟨_, (pss_cons (ps_set (i := 2) sc_folded.nd rfl (.inl rfl) (pe_callTy call_list_of (by rfl) T.m_list (by decide +kernel) (pa_cons (pe_slice sl_list (pv 0) po_none (po_some (pv 1))) pa_nil)))
      (pss_cons (ps_for PassesOwn.never rfl (pi_enum (by rfl) T.m_enumerate (pa_cons (pe_slice sl_list (pv 0) (po_some (pv 1)) (po_some pe_int)) pa_nil)) (pg_tup rfl (pgs_cons (pg_name (i := 3) sc_folded.nd rfl (.inl rfl)) (pgs_cons (pg_name (i := 4) sc_folded.nd rfl (.inl rfl)) pgs_nil)))
        (pss_one (ps_asg (pe_op op_add (pe_ix ix_list (pv 2) (pe_op op_mod (pv 3) (pv 1)) (fun _ _ => rfl)) (pe_op op_mul (pv 4) (pe_op op_add (pv 3) pe_int))) (pg_sub (pv 2) (pe_op op_mod (pv 3) (pv 1)) set_list))))
      (pss_one (ps_ret (pv 2))))), ?_⟩
    -- the cells
    refine ⟨.ref a, rfl, .int 3, rfl, 3, rfl, a, _, rfl, hS, fun c nc => ?_⟩
    have s1 := same_upd (o := .lst (cutV (ns.map V.int) none (some 3))) nc
    refine ⟨c, _, rfl, .inl (.inl (.inl upd_same)), fun l nl => ?_⟩
    have s2 := s1.trans (same_upd (o := .lst (cutV (ns.map V.int) none (some 3))) nl)
    have nlH : H l = none := s1.free nl
    -- the rest of the script
    refine ⟨.ref a, rfl, .int 3, rfl, 3, rfl, 63, rfl, a, _, rfl, s2.seq hS, fun d nd => ?_⟩
    have s3 := s2.trans (same_upd (o := .lst (cutV (ns.map V.int) (some 3) (some 63))) nd)
    have nld : l ≠ d := ne_of_none upd_same nd
    refine ⟨d, _, rfl, .inl (.inl upd_same), ?_⟩
    rw [cut_map V.int, cut_map V.int] at *
    refine for_it (walk_enum (xs := (cutI ns (some 3) (some 63)).map V.int)) (fun i σ H3 => ∃ (y3 y4 : Option V) (ms : List Int), σ = [some (.ref a), some (.int 3), some (.ref l), y3, y4] ∧ Same H H3 ∧ H3 d = some (.lst ((cutI ns (some 3) (some 63)).map V.int)) ∧ H3 l = some (.lst (ms.map V.int)) ∧ ms.length = min 3 ns.length) ?_ ?_ ?_ ?_
    · refine ⟨none, none, cutI ns none (some 3), rfl, s3, upd_same, ?_, cutI_head ns⟩
      rw [upd_ne nld, upd_same]
    · rintro i σ H3 _ ⟨y3, y4, ms, rfl, _, hd, _⟩
      exact .inl (.inl hd)
    · rintro i x σ H3 H4 hi ⟨y3, y4, ms, rfl, sm, hd, hl3, hm⟩ ⟨t, x1, x2, rfl, nt, rfl, e1, e2⟩
      rw [List.length_map] at hi
      have e1' : V.int (i : Nat) = x1 := Option.some.inj e1
      subst e1'
      have e2' : x2 = .int (cutI ns (some 3) (some 63))[i] := by
        have : ((cutI ns (some 3) (some 63)).map V.int)[i]? = some x2 := e2
        rw [List.getElem?_map, List.getElem?_eq_getElem hi] at this
        exact (Option.some.inj this).symm
      subst e2'
      have h3 : ms.length = 3 := by
        by_cases hc : ns.length ≤ 3
        · rw [cutI_tail ns hc] at hi; omega
        · omega
      have nlt : l ≠ t := ne_of_none hl3 nt
      have hl4 : (upd H3 t (.tup [.int (i : Nat), .int (cutI ns (some 3) (some 63))[i]])) l = some (.lst (ms.map V.int)) := by rw [upd_ne nlt]; exact hl3
      have hlt : ((i : Int) % 3).toNat < ms.length := by omega
      refine ⟨t, _, rfl, .inl (.inl upd_same), rfl, _, _, rfl, _, _, rfl, rfl, ?_⟩
      refine ⟨.ref l, rfl, .int i, rfl, .int 3, rfl, i, 3, rfl, rfl, by show (0 : Int) < 3; decide, l, _, _, .int ms[((i : Int) % 3).toNat], rfl, rfl, .inl (.inl hl4), ?_, ?_⟩
      · refine at_of (j := ((i : Int) % 3).toNat) (by omega) ?_
        rw [List.getElem?_map, List.getElem?_eq_getElem hlt]; rfl
      refine ⟨_, rfl, .int i, rfl, i, 2, rfl, rfl, _, _, rfl, rfl, .inr ⟨by omega, ?_⟩, _, _, rfl, rfl, .ref l, rfl, .int i, rfl, .int 3, rfl, i, 3, rfl, rfl, by show (0 : Int) < 3; decide, l, _, _, ((i : Int) % 3).toNat, rfl, rfl, hl4, ?_, ?_⟩
      · have : (cutI ns (some 3) (some 63)).length ≤ ns.length := by
          unfold cutI; rw [List.length_take, List.length_drop]; omega
        omega
      · show ixN (ms.map V.int).length ((i : Int) % 3) = some _
        unfold ixN
        rw [List.length_map, if_pos (by omega), if_pos (by omega)]
      · refine ⟨_, _, ms.set ((i : Int) % 3).toNat (ms[((i : Int) % 3).toNat] + (cutI ns (some 3) (some 63))[i] * ((i : Int) + 2)), rfl, ?_, ?_, ?_, ?_⟩
        · exact fun b o e => by
            rw [upd_ne (ne_of_none e nlH), upd_ne (ne_of_none (sm b o e) nt)]
            exact sm b o e
        · rw [upd_ne nld.symm, upd_ne (ne_of_none hd nt)]
          exact hd
        · rw [upd_same, List.map_set]
        · rw [List.length_set]; exact hm
    · rintro σ H3 ⟨y3, y4, ms, rfl, sm, hd, hl3, hm⟩
      exact ⟨.ref l, rfl, q l ms H3 sm nlH hl3 (by omega)⟩
end
end Lh

namespace Lh
open PySem PySem.Spec PyProof.Rows L2
/-- data of at most n levels, no level longer than 1000 -/
def okD : Nat → PyData → Prop
  | _, .none => True
  | _, .bool _ => True
  | _, .int _ => True
  | _, .str _ => True
  | n + 1, .list ds => ds.length ≤ 8388608 ∧ ∀ d ∈ ds, okD n d
  | n + 1, .tuple ds => ds.length ≤ 8388608 ∧ ∀ d ∈ ds, okD n d
  | _, _ => False
def tyD : PyData → String
  | .none => "NoneType"
  | .bool _ => "bool"
  | .int _ => "int"
  | .str _ => "str"
  | .list _ => "list"
  | .tuple _ => "tuple"
  | .dict _ => "dict"
theorem Rp.ty {bx : Addr} {K : PySem.W.Frag} {H : Hp} {v : V} {d : PyData} (h : Rp bx H v d) : TyX K H v (.type (tyD d)) := by
  cases h with
  | non => exact .base .non
  | bl b => exact .base (.bl b)
  | int i => exact .base (.int i)
  | str x => exact .base (.str x)
  | lst h _ _ => exact .base (.lst h)
  | tup h _ _ => exact h.ty
theorem iteP {A B : Prop} {c : Bool} (h : c = true) (a : A) : if c = true then A else B := by rw [if_pos h]; exact a
theorem iteN {A B : Prop} {c : Bool} (h : c = false) (b : B) : if c = true then A else B := by rw [h, if_neg Bool.false_ne_true]; exact b
theorem yes {σ : L2.St} {H : Hp} {Q : Bool → Hp → Prop} (h : Q true H) : tYes σ H Q := h
theorem blC {Q : VK} {c d : Bool} {H : Hp} (h : c = d) (q : Q (.bl d) H) : Q (.bl c) H := by rw [h]; exact q
theorem blT {Q : VK} {c : Bool} {H : Hp} (h : c = true) (q : Q (.bl true) H) : Q (.bl c) H := by rw [h]; exact q
/-- isinstance(name, T) -/
theorem rd_isi {K : PySem.W.Frag} {σ : L2.St} {H : Hp} {Q : VK} {i : Nat} {x : V} {T c : String} {b : Bool} (hs : σ[i]? = some (some x)) (ty : TyX K H x (.type T)) (h : kitB T c = some b) (q : Q (.bl b) H) :
    tCB (rIsi K) (tCons (tVar i) (tCons (tC (.ty c)) tNil)) σ H Q := ⟨x, hs, x, .ty c, .type T, .type c, b, rfl, .ty c, ty, kit_ty h, q⟩
/-- isinstance(name, (T, U)) -/
theorem rd_isi2 {K : PySem.W.Frag} {σ : L2.St} {H : Hp} {Q : VK} {i : Nat} {x : V} {T c e : String} {b b2 : Bool} (hs : σ[i]? = some (some x)) (ty : TyX K H x (.type T)) (h : kitB T c = some b) (h2 : kitB T e = some b2)
    (q : ∀ p, H p = none → Q (.bl (b || b2)) (upd H p (.tup [.ty c, .ty e]))) (ty2 : ∀ p, H p = none → TyX K (upd H p (.tup [.ty c, .ty e])) x (.type T)) :
    tCB (rIsiT K) (tCons (tVar i) (tCons (tTup (tCons (tC (.ty c)) (tCons (tC (.ty e)) tNil))) tNil)) σ H Q :=
  ⟨x, hs, by show 2 ≤ sizeLine; decide, fun p hp => ⟨x, p, _, .type T, [.type c, .type e], b || b2, rfl, upd_same, .cons (.ty c) (.cons (.ty e) .nil), ty2 p hp, kitAny_cons (kit_ty h) (fun z => kitAny_cons (kit_ty h2) (fun z2 => by rw [z, z2]; rfl) (fun z2 => by rw [z2, Bool.or_true])) (fun z => by rw [z, Bool.true_or]), q p hp⟩⟩
theorem walk_zipT {K : PySem.W.Frag} {a b : Addr} {xs ys : List V} {n : Nat} (h1 : xs.length = n) (h2 : ys.length = n) : Walk (RZ.ItzT K a b) n (fun H => SqT K H a xs ∧ SqT K H b ys) (YPair (fun i => xs[i]?) (fun i => ys[i]?)) := by
  refine ⟨fun i _ hi q => ⟨xs, ys, xs[i], ys[i], q.1, q.2, by simp [h1, hi], by simp [h2, hi]⟩, fun _ q => ⟨xs, ys, q.1, q.2, .inl (by omega)⟩, ?_⟩
  rintro i H v H' _ q ⟨T, x, z, h1, h2, h3, h4, h5⟩
  exact ⟨T, x, z, h1, h2, h3, h4 xs q.1, h5 ys q.2⟩
def lcSc : Expr → Scope
  | .ListComp _ _ sc _ => sc
  | _ => { kind := .function, names := [], isGenerator := false, isCoroutine := false }
def retE : List Stmt → Expr
  | [.Return (some e) _] => e
  | _ => .Constant .none 0 ⟨0, 0, 0, 0⟩
def argE : Expr → Expr
  | .Call _ (e :: _) _ _ => e
  | e => e
def isCell (osc : Scope) (k : NameKind) (n : Str) : Bool := k == .free && osc.kind == .function && osc.names.lookup n == some .cell
/-- the names of an inner scope, as the outer one has them -/
def relS (sc osc : Scope) : Scope := { sc with names := sc.names.map fun z => if isCell osc z.2 z.1 = true then (z.1, .cell) else (z.1, z.2) }
def rTupN (K : PySem.W.Frag) : List V → Hp → VK → Prop := fun xs H Q => ∃ p ys, xs = [.ref p] ∧ SqL K H p ys ∧ ∀ l (o : Obj), H l = none → o.dict = none → Q (.ref l) (upd H l (.frz o (.tup ys)))
theorem blkOk_sc {N : List Str} {sc sc2 scope : Scope} {own : List (Str × Nat)} (e : sc = sc2) (h : blkC N sc2 scope own = true) : BlkOk N sc scope own := by
  subst e
  exact blkOk_by h
def asgE : Stmt → Expr
  | .Assign _ e _ => e
  | _ => .Constant .none 0 ⟨0, 0, 0, 0⟩
def forB : Stmt → List Stmt
  | .For _ _ b _ _ => b
  | _ => []
def noS : Stmt := .Pass ⟨0, 0, 0, 0⟩
def rLenQ (K : PySem.W.Frag) : List V → Hp → VK → Prop := fun xs H Q => ∃ p ys, xs = [.ref p] ∧ (SqL K H p ys ∨ SqT K H p ys) ∧ Q (.int ys.length) H
section
variable {P : Program} {w : World} {K : PySem.W.Frag} {mg : Str → Option Value} {base : Heap}
end
end Lh

namespace Lh
open PySem PySem.Spec PyProof.Rows L2
/-! ### lines and rings by numbers -/
def fbP : Nat → Nat × Nat
  | 0 => (0, 1)
  | n + 1 => ((fbP n).2, (fbP n).1 + (fbP n).2)
def fb (n : Nat) : Nat := (fbP n).1
theorem fb_next (n : Nat) : (fbP n).2 = fb (n + 1) := rfl
theorem fb_two (n : Nat) : fb (n + 2) = fb n + fb (n + 1) := rfl
theorem fb_mono (n : Nat) : fb (n + 1) ≤ fb (n + 2) := by rw [fb_two]; omega
theorem fb_pos : ∀ n, 1 ≤ fb (n + 1)
  | 0 => by decide
  | n + 1 => by have := fb_pos n; have := fb_mono n; show 1 ≤ fb (n + 2); omega
/-- so many persons left; e: 1 where the last one may show 1 -/
def decF : Nat → Nat → Nat → List Int
  | 0, _, _ => []
  | m + 1, e, a => if a < fb (m + 1 + e) then 0 :: decF m e a else 1 :: decF m e (a - fb (m + 1 + e))
def numF (e : Nat) : List Int → Nat
  | [] => 0
  | x :: xs => (if x = 1 then fb (xs.length + 1 + e) else 0) + numF e xs
def OkL (e : Nat) : List Int → Prop
  | [] => True
  | x :: xs => (x = 0 ∨ (x = 1 ∧ (xs = [] → e = 1) ∧ xs.headD 0 = 0)) ∧ OkL e xs
theorem decF_len (e : Nat) : ∀ m a, (decF m e a).length = m
  | 0, _ => rfl
  | m + 1, a => by
    unfold decF
    split
    · rw [List.length_cons, decF_len e m]
    · rw [List.length_cons, decF_len e m]
theorem decF_head {e m a : Nat} (h : a < fb (m + e)) : (decF m e a).headD 0 = 0 := by
  cases m with
  | zero => rfl
  | succ m => unfold decF; rw [if_pos h]; rfl
theorem decF_ok {e : Nat} (he : e ≤ 1) : ∀ m a, a < fb (m + e + 1) → OkL e (decF m e a)
  | 0, _, _ => trivial
  | m + 1, a, h => by
    have e2 : fb (m + 1 + e + 1) = fb (m + e) + fb (m + 1 + e) := by rw [show m + 1 + e + 1 = m + e + 2 by omega, fb_two, show m + e + 1 = m + 1 + e by omega]
    have e3 : fb (m + e) ≤ fb (m + e + 1) := by
      rcases Nat.eq_zero_or_pos (m + e) with z | z
      · rw [z]; decide
      · obtain ⟨k, hk⟩ : ∃ k, m + e = k + 1 := ⟨m + e - 1, by omega⟩
        rw [hk]; exact fb_mono k
    have e4 : fb (m + 1 + e) = fb (m + e + 1) := by rw [show m + 1 + e = m + e + 1 by omega]
    unfold decF
    split
    · rename_i c
      exact ⟨.inl rfl, decF_ok he m a (by omega)⟩
    · rename_i c
      refine ⟨.inr ⟨rfl, fun z => ?_, decF_head (by omega)⟩, decF_ok he m _ (by omega)⟩
      have lz := congrArg List.length z
      rw [decF_len] at lz
      have lz : m = 0 := lz
      subst lz
      rcases Nat.eq_zero_or_pos e with z | z
      · subst z
        have : fb (0 + 0) = 0 := rfl
        omega
      · omega
theorem num_dec {e : Nat} (he : e ≤ 1) : ∀ m a, a < fb (m + e + 1) → numF e (decF m e a) = a
  | 0, a, h => by
    have : fb (0 + e + 1) = 1 := by rcases Nat.le_one_iff_eq_zero_or_eq_one.mp he with z | z <;> rw [z] <;> rfl
    show 0 = a
    omega
  | m + 1, a, h => by
    have e2 : fb (m + 1 + e + 1) = fb (m + e) + fb (m + 1 + e) := by rw [show m + 1 + e + 1 = m + e + 2 by omega, fb_two, show m + e + 1 = m + 1 + e by omega]
    have e3 : fb (m + e) ≤ fb (m + e + 1) := by
      rcases Nat.eq_zero_or_pos (m + e) with z | z
      · rw [z]; decide
      · obtain ⟨k, hk⟩ : ∃ k, m + e = k + 1 := ⟨m + e - 1, by omega⟩
        rw [hk]; exact fb_mono k
    have e4 : fb (m + 1 + e) = fb (m + e + 1) := by rw [show m + 1 + e = m + e + 1 by omega]
    unfold decF
    split
    · rename_i c
      show (if (0 : Int) = 1 then _ else 0) + numF e (decF m e a) = a
      rw [if_neg (by decide), Nat.zero_add]
      exact num_dec he m a (by omega)
    · rename_i c
      show (if (1 : Int) = 1 then fb ((decF m e _).length + 1 + e) else 0) + numF e (decF m e _) = a
      rw [if_pos rfl, decF_len, num_dec he m _ (by omega)]
      omega
theorem dec_lt {e : Nat} (he : e ≤ 1) : ∀ m a b, a < b → b < fb (m + e + 1) → HT.lexLt (decF m e a) (decF m e b) = true
  | 0, a, b, h, hb => by
    have : fb (0 + e + 1) = 1 := by rcases Nat.le_one_iff_eq_zero_or_eq_one.mp he with z | z <;> rw [z] <;> rfl
    omega
  | m + 1, a, b, h, hb => by
    have e2 : fb (m + 1 + e + 1) = fb (m + e) + fb (m + 1 + e) := by rw [show m + 1 + e + 1 = m + e + 2 by omega, fb_two, show m + e + 1 = m + 1 + e by omega]
    have e3 : fb (m + e) ≤ fb (m + e + 1) := by
      rcases Nat.eq_zero_or_pos (m + e) with z | z
      · rw [z]; decide
      · obtain ⟨k, hk⟩ : ∃ k, m + e = k + 1 := ⟨m + e - 1, by omega⟩
        rw [hk]; exact fb_mono k
    have e4 : fb (m + 1 + e) = fb (m + e + 1) := by rw [show m + 1 + e = m + e + 1 by omega]
    unfold decF
    by_cases c1 : a < fb (m + 1 + e)
    · by_cases c2 : b < fb (m + 1 + e)
      · rw [if_pos c1, if_pos c2]
        show (if (0 : Int) = 0 then HT.lexLt _ _ else _) = true
        rw [if_pos rfl]
        exact dec_lt he m a b h (by omega)
      · rw [if_pos c1, if_neg c2]
        rfl
    · rw [if_neg c1, if_neg (by omega)]
      show (if (1 : Int) = 1 then HT.lexLt _ _ else _) = true
      rw [if_pos rfl]
      exact dec_lt he m _ _ (by omega) (by omega)
theorem num_lt {e : Nat} : ∀ row, OkL e row → numF e row < fb (row.length + e + 1) ∧ (row.headD 0 = 0 → (row = [] → e = 1) → numF e row < fb (row.length + e))
  | [], _ => ⟨by have := fb_pos (0 + e); show 0 < fb (0 + e + 1); omega, fun _ h => by rw [h rfl]; decide⟩
  | x :: xs, h => by
    obtain ⟨h1, h2⟩ := h
    obtain ⟨i1, i2⟩ := num_lt xs h2
    have e2 : fb (xs.length + 1 + e + 1) = fb (xs.length + e) + fb (xs.length + e + 1) := by rw [show xs.length + 1 + e + 1 = xs.length + e + 2 by omega, fb_two]
    have e4 : fb (xs.length + 1 + e) = fb (xs.length + e + 1) := by rw [show xs.length + 1 + e = xs.length + e + 1 by omega]
    rcases h1 with rfl | ⟨rfl, h3, h4⟩
    · have en : numF e ((0 : Int) :: xs) = numF e xs := by show (if (0 : Int) = 1 then _ else 0) + _ = _; rw [if_neg (by decide), Nat.zero_add]
      rw [en, List.length_cons]
      exact ⟨by omega, fun _ _ => by omega⟩
    · have en : numF e ((1 : Int) :: xs) = fb (xs.length + 1 + e) + numF e xs := by show (if (1 : Int) = 1 then _ else 0) + _ = _; rw [if_pos rfl]
      have := i2 h4 h3
      rw [en, List.length_cons]
      exact ⟨by omega, fun z => by cases z⟩
theorem dec_num {e : Nat} : ∀ row, OkL e row → decF row.length e (numF e row) = row
  | [], _ => rfl
  | x :: xs, h => by
    obtain ⟨h1, h2⟩ := h
    obtain ⟨i1, i2⟩ := num_lt xs h2
    have e4 : fb (xs.length + 1 + e) = fb (xs.length + e + 1) := by rw [show xs.length + 1 + e = xs.length + e + 1 by omega]
    rw [List.length_cons]
    unfold decF
    rcases h1 with rfl | ⟨rfl, h3, h4⟩
    · have en : numF e ((0 : Int) :: xs) = numF e xs := by show (if (0 : Int) = 1 then _ else 0) + _ = _; rw [if_neg (by decide), Nat.zero_add]
      rw [en, if_pos (by omega), dec_num xs h2]
    · have en : numF e ((1 : Int) :: xs) = fb (xs.length + 1 + e) + numF e xs := by show (if (1 : Int) = 1 then _ else 0) + _ = _; rw [if_pos rfl]
      rw [en, if_neg (by omega), Nat.add_sub_cancel_left, dec_num xs h2]
/-! ### as the program goes -/
def exE (ring : Bool) (pre : List Int) : Nat := if ring = true ∧ (1 : Int) ∉ pre.take 1 then 1 else 0
def decP (ring : Bool) : Nat → List Int → Nat → List Int
  | 0, pre, _ => pre
  | m + 1, pre, a => if a < fb (m + 1 + exE ring pre) then decP ring m (pre ++ [0]) a else decP ring m (pre ++ [1]) (a - fb (m + 1 + exE ring pre))
def numP (ring : Bool) : List Int → List Int → Nat
  | _, [] => 0
  | pre, x :: xs => (if x = 1 then fb (xs.length + 1 + exE ring pre) else 0) + numP ring (pre ++ [x]) xs
theorem exE_line (pre : List Int) : exE false pre = 0 := if_neg fun z => by cases z.1
theorem exE_more {ring : Bool} {pre : List Int} (h : pre ≠ []) (x : Int) : exE ring (pre ++ [x]) = exE ring pre := by
  cases pre with
  | nil => exact absurd rfl h
  | cons y ys => rfl
theorem decP_of {ring : Bool} {e : Nat} : ∀ (m : Nat) (pre : List Int) (a : Nat), (∀ suf : List Int, exE ring (pre ++ suf) = e) → decP ring m pre a = pre ++ decF m e a
  | 0, pre, a, _ => (List.append_nil _).symm
  | m + 1, pre, a, h => by
    have h0 : exE ring pre = e := by have := h []; rw [List.append_nil] at this; exact this
    have hs : ∀ x : Int, ∀ suf : List Int, exE ring (pre ++ [x] ++ suf) = e := fun x suf => by rw [List.append_assoc]; exact h _
    unfold decP decF
    rw [h0]
    split
    · rw [decP_of m _ _ (hs 0), List.append_assoc]; rfl
    · rw [decP_of m _ _ (hs 1), List.append_assoc]; rfl
theorem numP_of {ring : Bool} {e : Nat} : ∀ (xs pre : List Int), (∀ suf : List Int, exE ring (pre ++ suf) = e) → numP ring pre xs = numF e xs
  | [], pre, _ => rfl
  | x :: xs, pre, h => by
    have h0 : exE ring pre = e := by have := h []; rw [List.append_nil] at this; exact this
    have hs : ∀ suf : List Int, exE ring (pre ++ [x] ++ suf) = e := fun suf => by rw [List.append_assoc]; exact h _
    unfold numP numF
    rw [h0, numP_of xs _ hs]
theorem ex_line (pre : List Int) : ∀ suf : List Int, exE false (pre ++ suf) = 0 := fun _ => exE_line _
theorem ex_zero : ∀ suf : List Int, exE true ([(0 : Int)] ++ suf) = 1 := fun _ => if_pos ⟨rfl, by show (1 : Int) ∉ [(0 : Int)]; decide⟩
theorem ex_one : ∀ suf : List Int, exE true ([(1 : Int)] ++ suf) = 0 := fun _ => if_neg fun z => z.2 (by show (1 : Int) ∈ [(1 : Int)]; decide)
theorem ex_nil : exE true [] = 1 := rfl
/-- the row of that number -/
def rowK (ring : Bool) (n k : Nat) : List Int := decP ring n [] k
def cntK (ring : Bool) (n : Nat) : Nat := if ring = true then fb (n + 1) + fb (n - 1) else fb (n + 1)
theorem rowK_line (n k : Nat) : rowK false n k = decF n 0 k := by unfold rowK; rw [decP_of n [] k (ex_line [])]; rfl
theorem rowK_ring (m k : Nat) : rowK true (m + 1) k = if k < fb (m + 2) then 0 :: decF m 1 k else 1 :: decF m 0 (k - fb (m + 2)) := by
  unfold rowK decP
  rw [ex_nil]
  show (if k < fb (m + 2) then decP true m [0] k else decP true m [1] (k - fb (m + 2))) = _
  split
  · rw [decP_of m [0] k ex_zero]; rfl
  · rw [decP_of m [1] _ ex_one]; rfl
theorem numK_line (row : List Int) : numP false [] row = numF 0 row := numP_of row [] (ex_line [])
theorem numK_zero (xs : List Int) : numP true [] (0 :: xs) = numF 1 xs := by
  unfold numP
  rw [if_neg (by decide), Nat.zero_add]
  exact numP_of xs [0] ex_zero
theorem numK_one (xs : List Int) : numP true [] (1 :: xs) = fb (xs.length + 2) + numF 0 xs := by
  unfold numP
  rw [if_pos rfl, ex_nil]
  exact congrArg _ (numP_of xs [1] ex_one)
theorem rowK_len (ring : Bool) (n k : Nat) : (rowK ring n k).length = n := by
  cases ring with
  | false => rw [rowK_line, decF_len]
  | true =>
    cases n with
    | zero => rfl
    | succ m =>
      rw [rowK_ring]
      split
      · rw [List.length_cons, decF_len]
      · rw [List.length_cons, decF_len]
theorem row_lt {ring : Bool} {m a b : Nat} (h : a < b) (hb : b < cntK ring (m + 2)) : HT.lexLt (rowK ring (m + 2) a) (rowK ring (m + 2) b) = true := by
  cases ring with
  | false => rw [rowK_line, rowK_line]; exact dec_lt (by decide) _ _ _ h hb
  | true =>
    have hb : b < fb (m + 3) + fb (m + 1) := hb
    have e2 : fb (m + 2) = fb m + fb (m + 1) := fb_two m
    rw [rowK_ring, rowK_ring]
    show HT.lexLt (if a < fb (m + 3) then _ else _) (if b < fb (m + 3) then _ else _) = true
    by_cases c1 : a < fb (m + 3)
    · by_cases c2 : b < fb (m + 3)
      · rw [if_pos c1, if_pos c2]
        show (if (0 : Int) = 0 then HT.lexLt _ _ else _) = true
        rw [if_pos rfl]
        exact dec_lt (by decide) _ _ _ h c2
      · rw [if_pos c1, if_neg c2]
        rfl
    · rw [if_neg c1, if_neg (by omega)]
      show (if (1 : Int) = 1 then HT.lexLt _ _ else _) = true
      rw [if_pos rfl]
      refine dec_lt (by decide) _ _ _ (show a - fb (m + 3) < b - fb (m + 3) by omega) ?_
      show b - fb (m + 3) < fb (m + 2)
      omega
theorem num_row {ring : Bool} {m a : Nat} (h : a < cntK ring (m + 2)) : numP ring [] (rowK ring (m + 2) a) = a := by
  cases ring with
  | false => rw [rowK_line, numK_line]; exact num_dec (by decide) _ _ h
  | true =>
    have hb : a < fb (m + 3) + fb (m + 1) := h
    have e2 : fb (m + 2) = fb m + fb (m + 1) := fb_two m
    rw [rowK_ring]
    show numP true [] (if a < fb (m + 3) then _ else _) = a
    split
    · rename_i c
      rw [numK_zero]
      exact num_dec (by decide) _ _ c
    · rename_i c
      rw [numK_one, decF_len, num_dec (by decide) (m + 1) _ (show a - fb (m + 3) < fb (m + 2) by omega)]
      show fb (m + 3) + (a - fb (m + 3)) = a
      omega
/-- a rest: numbers 0 and 1, no 1 ahead of a 1, the one behind the last is z -/
def RestZ (z : Int) : List Int → Prop
  | [] => True
  | x :: xs => (x = 0 ∨ x = 1) ∧ x * xs.headD z = 0 ∧ RestZ z xs
theorem ok_rest0 : ∀ xs, OkL 0 xs → RestZ 1 xs
  | [], _ => trivial
  | x :: xs, h => by
    obtain ⟨h1, h2⟩ := h
    rcases h1 with rfl | ⟨rfl, h3, h4⟩
    · exact ⟨.inl rfl, Int.zero_mul _, ok_rest0 xs h2⟩
    · refine ⟨.inr rfl, ?_, ok_rest0 xs h2⟩
      cases xs with
      | nil => exact absurd (h3 rfl) (by decide)
      | cons y ys => show (1 : Int) * y = 0; rw [show y = 0 from h4]; rfl
theorem ok_rest1 : ∀ xs, OkL 1 xs → RestZ 0 xs
  | [], _ => trivial
  | x :: xs, h => by
    obtain ⟨h1, h2⟩ := h
    rcases h1 with rfl | ⟨rfl, h3, h4⟩
    · exact ⟨.inl rfl, Int.zero_mul _, ok_rest1 xs h2⟩
    · refine ⟨.inr rfl, ?_, ok_rest1 xs h2⟩
      cases xs with
      | nil => rfl
      | cons y ys => show (1 : Int) * y = 0; rw [show y = 0 from h4]; rfl
theorem ok_last : ∀ xs, OkL 0 xs → xs.getLastD 0 = 0
  | [], _ => rfl
  | [x], h => by
    rcases h.1 with rfl | ⟨_, h3, _⟩
    · rfl
    · exact absurd (h3 rfl) (by decide)
  | x :: y :: ys, h => by
    have := ok_last (y :: ys) h.2
    rw [List.getLastD_cons] at this ⊢
    rw [List.getLastD_cons]
    exact this
theorem row_line_ok {n k : Nat} (h : k < cntK false n) : OkL 0 (rowK false n k) := by rw [rowK_line]; exact decF_ok (by decide) n k h
theorem row_rest {ring : Bool} {m k : Nat} (h : k < cntK ring (m + 2)) : RestZ (if ring = true then (rowK ring (m + 2) k).headD 0 else 1) (rowK ring (m + 2) k) := by
  cases ring with
  | false => rw [if_neg Bool.false_ne_true]; exact ok_rest0 _ (row_line_ok h)
  | true =>
    have hb : k < fb (m + 3) + fb (m + 1) := h
    have e2 : fb (m + 2) = fb m + fb (m + 1) := fb_two m
    rw [if_pos rfl, rowK_ring]
    show RestZ ((if k < fb (m + 3) then _ else _ : List Int).headD 0) (if k < fb (m + 3) then _ else _)
    split
    · rename_i c
      exact ⟨.inl rfl, Int.zero_mul _, ok_rest1 _ (decF_ok (by decide) _ _ c)⟩
    · rename_i c
      have hd : (decF (m + 1) 0 (k - fb (m + 3))).headD 0 = 0 := decF_head (by show k - fb (m + 3) < fb (m + 1); omega)
      refine ⟨.inr rfl, ?_, ok_rest0 _ (decF_ok (by decide) _ _ (by show k - fb (m + 3) < fb (m + 2); omega))⟩
      have hl := decF_len 0 (m + 1) (k - fb (m + 3))
      cases hx : decF (m + 1) 0 (k - fb (m + 3)) with
      | nil => rw [hx] at hl; cases hl
      | cons y ys =>
        rw [hx] at hd
        show (1 : Int) * y = 0
        rw [show y = 0 from hd]; rfl
/-- a line's rest is the ring's, too -/
theorem ok_01 : ∀ xs, OkL 0 xs → OkL 1 xs
  | [], _ => trivial
  | x :: xs, h => ⟨h.1.elim .inl fun z => .inr ⟨z.1, fun _ => rfl, z.2.2⟩, ok_01 xs h.2⟩
theorem line_in_ring {m k : Nat} (h : k < cntK false (m + 2)) : numP true [] (rowK false (m + 2) k) < cntK true (m + 2) ∧ rowK true (m + 2) (numP true [] (rowK false (m + 2) k)) = rowK false (m + 2) k := by
  have ho := row_line_ok h
  have hl := rowK_len false (m + 2) k
  generalize rowK false (m + 2) k = row at ho hl
  have ec : cntK true (m + 2) = fb (m + 3) + fb (m + 1) := rfl
  have p1 := fb_pos m
  cases row with
  | nil => cases hl
  | cons x xs =>
    have lx : xs.length = m + 1 := by rw [List.length_cons] at hl; omega
    obtain ⟨h1, h2⟩ := ho
    rw [rowK_ring]
    rcases h1 with rfl | ⟨rfl, h3, h4⟩
    · have o1 := ok_01 xs h2
      have n1 := (num_lt xs o1).1
      have d1 := dec_num xs o1
      rw [lx] at n1 d1
      have n1 : numF 1 xs < fb (m + 3) := n1
      rw [numK_zero]
      refine ⟨by omega, ?_⟩
      show (if numF 1 xs < fb (m + 3) then _ else _) = _
      rw [if_pos n1, d1]
    · have n1 := (num_lt xs h2).2 h4 h3
      have d1 := dec_num xs h2
      rw [numK_one]
      rw [lx] at n1 d1 ⊢
      have n1 : numF 0 xs < fb (m + 1) := n1
      show fb (m + 3) + numF 0 xs < cntK true (m + 2) ∧ (if fb (m + 3) + numF 0 xs < fb (m + 3) then _ else 1 :: decF (m + 1) 0 (fb (m + 3) + numF 0 xs - fb (m + 3))) = _
      refine ⟨by omega, ?_⟩
      rw [if_neg (by omega), Nat.add_sub_cancel_left, d1]
end Lh

namespace Lh
open PySem PySem.Spec PyProof.Rows L2
/-! ### rules -/
inductive Rule where
  | held (n : Int)
  | sum (own : Int) (ties : List (Int × Int))
  | cap (own : Int) (ties : List (Int × Int)) (most : Int)
  | kinds (own : Int) (seen : List Int)
  | next (seen : List Int)
  | free (seen : List Int)
/-- tuples stay -/
structure Keep (H H' : Hp) : Prop where
  tup : ∀ a xs, H a = some (.tup xs) → H' a = some (.tup xs)
  frz : ∀ a o u, H a = some (.frz o u) → H' a = some (.frz o u)
theorem Keep.refl (H : Hp) : Keep H H := ⟨fun _ _ h => h, fun _ _ _ h => h⟩
theorem Keep.trans {H H1 H2 : Hp} (a : Keep H H1) (b : Keep H1 H2) : Keep H H2 := ⟨fun x y h => b.tup x y (a.tup x y h), fun x y z h => b.frz x y z (a.frz x y z h)⟩
theorem Keep.same {H H' : Hp} (e : Same H H') : Keep H H' := ⟨fun a xs h => e a _ h, fun a o u h => e a _ h⟩
theorem Keep.ext {bx : Addr} {c : Int} {H H' : Hp} (e : Ext bx H H') (b : Box bx c H) : Keep H H' := by
  obtain ⟨x, y, z, hb, _⟩ := b
  exact ⟨fun a xs h => e a _ (ne_of h hb (by intro z; cases z)) h, fun a o u h => e a _ (ne_of h hb (by intro z; cases z)) h⟩
theorem TupAt.keep {H H' : Hp} {a : Addr} {xs : List V} (k : Keep H H') (h : TupAt H a xs) : TupAt H' a xs := by
  rcases h with h | ⟨o, d, h⟩
  · exact .inl (k.tup _ _ h)
  · exact .inr ⟨o, d, k.frz _ _ _ h⟩
def PairAtH (H : Hp) (p : Addr) (q : Int × Int) : Prop := H p = some (.tup [.int q.1, .int q.2])
def TiesAt (H : Hp) (t : Addr) (ties : List (Int × Int)) : Prop := ∃ (o : Obj) (ps : List Addr), o.dict = none ∧ TupAt H t (ps.map V.ref) ∧ Paired (PairAtH H) ps ties
def SeenAt (H : Hp) (t : Addr) (seen : List Int) : Prop := TupAt H t (seen.map V.int)
def RuleAt (H : Hp) (v : V) : Rule → Prop
  | .held n => ∃ a, v = .ref a ∧ H a = some (.tup [.str "held", .int n])
  | .sum own ties => ∃ a t, v = .ref a ∧ H a = some (.tup [.str "sum", .int own, .ref t]) ∧ TiesAt H t ties
  | .cap own ties most => ∃ a t, v = .ref a ∧ H a = some (.tup [.str "cap", .int own, .ref t, .int most]) ∧ TiesAt H t ties
  | .kinds own seen => ∃ a t, v = .ref a ∧ H a = some (.tup [.str "kinds", .int own, .ref t]) ∧ SeenAt H t seen
  | .next seen => ∃ a t, v = .ref a ∧ H a = some (.tup [.str "next", .ref t]) ∧ SeenAt H t seen
  | .free seen => ∃ a t, v = .ref a ∧ H a = some (.tup [.str "free", .ref t]) ∧ SeenAt H t seen
theorem pairs_keep {H H' : Hp} (k : Keep H H') : ∀ {ps : List Addr} {ties : List (Int × Int)}, Paired (PairAtH H) ps ties → Paired (PairAtH H') ps ties
  | _, _, .nil => .nil
  | _, _, .cons h r => .cons (k.tup _ _ h) (pairs_keep k r)
theorem TiesAt.keep {H H' : Hp} {t : Addr} {ties : List (Int × Int)} (k : Keep H H') (h : TiesAt H t ties) : TiesAt H' t ties := by
  obtain ⟨o, ps, h1, h2, h3⟩ := h
  exact ⟨o, ps, h1, h2.keep k, pairs_keep k h3⟩
theorem SeenAt.keep {H H' : Hp} {t : Addr} {seen : List Int} (k : Keep H H') (h : SeenAt H t seen) : SeenAt H' t seen := TupAt.keep k h
theorem RuleAt.keep {H H' : Hp} {v : V} (k : Keep H H') : ∀ {r : Rule}, RuleAt H v r → RuleAt H' v r
  | .held n, ⟨a, e, h⟩ => ⟨a, e, k.tup _ _ h⟩
  | .sum _ _, ⟨a, t, e, h, q⟩ => ⟨a, t, e, k.tup _ _ h, q.keep k⟩
  | .cap _ _ _, ⟨a, t, e, h, q⟩ => ⟨a, t, e, k.tup _ _ h, q.keep k⟩
  | .kinds _ _, ⟨a, t, e, h, q⟩ => ⟨a, t, e, k.tup _ _ h, q.keep k⟩
  | .next _, ⟨a, t, e, h, q⟩ => ⟨a, t, e, k.tup _ _ h, q.keep k⟩
  | .free _, ⟨a, t, e, h, q⟩ => ⟨a, t, e, k.tup _ _ h, q.keep k⟩
def smallI (i : Int) : Prop := 0 ≤ i ∧ i ≤ 1000
/-- rising persons below many -/
def Rising (many : Int) (ns : List Int) : Prop := ns.Pairwise (· < ·) ∧ ∀ n ∈ ns, 0 ≤ n ∧ n < many
def Rule.Wf (many : Int) : Rule → Prop
  | .held n => smallI n
  | .sum own ties => smallI own ∧ Rising many (ties.map (·.1)) ∧ ∀ q ∈ ties, 1 ≤ q.2 ∧ q.2 ≤ 1000
  | .cap own ties most => smallI own ∧ Rising many (ties.map (·.1)) ∧ (∀ q ∈ ties, 1 ≤ q.2 ∧ q.2 ≤ 1000) ∧ smallI most
  | .kinds own seen => smallI own ∧ Rising many seen
  | .next seen => Rising many seen
  | .free seen => Rising many seen
def Rule.persons : Rule → List Int
  | .held _ => []
  | .sum _ ties => ties.map (·.1)
  | .cap _ ties _ => ties.map (·.1)
  | .kinds _ seen => seen
  | .next seen => seen
  | .free seen => seen
theorem Rising.sub {many : Int} {ns ms : List Int} (s : ms.Sublist ns) (h : Rising many ns) : Rising many ms := ⟨h.1.sublist s, fun n hn => h.2 n (s.subset hn)⟩
/-- an item of a written list -/
theorem pick {xs : List V} {i : Int} (h0 : 0 ≤ i) (h1 : i < xs.length) : ∃ v, v ∈ xs ∧ atI xs i = some v := by
  have hj : i.toNat < xs.length := by omega
  exact ⟨xs[i.toNat], List.getElem_mem hj, at_of (by omega) (List.getElem?_eq_getElem hj)⟩
section
variable {P : Program} {w : World} {K : PySem.W.Frag} {mg : Str → Option Value} {base : Heap}
def spSome : Sp := fun vs H Q _ => ∃ (bx p : Addr) (c m : Int) (ns : List Int), vs = [.ref bx, .ref p, .int m] ∧ 0 < m ∧ m ≤ 1000000 ∧ c + ns.length ≤ 1000000000 ∧ ns.length ≤ 1000 ∧ Box bx c H ∧ H p = some (.lst (ns.map V.int)) ∧ p ≠ bx ∧
  ∀ (q : Addr) (ms : List Int) (H' : Hp), Ext bx H H' → Box bx (c + ns.length) H' → H q = none → H' q = some (.lst (ms.map V.int)) → ms.Sublist ns → Q (.ref q) H'
end
end Lh

namespace Lh
open PySem PySem.Spec PyProof.Rows L2
section
variable {P : Program} {w : World} {K : PySem.W.Frag} {mg : Str → Option Value} {base : Heap}
theorem Paired.snoc {α β : Type} {R : α → β → Prop} {x : α} {y : β} (r : R x y) : ∀ {xs : List α} {ys : List β}, Paired R xs ys → Paired R (xs ++ [x]) (ys ++ [y])
  | _, _, .nil => .cons r .nil
  | _, _, .cons h t => .cons h (Paired.snoc r t)
def spSumRule : Sp := fun vs H Q _ => ∃ (bx p : Addr) (c far many : Int) (ns : List Int), vs = [.ref bx, .ref p, .int far] ∧ 0 < far ∧ far ≤ 999 ∧ c + 2 * ns.length + 4 ≤ 1000000000 ∧ ns.length ≤ 1000 ∧ Box bx c H ∧ H p = some (.lst (ns.map V.int)) ∧ p ≠ bx ∧ Rising many ns ∧
  ∀ (v : V) (r : Rule) (H' : Hp), Ext bx H H' → Box bx (c + 2 * ns.length + 4) H' → RuleAt H' v r → r.Wf many → r.persons = ns → Q v H'
end
end Lh

namespace Lh
open PySem PySem.Spec PyProof.Rows L2
section
variable {P : Program} {w : World} {K : PySem.W.Frag} {mg : Str → Option Value} {base : Heap}
def spRule : Sp := fun vs H Q _ => ∃ (bx p : Addr) (c far many : Int) (m : V) (ns : List Int), vs = [.ref bx, m, .ref p, .int far] ∧ 0 < far ∧ far ≤ 999 ∧ c + 3 * ns.length + 6 ≤ 1000000000 ∧ ns.length ≤ 1000 ∧ Box bx c H ∧ H p = some (.lst (ns.map V.int)) ∧ p ≠ bx ∧ Rising many ns ∧
  ∀ (v : V) (r : Rule) (H' : Hp), Ext bx H H' → Box bx (c + 3 * ns.length + 6) H' → RuleAt H' v r → r.Wf many → r.persons.Sublist ns → Q v H'
end
end Lh

namespace Lh
open PySem PySem.Spec PyProof.Rows L2
/-! ### what a rule tells -/
theorem nodup_len {α : Type} [DecidableEq α] : ∀ (xs ys : List α), xs.Nodup → (∀ x ∈ xs, x ∈ ys) → xs.length ≤ ys.length
  | [], _, _, _ => Nat.zero_le _
  | x :: t, ys, nd, h => by
    have hx : x ∈ ys := h x List.mem_cons_self
    have nt := List.nodup_cons.mp nd
    have h2 := nodup_len t (ys.erase x) nt.2 (fun y hy => by
      have ne : y ≠ x := fun e => nt.1 (by rw [← e]; exact hy)
      exact (List.mem_erase_of_ne ne).mpr (h y (List.mem_cons_of_mem _ hy)))
    rw [List.length_erase_of_mem hx] at h2
    have : 0 < ys.length := List.length_pos_of_mem hx
    rw [List.length_cons]
    omega
def wgt (ties : List (Int × Int)) (p : Int) : Int := ((ties.find? fun q => decide (q.1 = p)).map (·.2)).getD 0
def IsMex (ns : List Int) (x : Int) : Prop := x ∉ ns ∧ 0 ≤ x ∧ ∀ j, 0 ≤ j → j < x → j ∈ ns
def Tell : Rule → List (Int × Int) → Int → Prop
  | .held n, _, x => x = n
  | .sum own ties, lot, x => x = own + (lot.map fun q => wgt ties q.1).sum
  | .cap own ties most, lot, x => x = min (own + (lot.map fun q => wgt ties q.1).sum) most
  | .kinds own _, lot, x => ∃ ks : List Int, ks.Nodup ∧ (∀ k, k ∈ ks ↔ k ∈ lot.map (·.2)) ∧ x = own + ks.length
  | .next _, lot, x => (lot = [] ∧ x = 0) ∨ (x - 1 ∈ lot.map (·.2) ∧ ∀ y ∈ lot.map (·.2), y ≤ x - 1)
  | .free _, lot, x => IsMex (lot.map (·.2)) x
theorem Tell.unique : ∀ {r : Rule} {lot : List (Int × Int)} {x y : Int}, Tell r lot x → Tell r lot y → x = y
  | .held _, _, _, _, h, k => h.trans k.symm
  | .sum _ _, _, _, _, h, k => h.trans k.symm
  | .cap _ _ _, _, _, _, h, k => h.trans k.symm
  | .kinds _ _, lot, x, y, ⟨a, na, ma, ha⟩, ⟨b, nb, mb, hb⟩ => by
    have h1 := nodup_len a b na (fun z hz => (mb z).mpr ((ma z).mp hz))
    have h2 := nodup_len b a nb (fun z hz => (ma z).mpr ((mb z).mp hz))
    omega
  | .next _, lot, x, y, h, k => by
    rcases h with ⟨h1, h2⟩ | ⟨h1, h2⟩
    · rcases k with ⟨k1, k2⟩ | ⟨k1, k2⟩
      · omega
      · rw [h1] at k1; exact absurd k1 (by simp)
    · rcases k with ⟨k1, k2⟩ | ⟨k1, k2⟩
      · rw [k1] at h1; exact absurd h1 (by simp)
      · have := h2 _ k1; have := k2 _ h1; omega
  | .free _, lot, x, y, ⟨h1, h2, h3⟩, ⟨k1, k2, k3⟩ => by
    rcases Int.lt_trichotomy x y with h | h | h
    · exact absurd (k3 x h2 h) h1
    · exact h
    · exact absurd (h3 y k2 h) k1
/-! ### dicts of ties -/
def kvOf (ties : List (Int × Int)) : List (Key × V) := ties.map fun q => (Sum.inl q.1, V.int q.2)
theorem merge_new : ∀ (more acc : List (Key × V)), ((acc ++ more).map (·.1)).Nodup → mergeK acc more = acc ++ more
  | [], acc, _ => by rw [List.append_nil]; rfl
  | q :: t, acc, nd => by
    have hq : (acc.any fun kv => decide (kv.1 = q.1)) = false := by
      rw [List.any_eq_false]
      intro kv hkv e
      have e' : kv.1 = q.1 := of_decide_eq_true e
      rw [List.map_append, List.nodup_append] at nd
      exact nd.2.2 _ (List.mem_map_of_mem hkv) q.1 (by simp) e'
    have e1 : mergeK acc (q :: t) = mergeK (putK acc q.1 q.2) t := rfl
    have e2 : putK acc q.1 q.2 = acc ++ [q] := by
      unfold putK
      rw [hq, if_neg Bool.false_ne_true]
    rw [e1, e2, merge_new t (acc ++ [q]) (by rw [List.append_assoc]; exact nd), List.append_assoc]
    rfl
theorem kv_nodup {ties : List (Int × Int)} (h : (ties.map (·.1)).Nodup) : ((kvOf ties).map (·.1)).Nodup := by
  unfold kvOf
  rw [List.map_map]
  have e : ((fun q : Key × V => q.1) ∘ fun q : Int × Int => ((Sum.inl q.1 : Key), V.int q.2)) = (fun n : Int => (Sum.inl n : Key)) ∘ (fun q : Int × Int => q.1) := rfl
  rw [e, ← List.map_map, List.nodup_iff_pairwise_ne]
  rw [List.nodup_iff_pairwise_ne] at h
  exact List.Pairwise.map _ (fun a b z q => z (Sum.inl.inj q)) h
theorem kv_get : ∀ {ties : List (Int × Int)} {p : Int}, p ∈ ties.map (·.1) → valV (kvOf ties) (Sum.inl p) = some (.int (wgt ties p))
  | [], p, h => absurd h (by simp)
  | q :: t, p, h => by
    by_cases e : q.1 = p
    · have e1 : valV (kvOf (q :: t)) (Sum.inl p) = some (V.int q.2) := valV_pos (p := ((Sum.inl q.1 : Key), V.int q.2)) (by rw [e])
      rw [e1]
      unfold wgt
      rw [List.find?_cons, decide_eq_true e]
      rfl
    · have e1 : valV (kvOf (q :: t)) (Sum.inl p) = valV (kvOf t) (Sum.inl p) := valV_neg (p := ((Sum.inl q.1 : Key), V.int q.2)) (fun z => e (Sum.inl.inj z))
      have h' : p ∈ t.map (·.1) := by
        rw [List.map_cons, List.mem_cons] at h
        rcases h with h | h
        · exact absurd h.symm e
        · exact h
      rw [e1, kv_get h']
      unfold wgt
      rw [List.find?_cons, decide_eq_false e]
theorem Rising.nodup {many : Int} {ns : List Int} (h : Rising many ns) : ns.Nodup := by
  rw [List.nodup_iff_pairwise_ne]
  exact h.1.imp fun z => by omega
/-! ### a walk over pairs -/
theorem walk_tupR {K : PySem.W.Frag} {t : Addr} (ps : List Addr) : Walk (Itt K t) ps.length (fun H => SqT K H t (ps.map V.ref)) (YAt (ps.map V.ref)) := by
  have h := walk_tup (K := K) (a := t) (xs := ps.map V.ref)
  rw [List.length_map] at h
  exact h
theorem walk_listR {K : PySem.W.Frag} {t : Addr} (ps : List Addr) : Walk (Itl K t) ps.length (fun H => SqL K H t (ps.map V.ref)) (YAt (ps.map V.ref)) := by
  have h := walk_list (K := K) (a := t) (xs := ps.map V.ref)
  rw [List.length_map] at h
  exact h
theorem lc_pairs {K : PySem.W.Frag} {J : It} {G : Hp → Prop} {ps : List Addr} {lot : List (Int × Int)} {H1 : Hp} {D : Addr} {σ : L2.St} {vs : List Nat} {te : TE} {Qd : Hp → Prop} {i j : Nat} (f : Int × Int → Int)
    (wk : Walk J ps.length G (YAt (ps.map V.ref))) (hp : Paired (PairAtH H1) ps lot) (hD : H1 D = none) (hl : ps.length ≤ 1000) (hG : ∀ H3, Same H1 H3 → G H3)
    (hw : ∀ a b, wipe (((wipe σ vs).set i a).set j b) vs = wipe σ vs)
    (he : ∀ q ∈ lot, ∀ H3, Same H1 H3 → ∀ Q : VK, Q (.int (f q)) H3 → te (((wipe σ vs).set i (some (.int q.1))).set j (some (.int q.2))) H3 Q)
    (hq : ∀ H', Same H1 H' → H' D = some (.lst ((lot.map f).map V.int)) → Qd H') :
    ∃ W : Nat → Nat → Hp → Prop, (∃ m, W 0 m (upd H1 D (.lst []))) ∧ ∀ i1 m H, W i1 m H →
      (J.stop i1 H ∧ Qd H) ∨ (J.go i1 H ∧ ∃ Nx : Hp → Prop, (∀ H', Nx H' → ∃ m', m' < m ∧ W (i1 + 1) m' H') ∧ ∀ x H', J.yld i1 H x H' → gTup K 2 (gCons (gName i) (gCons (gName j) gNil)) x (wipe σ vs) H' fun σ2 H2 => wipe σ2 vs = wipe σ vs ∧ tYes σ2 H2 fun b H3 =>
        if b = true then te σ2 H3 fun y H4 => ∃ acc, H4 D = some (.lst acc) ∧ acc.length < sizeLine ∧ Nx (upd H4 D (.lst (acc ++ [y]))) else Nx H3) := by
  have ll : ps.length = lot.length := hp.length
  refine lc_it wk (fun n H3 => Same H1 H3 ∧ H3 D = some (.lst (((lot.take n).map f).map V.int))) ⟨same_upd hD, upd_same⟩ (fun n H3 _ h => hG H3 h.1) ?_ ?_
  · rintro n x H3 H4 hn ⟨sm, h3⟩ ⟨rfl, hx⟩
    rw [List.getElem?_map, List.getElem?_eq_getElem hn] at hx
    have ex : x = .ref ps[n] := (Option.some.inj hx).symm
    subst ex
    have hn2 : n < lot.length := by omega
    have pa : PairAtH H1 ps[n] lot[n] := by
      have : ∀ {ps : List Addr} {lot : List (Int × Int)}, Paired (PairAtH H1) ps lot → ∀ (n : Nat) (h1 : n < ps.length) (h2 : n < lot.length), PairAtH H1 ps[n] lot[n] := by
        intro ps lot hp
        induction hp with
        | nil => intro n h1; exact absurd h1 (by simp)
        | cons r t ih =>
          intro n h1 h2
          cases n with
          | zero => exact r
          | succ n => exact ih n (by simpa using h1) (by simpa using h2)
      exact this hp n hn hn2
    refine ⟨ps[n], _, rfl, .inl (.inl (sm _ _ pa)), rfl, _, _, rfl, _, _, rfl, rfl, hw _ _, yes (iteT ?_)⟩
    refine he lot[n] (List.getElem_mem hn2) _ sm _ ⟨_, h3, ?_, same_mut sm hD, ?_⟩
    · rw [List.length_map, List.length_map, List.length_take]; exact small1000 (by omega)
    · rw [upd_same, List.take_add_one, List.getElem?_eq_getElem hn2, List.map_append, List.map_append]; rfl
  · rintro H3 ⟨sm, h3⟩
    rw [ll, List.take_length] at h3
    exact hq H3 sm h3
end Lh

namespace Lh
open PySem PySem.Spec PyProof.Rows L2
section
variable {P : Program} {w : World} {K : PySem.W.Frag} {mg : Str → Option Value} {base : Heap}
def spSeenBy : Sp := fun vs H Q _ => ∃ (v : V) (r : Rule), vs = [v] ∧ RuleAt H v r ∧ r.persons.length ≤ 1000 ∧ ∀ (p : Addr) (H' : Hp), Same H H' → H p = none → H' p = some (.lst (r.persons.map V.int)) → Q (.ref p) H'
theorem ok_seen_by (T : Txt K mg w) : FnOk P w K mg base CX0 1 T.f_seen_by T.fd_seen_by p_seen_by spSeenBy := by
  refine T.F_seen_by.ok sc_seen_by (fun vs H Q E h => ?_) (fun cdv A outer s H vs Q E hr h => ?_)
  · obtain ⟨v, r, rfl, _⟩ := h
    rfl
  · obtain ⟨v, r, rfl, hv, hl, q⟩ := h
    refine ⟨_, (pss_cons (ps_set (i := 1) sc_seen_by.nd rfl (.inl rfl) (pe_ix ix_tup (pv 0) pe_int (fun _ _ => rfl)))
      (pss_cons (ps_if (pt_cmpR op_eq (pv 1) pe_str (nomark _))
        (pss_one (ps_ret (pe_lst pa_nil)))
        pss_nil)
      (pss_cons (ps_if (pt_cmpR op_in_seq (pv 1) (pe_tup (pa_cons pe_str (pa_cons pe_str pa_nil))) (by rfl))
        (pss_one (ps_ret (pe_lc (own := [("person", 2), ("weight", 3)]) (g := gTup K 2 (gCons (gName 2) (gCons (gName 3) gNil))) (by rfl) sc_seen_by.nd (pi_tup (pe_ix ix_tup (pv 0) pe_int (fun _ _ => rfl))) (blkOk_by (own := [("person", 2), ("weight", 3)]) (N := n_seen_by) (sc := defScope s_seen_by) (by decide +kernel)) (fun _ _ _ _ _ => (pg_tup rfl (pgs_cons (pg_name (i := 2) sc_seen_by.nd rfl (.inl rfl) (.inr rfl)) (pgs_cons (pg_name (i := 3) sc_seen_by.nd rfl (.inl rfl) (.inr rfl)) pgs_nil)))) (fun _ _ _ _ _ => pts_nil) (fun _ _ _ _ _ => (pv 2)))))
        pss_nil)
      (pss_cons (ps_if (pt_cmpR op_eq (pv 1) pe_str (nomark _))
        (pss_one (ps_ret (pe_callTy call_list_of (by rfl) T.m_list (by decide +kernel) (pa_cons (pe_ix ix_tup (pv 0) pe_int (fun _ _ => rfl)) pa_nil))))
        pss_nil)
      (pss_one (ps_ret (pe_callTy call_list_of (by rfl) T.m_list (by decide +kernel) (pa_cons (pe_ix ix_tup (pv 0) pe_int (fun _ _ => rfl)) pa_nil)))))))), ?_⟩
    cases r with
    | held n =>
      obtain ⟨a, rfl, ha⟩ := hv
      refine ⟨.ref a, rfl, a, _, 0, _, rfl, rfl, .inl (.inl ha), rfl, ?_⟩
      refine ⟨_, rfl, rfl, _, rfl, iteP (by decide +kernel) ?_⟩
      exact ⟨Nat.zero_le _, fun p np => q p _ (same_upd np) np upd_same⟩
    | sum own ties =>
      obtain ⟨a, t, rfl, ha, o, ps, od, ht, pr⟩ := hv
      have el : ps.length = ties.length := pr.length
      have hl2 : ps.length ≤ 1000 := by rw [el]; simpa [Rule.persons] using hl
      refine ⟨.ref a, rfl, a, _, 0, _, rfl, rfl, .inl (.inl ha), rfl, ?_⟩
      refine ⟨_, rfl, rfl, _, rfl, iteN (by decide +kernel) ?_⟩
      refine ⟨_, rfl, by show 2 ≤ sizeLine; decide, fun u hu => ⟨u, _, rfl, .inr (.inl (.inl upd_same)), rfl, rfl, _, rfl, iteP (by decide +kernel) ?_⟩⟩
      have s1 := same_upd (o := .tup [.str "sum", .str "cap"]) hu
      refine ⟨.ref a, rfl, a, _, 2, _, rfl, rfl, .inl (.inl (s1 _ _ ha)), rfl, t, rfl, ⟨_, (ht.keep (Keep.same s1)).sq⟩, fun D hD => ?_⟩
      refine lc_pairs (·.1) (walk_tupR ps) (pairs_keep (Keep.same s1) pr) hD hl2 (fun H3 s3 => ((ht.keep (Keep.same s1)).keep (Keep.same s3)).sq) (fun _ _ => rfl) (fun q _ H3 _ Q h => ⟨_, rfl, h⟩) (fun H3 s3 h3 => ?_)
      exact q D H3 (s1.trans s3) (s1.free hD) h3
    | cap own ties most =>
      obtain ⟨a, t, rfl, ha, o, ps, od, ht, pr⟩ := hv
      have el : ps.length = ties.length := pr.length
      have hl2 : ps.length ≤ 1000 := by rw [el]; simpa [Rule.persons] using hl
      refine ⟨.ref a, rfl, a, _, 0, _, rfl, rfl, .inl (.inl ha), rfl, ?_⟩
      refine ⟨_, rfl, rfl, _, rfl, iteN (by decide +kernel) ?_⟩
      refine ⟨_, rfl, by show 2 ≤ sizeLine; decide, fun u hu => ⟨u, _, rfl, .inr (.inl (.inl upd_same)), rfl, rfl, _, rfl, iteP (by decide +kernel) ?_⟩⟩
      have s1 := same_upd (o := .tup [.str "sum", .str "cap"]) hu
      refine ⟨.ref a, rfl, a, _, 2, _, rfl, rfl, .inl (.inl (s1 _ _ ha)), rfl, t, rfl, ⟨_, (ht.keep (Keep.same s1)).sq⟩, fun D hD => ?_⟩
      refine lc_pairs (·.1) (walk_tupR ps) (pairs_keep (Keep.same s1) pr) hD hl2 (fun H3 s3 => ((ht.keep (Keep.same s1)).keep (Keep.same s3)).sq) (fun _ _ => rfl) (fun q _ H3 _ Q h => ⟨_, rfl, h⟩) (fun H3 s3 h3 => ?_)
      exact q D H3 (s1.trans s3) (s1.free hD) h3
    | kinds own seen =>
      obtain ⟨a, t, rfl, ha, ht⟩ := hv
      refine ⟨.ref a, rfl, a, _, 0, _, rfl, rfl, .inl (.inl ha), rfl, ?_⟩
      refine ⟨_, rfl, rfl, _, rfl, iteN (by decide +kernel) ?_⟩
      refine ⟨_, rfl, by show 2 ≤ sizeLine; decide, fun u hu => ⟨u, _, rfl, .inr (.inl (.inl upd_same)), rfl, rfl, _, rfl, iteN (by decide +kernel) ?_⟩⟩
      have s1 := same_upd (o := .tup [.str "sum", .str "cap"]) hu
      refine ⟨_, rfl, rfl, _, rfl, iteP (by decide +kernel) ?_⟩
      refine ⟨.ref a, rfl, a, _, 2, _, rfl, rfl, .inl (.inl (s1 _ _ ha)), rfl, t, _, rfl, .inr (TupAt.keep (Keep.same s1) ht).sq, fun p np => ?_⟩
      exact q p _ (s1.trans (same_upd np)) (s1.free np) upd_same
    | next seen =>
      obtain ⟨a, t, rfl, ha, ht⟩ := hv
      refine ⟨.ref a, rfl, a, _, 0, _, rfl, rfl, .inl (.inl ha), rfl, ?_⟩
      refine ⟨_, rfl, rfl, _, rfl, iteN (by decide +kernel) ?_⟩
      refine ⟨_, rfl, by show 2 ≤ sizeLine; decide, fun u hu => ⟨u, _, rfl, .inr (.inl (.inl upd_same)), rfl, rfl, _, rfl, iteN (by decide +kernel) ?_⟩⟩
      have s1 := same_upd (o := .tup [.str "sum", .str "cap"]) hu
      refine ⟨_, rfl, rfl, _, rfl, iteN (by decide +kernel) ?_⟩
      refine ⟨.ref a, rfl, a, _, 1, _, rfl, rfl, .inl (.inl (s1 _ _ ha)), rfl, t, _, rfl, .inr (TupAt.keep (Keep.same s1) ht).sq, fun p np => ?_⟩
      exact q p _ (s1.trans (same_upd np)) (s1.free np) upd_same
    | free seen =>
      obtain ⟨a, t, rfl, ha, ht⟩ := hv
      refine ⟨.ref a, rfl, a, _, 0, _, rfl, rfl, .inl (.inl ha), rfl, ?_⟩
      refine ⟨_, rfl, rfl, _, rfl, iteN (by decide +kernel) ?_⟩
      refine ⟨_, rfl, by show 2 ≤ sizeLine; decide, fun u hu => ⟨u, _, rfl, .inr (.inl (.inl upd_same)), rfl, rfl, _, rfl, iteN (by decide +kernel) ?_⟩⟩
      have s1 := same_upd (o := .tup [.str "sum", .str "cap"]) hu
      refine ⟨_, rfl, rfl, _, rfl, iteN (by decide +kernel) ?_⟩
      refine ⟨.ref a, rfl, a, _, 1, _, rfl, rfl, .inl (.inl (s1 _ _ ha)), rfl, t, _, rfl, .inr (TupAt.keep (Keep.same s1) ht).sq, fun p np => ?_⟩
      exact q p _ (s1.trans (same_upd np)) (s1.free np) upd_same
end
end Lh

namespace Lh
open PySem PySem.Spec PyProof.Rows L2
/-- a lot in the heap, a list of pairs or a tuple of them -/
def LotAt (H : Hp) (v : V) (lot : List (Int × Int)) : Prop := ∃ (a : Addr) (ps : List Addr), v = .ref a ∧ (H a = some (.lst (ps.map V.ref)) ∨ TupAt H a (ps.map V.ref)) ∧ Paired (PairAtH H) ps lot ∧ ps.length ≤ 1000
theorem LotAt.same {H H' : Hp} {v : V} {lot : List (Int × Int)} (s : Same H H') (h : LotAt H v lot) : LotAt H' v lot := by
  obtain ⟨a, ps, e, h1, h2, h3⟩ := h
  refine ⟨a, ps, e, ?_, pairs_keep (Keep.same s) h2, h3⟩
  rcases h1 with h1 | h1
  · exact .inl (s _ _ h1)
  · exact .inr (h1.keep (Keep.same s))
theorem pairs_sq {K : PySem.W.Frag} {H : Hp} : ∀ {ps : List Addr} {ties : List (Int × Int)}, Paired (PairAtH H) ps ties → Paired (fun p kv => SqT K H p [kV kv.1, kv.2]) ps (kvOf ties)
  | _, _, .nil => .nil
  | _, _, .cons h r => .cons (.inl (.inl h)) (pairs_sq r)
theorem merge_kv {ties : List (Int × Int)} (h : (ties.map (·.1)).Nodup) : mergeK [] (kvOf ties) = kvOf ties := by
  rw [merge_new (kvOf ties) [] (by rw [List.nil_append]; exact kv_nodup h), List.nil_append]
section
variable {P : Program} {w : World} {K : PySem.W.Frag} {mg : Str → Option Value} {base : Heap}
theorem in_ints (x : Int) (ns : List Int) : inV (.int x) (ns.map V.int) = decide (x ∈ ns) := by
  unfold inV
  rw [List.any_map]
  rw [Bool.eq_iff_iff, List.any_eq_true, decide_eq_true_iff]
  constructor
  · rintro ⟨y, hy, e⟩
    have e' : (y == x) = true := e
    rw [← eq_of_beq e']; exact hy
  · intro h
    exact ⟨x, h, (beq_self_eq_true x : (x == x) = true)⟩
theorem flat_ints (ns : List Int) : (ns.map V.int).all flatV = true := by
  rw [List.all_map, List.all_eq_true]
  intro _ _; rfl
end
end Lh

namespace Lh
open PySem PySem.Spec PyProof.Rows L2
def seenPairs : Rule → List (Int × Int)
  | .held _ => []
  | .sum _ ties => ties
  | .cap _ ties _ => ties
  | .kinds _ seen => seen.map fun n => (n, 1)
  | .next seen => seen.map fun n => (n, 1)
  | .free seen => seen.map fun n => (n, 1)
theorem seen_persons : ∀ r : Rule, (seenPairs r).map (·.1) = r.persons
  | .held _ => rfl
  | .sum _ _ => rfl
  | .cap _ _ _ => rfl
  | .kinds _ s => by show (s.map fun n => (n, (1 : Int))).map (·.1) = s; rw [List.map_map]; exact List.map_id s
  | .next s => by show (s.map fun n => (n, (1 : Int))).map (·.1) = s; rw [List.map_map]; exact List.map_id s
  | .free s => by show (s.map fun n => (n, (1 : Int))).map (·.1) = s; rw [List.map_map]; exact List.map_id s
section
variable {P : Program} {w : World} {K : PySem.W.Frag} {mg : Str → Option Value} {base : Heap}
/-- [(one, 1) for one in seen] -/
theorem lc_ones {K : PySem.W.Frag} {t : Addr} {seen : List Int} {H1 : Hp} {D : Addr} {σ : L2.St} {vs : List Nat} {Qd : Hp → Prop} {i : Nat} (ht : SeenAt H1 t seen) (hD : H1 D = none) (hl : seen.length ≤ 1000)
    (hw : ∀ a, wipe ((wipe σ vs).set i a) vs = wipe σ vs) (hi : ∀ a : V, ((wipe σ vs).set i (some a))[i]? = some (some a))
    (hq : ∀ H' ps, Same H1 H' → H' D = some (.lst (ps.map V.ref)) → Paired (PairAtH H') ps (seen.map fun n => (n, 1)) → Qd H') :
    ∃ W : Nat → Nat → Hp → Prop, (∃ m, W 0 m (upd H1 D (.lst []))) ∧ ∀ i1 m H, W i1 m H →
      ((Itt K t).stop i1 H ∧ Qd H) ∨ ((Itt K t).go i1 H ∧ ∃ Nx : Hp → Prop, (∀ H', Nx H' → ∃ m', m' < m ∧ W (i1 + 1) m' H') ∧ ∀ x H', (Itt K t).yld i1 H x H' → gName i x (wipe σ vs) H' fun σ2 H2 => wipe σ2 vs = wipe σ vs ∧ tYes σ2 H2 fun b H3 =>
        if b = true then tTup (tCons (tVar i) (tCons (tC (.int 1)) tNil)) σ2 H3 fun y H4 => ∃ acc, H4 D = some (.lst acc) ∧ acc.length < sizeLine ∧ Nx (upd H4 D (.lst (acc ++ [y]))) else Nx H3) := by
  refine lc_it (walk_tup (xs := seen.map V.int)) (fun n H3 => ∃ ps : List Addr, Same H1 H3 ∧ H3 D = some (.lst (ps.map V.ref)) ∧ Paired (PairAtH H3) ps ((seen.take n).map fun n => (n, 1))) ⟨[], same_upd hD, upd_same, .nil⟩ ?_ ?_ ?_
  · rintro n H3 _ ⟨ps, sm, _⟩
    exact (TupAt.keep (Keep.same sm) ht).sq
  · rintro n x H3 H4 hn ⟨ps, sm, h3, pr⟩ ⟨rfl, hx⟩
    rw [List.length_map] at hn
    rw [List.getElem?_map, List.getElem?_eq_getElem hn] at hx
    have ex : x = .int seen[n] := (Option.some.inj hx).symm
    subst ex
    have pl : ps.length = n := by rw [pr.length, List.length_map, List.length_take]; omega
    refine ⟨hw _, yes (iteT ⟨.int seen[n], hi _, by show 2 ≤ sizeLine; decide, fun p np => ?_⟩)⟩
    have nDp : D ≠ p := ne_of_none h3 np
    refine ⟨_, by rw [upd_ne nDp]; exact h3, by rw [List.length_map]; exact small1000 (by omega), ps ++ [p], ?_, ?_, ?_⟩
    · exact same_mut (sm.trans (same_upd np)) hD
    · rw [upd_same, List.map_append]; rfl
    · rw [List.take_add_one, List.getElem?_eq_getElem hn, List.map_append]
      have kT : Keep H4 (upd (upd H4 p (.tup [.int seen[n], .int 1])) D (.lst (ps.map V.ref ++ [.ref p]))) := by
        refine ⟨fun a xs h => ?_, fun a o u h => ?_⟩
        · rw [upd_ne (ne_of h h3 (by intro z; cases z)), upd_ne (ne_of_none h np)]; exact h
        · rw [upd_ne (ne_of h h3 (by intro z; cases z)), upd_ne (ne_of_none h np)]; exact h
      refine Paired.snoc ?_ (pairs_keep kT pr)
      show upd (upd H4 p _) D _ p = _
      rw [upd_ne nDp.symm, upd_same]
  · rintro H3 ⟨ps, sm, h3, pr⟩
    rw [List.length_map, List.take_length] at pr
    exact hq H3 ps sm h3 pr
def wordOf : Rule → Str
  | .held _ => "held"
  | .sum _ _ => "sum"
  | .cap _ _ _ => "cap"
  | .kinds _ _ => "kinds"
  | .next _ => "next"
  | .free _ => "free"
theorem RuleAt.word {H : Hp} {v : V} : ∀ {r : Rule}, RuleAt H v r → ∃ a xs, v = .ref a ∧ H a = some (.tup (.str (wordOf r) :: xs))
  | .held _, ⟨a, e, h⟩ => ⟨a, _, e, h⟩
  | .sum _ _, ⟨a, t, e, h, _⟩ => ⟨a, _, e, h⟩
  | .cap _ _ _, ⟨a, t, e, h, _⟩ => ⟨a, _, e, h⟩
  | .kinds _ _, ⟨a, t, e, h, _⟩ => ⟨a, _, e, h⟩
  | .next _, ⟨a, t, e, h, _⟩ => ⟨a, _, e, h⟩
  | .free _, ⟨a, t, e, h, _⟩ => ⟨a, _, e, h⟩
theorem last_max : ∀ (ms : List Int) (h : ms ≠ []), ms.Pairwise (· < ·) → ∀ y ∈ ms, y ≤ ms.getLast h
  | [], h, _, _, _ => absurd rfl h
  | [m], _, _, y, hy => by rw [List.mem_singleton.mp hy]; exact Int.le_refl _
  | m :: n :: r, _, pw, y, hy => by
    rw [List.getLast_cons (List.cons_ne_nil n r)]
    have p2 := List.pairwise_cons.mp pw
    rcases List.mem_cons.mp hy with e | e
    · have h1 := p2.1 _ (List.getLast_mem (List.cons_ne_nil n r))
      rw [e]; omega
    · exact last_max (n :: r) (List.cons_ne_nil n r) p2.2 y e
theorem canLay_ints : ∀ ns : List Int, PyData.canLayAll0 (ns.map PyData.int) = true
  | [] => rfl
  | n :: r => by rw [List.map_cons]; show (PyData.canLay0 (.int n) && PyData.canLayAll0 (r.map PyData.int)) = true; rw [canLay_ints r]; rfl
theorem depth_ints : ∀ ns : List Int, PyData.depthAll (ns.map PyData.int) = 0
  | [] => rfl
  | n :: r => by rw [List.map_cons]; show max 0 (PyData.depthAll (r.map PyData.int)) = 0; rw [depth_ints r]; rfl
theorem shaped_ints (ns : List Int) : SeqAt.shaped (.list (ns.map PyData.int)) = true := by
  show (PyData.canLayAll0 (ns.map PyData.int) && decide (PyData.depthAll (ns.map PyData.int) + 1 ≤ 64)) = true
  rw [canLay_ints, depth_ints]
  rfl
/-- [e for n in numbers] -/
theorem lc_ints {K : PySem.W.Frag} {t : Addr} {ns : List Int} {H1 : Hp} {D : Addr} {σ : L2.St} {vs : List Nat} {te : TE} {Qd : Hp → Prop} {i : Nat} (f : Int → Int) (ht : H1 t = some (.lst (ns.map V.int))) (hD : H1 D = none) (hl : ns.length ≤ 1000)
    (hw : ∀ a, wipe ((wipe σ vs).set i a) vs = wipe σ vs)
    (he : ∀ n ∈ ns, ∀ H3, Same H1 H3 → ∀ Q : VK, Q (.int (f n)) H3 → te ((wipe σ vs).set i (some (.int n))) H3 Q)
    (hq : ∀ H', Same H1 H' → H' D = some (.lst ((ns.map f).map V.int)) → Qd H') :
    ∃ W : Nat → Nat → Hp → Prop, (∃ m, W 0 m (upd H1 D (.lst []))) ∧ ∀ i1 m H, W i1 m H →
      ((Itl K t).stop i1 H ∧ Qd H) ∨ ((Itl K t).go i1 H ∧ ∃ Nx : Hp → Prop, (∀ H', Nx H' → ∃ m', m' < m ∧ W (i1 + 1) m' H') ∧ ∀ x H', (Itl K t).yld i1 H x H' → gName i x (wipe σ vs) H' fun σ2 H2 => wipe σ2 vs = wipe σ vs ∧ tYes σ2 H2 fun b H3 =>
        if b = true then te σ2 H3 fun y H4 => ∃ acc, H4 D = some (.lst acc) ∧ acc.length < sizeLine ∧ Nx (upd H4 D (.lst (acc ++ [y]))) else Nx H3) := by
  refine lc_it (walk_list (xs := ns.map V.int)) (fun n H3 => Same H1 H3 ∧ H3 D = some (.lst (((ns.take n).map f).map V.int))) ⟨same_upd hD, upd_same⟩ ?_ ?_ ?_
  · rintro n H3 _ ⟨sm, _⟩
    exact .inl (.inl (sm _ _ ht))
  · rintro n x H3 H4 hn ⟨sm, h3⟩ ⟨rfl, hx⟩
    rw [List.length_map] at hn
    rw [List.getElem?_map, List.getElem?_eq_getElem hn] at hx
    have ex : x = .int ns[n] := (Option.some.inj hx).symm
    subst ex
    refine ⟨hw _, yes (iteT (he ns[n] (List.getElem_mem hn) _ sm _ ⟨_, h3, ?_, same_mut sm hD, ?_⟩))⟩
    · rw [List.length_map, List.length_map, List.length_take]; exact small1000 (by omega)
    · rw [upd_same, List.take_add_one, List.getElem?_eq_getElem hn, List.map_append, List.map_append]; rfl
  · rintro H3 ⟨sm, h3⟩
    rw [List.length_map, List.take_length] at h3
    exact hq H3 sm h3
end
end Lh

namespace Lh
open PySem PySem.Spec PyProof.Rows L2
theorem walk_zipM {K : PySem.W.Frag} {a b : Addr} {xs ys : List V} {n : Nat} (hn : n = min xs.length ys.length) : Walk (RZ.ItzT K a b) n (fun H => SqT K H a xs ∧ SqT K H b ys) (YPair (fun i => xs[i]?) (fun i => ys[i]?)) := by
  refine ⟨fun i _ hi q => ⟨xs, ys, xs[i]'(by omega), ys[i]'(by omega), q.1, q.2, List.getElem?_eq_getElem (by omega), List.getElem?_eq_getElem (by omega)⟩, fun _ q => ⟨xs, ys, q.1, q.2, by omega⟩, ?_⟩
  rintro i H v H' _ q ⟨T, x, z, h1, h2, h3, h4, h5⟩
  exact ⟨T, x, z, h1, h2, h3, h4 xs q.1, h5 ys q.2⟩
/-- a comprehension whose items are all True -/
theorem lc_true {J : It} {n : Nat} {G : Hp → Prop} {Y : Nat → Hp → V → Hp → Prop} (wk : Walk J n G Y) {g : TG} {te : TE} {vs : List Nat} {σ : L2.St} {H1 : Hp} {D : Addr} {Qd : Hp → Prop} (hD : H1 D = none) (hn : n ≤ 1000) (hG : ∀ H3, Same H1 H3 → G H3)
    (hs : ∀ i x H3 H4, i < n → Same H1 H3 → Y i H3 x H4 → ∀ (Q : VK) (Z : Hp → Prop), (∀ H5, Same H3 H5 → Q (.bl true) H5) → g x (wipe σ vs) H4 fun σ2 H2 => wipe σ2 vs = wipe σ vs ∧ tYes σ2 H2 fun b H3 => if b = true then te σ2 H3 Q else Z H3)
    (hq : ∀ H', Same H1 H' → H' D = some (.lst ((List.replicate n true).map V.bl)) → Qd H') :
    ∃ W : Nat → Nat → Hp → Prop, (∃ m, W 0 m (upd H1 D (.lst []))) ∧ ∀ i m H, W i m H →
      (J.stop i H ∧ Qd H) ∨ (J.go i H ∧ ∃ Nx : Hp → Prop, (∀ H', Nx H' → ∃ m', m' < m ∧ W (i + 1) m' H') ∧ ∀ x H', J.yld i H x H' → g x (wipe σ vs) H' fun σ2 H2 => wipe σ2 vs = wipe σ vs ∧ tYes σ2 H2 fun b H3 =>
        if b = true then te σ2 H3 fun y H4 => ∃ acc, H4 D = some (.lst acc) ∧ acc.length < sizeLine ∧ Nx (upd H4 D (.lst (acc ++ [y]))) else Nx H3) := by
  refine lc_it wk (fun i H3 => Same H1 H3 ∧ H3 D = some (.lst ((List.replicate i true).map V.bl))) ⟨same_upd hD, upd_same⟩ (fun i H3 _ h => hG H3 h.1) ?_ (fun H3 h => hq H3 h.1 h.2)
  rintro i x H3 H4 hi ⟨sm, h3⟩ hy
  refine hs i x H3 H4 hi sm hy _ _ (fun H5 s5 => ⟨_, s5 _ _ h3, ?_, same_mut (sm.trans s5) hD, ?_⟩)
  · rw [List.length_map, List.length_replicate]; exact small1000 (by omega)
  · rw [upd_same, List.replicate_succ', List.map_append]; rfl
theorem rep_all (n : Nat) : ((List.replicate n true).all id) = true := by
  rw [List.all_eq_true]
  intro z hz
  rw [List.eq_of_mem_replicate hz]
  rfl
theorem all_true {K : PySem.W.Frag} {D : Addr} {n : Nat} {H : Hp} {Q : VK} (h : H D = some (.lst ((List.replicate n true).map V.bl))) (q : Q (.bl true) H) : rAll K [.ref D] H Q := by
  refine ⟨D, _, rfl, .inl (.inl h), blT ?_ q⟩
  rw [List.all_eq_true]
  intro z hz
  rw [List.eq_of_mem_replicate hz]
  rfl
theorem cut1 {α : Type} (xs : List α) : cutI xs (some 1) none = xs.drop 1 := by
  unfold cutI
  rw [show HT.sIx xs.length 0 (some 1) = min 1 xs.length from HT.sIx_nat xs.length 0 1, HT.sIx_none]
  cases xs with
  | nil => rfl
  | cons x r =>
    rw [show min 1 (x :: r).length = 1 by rw [List.length_cons]; omega]
    show List.take ((x :: r).length - 1) r = r
    rw [List.length_cons, Nat.add_sub_cancel, List.take_length]
section
variable {P : Program} {w : World} {K : PySem.W.Frag} {mg : Str → Option Value} {base : Heap}
def spIsNumber : Sp := fun vs H Q _ => ∃ i : Int, vs = [.int i] ∧ 0 ≤ i ∧ Q (.bl true) H
theorem ok_is_number (T : Txt K mg w) : FnOk P w K mg base CX0 1 T.f_is_number T.fd_is_number p_is_number spIsNumber := by
  refine T.F_is_number.ok sc_is_number (fun vs H Q E h => ?_) (fun cdv A outer s H vs Q E hr h => ?_)
  · obtain ⟨i, rfl, _⟩ := h
    rfl
  · obtain ⟨i, rfl, i0, q⟩ := h
    refine ⟨_, (pss_one (ps_ret (pe_and (pe_callB call_isi (by rfl) T.m_isinstance (by decide +kernel) (pa_cons (pv 0) (pa_cons (pe_bltn (v := .ty "int") (by rfl) T.m_int (by decide +kernel) rfl) pa_nil))) (pe_and (pe_not (pe_callB call_isi (by rfl) T.m_isinstance (by decide +kernel) (pa_cons (pv 0) (pa_cons (pe_bltn (v := .ty "bool") (by rfl) T.m_bool (by decide +kernel) rfl) pa_nil)))) (pe_one (pe_cmpR op_ge (pv 0) pe_int (nomark _))))))), ?_⟩
    refine rd_isi (x := .int i) (T := "int") rfl (.base (.int i)) (by decide +kernel : kitB "int" "int" = some true) ⟨_, rfl, iteP rfl ?_⟩
    refine rd_isi (x := .int i) (T := "int") rfl (.base (.int i)) (by decide +kernel : kitB "int" "bool" = some false) ⟨_, rfl, _, rfl, iteP rfl ?_⟩
    exact ⟨.int i, rfl, i, 0, rfl, rfl, blT (decide_eq_true i0) q⟩
def spIsPerson : Sp := fun vs H Q _ => ∃ m i : Int, vs = [.int m, .int i] ∧ 0 ≤ i ∧ i < m ∧ Q (.bl true) H
theorem ok_is_person (T : Txt K mg w) : FnOk P w K mg base CX0 2 T.f_is_person T.fd_is_person p_is_person spIsPerson := by
  have G_is_number := ok_is_number (P := P) (w := w) (base := base) T
  refine T.F_is_person.ok sc_is_person (fun vs H Q E h => ?_) (fun cdv A outer s H vs Q E hr h => ?_)
  · obtain ⟨m, i, rfl, _⟩ := h
    rfl
  · obtain ⟨m, i, rfl, i0, i1, q⟩ := h
    refine ⟨_, (pss_one (ps_ret (pe_and (pe_call G_is_number (hr.mono (by decide)) (by rfl) T.g_is_number T.F_is_number.kp T.b_is_number .nil pass0 (pa_cons (pv 1) pa_nil)) (pe_one (pe_cmpR op_lt (pv 1) (pv 0) (nomark _)))))), ?_⟩
    exact ⟨.int i, rfl, i, rfl, i0, _, rfl, iteP rfl ⟨.int i, rfl, .int m, rfl, i, m, rfl, rfl, blT (decide_eq_true i1) q⟩⟩
theorem rise_at {ns : List Int} (pw : ns.Pairwise (· < ·)) {i : Nat} {x y : Int} (hx : ns[i]? = some x) (hy : (ns.drop 1)[i]? = some y) : x < y := by
  rw [List.getElem?_drop] at hy
  obtain ⟨h1, e1⟩ := List.getElem?_eq_some_iff.mp hx
  obtain ⟨h2, e2⟩ := List.getElem?_eq_some_iff.mp hy
  rw [← e1, ← e2]
  exact List.pairwise_iff_getElem.mp pw i (1 + i) h1 h2 (by omega)
def spRises (K : PySem.W.Frag) : Sp := fun vs H Q _ => ∃ (a : Addr) (ns : List Int), vs = [.ref a] ∧ (SqL K H a (ns.map V.int) ∨ TupAt H a (ns.map V.int)) ∧ ns.Pairwise (· < ·) ∧ ns.length ≤ 1000 ∧ ∀ H', Same H H' → Q (.bl true) H'
theorem ok_rises (T : Txt K mg w) : FnOk P w K mg base CX0 1 T.f_rises T.fd_rises p_rises (spRises K) := by
  refine T.F_rises.ok sc_rises (fun vs H Q E h => ?_) (fun cdv A outer s H vs Q E hr h => ?_)
  · obtain ⟨a, ns, rfl, _⟩ := h
    rfl
  · obtain ⟨a, ns, rfl, hS, pw, hl, q⟩ := h
    have turn : ∀ (i : Nat) (x1 x2 : V), (ns.map V.int)[i]? = some x1 → ((ns.drop 1).map V.int)[i]? = some x2 → ∃ x y : Int, x1 = .int x ∧ x2 = .int y ∧ x < y := fun i x1 x2 e1 e2 => by
      rw [List.getElem?_map] at e1 e2
      cases h1 : ns[i]? with
      | none => rw [h1] at e1; cases e1
      | some x =>
        cases h2 : (ns.drop 1)[i]? with
        | none => rw [h2] at e2; cases e2
        | some y =>
          rw [h1] at e1
          rw [h2] at e2
          exact ⟨x, y, (Option.some.inj e1).symm, (Option.some.inj e2).symm, rise_at pw h1 h2⟩
    rcases hS with hS | hS
    · refine ⟨_, (pss_one (ps_ret (pe_callB (cr_all rfl) (by rfl) T.m_all (by decide +kernel) (pa_cons (pe_lc (own := [("one", 1), ("other", 2)]) (g := gTup K 2 (gCons (gName 1) (gCons (gName 2) gNil))) (by rfl) sc_rises.nd (RZ.pi_zipA (by rfl) T.m_zip (pa_cons (pv 0) (pa_cons (pe_slice sl_list (pv 0) (po_some pe_int) po_none) pa_nil))) (blkOk_by (own := [("one", 1), ("other", 2)]) (N := n_rises) (sc := defScope s_rises) (by decide +kernel)) (fun _ _ _ _ _ => (pg_tup rfl (pgs_cons (pg_name (i := 1) sc_rises.nd rfl (.inl rfl) (.inr rfl)) (pgs_cons (pg_name (i := 2) sc_rises.nd rfl (.inl rfl) (.inr rfl)) pgs_nil)))) (fun _ _ _ _ _ => pts_nil) (fun _ _ _ _ _ => (pe_cmpR op_lt (pv 1) (pv 2) (nomark _)))) pa_nil)))), ?_⟩
      refine ⟨.ref a, rfl, .ref a, rfl, 1, rfl, a, _, rfl, hS, fun c nc => ?_⟩
      have s1 := same_upd (o := .lst (cutV (ns.map V.int) (some 1) none)) nc
      refine ⟨a, c, _, _, rfl, .inl ⟨s1.seq hS, .inl (.inl upd_same), fun D hD => ?_⟩⟩
      rw [cut_map V.int, cut1] at s1 hD ⊢
      refine lc_true (walk_zip (xs := ns.map V.int) (ys := (ns.drop 1).map V.int) (n := ns.length - 1) (by rw [List.length_map, List.length_map, List.length_drop]; omega)) hD (by omega) (fun H3 s3 => ⟨s3.seq (s1.seq hS), .inl (.inl (s3 _ _ upd_same))⟩) ?_ (fun H3 s3 h3 => all_true h3 (q _ (s1.trans s3)))
      rintro i x H3 H4 hi s3 ⟨t, x1, x2, rfl, nt, rfl, e1, e2⟩ Q' Z hQ
      obtain ⟨x, y, rfl, rfl, lt⟩ := turn i x1 x2 e1 e2
      exact ⟨t, _, rfl, .inl (.inl upd_same), rfl, _, _, rfl, _, _, rfl, rfl, rfl, yes (iteT ⟨.int x, rfl, .int y, rfl, x, y, rfl, rfl, blT (decide_eq_true lt) (hQ _ (same_upd nt))⟩)⟩
    · refine ⟨_, (pss_one (ps_ret (pe_callB (cr_all rfl) (by rfl) T.m_all (by decide +kernel) (pa_cons (pe_lc (own := [("one", 1), ("other", 2)]) (g := gTup K 2 (gCons (gName 1) (gCons (gName 2) gNil))) (by rfl) sc_rises.nd (RZ.pi_zipA (by rfl) T.m_zip (pa_cons (pv 0) (pa_cons (pe_slice sl_tupA (pv 0) (po_some pe_int) po_none) pa_nil))) (blkOk_by (own := [("one", 1), ("other", 2)]) (N := n_rises) (sc := defScope s_rises) (by decide +kernel)) (fun _ _ _ _ _ => (pg_tup rfl (pgs_cons (pg_name (i := 1) sc_rises.nd rfl (.inl rfl) (.inr rfl)) (pgs_cons (pg_name (i := 2) sc_rises.nd rfl (.inl rfl) (.inr rfl)) pgs_nil)))) (fun _ _ _ _ _ => pts_nil) (fun _ _ _ _ _ => (pe_cmpR op_lt (pv 1) (pv 2) (nomark _)))) pa_nil)))), ?_⟩
      refine ⟨.ref a, rfl, .ref a, rfl, 1, rfl, a, _, rfl, hS.sq, fun wh => ?_, fun _ c nc => ?_⟩
      · have hn : ns = [] := by
          cases ns with
          | nil => rfl
          | cons x r =>
            have := wh.1
            rw [show HT.sIx ((x :: r).map V.int).length 0 (some 1) = min 1 ((x :: r).map V.int).length from HT.sIx_nat _ 0 1, List.length_map, List.length_cons] at this
            omega
        subst hn
        refine ⟨a, a, [], [], rfl, .inr ⟨hS.sq, hS.sq, fun D hD => ?_⟩⟩
        refine lc_true (walk_zipT (xs := []) (ys := []) (n := 0) rfl rfl) hD (by omega) (fun H3 s3 => ⟨(hS.keep (Keep.same s3)).sq, (hS.keep (Keep.same s3)).sq⟩) ?_ (fun H3 s3 h3 => all_true h3 (q _ s3))
        intro i x H3 H4 hi
        omega
      · have s1 := same_upd (o := .tup (cutV (ns.map V.int) (some 1) none)) nc
        have hA := hS.keep (Keep.same s1)
        refine ⟨a, c, _, _, rfl, .inr ⟨hA.sq, .inl (.inl upd_same), fun D hD => ?_⟩⟩
        rw [cut_map V.int, cut1] at s1 hD hA ⊢
        refine lc_true (walk_zipM (K := K) (a := a) (b := c) (xs := ns.map V.int) (ys := (ns.drop 1).map V.int) (n := ns.length - 1) (by rw [List.length_map, List.length_map, List.length_drop]; omega)) hD (by omega) (fun H3 s3 => ⟨(hA.keep (Keep.same s3)).sq, .inl (.inl (s3 _ _ upd_same))⟩) ?_ (fun H3 s3 h3 => all_true h3 (q _ (s1.trans s3)))
        rintro i x H3 H4 hi s3 ⟨t, x1, x2, rfl, nt, rfl, e1, e2⟩ Q' Z hQ
        obtain ⟨x, y, rfl, rfl, lt⟩ := turn i x1 x2 e1 e2
        exact ⟨t, _, rfl, .inl (.inl upd_same), rfl, _, _, rfl, _, _, rfl, rfl, rfl, yes (iteT ⟨.int x, rfl, .int y, rfl, x, y, rfl, rfl, blT (decide_eq_true lt) (hQ _ (same_upd nt))⟩)⟩
def spIsTie : Sp := fun vs H Q _ => ∃ (m : Int) (a : Addr) (q : Int × Int), vs = [.int m, .ref a] ∧ PairAtH H a q ∧ 0 ≤ q.1 ∧ q.1 < m ∧ 1 ≤ q.2 ∧ Q (.bl true) H
theorem ok_is_tie (T : Txt K mg w) : FnOk P w K mg base CX0 3 T.f_is_tie T.fd_is_tie p_is_tie spIsTie := by
  have G_is_number := ok_is_number (P := P) (w := w) (base := base) T
  have G_is_person := ok_is_person (P := P) (w := w) (base := base) T
  refine T.F_is_tie.ok sc_is_tie (fun vs H Q E h => ?_) (fun cdv A outer s H vs Q E hr h => ?_)
  · obtain ⟨m, a, q, rfl, _⟩ := h
    rfl
  · obtain ⟨m, a, ⟨p, wt⟩, rfl, ha, p0, p1, w1, q⟩ := h
    have ha' : H a = some (.tup [.int p, .int wt]) := ha
    refine ⟨_, (pss_cons (ps_if (PW.pt (pw_or (pt_not (pt_val (pe_callB call_isi (by rfl) T.m_isinstance (by decide +kernel) (pa_cons (pv 1) (pa_cons (pe_bltn (v := .ty "tuple") (by rfl) T.m_tuple (by decide +kernel) rfl) pa_nil))))) (pw_or1 (pt_cmpR op_ne (pe_callB call_len_seq (by rfl) T.m_len (by decide +kernel) (pa_cons (pv 1) pa_nil)) pe_int (nomark _)))))
        (pss_one (ps_ret pe_bl))
        pss_nil)
      (pss_one (ps_ret (pe_and (pe_call G_is_person (hr.mono (by decide)) (by rfl) T.g_is_person T.F_is_person.kp T.b_is_person .nil pass0 (pa_cons (pv 0) (pa_cons (pe_ix ix_tup (pv 1) pe_int (fun _ _ => rfl)) pa_nil))) (pe_and (pe_call G_is_number (hr.mono (by decide)) (by rfl) T.g_is_number T.F_is_number.kp T.b_is_number .nil pass0 (pa_cons (pe_ix ix_tup (pv 1) pe_int (fun _ _ => rfl)) pa_nil)) (pe_one (pe_cmpR op_ge (pe_ix ix_tup (pv 1) pe_int (fun _ _ => rfl)) pe_int (nomark _)))))))), ?_⟩
    refine rd_isi (x := .ref a) (T := "tuple") rfl (.base (.tup ha')) (by decide +kernel : kitB "tuple" "tuple" = some true) ⟨_, rfl, iteN rfl ?_⟩
    refine ⟨.ref a, rfl, a, _, rfl, .inr (.inl (.inl ha')), rfl, _, rfl, iteN (by show (!decide (V.int 2 = V.int 2)) = false; decide) ?_⟩
    refine ⟨.int m, rfl, .ref a, rfl, a, _, 0, _, rfl, rfl, .inl (.inl ha'), rfl, m, p, rfl, p0, p1, _, rfl, iteP rfl ?_⟩
    refine ⟨.ref a, rfl, a, _, 1, _, rfl, rfl, .inl (.inl ha'), rfl, wt, rfl, by have w1' : 1 ≤ wt := w1; omega, _, rfl, iteP rfl ?_⟩
    exact ⟨.ref a, rfl, a, _, 1, _, rfl, rfl, .inl (.inl ha'), rfl, wt, 1, rfl, rfl, blT (decide_eq_true w1) q⟩
def spAreTies : Sp := fun vs H Q _ => ∃ (m : Int) (t : Addr) (ties : List (Int × Int)), vs = [.int m, .ref t] ∧ TiesAt H t ties ∧ Rising m (ties.map (·.1)) ∧ (∀ q ∈ ties, 1 ≤ q.2) ∧ ties.length ≤ 1000 ∧ ∀ H', Same H H' → Q (.bl true) H'
theorem pair_get {H : Hp} : ∀ {ps : List Addr} {lot : List (Int × Int)}, Paired (PairAtH H) ps lot → ∀ (n : Nat) (p : Addr), ps[n]? = some p → ∃ q, q ∈ lot ∧ PairAtH H p q
  | _, _, .nil, n, p, e => by simp at e
  | _, _, .cons r t, 0, p, e => ⟨_, List.mem_cons_self, by cases e; exact r⟩
  | _, _, .cons r t, n + 1, p, e => by
    obtain ⟨q, h1, h2⟩ := pair_get t n p (by simpa using e)
    exact ⟨q, List.mem_cons_of_mem _ h1, h2⟩
theorem ok_are_ties (T : Txt K mg w) : FnOk P w K mg base CX0 4 T.f_are_ties T.fd_are_ties p_are_ties spAreTies := by
  have G_is_tie := ok_is_tie (P := P) (w := w) (base := base) T
  have G_rises := ok_rises (P := P) (w := w) (base := base) T
  refine T.F_are_ties.ok sc_are_ties (fun vs H Q E h => ?_) (fun cdv A outer s H vs Q E hr h => ?_)
  · obtain ⟨m, t, ties, rfl, _⟩ := h
    rfl
  · obtain ⟨m, t, ties, rfl, ⟨o, ps, od, ht, pr⟩, rs, w1, hl, q⟩ := h
    have el : ps.length = ties.length := pr.length
    have hT : TupAt H t (ps.map V.ref) := ht
    refine ⟨_, (pss_cons (ps_if (PW.pt (pw_or (pt_not (pt_val (pe_callB call_isi (by rfl) T.m_isinstance (by decide +kernel) (pa_cons (pv 1) (pa_cons (pe_bltn (v := .ty "tuple") (by rfl) T.m_tuple (by decide +kernel) rfl) pa_nil))))) (pw_or1 (pt_not (pt_val (pe_callB (cr_all rfl) (by rfl) T.m_all (by decide +kernel) (pa_cons (pe_lc (own := [("one", 2)]) (g := gName 2) (by rfl) sc_are_ties.nd (pi_tup (pv 1)) (blkOk_by (own := [("one", 2)]) (N := n_are_ties) (sc := defScope s_are_ties) (by decide +kernel)) (fun _ _ _ _ _ => (pg_name (i := 2) sc_are_ties.nd rfl (.inl rfl) (.inr rfl))) (fun _ _ _ _ _ => pts_nil) (fun _ _ _ _ _ => (pe_call G_is_tie (hr.mono (by decide)) (by rfl) T.g_is_tie T.F_is_tie.kp T.b_is_tie .nil pass0 (pa_cons (pv 0) (pa_cons (pv 2) pa_nil))))) pa_nil)))))))
        (pss_one (ps_ret pe_bl))
        pss_nil)
      (pss_one (ps_ret (pe_call G_rises (hr.mono (by decide)) (by rfl) T.g_rises T.F_rises.kp T.b_rises .nil pass0 (pa_cons (pe_lc (own := [("person", 3), ("weight", 4)]) (g := gTup K 2 (gCons (gName 3) (gCons (gName 4) gNil))) (by rfl) sc_are_ties.nd (pi_tup (pv 1)) (blkOk_by (own := [("person", 3), ("weight", 4)]) (N := n_are_ties) (sc := defScope s_are_ties) (by decide +kernel)) (fun _ _ _ _ _ => (pg_tup rfl (pgs_cons (pg_name (i := 3) sc_are_ties.nd rfl (.inl rfl) (.inr rfl)) (pgs_cons (pg_name (i := 4) sc_are_ties.nd rfl (.inl rfl) (.inr rfl)) pgs_nil)))) (fun _ _ _ _ _ => pts_nil) (fun _ _ _ _ _ => (pv 3))) pa_nil))))), ?_⟩
    refine rd_isi (x := .ref t) (T := "tuple") rfl hT.ty (by decide +kernel : kitB "tuple" "tuple" = some true) ⟨_, rfl, iteN rfl ?_⟩
    refine ⟨.ref t, rfl, t, rfl, ⟨_, hT.sq⟩, fun D hD => ?_⟩
    refine lc_true (walk_tupR ps) hD (by omega) (fun H3 s3 => (hT.keep (Keep.same s3)).sq) ?_ (fun H3 s3 h3 => ⟨D, _, rfl, .inl (.inl h3), _, rfl, iteN (by rw [rep_all]; rfl) ?_⟩)
    · rintro i x H3 H4 hi s3 ⟨rfl, hx⟩ Q' Z hQ
      rw [List.getElem?_map] at hx
      cases hp : ps[i]? with
      | none => rw [hp] at hx; cases hx
      | some p =>
        rw [hp] at hx
        cases hx
        obtain ⟨q0, hq0, ha⟩ := pair_get pr i p hp
        have r0 := rs.2 _ (List.mem_map_of_mem (f := (·.1)) hq0)
        exact ⟨rfl, yes (iteT ⟨.int m, rfl, .ref p, rfl, m, p, q0, rfl, s3 _ _ ha, r0.1, r0.2, w1 q0 hq0, hQ _ (Same.refl _)⟩)⟩
    have hT3 := hT.keep (Keep.same s3)
    refine ⟨.ref t, rfl, t, rfl, ⟨_, hT3.sq⟩, fun D2 hD2 => ?_⟩
    refine lc_pairs (·.1) (walk_tupR ps) (pairs_keep (Keep.same s3) pr) hD2 (by omega) (fun H4 s4 => (hT3.keep (Keep.same s4)).sq) (fun _ _ => rfl) (fun q _ H4 _ Q h => ⟨_, rfl, h⟩) (fun H4 s4 h4 => ?_)
    exact ⟨D2, _, rfl, .inl (.inl (.inl h4)), rs.1, by rw [List.length_map]; exact hl, fun H5 s5 => q _ (s3.trans (s4.trans s5))⟩
def spAreSeen : Sp := fun vs H Q _ => ∃ (m : Int) (t : Addr) (seen : List Int), vs = [.int m, .ref t] ∧ SeenAt H t seen ∧ Rising m seen ∧ seen.length ≤ 1000 ∧ ∀ H', Same H H' → Q (.bl true) H'
theorem ok_are_persons (T : Txt K mg w) : FnOk P w K mg base CX0 3 T.f_are_persons T.fd_are_persons p_are_persons spAreSeen := by
  have G_is_person := ok_is_person (P := P) (w := w) (base := base) T
  have G_rises := ok_rises (P := P) (w := w) (base := base) T
  refine T.F_are_persons.ok sc_are_persons (fun vs H Q E h => ?_) (fun cdv A outer s H vs Q E hr h => ?_)
  · obtain ⟨m, t, seen, rfl, _⟩ := h
    rfl
  · obtain ⟨m, t, seen, rfl, hT, rs, hl, q⟩ := h
    refine ⟨_, (pss_one (ps_ret (pe_and (pe_callB call_isi (by rfl) T.m_isinstance (by decide +kernel) (pa_cons (pv 1) (pa_cons (pe_bltn (v := .ty "tuple") (by rfl) T.m_tuple (by decide +kernel) rfl) pa_nil))) (pe_and (pe_callB (cr_all rfl) (by rfl) T.m_all (by decide +kernel) (pa_cons (pe_lc (own := [("one", 2)]) (g := gName 2) (by rfl) sc_are_persons.nd (pi_tup (pv 1)) (blkOk_by (own := [("one", 2)]) (N := n_are_persons) (sc := defScope s_are_persons) (by decide +kernel)) (fun _ _ _ _ _ => (pg_name (i := 2) sc_are_persons.nd rfl (.inl rfl) (.inr rfl))) (fun _ _ _ _ _ => pts_nil) (fun _ _ _ _ _ => (pe_call G_is_person (hr.mono (by decide)) (by rfl) T.g_is_person T.F_is_person.kp T.b_is_person .nil pass0 (pa_cons (pv 0) (pa_cons (pv 2) pa_nil))))) pa_nil)) (pe_one (pe_call G_rises (hr.mono (by decide)) (by rfl) T.g_rises T.F_rises.kp T.b_rises .nil pass0 (pa_cons (pv 1) pa_nil))))))), ?_⟩
    refine rd_isi (x := .ref t) (T := "tuple") rfl hT.ty (by decide +kernel : kitB "tuple" "tuple" = some true) ⟨_, rfl, iteP rfl ?_⟩
    refine ⟨.ref t, rfl, t, rfl, ⟨_, hT.sq⟩, fun D hD => ?_⟩
    refine lc_true (walk_tup (xs := seen.map V.int)) hD (by rw [List.length_map]; exact hl) (fun H3 s3 => (hT.keep (Keep.same s3)).sq) ?_ (fun H3 s3 h3 => ⟨D, _, rfl, .inl (.inl h3), _, rfl, iteP (rep_all _) ?_⟩)
    · rintro i x H3 H4 hi s3 ⟨rfl, hx⟩ Q' Z hQ
      rw [List.length_map] at hi
      rw [List.getElem?_map, List.getElem?_eq_getElem hi] at hx
      cases hx
      have r0 := rs.2 _ (List.getElem_mem hi)
      exact ⟨rfl, yes (iteT ⟨.int m, rfl, .int seen[i], rfl, m, seen[i], rfl, r0.1, r0.2, hQ _ (Same.refl _)⟩)⟩
    exact ⟨.ref t, rfl, t, seen, rfl, .inr (hT.keep (Keep.same s3)), rs.1, hl, fun H5 s5 => q _ (s3.trans s5)⟩
/-- what may stand as a part of a rule -/
def PartAt (H : Hp) (m : Int) (part : Str) (v : V) : Prop :=
  (part = "number" ∧ ∃ i : Int, v = .int i ∧ 0 ≤ i) ∨ (part = "ties" ∧ ∃ t ties, v = .ref t ∧ TiesAt H t ties ∧ Rising m (ties.map (·.1)) ∧ (∀ q ∈ ties, 1 ≤ q.2) ∧ ties.length ≤ 1000) ∨
  (part = "seen" ∧ ∃ t seen, v = .ref t ∧ SeenAt H t seen ∧ Rising m seen ∧ seen.length ≤ 1000)
theorem PartAt.same {H H' : Hp} {m : Int} {part : Str} {v : V} (s : Same H H') (h : PartAt H m part v) : PartAt H' m part v := by
  rcases h with h | ⟨e, t, ties, h1, h2, h3⟩ | ⟨e, t, seen, h1, h2, h3⟩
  · exact .inl h
  · exact .inr (.inl ⟨e, t, ties, h1, h2.keep (Keep.same s), h3⟩)
  · exact .inr (.inr ⟨e, t, seen, h1, h2.keep (Keep.same s), h3⟩)
def spIsPart : Sp := fun vs H Q _ => ∃ (m : Int) (part : Str) (v : V), vs = [.int m, .str part, v] ∧ PartAt H m part v ∧ ∀ H', Same H H' → Q (.bl true) H'
theorem ok_is_part (T : Txt K mg w) : FnOk P w K mg base CX0 5 T.f_is_part T.fd_is_part p_is_part spIsPart := by
  have G_is_number := ok_is_number (P := P) (w := w) (base := base) T
  have G_are_ties := ok_are_ties (P := P) (w := w) (base := base) T
  have G_are_persons := ok_are_persons (P := P) (w := w) (base := base) T
  refine T.F_is_part.ok sc_is_part (fun vs H Q E h => ?_) (fun cdv A outer s H vs Q E hr h => ?_)
  · obtain ⟨m, part, v, rfl, _⟩ := h
    rfl
  · obtain ⟨m, part, v, rfl, hp, q⟩ := h
    refine ⟨_, (pss_cons (ps_if (pt_cmpR op_eq (pv 1) pe_str (nomark _))
        (pss_one (ps_ret (pe_call G_is_number (hr.mono (by decide)) (by rfl) T.g_is_number T.F_is_number.kp T.b_is_number .nil pass0 (pa_cons (pv 2) pa_nil))))
        pss_nil)
      (pss_cons (ps_if (pt_cmpR op_eq (pv 1) pe_str (nomark _))
        (pss_one (ps_ret (pe_call G_are_ties (hr.mono (by decide)) (by rfl) T.g_are_ties T.F_are_ties.kp T.b_are_ties .nil pass0 (pa_cons (pv 0) (pa_cons (pv 2) pa_nil)))))
        pss_nil)
      (pss_one (ps_ret (pe_call G_are_persons (hr.mono (by decide)) (by rfl) T.g_are_persons T.F_are_persons.kp T.b_are_persons .nil pass0 (pa_cons (pv 0) (pa_cons (pv 2) pa_nil))))))), ?_⟩
    rcases hp with ⟨rfl, i, rfl, i0⟩ | ⟨rfl, t, ties, rfl, h1, h2, h3, h4⟩ | ⟨rfl, t, seen, rfl, h1, h2, h3⟩
    · refine ⟨_, rfl, rfl, _, rfl, iteP (by decide +kernel) ?_⟩
      exact ⟨.int i, rfl, i, rfl, i0, q H (Same.refl H)⟩
    · refine ⟨_, rfl, rfl, _, rfl, iteN (by decide +kernel) ?_⟩
      refine ⟨_, rfl, rfl, _, rfl, iteP (by decide +kernel) ?_⟩
      exact ⟨.int m, rfl, .ref t, rfl, m, t, ties, rfl, h1, h2, h3, h4, q⟩
    · refine ⟨_, rfl, rfl, _, rfl, iteN (by decide +kernel) ?_⟩
      refine ⟨_, rfl, rfl, _, rfl, iteN (by decide +kernel) ?_⟩
      exact ⟨.int m, rfl, .ref t, rfl, m, t, seen, rfl, h1, h2, h3, q⟩
end
end Lh

namespace Lh
open PySem PySem.Spec PyProof.Rows L2
def partsOf : Rule → List Str
  | .held _ => ["number"]
  | .sum _ _ => ["number", "ties"]
  | .cap _ _ _ => ["number", "ties", "number"]
  | .kinds _ _ => ["number", "seen"]
  | .next _ => ["seen"]
  | .free _ => ["seen"]
section
variable {P : Program} {w : World} {K : PySem.W.Frag} {mg : Str → Option Value} {base : Heap}
theorem parts_at (T : Txt K mg w) : ∀ r : Rule, ∃ t, PySem.W.nsIn K T.D_PARTS (wordOf r) = some (some (.ref t)) ∧ ∀ H, SqT K H t ((partsOf r).map V.str)
  | .held _ => ⟨_, T.dk_PARTS_held, T.sq_PARTS_held⟩
  | .sum _ _ => ⟨_, T.dk_PARTS_sum, T.sq_PARTS_sum⟩
  | .cap _ _ _ => ⟨_, T.dk_PARTS_cap, T.sq_PARTS_cap⟩
  | .kinds _ _ => ⟨_, T.dk_PARTS_kinds, T.sq_PARTS_kinds⟩
  | .next _ => ⟨_, T.dk_PARTS_next, T.sq_PARTS_next⟩
  | .free _ => ⟨_, T.dk_PARTS_free, T.sq_PARTS_free⟩
theorem pieces {H : Hp} {v : V} {m : Int} : ∀ {r : Rule}, RuleAt H v r → r.Wf m → r.persons.length ≤ 1000 → ∃ a xs, v = .ref a ∧ H a = some (.tup (.str (wordOf r) :: xs)) ∧ xs.length = (partsOf r).length ∧ ∀ (i : Nat) (s : Str) (x : V), (partsOf r)[i]? = some s → xs[i]? = some x → PartAt H m s x
  | .held n, ⟨a, e, h⟩, wf, _ => ⟨a, _, e, h, rfl, fun i s x h1 h2 => by
    match i with
    | 0 => cases h1; cases h2; exact .inl ⟨rfl, n, rfl, wf.1⟩
    | i + 1 => cases h1⟩
  | .sum own ties, ⟨a, t, e, h, q⟩, wf, hl => ⟨a, _, e, h, rfl, fun i s x h1 h2 => by
    have hl' : ties.length ≤ 1000 := by simpa [Rule.persons] using hl
    match i with
    | 0 => cases h1; cases h2; exact .inl ⟨rfl, own, rfl, wf.1.1⟩
    | 1 => cases h1; cases h2; exact .inr (.inl ⟨rfl, t, ties, rfl, q, wf.2.1, fun q hq => (wf.2.2 q hq).1, hl'⟩)
    | i + 2 => cases h1⟩
  | .cap own ties most, ⟨a, t, e, h, q⟩, wf, hl => ⟨a, _, e, h, rfl, fun i s x h1 h2 => by
    have hl' : ties.length ≤ 1000 := by simpa [Rule.persons] using hl
    match i with
    | 0 => cases h1; cases h2; exact .inl ⟨rfl, own, rfl, wf.1.1⟩
    | 1 => cases h1; cases h2; exact .inr (.inl ⟨rfl, t, ties, rfl, q, wf.2.1, fun q hq => (wf.2.2.1 q hq).1, hl'⟩)
    | 2 => cases h1; cases h2; exact .inl ⟨rfl, most, rfl, wf.2.2.2.1⟩
    | i + 3 => cases h1⟩
  | .kinds own seen, ⟨a, t, e, h, q⟩, wf, hl => ⟨a, _, e, h, rfl, fun i s x h1 h2 => by
    match i with
    | 0 => cases h1; cases h2; exact .inl ⟨rfl, own, rfl, wf.1.1⟩
    | 1 => cases h1; cases h2; exact .inr (.inr ⟨rfl, t, seen, rfl, q, wf.2, hl⟩)
    | i + 2 => cases h1⟩
  | .next seen, ⟨a, t, e, h, q⟩, wf, hl => ⟨a, _, e, h, rfl, fun i s x h1 h2 => by
    match i with
    | 0 => cases h1; cases h2; exact .inr (.inr ⟨rfl, t, seen, rfl, q, wf, hl⟩)
    | i + 1 => cases h1⟩
  | .free seen, ⟨a, t, e, h, q⟩, wf, hl => ⟨a, _, e, h, rfl, fun i s x h1 h2 => by
    match i with
    | 0 => cases h1; cases h2; exact .inr (.inr ⟨rfl, t, seen, rfl, q, wf, hl⟩)
    | i + 1 => cases h1⟩
theorem parts_len : ∀ r : Rule, (partsOf r).length ≤ 1000
  | .held _ => by show 1 ≤ 1000; decide
  | .sum _ _ => by show 2 ≤ 1000; decide
  | .cap _ _ _ => by show 3 ≤ 1000; decide
  | .kinds _ _ => by show 2 ≤ 1000; decide
  | .next _ => by show 1 ≤ 1000; decide
  | .free _ => by show 1 ≤ 1000; decide
theorem cutV1 (xs : List V) : cutV xs (some 1) none = xs.drop 1 := by
  have h := cut_map id xs (some 1) none
  rw [List.map_id, List.map_id, cut1] at h
  exact h
def spIsRule : Sp := fun vs H Q _ => ∃ (m : Int) (v : V) (r : Rule), vs = [.int m, v] ∧ RuleAt H v r ∧ r.Wf m ∧ r.persons.length ≤ 1000 ∧ ∀ H', Same H H' → Q (.bl true) H'
set_option maxHeartbeats 2000000 in
theorem ok_is_rule (T : Txt K mg w) : FnOk P w K mg base CX0 6 T.f_is_rule T.fd_is_rule p_is_rule spIsRule := by
  have G_is_part := ok_is_part (P := P) (w := w) (base := base) T
  refine T.F_is_rule.ok sc_is_rule (fun vs H Q E h => ?_) (fun cdv A outer s H vs Q E hr h => ?_)
  · obtain ⟨m, v, r, rfl, _⟩ := h
    rfl
  · obtain ⟨m, v, r, rfl, hv, wf, hl, q⟩ := h
    obtain ⟨a, xs, rfl, ha, xl, px⟩ := pieces hv wf hl
    obtain ⟨t, dk, sq⟩ := parts_at T r
    refine ⟨_, (pss_cons (ps_if (PW.pt (pw_or (pt_not (pt_val (pe_callB call_isi (by rfl) T.m_isinstance (by decide +kernel) (pa_cons (pv 1) (pa_cons (pe_bltn (v := .ty "tuple") (by rfl) T.m_tuple (by decide +kernel) rfl) pa_nil))))) (pw_or1 (pt_not (pt_truth (pv 1) (by intro _; rfl))))))
        (pss_one (ps_ret pe_bl))
        pss_nil)
      (pss_cons (ps_if (PW.pt (pw_or (pt_not (pt_val (pe_callB call_isi (by rfl) T.m_isinstance (by decide +kernel) (pa_cons (pe_ix ix_tup (pv 1) pe_int (fun _ _ => rfl)) (pa_cons (pe_bltn (v := .ty "str") (by rfl) T.m_str (by decide +kernel) rfl) pa_nil))))) (pw_or1 (pt_cmpR (op_notIn_kd T.kd_PARTS) (pe_ix ix_tup (pv 1) pe_int (fun _ _ => rfl)) (pe_glob (v := .ref T.D_PARTS) (by rfl) T.g_PARTS rfl) (by rfl)))))
        (pss_one (ps_ret pe_bl))
        pss_nil)
      (pss_cons (ps_set (i := 2) sc_is_rule.nd rfl (.inl rfl) (pe_ix ix_kdict (pe_glob (v := .ref T.D_PARTS) (by rfl) T.g_PARTS rfl) (pe_ix ix_tup (pv 1) pe_int (fun _ _ => rfl)) (fun _ _ => rfl)))
      (pss_cons (ps_if (pt_cmpR op_ne (pe_callB call_len_seq (by rfl) T.m_len (by decide +kernel) (pa_cons (pv 1) pa_nil)) (pe_op op_add (pe_callB call_len_seq (by rfl) T.m_len (by decide +kernel) (pa_cons (pv 2) pa_nil)) pe_int) (nomark _))
        (pss_one (ps_ret pe_bl))
        pss_nil)
      (pss_one (ps_ret (pe_callB (cr_all rfl) (by rfl) T.m_all (by decide +kernel) (pa_cons (pe_lc (own := [("part", 3), ("piece", 4)]) (g := gTup K 2 (gCons (gName 3) (gCons (gName 4) gNil))) (by rfl) sc_is_rule.nd (RZ.pi_zipA (by rfl) T.m_zip (pa_cons (pv 2) (pa_cons (pe_slice sl_tupA (pv 1) (po_some pe_int) po_none) pa_nil))) (blkOk_by (own := [("part", 3), ("piece", 4)]) (N := n_is_rule) (sc := defScope s_is_rule) (by decide +kernel)) (fun _ _ _ _ _ => (pg_tup rfl (pgs_cons (pg_name (i := 3) sc_is_rule.nd rfl (.inl rfl) (.inr rfl)) (pgs_cons (pg_name (i := 4) sc_is_rule.nd rfl (.inl rfl) (.inr rfl)) pgs_nil)))) (fun _ _ _ _ _ => pts_nil) (fun _ _ _ _ _ => (pe_call G_is_part (hr.mono (by decide)) (by rfl) T.g_is_part T.F_is_part.kp T.b_is_part .nil pass0 (pa_cons (pv 0) (pa_cons (pv 3) (pa_cons (pv 4) pa_nil)))))) pa_nil)))))))), ?_⟩
    have i0 : atI (V.str (wordOf r) :: xs) 0 = some (.str (wordOf r)) := atI_nat (j := 0) rfl
    refine rd_isi (x := .ref a) (T := "tuple") rfl (.base (.tup ha)) (by decide +kernel : kitB "tuple" "tuple" = some true) ⟨_, rfl, iteN rfl ?_⟩
    refine ⟨.ref a, rfl, true, .inr (.inl ⟨_, .inl (.inl ha), rfl⟩), iteN rfl ?_⟩
    refine ⟨.ref a, rfl, a, _, 0, _, rfl, rfl, .inl (.inl ha), i0, _, _, .type "str", .type "str", true, rfl, .ty "str", .base (.str _), kit_ty (by decide +kernel), _, rfl, iteN rfl ?_⟩
    refine ⟨.ref a, rfl, a, _, 0, _, rfl, rfl, .inl (.inl ha), i0, _, _, rfl, rfl, dk, _, rfl, iteN rfl ?_⟩
    refine ⟨.ref a, rfl, a, _, 0, _, rfl, rfl, .inl (.inl ha), i0, T.D_PARTS, _, .ref t, rfl, rfl, ⟨T.es_PARTS, T.en_PARTS, _, T.kd_PARTS.at_, T.kd_PARTS.lit, dk, rfl⟩, ?_⟩
    refine ⟨.ref a, rfl, a, _, rfl, .inr (.inl (.inl ha)), .ref t, rfl, t, _, rfl, .inr (sq H), _, 1, rfl, rfl, rfl, _, rfl, iteN ?_ ?_⟩
    · rw [List.length_cons, List.length_map, xl]
      rw [decide_eq_true (by rfl)]
      rfl
    refine ⟨.ref t, rfl, .ref a, rfl, 1, rfl, a, _, rfl, .inl (.inl ha), fun wh => ?_, fun _ c nc => ?_⟩
    · exfalso
      have := wh.1
      rw [show HT.sIx (V.str (wordOf r) :: xs).length 0 (some 1) = min 1 (V.str (wordOf r) :: xs).length from HT.sIx_nat _ 0 1, List.length_cons] at this
      omega
    rw [cutV1]
    have s1 := same_upd (o := .tup ((V.str (wordOf r) :: xs).drop 1)) nc
    refine ⟨t, c, _, _, rfl, .inr ⟨sq _, .inl (.inl upd_same), fun D hD => ?_⟩⟩
    refine lc_true (walk_zipM (K := K) (a := t) (b := c) (xs := (partsOf r).map V.str) (ys := (V.str (wordOf r) :: xs).drop 1) (n := (partsOf r).length) (by rw [List.length_map, List.length_drop, List.length_cons, xl]; omega)) hD (parts_len r) (fun H3 s3 => ⟨sq _, .inl (.inl (s3 _ _ upd_same))⟩) ?_ (fun H3 s3 h3 => all_true h3 (q _ (s1.trans s3)))
    rintro i x H3 H4 hi s3 ⟨u, x1, x2, rfl, nu, rfl, e1, e2⟩ Q' Z hQ
    have e1' : ((partsOf r).map V.str)[i]? = some x1 := e1
    have e2' : xs[i]? = some x2 := e2
    rw [List.getElem?_map, List.getElem?_eq_getElem hi] at e1'
    cases e1'
    have sT := same_upd (o := .tup [V.str (partsOf r)[i], x2]) nu
    refine ⟨u, _, rfl, .inl (.inl upd_same), rfl, _, _, rfl, _, _, rfl, rfl, rfl, yes (iteT ⟨.int m, rfl, .str (partsOf r)[i], rfl, x2, rfl, m, _, x2, rfl, (px i _ x2 (List.getElem?_eq_getElem hi) e2').same (s1.trans (s3.trans sT)), fun H5 s5 => hQ _ (sT.trans s5)⟩)⟩
/-! ### halls -/
theorem run_len {X : Cx} {k : Nat} {f C : Addr} {fd : FuncData} {ps : List Str} {sp : Sp} (me : Meth X.K C "__len__" f) (F : FnOk X.prog X.w X.K X.mg X.base CX0 k f fd ps sp) (hb : Binds X.K fd ps []) (hr : Room (k + 1) X.A) :
    CallR X (.builtin "len") (fun xs H Q => ∃ (x dx : Addr) (fs : List (Str × V)), xs = [.ref x] ∧ H x = some (.ins C dx fs) ∧ sp [.ref x] H (fun v H' => ∃ n : Int, v = .int n ∧ 0 ≤ n ∧ n < 2 ^ 63 ∧ Q (.int n) H') E0) := by
  intro pins s σ H xs us Q I r h
  obtain ⟨x, dx, fs, rfl, hx, h⟩ := h
  rw [Vals.ref1 r]
  obtain ⟨m, fr⟩ := I.fr
  obtain ⟨mA, O, _⟩ := ins_get I.hok hx
  obtain ⟨od, J, _⟩ := O.look
  refine PySem.W.len_K fr I.mod.kin J me.at_ me.fn ?_
  have e0 := I.env0
  have e1 : Env0 X.prog X.w X.K X.mg X.base X.A.in1 X.stack s H := ⟨e0.frames, e0.mod, e0.bs, e0.bsz, e0.funs, e0.frf, e0.hok, e0.bare⟩
  have hl : ([Value.ref x] ++ []).length = ps.length := by rw [← F.len _ _ _ _ h]; rfl
  have bb := hb s [.ref x] I.kIn hl
  rw [List.append_nil] at bb
  have vv : Vals [V.ref x] [Value.ref x] := .cons rfl .nil
  have run := F.run X.A.in1 X.stack s H ⟨[.ref x], []⟩ [.ref x] [.ref x] _ E0 hr.in1 e1 bb vv h
  refine wpAny_call (codeAny_mono run ?_)
  rintro (e | fl) t ht
  · exact False.elim ht
  cases fl with
  | next => exact False.elim ht
  | brk => exact False.elim ht
  | cont => exact False.elim ht
  | ret u =>
    obtain ⟨v, H', J2, rv, n, rfl, n0, n1, q⟩ := I.after ht
    obtain ⟨tk, rfl⟩ := rv
    exact ⟨⟨n0, n1⟩, .int n, H', J2.tok _, ⟨_, rfl⟩, q⟩
def RulesAt (H : Hp) : List V → List Rule → Prop := Paired (RuleAt H)
theorem RulesAt.keep {H H' : Hp} (k : Keep H H') : ∀ {vs : List V} {rs : List Rule}, RulesAt H vs rs → RulesAt H' vs rs
  | _, _, .nil => .nil
  | _, _, .cons h r => .cons (h.keep k) (RulesAt.keep k r)
theorem RulesAt.get {H : Hp} : ∀ {vs : List V} {rs : List Rule}, RulesAt H vs rs → ∀ (i : Nat) (h : i < rs.length), ∃ v, vs[i]? = some v ∧ RuleAt H v rs[i]
  | _, _, .nil, i, h => absurd h (by simp)
  | _, _, .cons r t, 0, h => ⟨_, rfl, r⟩
  | _, _, .cons r t, i + 1, h => by
    obtain ⟨v, h1, h2⟩ := RulesAt.get t i (by simpa using h)
    exact ⟨v, by simpa using h1, by simpa using h2⟩
def Halls (rs : List Rule) : Prop := 1 ≤ rs.length ∧ rs.length ≤ 12 ∧ ∀ r ∈ rs, r.Wf rs.length
theorem wf_len {m : Int} {r : Rule} (h : r.Wf m) (hm : m ≤ 1000) (m0 : 0 ≤ m) : r.persons.length ≤ 1000 ∧ (r.persons.length : Int) ≤ m := by
  have key : ∀ ns : List Int, Rising m ns → (ns.length : Int) ≤ m := fun ns rs => by
    have h1 := nodup_len ns ((List.range m.toNat).map fun k : Nat => (k : Int)) rs.nodup (fun x hx => by
      have := rs.2 x hx
      rw [List.mem_map]
      exact ⟨x.toNat, List.mem_range.mpr (by omega), by omega⟩)
    rw [List.length_map, List.length_range] at h1
    omega
  have : (r.persons.length : Int) ≤ m := by
    cases r with
    | held n => show ((0 : Nat) : Int) ≤ m; omega
    | sum own ties => exact key _ h.2.1
    | cap own ties most => exact key _ h.2.1
    | kinds own seen => exact key _ h.2
    | next seen => exact key _ h
    | free seen => exact key _ h
  exact ⟨by omega, this⟩
/-- the hall at x, of these rules -/
def HallAt (C : Addr) (H : Hp) (x : Addr) (rs : List Rule) : Prop := ∃ (dx t : Addr) (vs : List V), H x = some (.ins C dx [("kept", .ref t)]) ∧ TupAt H t vs ∧ RulesAt H vs rs
def spInit (C : Addr) : Sp := fun vs H Q _ => ∃ (x dx l : Addr) (us : List V) (rs : List Rule), vs = [.ref x, .ref l] ∧ H x = some (.ins C dx []) ∧ H l = some (.lst us) ∧ RulesAt H us rs ∧ Halls rs ∧
  ∀ H', (∀ b o, b ≠ x → H b = some o → H' b = some o) → HallAt C H' x rs → Q .non H'
set_option maxHeartbeats 2000000 in
theorem ok_Hall_init (T : Txt K mg w) : FnOk P w K mg base CX0 7 T.f_Hall_init T.fd_Hall_init p_Hall_init (spInit T.C_Hall) := by
  have G_is_rule := ok_is_rule (P := P) (w := w) (base := base) T
  refine T.F_Hall_init.ok sc_Hall_init (fun vs H Q E h => ?_) (fun cdv A outer s H vs Q E hr h => ?_)
  · obtain ⟨x, dx, l, us, rs, rfl, _⟩ := h
    rfl
  · obtain ⟨x, dx, l, us, rs, rfl, hx, hl, ra, ⟨r0, r1, wf⟩, q⟩ := h
    have lu : us.length = rs.length := ra.length
    refine ⟨_, (pss_cons (ps_for PassesOwn.never rfl (pi_enum (by rfl) T.m_enumerate (pa_cons (pv 1) pa_nil)) (pg_tup rfl (pgs_cons (pg_name (i := 2) sc_Hall_init.nd rfl (.inl rfl)) (pgs_cons (pg_name (i := 3) sc_Hall_init.nd rfl (.inl rfl)) pgs_nil)))
        (pss_one (ps_if (pt_not (pt_val (pe_call G_is_rule (hr.mono (by decide)) (by rfl) T.g_is_rule T.F_is_rule.kp T.b_is_rule .nil pass0 (pa_cons (pe_callB call_len_seq (by rfl) T.m_len (by decide +kernel) (pa_cons (pv 1) pa_nil)) (pa_cons (pv 3) pa_nil)))))
          (pss_one ps_never)
          pss_nil)))
      (pss_one (ps_fld (pv 0) (pe_callTy call_tupleF (by rfl) T.m_tuple (by decide +kernel) (pa_cons (pv 1) pa_nil)) rfl))), ?_⟩
    refine ⟨.ref l, rfl, l, _, rfl, .inl (.inl hl), ?_⟩
    refine for_it (walk_enum (xs := us)) (fun i σ H3 => ∃ y2 y3 : Option V, σ = [some (.ref x), some (.ref l), y2, y3] ∧ Same H H3) ⟨none, none, rfl, Same.refl H⟩ ?_ ?_ ?_
    · rintro i σ H3 _ ⟨y2, y3, rfl, s3⟩
      exact .inl (.inl (s3 _ _ hl))
    · rintro i y σ H3 H4 hi ⟨y2, y3, rfl, s3⟩ ⟨t, x1, x2, rfl, nt, rfl, e1, e2⟩
      obtain ⟨v, hv, rv⟩ := ra.get i (by omega)
      have ex : x2 = v := Option.some.inj (e2.symm.trans hv)
      subst ex
      have sT := s3.trans (same_upd (o := .tup [x1, x2]) nt)
      have wfi := wf _ (List.getElem_mem (by omega : i < rs.length))
      refine ⟨t, _, rfl, .inl (.inl upd_same), rfl, _, _, rfl, _, _, rfl, rfl, ?_⟩
      refine ⟨.ref l, rfl, l, _, rfl, .inl (.inl (.inl (sT _ _ hl))), x2, rfl, (us.length : Int), x2, rs[i], rfl, rv.keep (Keep.same sT), by rw [lu]; exact wfi, (wf_len wfi (by omega) (by omega)).1, fun H5 s5 => ⟨_, rfl, iteN rfl ?_⟩⟩
      exact ⟨_, _, rfl, sT.trans s5⟩
    · rintro σ H3 ⟨y2, y3, rfl, s3⟩
      refine ⟨.ref l, rfl, l, _, rfl, .inl (.inl (s3 _ _ hl)), fun t o nt od => ?_⟩
      have s4 := s3.trans (same_upd (o := .frz o (.tup us)) nt)
      have nxt : x ≠ t := ne_of_none (s3 _ _ hx) nt
      refine ⟨.ref x, rfl, x, T.C_Hall, dx, [], rfl, s4 _ _ hx, T.cl_Hall, T.na_Hall_kept, by show 0 < 1000; decide, ?_⟩
      have kT : Keep (upd H3 t (.frz o (.tup us))) (upd (upd H3 t (.frz o (.tup us))) x (.ins T.C_Hall dx (putF "kept" (.ref t) []))) := by
        refine ⟨fun a xs h => ?_, fun a o u h => ?_⟩
        · rw [upd_ne (ne_of h (s4 _ _ hx) (by intro z; cases z))]; exact h
        · rw [upd_ne (ne_of h (s4 _ _ hx) (by intro z; cases z))]; exact h
      refine q _ (fun b ob nb hb => ?_) ⟨dx, t, us, upd_same, .inr ⟨o, od, kT.frz _ _ _ upd_same⟩, (ra.keep (Keep.same s4)).keep kT⟩
      rw [upd_ne nb]
      exact s4 _ _ hb
end
end Lh

namespace Lh
open PySem PySem.Spec PyProof.Rows L2
theorem kept_yes (v : V) : ([("kept", v)] : List (Str × V)).lookup ("kept" : Str) = some v := by
  rw [List.lookup_cons, show (("kept" : Str) == "kept") = true from beq_self_eq_true _]
theorem kept_no (v : V) {m : Str} (h : ¬ m = "kept") : ([("kept", v)] : List (Str × V)).lookup (m : Str) = none := by
  rw [List.lookup_cons, show (m == ("kept" : Str)) = false from beq_eq_false_iff_ne.mpr h]
  rfl
theorem HallAt.keep {C : Addr} {H H' : Hp} {x : Addr} {rs : List Rule} (s : Same H H') (h : HallAt C H x rs) : HallAt C H' x rs := by
  obtain ⟨dx, t, vs, h1, h2, h3⟩ := h
  exact ⟨dx, t, vs, s _ _ h1, h2.keep (Keep.same s), h3.keep (Keep.same s)⟩
theorem HallAt.ext {C bx : Addr} {c : Int} {H H' : Hp} {x : Addr} {rs : List Rule} (e : Ext bx H H') (b : Box bx c H) (h : HallAt C H x rs) : HallAt C H' x rs := by
  obtain ⟨dx, t, vs, h1, h2, h3⟩ := h
  have nb : x ≠ bx := by
    obtain ⟨_, _, _, hb, _⟩ := b
    exact ne_of h1 hb (by intro z; cases z)
  exact ⟨dx, t, vs, e _ _ nb h1, h2.keep (Keep.ext e b), h3.keep (Keep.ext e b)⟩
/-! ### standings -/
def nth (ns : List Int) (p : Int) : Int := ns.getD p.toNat 0
theorem nth_get {ns : List Int} {p : Int} (h0 : 0 ≤ p) (h1 : p < ns.length) : (ns.map V.int)[p.toNat]? = some (.int (nth ns p)) := by
  have hp : p.toNat < ns.length := by omega
  rw [List.getElem?_map, List.getElem?_eq_getElem hp]
  unfold nth
  rw [List.getD_eq_getElem?_getD, List.getElem?_eq_getElem hp]
  rfl
theorem nth_at {ns : List Int} {p : Int} (h0 : 0 ≤ p) (h1 : p < ns.length) : atI (ns.map V.int) p = some (.int (nth ns p)) := at_of (by omega) (nth_get h0 h1)
/-- the lot of those a rule sees who show less -/
def lotI (r : Rule) (ns : List Int) (p : Int) : List (Int × Int) := (r.persons.filter fun o => decide (nth ns o < nth ns p)).map fun o => (o, nth ns o)
def lotH (r : Rule) (ns : List Int) (h : Int) : List (Int × Int) := (r.persons.filter fun o => decide (nth ns o < h)).map fun o => (o, nth ns o)
theorem lotH_in {r : Rule} {ns : List Int} {h : Int} : ∀ q ∈ lotH r ns h, q.1 ∈ r.persons := fun q hq => by
  obtain ⟨o, ho, rfl⟩ := List.mem_map.mp hq
  exact (List.mem_filter.mp ho).1
theorem lotI_in {r : Rule} {ns : List Int} {p : Int} : ∀ q ∈ lotI r ns p, q.1 ∈ r.persons := fun q hq => by
  obtain ⟨o, ho, rfl⟩ := List.mem_map.mp hq
  exact (List.mem_filter.mp ho).1
/-- the turns of some, had at once -/
def Turned (rs : List Rule) (ns : List Int) (some_ : Int → Prop) (ms : List Int) : Prop := ms.length = ns.length ∧ ∀ (i : Nat) (h : i < rs.length), (some_ i → Tell rs[i] (lotI rs[i] ns i) (nth ms i)) ∧ (¬ some_ i → nth ms i = nth ns i)
theorem nth_ext {ns ms : List Int} (hl : ns.length = ms.length) (h : ∀ i : Nat, i < ns.length → nth ns i = nth ms i) : ns = ms := by
  apply List.ext_getElem hl
  intro i h1 h2
  have := h i h1
  unfold nth at this
  rw [List.getD_eq_getElem?_getD, List.getD_eq_getElem?_getD, Int.toNat_natCast, List.getElem?_eq_getElem h1, List.getElem?_eq_getElem h2] at this
  exact this
theorem Turned.unique {rs : List Rule} {ns ms ks : List Int} {p q : Int → Prop} (hn : ns.length = rs.length) (pq : ∀ i : Nat, i < rs.length → (p i ↔ q i)) (a : Turned rs ns p ms) (b : Turned rs ns q ks) : ms = ks := by
  refine nth_ext (a.1.trans b.1.symm) fun i hi => ?_
  have h : i < rs.length := by rw [← hn, ← a.1]; exact hi
  have ha := a.2 i h
  have hb := b.2 i h
  by_cases c : p i
  · exact (ha.1 c).unique (hb.1 ((pq i h).mp c))
  · rw [ha.2 c, hb.2 fun z => c ((pq i h).mpr z)]
abbrev Beat (rs : List Rule) (ns ms : List Int) : Prop := Turned rs ns (fun _ => True) ms
section
variable {P : Program} {w : World} {K : PySem.W.Frag} {mg : Str → Option Value} {base : Heap}
def spMust (C : Addr) : Sp := fun vs H Q _ => ∃ (x : Addr) (p : Int) (rs : List Rule), vs = [.ref x, .int p] ∧ HallAt C H x rs ∧ 0 ≤ p ∧ p < rs.length ∧ Q .non H
theorem ok_Hall_must_have (T : Txt K mg w) : FnOk P w K mg base CX0 1 T.f_Hall_must_have T.fd_Hall_must_have p_Hall_must_have (spMust T.C_Hall) := by
  refine T.F_Hall_must_have.ok sc_Hall_must_have (fun vs H Q E h => ?_) (fun cdv A outer s H vs Q E hr h => ?_)
  · obtain ⟨x, p, rs, rfl, _⟩ := h
    rfl
  · obtain ⟨x, p, rs, rfl, ⟨dx, t, vs, hx, ht, hv⟩, p0, p1, q⟩ := h
    have lv : vs.length = rs.length := hv.length
    refine ⟨_, (pss_one (ps_if (pt_not (pt_chain op_le op_lt pe_int (pv 1) (pe_callB call_len_seq (by rfl) T.m_len (by decide +kernel) (pa_cons (pe_fld (pv 0) rfl) pa_nil))))
        (pss_one ps_never)
        pss_nil)), ?_⟩
    exact ⟨.int p, rfl, 0, p, rfl, rfl, _, rfl, iteP (decide_eq_true p0) ⟨.ref x, rfl, x, T.C_Hall, dx, _, _, rfl, hx, T.cl_Hall, T.na_Hall_kept, kept_yes _, t, _, rfl, .inr ht.sq, p, _, rfl, rfl, _, rfl, iteN (by rw [decide_eq_true (by rw [lv]; exact p1)]; rfl) q⟩⟩
def spRuleM (C : Addr) : Sp := fun vs H Q _ => ∃ (x : Addr) (p : Nat) (rs : List Rule) (h : p < rs.length), vs = [.ref x, .int p] ∧ HallAt C H x rs ∧ ∀ v, RuleAt H v rs[p] → Q v H
theorem ok_Hall_rule (T : Txt K mg w) : FnOk P w K mg base CX0 2 T.f_Hall_rule T.fd_Hall_rule p_Hall_rule (spRuleM T.C_Hall) := by
  have G_Hall_must_have := ok_Hall_must_have (P := P) (w := w) (base := base) T
  refine T.F_Hall_rule.ok sc_Hall_rule (fun vs H Q E h => ?_) (fun cdv A outer s H vs Q E hr h => ?_)
  · obtain ⟨x, p, rs, hp, rfl, _⟩ := h
    rfl
  · obtain ⟨x, p, rs, hp, rfl, hA, q⟩ := h
    obtain ⟨dx, t, vs, hx, ht, hv⟩ := id hA
    refine ⟨_, (pss_cons (ps_expr (pe_meth (pv 0) T.cl_Hall T.me_Hall_must_have G_Hall_must_have (hr.mono (by decide)) T.b_Hall_must_have .nil pass0 (pa_cons (pv 1) pa_nil)))
      (pss_one (ps_ret (pe_ix ix_tup (pe_fld (pv 0) rfl) (pv 1) (fun _ _ => rfl))))), ?_⟩
    refine ⟨.ref x, rfl, x, dx, _, rfl, hx, kept_no _ (by decide +kernel), .int p, rfl, x, p, rs, rfl, hA, by omega, by omega, ?_⟩
    obtain ⟨v, hv1, hv2⟩ := hv.get p hp
    exact ⟨.ref x, rfl, x, T.C_Hall, dx, _, _, rfl, hx, T.cl_Hall, T.na_Hall_kept, kept_yes _, .int p, rfl, t, _, _, v, rfl, rfl, ht.sq, atI_nat hv1, q v hv2⟩
def spSees (C : Addr) : Sp := fun vs H Q _ => ∃ (x : Addr) (p : Nat) (rs : List Rule) (h : p < rs.length), vs = [.ref x, .int p] ∧ HallAt C H x rs ∧ Halls rs ∧ ∀ (l : Addr) (H' : Hp), Same H H' → H l = none → H' l = some (.lst (rs[p].persons.map V.int)) → Q (.ref l) H'
theorem Halls.few {rs : List Rule} (h : Halls rs) {p : Nat} (hp : p < rs.length) : rs[p].persons.length ≤ 12 := by
  have h1 := h.2.1
  have := (wf_len (h.2.2 _ (List.getElem_mem hp)) (by omega) (by omega)).2
  omega
theorem ok_Hall_sees (T : Txt K mg w) : FnOk P w K mg base CX0 3 T.f_Hall_sees T.fd_Hall_sees p_Hall_sees (spSees T.C_Hall) := by
  have G_Hall_rule := ok_Hall_rule (P := P) (w := w) (base := base) T
  have G_seen_by := ok_seen_by (P := P) (w := w) (base := base) T
  refine T.F_Hall_sees.ok sc_Hall_sees (fun vs H Q E h => ?_) (fun cdv A outer s H vs Q E hr h => ?_)
  · obtain ⟨x, p, rs, hp, rfl, _⟩ := h
    rfl
  · obtain ⟨x, p, rs, hp, rfl, hA, hh, q⟩ := h
    obtain ⟨dx, t, vs, hx, ht, hv⟩ := id hA
    have few := hh.few hp
    refine ⟨_, (pss_one (ps_ret (pe_call G_seen_by (hr.mono (by decide)) (by rfl) T.g_seen_by T.F_seen_by.kp T.b_seen_by .nil pass0 (pa_cons (pe_meth (pv 0) T.cl_Hall T.me_Hall_rule G_Hall_rule (hr.mono (by decide)) T.b_Hall_rule .nil pass0 (pa_cons (pv 1) pa_nil)) pa_nil)))), ?_⟩
    refine ⟨.ref x, rfl, x, dx, _, rfl, hx, kept_no _ (by decide +kernel), .int p, rfl, x, p, rs, hp, rfl, hA, fun v rv => ?_⟩
    exact ⟨v, rs[p], rfl, rv, by omega, fun l H' s' nl hl => q l H' s' nl hl⟩
def spLen (C : Addr) : Sp := fun vs H Q _ => ∃ (x : Addr) (rs : List Rule), vs = [.ref x] ∧ HallAt C H x rs ∧ Q (.int rs.length) H
theorem ok_Hall_len (T : Txt K mg w) : FnOk P w K mg base CX0 1 T.f_Hall_len T.fd_Hall_len p_Hall_len (spLen T.C_Hall) := by
  refine T.F_Hall_len.ok sc_Hall_len (fun vs H Q E h => ?_) (fun cdv A outer s H vs Q E hr h => ?_)
  · obtain ⟨x, rs, rfl, _⟩ := h
    rfl
  · obtain ⟨x, rs, rfl, ⟨dx, t, vs, hx, ht, hv⟩, q⟩ := h
    refine ⟨_, (pss_one (ps_ret (pe_callB call_len_seq (by rfl) T.m_len (by decide +kernel) (pa_cons (pe_fld (pv 0) rfl) pa_nil)))), ?_⟩
    refine ⟨.ref x, rfl, x, T.C_Hall, dx, _, _, rfl, hx, T.cl_Hall, T.na_Hall_kept, kept_yes _, t, _, rfl, .inr ht.sq, ?_⟩
    rw [hv.length]
    exact q
theorem per_in {rs : List Rule} (hh : Halls rs) {p : Nat} (hp : p < rs.length) : ∀ o ∈ rs[p].persons, 0 ≤ o ∧ o < rs.length := by
  intro o ho
  have wf := hh.2.2 _ (List.getElem_mem hp)
  generalize rs[p] = r at ho wf
  cases r with
  | held n => exact absurd ho (by simp [Rule.persons])
  | sum own ties => exact wf.2.1.2 o ho
  | cap own ties most => exact wf.2.1.2 o ho
  | kinds own seen => exact wf.2.2 o ho
  | next seen => exact wf.2 o ho
  | free seen => exact wf.2 o ho
end
end Lh

namespace Lh
open PySem PySem.Spec PyProof.Rows L2
theorem rg_ints (n : Int) : rgV 0 n = ((List.range n.toNat).map fun k : Nat => (k : Int)).map V.int := by
  unfold rgV
  rw [List.map_map, Int.sub_zero]
  exact List.map_congr_left fun k _ => by show V.int (0 + (k : Int)) = V.int k; rw [Int.zero_add]
theorem rg_rising (n : Int) (h : 0 ≤ n) : Rising n ((List.range n.toNat).map fun k : Nat => (k : Int)) := by
  refine ⟨List.Pairwise.map _ (fun a b z => by omega) List.pairwise_lt_range, fun x hx => ?_⟩
  obtain ⟨k, hk, rfl⟩ := List.mem_map.mp hx
  have := List.mem_range.mp hk
  omega
theorem at_end {us : List V} {t : V} (h : us[us.length - 1]? = some t) : atI us (-1) = some t := by
  rw [← List.getLast?_eq_getElem?] at h
  obtain ⟨ys, rfl⟩ := List.getLast?_eq_some_iff.mp h
  exact atI_last ys t
theorem ixN_at {n j : Nat} (h : j < n) : ixN n (j : Int) = some j := by
  unfold ixN
  rw [if_pos (by omega), if_pos (by omega), Int.toNat_natCast]
theorem nth_set {ms : List Int} {j : Nat} {y : Int} (hj : j < ms.length) (i : Nat) : nth (ms.set j y) i = if i = j then y else nth ms i := by
  unfold nth
  rw [Int.toNat_natCast, List.getD_eq_getElem?_getD, List.getD_eq_getElem?_getD, List.getElem?_set]
  by_cases c : j = i
  · subst c
    rw [if_pos rfl, if_pos rfl, if_pos hj]
    rfl
  · rw [if_neg c, if_neg fun z => c z.symm]
theorem Turned.step {rs : List Rule} {ns ms : List Int} {S S' : Int → Prop} {p : Nat} {y : Int} (hn : ns.length = rs.length) (hp : p < rs.length) (t : Turned rs ns S ms) (ty : Tell rs[p] (lotI rs[p] ns p) y) (hS : ∀ i : Nat, S' i ↔ S i ∨ i = p) : Turned rs ns S' (ms.set p y) := by
  refine ⟨by rw [List.length_set]; exact t.1, fun i hi => ?_⟩
  have hpm : p < ms.length := by rw [t.1]; omega
  rw [nth_set hpm]
  by_cases c : i = p
  · subst c
    rw [if_pos rfl]
    exact ⟨fun _ => ty, fun z => absurd ((hS i).mpr (.inr rfl)) z⟩
  · rw [if_neg c]
    refine ⟨fun z => (t.2 i hi).1 ?_, fun z => (t.2 i hi).2 fun z' => z ((hS i).mpr (.inl z'))⟩
    rcases (hS i).mp z with h | h
    · exact h
    · exact absurd h c
theorem Turned.none {rs : List Rule} {ns : List Int} {S : Int → Prop} (hS : ∀ i, ¬ S i) : Turned rs ns S ns := ⟨rfl, fun i _ => ⟨fun z => absurd z (hS _), fun _ => rfl⟩⟩
/-- the standings behind 0, 1, .. beats -/
def Way (rs : List Rule) (ns : List Int) (nss : List (List Int)) : Prop := nss[0]? = some ns ∧ (∀ ms ∈ nss, ms.length = rs.length) ∧ ∀ (i : Nat) (a b : List Int), nss[i]? = some a → nss[i + 1]? = some b → Beat rs a b
theorem Beat.unique {rs : List Rule} {ns ms ks : List Int} (hn : ns.length = rs.length) (a : Beat rs ns ms) (b : Beat rs ns ks) : ms = ks := Turned.unique hn (fun _ _ => Iff.rfl) a b
theorem Way.unique {rs : List Rule} {ns : List Int} {nss mss : List (List Int)} (a : Way rs ns nss) (b : Way rs ns mss) (hl : nss.length = mss.length) : nss = mss := by
  refine List.ext_getElem? fun i => ?_
  induction i with
  | zero => rw [a.1, b.1]
  | succ i ih =>
    by_cases c : i + 1 < nss.length
    · have c' : i + 1 < mss.length := by omega
      have h1 := List.getElem?_eq_getElem (l := nss) (show i < nss.length by omega)
      have h2 := List.getElem?_eq_getElem c
      have h4 := List.getElem?_eq_getElem c'
      rw [h2, h4]
      have h3 := ih.symm.trans h1
      have x := a.2.2 i _ _ h1 h2
      have y := b.2.2 i _ _ h3 h4
      rw [Beat.unique (a.2.1 _ (List.getElem_mem _)) x y]
    · rw [List.getElem?_eq_none (by omega), List.getElem?_eq_none (by omega)]
theorem Way.one {rs : List Rule} {ns : List Int} (h : ns.length = rs.length) : Way rs ns [ns] := by
  refine ⟨rfl, fun ms hm => ?_, fun i a b h1 h2 => ?_⟩
  · rw [List.mem_singleton.mp hm]; exact h
  · rw [List.getElem?_eq_none (by show 1 ≤ i + 1; omega)] at h2
    cases h2
theorem Way.snoc {rs : List Rule} {ns a b : List Int} {nss : List (List Int)} (h : Way rs ns nss) (ha : nss.getLast? = some a) (hb : Beat rs a b) : Way rs ns (nss ++ [b]) := by
  have hl : a ∈ nss := List.mem_of_getLast? ha
  have h0 : 0 < nss.length := List.length_pos_of_mem hl
  refine ⟨?_, fun ms hm => ?_, fun i x y h1 h2 => ?_⟩
  · rw [List.getElem?_append_left h0]; exact h.1
  · rcases List.mem_append.mp hm with z | z
    · exact h.2.1 _ z
    · rw [List.mem_singleton.mp z, hb.1]; exact h.2.1 _ hl
  · by_cases c : i + 1 < nss.length
    · rw [List.getElem?_append_left (by omega)] at h1
      rw [List.getElem?_append_left c] at h2
      exact h.2.2 i x y h1 h2
    · have c2 : i + 1 < (nss ++ [b]).length := by
        by_cases z : i + 1 < (nss ++ [b]).length
        · exact z
        · rw [List.getElem?_eq_none (by omega)] at h2; cases h2
      rw [List.length_append] at c2
      have c3 : i + 1 = nss.length := by have : i + 1 < nss.length + 1 := c2; omega
      rw [c3, List.getElem?_append_right (Nat.le_refl _), Nat.sub_self] at h2
      rw [List.getElem?_append_left (by omega)] at h1
      rw [List.getLast?_eq_getElem?, show nss.length - 1 = i by omega, h1] at ha
      cases ha; cases h2
      exact hb
theorem Way.drop {rs : List Rule} {ns a : List Int} {nss : List (List Int)} {k : Nat} (h : Way rs ns nss) (ha : nss[k]? = some a) : Way rs a (nss.drop k) := by
  refine ⟨by rw [List.getElem?_drop]; exact ha, fun ms hm => h.2.1 _ (List.mem_of_mem_drop hm), fun i x y h1 h2 => ?_⟩
  rw [List.getElem?_drop] at h1 h2
  exact h.2.2 (k + i) x y h1 h2
theorem Way.take {rs : List Rule} {ns : List Int} {nss : List (List Int)} {k : Nat} (h : Way rs ns nss) : Way rs ns (nss.take (k + 1)) := by
  refine ⟨by rw [List.getElem?_take_of_lt (by omega)]; exact h.1, fun ms hm => h.2.1 _ (List.mem_of_mem_take hm), fun i x y h1 h2 => ?_⟩
  by_cases c : i + 1 < k + 1
  · rw [List.getElem?_take_of_lt (by omega)] at h1
    rw [List.getElem?_take_of_lt c] at h2
    exact h.2.2 i x y h1 h2
  · rw [List.getElem?_eq_none (by rw [List.length_take]; omega)] at h2
    cases h2
/-- tuples of numbers, in a list -/
def StandAt (H : Hp) (v : V) (ms : List Int) : Prop := ∃ t, v = .ref t ∧ TupAt H t (ms.map V.int)
def StandsAt (H : Hp) : List V → List (List Int) → Prop := Paired (StandAt H)
theorem StandsAt.keep {H H' : Hp} (k : Keep H H') : ∀ {vs : List V} {nss : List (List Int)}, StandsAt H vs nss → StandsAt H' vs nss
  | _, _, .nil => .nil
  | _, _, .cons ⟨t, e, h⟩ r => .cons ⟨t, e, h.keep k⟩ (StandsAt.keep k r)
theorem StandsAt.get {H : Hp} : ∀ {vs : List V} {nss : List (List Int)}, StandsAt H vs nss → ∀ (i : Nat) (a : List Int), nss[i]? = some a → ∃ t, vs[i]? = some (.ref t) ∧ TupAt H t (a.map V.int)
  | _, _, .nil, i, a, h => by cases h
  | _, _, .cons ⟨t, e, h⟩ r, 0, a, z => by cases z; exact ⟨t, by rw [e]; rfl, h⟩
  | _, _, .cons _ r, i + 1, a, z => StandsAt.get r i a z
end Lh

namespace Lh
open PySem PySem.Spec PyProof.Rows L2
theorem lc_onesL {K : PySem.W.Frag} {t : Addr} {seen : List Int} {H1 : Hp} {D : Addr} {σ : L2.St} {vs : List Nat} {Qd : Hp → Prop} {i : Nat} (ht : H1 t = some (.lst (seen.map V.int))) (hD : H1 D = none) (hl : seen.length ≤ 1000)
    (hw : ∀ a, wipe ((wipe σ vs).set i a) vs = wipe σ vs) (hi : ∀ a : V, ((wipe σ vs).set i (some a))[i]? = some (some a))
    (hq : ∀ H' ps, Same H1 H' → H' D = some (.lst (ps.map V.ref)) → Paired (PairAtH H') ps (seen.map fun n => (n, 1)) → Qd H') :
    ∃ W : Nat → Nat → Hp → Prop, (∃ m, W 0 m (upd H1 D (.lst []))) ∧ ∀ i1 m H, W i1 m H →
      ((Itl K t).stop i1 H ∧ Qd H) ∨ ((Itl K t).go i1 H ∧ ∃ Nx : Hp → Prop, (∀ H', Nx H' → ∃ m', m' < m ∧ W (i1 + 1) m' H') ∧ ∀ x H', (Itl K t).yld i1 H x H' → gName i x (wipe σ vs) H' fun σ2 H2 => wipe σ2 vs = wipe σ vs ∧ tYes σ2 H2 fun b H3 =>
        if b = true then tTup (tCons (tVar i) (tCons (tC (.int 1)) tNil)) σ2 H3 fun y H4 => ∃ acc, H4 D = some (.lst acc) ∧ acc.length < sizeLine ∧ Nx (upd H4 D (.lst (acc ++ [y]))) else Nx H3) := by
  refine lc_it (walk_list (xs := seen.map V.int)) (fun n H3 => ∃ ps : List Addr, Same H1 H3 ∧ H3 D = some (.lst (ps.map V.ref)) ∧ Paired (PairAtH H3) ps ((seen.take n).map fun n => (n, 1))) ⟨[], same_upd hD, upd_same, .nil⟩ ?_ ?_ ?_
  · rintro n H3 _ ⟨ps, sm, _⟩
    exact .inl (.inl (sm _ _ ht))
  · rintro n x H3 H4 hn ⟨ps, sm, h3, pr⟩ ⟨rfl, hx⟩
    rw [List.length_map] at hn
    rw [List.getElem?_map, List.getElem?_eq_getElem hn] at hx
    have ex : x = .int seen[n] := (Option.some.inj hx).symm
    subst ex
    have pl : ps.length = n := by rw [pr.length, List.length_map, List.length_take]; omega
    refine ⟨hw _, yes (iteT ⟨.int seen[n], hi _, by show 2 ≤ sizeLine; decide, fun p np => ?_⟩)⟩
    have nDp : D ≠ p := ne_of_none h3 np
    refine ⟨_, by rw [upd_ne nDp]; exact h3, by rw [List.length_map]; exact small1000 (by omega), ps ++ [p], ?_, ?_, ?_⟩
    · exact same_mut (sm.trans (same_upd np)) hD
    · rw [upd_same, List.map_append]; rfl
    · rw [List.take_add_one, List.getElem?_eq_getElem hn, List.map_append]
      have kT : Keep H4 (upd (upd H4 p (.tup [.int seen[n], .int 1])) D (.lst (ps.map V.ref ++ [.ref p]))) := by
        refine ⟨fun a xs h => ?_, fun a o u h => ?_⟩
        · rw [upd_ne (ne_of h h3 (by intro z; cases z)), upd_ne (ne_of_none h np)]; exact h
        · rw [upd_ne (ne_of h h3 (by intro z; cases z)), upd_ne (ne_of_none h np)]; exact h
      exact Paired.snoc (R := PairAtH _) (show PairAtH _ _ _ by show _ = _; rw [upd_ne nDp.symm]; exact upd_same) (pairs_keep kT pr)
  · rintro H3 ⟨ps, sm, h3, pr⟩
    rw [List.length_map, List.take_length] at pr
    exact hq H3 ps sm h3 pr
/-- a list at D put by for another -/
theorem keep_lst {H : Hp} {D : Addr} {xs ys : List V} (h : H D = some (.lst xs)) : Keep H (upd H D (.lst ys)) := by
  refine ⟨fun a xs h' => ?_, fun a o u h' => ?_⟩
  · rw [upd_ne (ne_of h' h (by intro z; cases z))]; exact h'
  · rw [upd_ne (ne_of h' h (by intro z; cases z))]; exact h'
theorem rules_of {H : Hp} {m : Int} : ∀ us : List V, (∀ (i : Nat) (h : i < us.length), ∃ r, RuleAt H us[i] r ∧ r.Wf m) → ∃ rs, RulesAt H us rs ∧ ∀ r ∈ rs, r.Wf m
  | [], _ => ⟨[], .nil, fun r h => absurd h (by simp)⟩
  | u :: us, h => by
    obtain ⟨r, h1, h2⟩ := h 0 (by simp)
    obtain ⟨rs, h3, h4⟩ := rules_of us (fun i hi => h (i + 1) (by simpa using hi))
    refine ⟨r :: rs, .cons h1 h3, fun x hx => ?_⟩
    rcases List.mem_cons.mp hx with rfl | hx
    · exact h2
    · exact h4 x hx
section
variable {P : Program} {w : World} {K : PySem.W.Frag} {mg : Str → Option Value} {base : Heap}
def spStrewn : Sp := fun vs H Q _ => ∃ (bx p : Addr) (c : Int) (ns : List Int), vs = [.ref bx, .ref p] ∧ c + ns.length ≤ 1000000000 ∧ ns.length ≤ 900 ∧ Box bx c H ∧ H p = some (.lst (ns.map V.int)) ∧ p ≠ bx ∧
  ∀ (l : Addr) (ms : List Int) (H' : Hp), Ext bx H H' → Box bx (c + ns.length) H' → H l = none → H' l = some (.lst (ms.map V.int)) → ms.Perm ns → Q (.ref l) H'
def spHall : Sp := fun vs H Q _ => ∃ (bx : Addr) (c : Int), vs = [.ref bx] ∧ c + 100 ≤ 1000000000 ∧ Box bx c H ∧
  ∀ (l : Addr) (us : List V) (rs : List Rule) (H' : Hp), Ext bx H H' → Box bx (c + 100) H' → H l = none → H' l = some (.lst us) → RulesAt H' us rs → Halls rs → Q (.ref l) H'
end
end Lh

namespace Lh
open PySem PySem.Spec PyProof.Rows L2
/-! ### enumerate of a tuple -/
set_option maxHeartbeats 1000000 in
theorem enum_new1 {v : Value} {o : Obj} {G : Heap → Prop} (B : Begins v o G) :
    Meets (Builtin.«enumerate.__new__» ⟨[.type "enumerate", v], []⟩) (fun _ R z => G z.heap ∧
      R (.ok (.ret (.ref (z.heap.push o).objs.size))) { z with heap := (z.heap.push o).push { cls := .type "enumerate", data := .fields #[.none, .bool false, .ref z.heap.objs.size, rawInt 0, .none, .none] } }) := by
  refine .of_wp fun pr wo ar R z hh => ?_
  obtain ⟨h0, g0, d0, t0, o0⟩ := z
  obtain ⟨hG, hR⟩ := hh
  have hsub := sub_enumerate
  have it1 : ∀ {ar' : Around} {Ex : Value → Shared → Prop} {Q : Value → Shared → Prop}, Q (.ref h0.objs.size) ⟨h0.push o, g0, d0, t0, o0⟩ → wpAny (model pr wo) ar' (pyIter v) Q Ex ⟨h0, g0, d0, t0, o0⟩ :=
    fun q => B.iter pr wo _ _ ⟨h0, g0, d0, t0, o0⟩ _ hG q
  wp_walk using it1
  refine wpAny_stack_any fun _ => wpAny_pure ?_
  split
  · rename_i cc _ _ _ _ _
    cases (cc == Value.type "enumerate")
    all_goals
      wp_walk using it1
      exact ⟨_, rfl, hR⟩
  · wp_walk using it1
    exact ⟨_, rfl, hR⟩
theorem enum_made {pr : Program} {wo : World} {ar : Around} {Ex : Value → Shared → Prop} {z : Shared} {v : Value} {o : Obj} {G : Heap → Prop} {Q : Value → Shared → Prop} (B : Begins v o G) (hG : G z.heap)
    (h : ∀ h', IsEnum h' (z.heap.objs.size + 1) z.heap.objs.size 0 .none → h'.get? z.heap.objs.size = some o → (∀ b ob, z.heap.get? b = some ob → h'.get? b = some ob) → Q (.ref (z.heap.objs.size + 1)) { z with heap := h' }) :
    wpAny (model pr wo) ar (call (.type "enumerate") [v]) Q Ex z := by
  refine callType_new F.called_enumerate (by decide) (F.typeCall_enumerate_1 _) (F.newCall_enumerate_1 _) (fun x => F.args_object_init_2 x _) F.entry_enumerate_new (enum_new1 B) ⟨hG, ?_⟩
  have sz : (z.heap.push o).objs.size = z.heap.objs.size + 1 := Heap.size_push ..
  show _ ∧ _
  rw [sz]
  have he : IsEnum ((z.heap.push o).push { cls := .type "enumerate", data := .fields #[.none, .bool false, .ref z.heap.objs.size, rawInt 0, .none, .none] }) (z.heap.objs.size + 1) z.heap.objs.size 0 .none := by
    rw [← sz]
    exact Heap.get?_push_size (z.heap.push o) rfl
  exact ⟨⟨_, he, rfl⟩, h _ he (Heap.get?_push_of_some _ (Heap.get?_push_size _ B.free)) fun b ob x => Heap.get?_push_of_some _ (Heap.get?_push_of_some _ x)⟩
def IteT (K : PySem.W.Frag) (a : Addr) : It :=
  ⟨fun n H => ∃ (xs : List V) (x : V), SqT K H a xs ∧ xs[n]? = some x,
    fun n H v H' => ∃ T x, v = .ref T ∧ H T = none ∧ H' = upd H T (.tup [.int (n : Nat), x]) ∧ ∀ xs, SqT K H a xs → xs[n]? = some x,
    fun n H => ∃ xs : List V, SqT K H a xs ∧ xs.length ≤ n⟩
theorem draws_end {pr : Program} {wo : World} {ar : Around} (hh : ar.handled = none) (it a : Addr) (items : Array Value) (n : Nat) (hx : items[n]? = none) :
    Draws pr wo ar it [it, a] n (fun _ _ => False) (fun j h => j = n ∧ h.IsTupleIter it a n ∧ h.IsTuple a items) where
  live := fun _ _ st => let ⟨ob, hb, _⟩ := st.2.1; ⟨ob, hb⟩
  frame := fun _ _ _ st hk => ⟨st.1, st.2.1.at fun ob e => hk it (by simp) ob e, st.2.2.at fun ob e => hk a (by simp) ob e⟩
  item := fun j _ _ _ hj st _ => absurd st.1 (by omega)
  done := fun _ _ _ st hE => wpAny_nextOf_tuple_end hh st.2.1 st.2.2 hx hE
theorem turn_enumT {P : Program} {w : World} {K : PySem.W.Frag} {elts : List Expr} {kk : Nat} {tpos : Pos} (a e it : Addr) :
    Turn P w K (.Tuple elts kk tpos) (IteT K a) [e, it] e (fun n h => (∃ old, IsEnum h e it ((n : Nat) : Int) old) ∧ h.IsTupleIter it a n ∧ e ≠ it ∧ a ≠ it ∧ e ≠ a) where
  mem := by simp
  obj := fun n h st b hb => by
    obtain ⟨⟨old, he⟩, ⟨ob, ho, _, hd⟩, _⟩ := st
    rcases (show b = e ∨ b = it by simpa using hb) with rfl | rfl
    · exact ⟨_, he, fun v q => nomatch q⟩
    · exact ⟨ob, ho, fun v q => by rw [hd] at q; cases q⟩
  keep := fun n h h' st k => let ⟨⟨old, he⟩, hi, r⟩ := st; ⟨⟨old, k e (by simp) _ he⟩, hi.at fun ob q => k it (by simp) ob q, r⟩
  item := by
    intro X hP hw hK hc n pins s σ H E I hf st hg
    subst hP hw hK
    obtain ⟨⟨old, he⟩, hit, hne, nai, nea⟩ := st
    obtain ⟨xs, x, hq, hx⟩ := hg
    obtain ⟨its, rv, p, hz⟩ := I.tuple hq
    obtain ⟨u, hu, ru⟩ := rv.get hx
    have hu' : its.toArray[n]? = some u := by simpa using hu
    have hel : e < s.heap.objs.size := Heap.lt_size he
    have hil : it < s.heap.objs.size := by obtain ⟨_, q, _⟩ := hit; exact Heap.lt_size q
    have lt : n < its.toArray.size := (Array.getElem?_eq_some_iff.mp hu').1
    refine wpAny_pyNext_enum_itemD (Draws.tuple (A := X.A.in1) (I.ok.hd hc) it a nai its.toArray) he ⟨hit, p⟩ lt hne (by simp [hne, nea]) fun y h' tk hy ho st' hT hsz hk => ?_
    have ey : y = u := Option.some.inj (hy.symm.trans hu')
    subst ey
    refine ⟨_, rfl, wpAny_letOwnedTupleGo_enum (s := { s with heap := h', toks := tk + 1 }) ho fun h2 he2 sb => ?_⟩
    have hT2 : h2.get? s.heap.objs.size = some { cls := .type "tuple", data := .seq #[.int n tk, y] } := (sb.2 _ (Nat.ne_of_gt hel)).trans hT
    have new : ObjOk X.prog X.w (upd H s.heap.objs.size (.tup [.int (n : Nat), x])) h2 s.heap.objs.size (.tup [.int (n : Nat), x]) := by
      refine ⟨by show 2 ≤ sizeLine; decide, [.int n tk, y], .cons ⟨_, rfl⟩ (.cons ru .nil), ?_⟩
      exact ⟨_, hT2, rfl, _, rfl⟩
    have J : Inv X pins σ (upd H s.heap.objs.size (.tup [.int (n : Nat), x])) { s with heap := h2, toks := tk + 1 } := by
      refine I.turnedNew (ch := [e, it]) (fun b ob hb q => ?_) hf (Nat.le_refl _) new
      exact (sb.2 b (fun z => hb (by simp [z]))).trans (hk b ob (fun z => hb (by simp [z])) (fun z => hb (by simp [z])) q)
    refine ⟨.ref s.heap.objs.size, _, J, rfl, ⟨_, x, rfl, I.hok.fresh (Nat.le_refl _), rfl, fun ys hy => by rw [I.tuple_inj hy hq]; exact hx⟩, ⟨⟨y, ?_⟩, st'.1.at fun ob q => (sb.2 it (Ne.symm hne)).trans q, hne, nai, nea⟩, fun b hb => ?_⟩
    · rw [show ((n + 1 : Nat) : Int) = (n : Int) + 1 by omega]
      exact he2
    · have hb' : b < s.heap.objs.size := by
        rcases (show b = e ∨ b = it by simpa using hb) with rfl | rfl
        · exact hel
        · exact hil
      rw [upd_ne (Nat.ne_of_lt hb')]
      exact (hf b hb).1
  done := by
    intro X hP hw hK hc n pins s σ H E I hf st hg
    subst hP hw hK
    obtain ⟨⟨old, he⟩, hit, hne, nai, nea⟩ := st
    obtain ⟨xs, hq, hx⟩ := hg
    obtain ⟨its, rv, p, hz⟩ := I.tuple hq
    obtain ⟨f0, f1, f2, f3, f4, f5⟩ := hf it (by simp)
    have hl := rv.length
    have hn : its.toArray[n]? = none := by simp; omega
    exact wpAny_pyNext_enum_endD (draws_end (ar := X.A.in1) (I.ok.hd hc) it a its.toArray n hn) he ⟨rfl, hit, p⟩ fun h' eb => ⟨rfl, I.turned (t' := s.toks) (fun b ob hb q => eb b ob hb q) f0 f1 f3 f4 f5⟩
  self := fun ar n s Q E st h => let ⟨⟨_, he⟩, _⟩ := st; wpAny_pyIter_enum he h
def iEnumT (K : PySem.W.Frag) (ta : TA) : TI := fun σ H R => ta σ H fun vs H1 => ∃ a xs, vs = [.ref a] ∧ SqT K H1 a xs ∧ R (IteT K a) H1
theorem pi_enumT {X : Cx} {e : Expr} {ta : TA} {p pos tpos : Pos} {elts : List Expr} {kk : Nat} (hg : Gl X "enumerate") (hm : X.mg "enumerate" = none) (ha : PA X [e] ta) (hs : starEach [e] X.env = [(false, eval e X.env)] := by rfl) : PI X (.Tuple elts kk tpos) (.Call (.Name "enumerate" p) [e] [] pos) (iEnumT X.K ta) := by
  refine ⟨fun pins s σ H R I h => ?_⟩
  refine Call_ (ld_blt I hg hm PyProof.Rows.boot_enumerate (PyProof.Rows.callWith_type1 (thn (ha.run pos pins s σ H _ I h) fun us s1 ⟨vs, H1, I1, r1, a, xs, ex, hq, q⟩ => ?_) hs rfl))
  subst ex
  rw [Vals.ref1 r1]
  obtain ⟨its, rv, p', hz⟩ := I1.tuple hq
  obtain ⟨oa, hoa, _⟩ := id p'
  have la : a < s1.heap.objs.size := Heap.lt_size hoa
  refine enum_made (begins_tuple a its.toArray) p' fun h' he hit hk => wpAny_pyIter_enum he ?_
  have I2 : Inv X pins σ H1 { s1 with heap := h' } := I1.kept (t' := s1.toks) hk
  refine ⟨s1.heap.objs.size + 1, [s1.heap.objs.size + 1, s1.heap.objs.size], _, _, H1, rfl, I2, turn_enumT a (s1.heap.objs.size + 1) s1.heap.objs.size, ⟨⟨.none, he⟩, ⟨_, hit, rfl, rfl⟩, Nat.succ_ne_self _, Nat.ne_of_lt la, Nat.ne_of_gt (Nat.lt_succ_of_lt la)⟩, fun b hb => ?_, q⟩
  have hle : s1.heap.objs.size ≤ b := by
    rcases (show b = s1.heap.objs.size + 1 ∨ b = s1.heap.objs.size by simpa using hb) with z | z
    · rw [z]; exact Nat.le_add_right _ _
    · rw [z]; exact Nat.le_refl _
  exact I1.fpOk hle (I1.hok.fresh hle)
theorem walk_enumT {K : PySem.W.Frag} {a : Addr} {xs : List V} : Walk (IteT K a) xs.length (fun H => SqT K H a xs) (YPair (fun n => some (.int (n : Nat))) (fun n => xs[n]?)) := by
  refine ⟨fun n _ hn q => ⟨xs, xs[n], q, by simp [hn]⟩, fun _ q => ⟨xs, q, Nat.le_refl _⟩, fun n H v H' _ q y => ?_⟩
  obtain ⟨T, x, h1, h2, h3, h4⟩ := y
  exact ⟨T, .int (n : Nat), x, h1, h2, h3, rfl, h4 xs q⟩
end Lh

namespace Lh
open PySem PySem.Spec PyProof.Rows L2
theorem strict_of {ns : List Int} (h : ns.Pairwise (· ≤ ·)) (nd : ns.Nodup) : ns.Pairwise (· < ·) := by
  refine (h.and (List.nodup_iff_pairwise_ne.mp nd)).imp fun z => ?_
  have := z.1
  have := z.2
  omega
theorem cut_to {α : Type} (xs : List α) (k : Nat) (h : k ≤ xs.length) : cutI xs none (some (k : Int)) = xs.take k := by
  unfold cutI
  rw [HT.sIx_none, HT.sIx_nat, Nat.sub_zero, List.drop_zero, Nat.min_eq_left h]
theorem cut_from {α : Type} (xs : List α) (k : Nat) (h : k ≤ xs.length) : cutI xs (some (k : Int)) none = xs.drop k := by
  unfold cutI
  rw [HT.sIx_none, HT.sIx_nat, Nat.min_eq_left h]
  exact List.take_of_length_le (by rw [List.length_drop]; omega)
theorem rep_one (v : V) : ∀ n : Nat, (List.replicate n [v]).flatten = List.replicate n v
  | 0 => rfl
  | n + 1 => by rw [List.replicate_succ, List.flatten_cons, rep_one v n, List.replicate_succ]; rfl
theorem merge_get : ∀ (kv : List (Int × Int)) (acc : List (Key × V)) (p : Int), (∃ y, valV (mergeK acc (kvOf kv)) (Sum.inl p) = some (.int y) ∧ (p, y) ∈ kv) ∨ (p ∉ kv.map (·.1) ∧ valV (mergeK acc (kvOf kv)) (Sum.inl p) = valV acc (Sum.inl p))
  | [], acc, p => .inr ⟨by simp, rfl⟩
  | (a, b) :: t, acc, p => by
    have e : mergeK acc (kvOf ((a, b) :: t)) = mergeK (putK acc (Sum.inl a) (.int b)) (kvOf t) := rfl
    rw [e]
    rcases merge_get t (putK acc (Sum.inl a) (.int b)) p with ⟨y, h1, h2⟩ | ⟨h1, h2⟩
    · exact .inl ⟨y, h1, List.mem_cons_of_mem _ h2⟩
    · rw [h2, valV_put]
      by_cases c : p = a
      · subst c
        rw [if_pos rfl]
        exact .inl ⟨b, rfl, List.mem_cons_self⟩
      · have c' : ¬ (Sum.inl p : Key) = Sum.inl a := fun z => c (Sum.inl.inj z)
        rw [if_neg c']
        refine .inr ⟨fun z => ?_, rfl⟩
        rcases List.mem_cons.mp z with z | z
        · exact c z
        · exact h1 z
theorem pairs_at {H : Hp} {ps : List Addr} {lot : List (Int × Int)} (h : Paired (PairAtH H) ps lot) : ∀ (n : Nat) (h1 : n < ps.length) (h2 : n < lot.length), PairAtH H ps[n] lot[n] := by
  induction h with
  | nil => intro n h1; exact absurd h1 (by simp)
  | cons r t ih =>
    intro n h1 h2
    cases n with
    | zero => exact r
    | succ n => exact ih n (by simpa using h1) (by simpa using h2)
theorem lotI_pairs (r : Rule) (ns : List Int) (p : Int) : ((seenPairs r).filter fun q => decide (nth ns q.1 < nth ns p)).map (fun q => (q.1, nth ns q.1)) = lotI r ns p := by
  unfold lotI
  rw [← seen_persons r, List.filter_map, List.map_map]
  rfl
section
variable {P : Program} {w : World} {K : PySem.W.Frag} {mg : Str → Option Value} {base : Heap}
def spFlat : Sp := fun vs H Q _ => ∃ (bx : Addr) (c m : Int), vs = [.ref bx, .int m] ∧ 0 < m ∧ m ≤ 12 ∧ c + 1000 ≤ 1000000000 ∧ Box bx c H ∧
  ∀ (l : Addr) (us : List V) (rs : List Rule) (H' : Hp), Ext bx H H' → Box bx (c + 1000) H' → H l = none → H' l = some (.lst us) → RulesAt H' us rs → Halls rs → Q (.ref l) H'
def spShown : Sp := fun vs H Q _ => ∃ (bx l : Addr) (c : Int) (us : List V), vs = [.ref bx, .ref l] ∧ c + 100 ≤ 1000000000 ∧ us.length ≤ 12 ∧ Box bx c H ∧ TupAt H l us ∧ l ≠ bx ∧
  ∀ (t : Addr) (ns : List Int) (H' : Hp), Ext bx H H' → Box bx (c + 100) H' → H t = none → TupAt H' t (ns.map V.int) → ns.length = us.length → (∀ n ∈ ns, 0 ≤ n) → Q (.ref t) H'
end
end Lh

namespace Lh
open PySem PySem.Spec PyProof.Rows L2
theorem cutV_id (xs : List V) (lo hi : Option Int) : cutV xs lo hi = cutI xs lo hi := by
  have h := cut_map id xs lo hi
  rw [List.map_id, List.map_id] at h
  exact h
theorem sl_tup_use {K : PySem.W.Frag} {H : Hp} {a : Addr} {xs : List V} {lo hi : Option Int} {Q : VK} (h : TupAt H a xs) (q : ∀ (c : Addr) (H' : Hp), Same H H' → TupAt H' c (cutI xs lo hi) → Q (.ref c) H') : rSlA K (.ref a) lo hi H Q := by
  refine ⟨a, xs, rfl, h.sq, fun w => q a H (Same.refl _) ?_, fun _ p np => q p _ (same_upd np) (.inl (by rw [upd_same, cutV_id]))⟩
  have e : cutI xs lo hi = xs := by
    unfold cutI
    rw [w.1, w.2, List.drop_zero, Nat.sub_zero, List.take_length]
  rw [e]; exact h
theorem cat_use {K : PySem.W.Frag} {H : Hp} {a b : Addr} {xs ys : List V} {Q : VK} (ha : TupAt H a xs) (hb : TupAt H b ys) (hz : xs.length + ys.length ≤ sizeLine) (q : ∀ (c : Addr) (H' : Hp), Same H H' → TupAt H' c (xs ++ ys) → Q (.ref c) H') : rCatA K (.ref a) (.ref b) H Q := by
  refine ⟨a, b, xs, ys, rfl, rfl, ha.sq, hb.sq, hz, fun e => q b H (Same.refl _) (by rw [e]; exact hb), fun _ e => q a H (Same.refl _) (by rw [e, List.append_nil]; exact ha), fun _ _ p np => q p _ (same_upd np) (.inl upd_same)⟩
/-- the standing in which p shows v -/
theorem put_at {ns : List Int} {p : Nat} (hp : p < ns.length) (v : V) : cutI (ns.map V.int) none (some (p : Int)) ++ [v] ++ cutI (ns.map V.int) (some ((p : Int) + 1)) none = (ns.map V.int).set p v := by
  rw [cut_to _ _ (by rw [List.length_map]; omega), show (p : Int) + 1 = ((p + 1 : Nat) : Int) by omega, cut_from _ _ (by rw [List.length_map]; omega), List.set_eq_take_append_cons_drop, if_pos (by rw [List.length_map]; exact hp), List.append_assoc]
  rfl
end Lh

namespace Lh
open PySem PySem.Spec PyProof.Rows L2
/-! ### all come to rest: pure counting -/
theorem lotI_H (r : Rule) (ns : List Int) (p : Int) : lotI r ns p = lotH r ns (nth ns p) := rfl
theorem wgt_nn {ties : List (Int × Int)} (h : ∀ q ∈ ties, 1 ≤ q.2 ∧ q.2 ≤ 1000) (p : Int) : 0 ≤ wgt ties p ∧ wgt ties p ≤ 1000 := by
  unfold wgt
  cases e : ties.find? fun q => decide (q.1 = p) with
  | none => exact ⟨Int.le_refl _, by show (0 : Int) ≤ 1000; decide⟩
  | some q =>
    have := h q (List.mem_of_find?_eq_some e)
    exact ⟨by show 0 ≤ q.2; omega, this.2⟩
theorem sum_mono (f : Int → Int) (hf : ∀ p, 0 ≤ f p) (P Q : Int → Bool) (hPQ : ∀ p, P p = true → Q p = true) : ∀ xs : List Int, ((xs.filter P).map f).sum ≤ ((xs.filter Q).map f).sum
  | [] => Int.le_refl _
  | x :: t => by
    have ih := sum_mono f hf P Q hPQ t
    have := hf x
    rw [List.filter_cons, List.filter_cons]
    by_cases c : P x = true
    · rw [if_pos c, if_pos (hPQ x c), List.map_cons, List.map_cons, List.sum_cons, List.sum_cons]; omega
    · rw [if_neg c]
      by_cases d : Q x = true
      · rw [if_pos d, List.map_cons, List.sum_cons]; omega
      · rw [if_neg d]; exact ih
theorem sum_lot {ties : List (Int × Int)} (r : Rule) (ns : List Int) (h : Int) : ((lotH r ns h).map fun q => wgt ties q.1).sum = ((r.persons.filter fun o => decide (nth ns o < h)).map (wgt ties)).sum := by
  unfold lotH
  rw [List.map_map]
  rfl
theorem lotH_sub {r : Rule} {ns : List Int} {h h' : Int} (hh : h ≤ h') : ∀ q ∈ lotH r ns h, q ∈ lotH r ns h' := fun q hq => by
  obtain ⟨o, ho, rfl⟩ := List.mem_map.mp hq
  obtain ⟨o1, o2⟩ := List.mem_filter.mp ho
  exact List.mem_map.mpr ⟨o, List.mem_filter.mpr ⟨o1, decide_eq_true (Int.lt_of_lt_of_le (of_decide_eq_true o2) hh)⟩, rfl⟩
theorem lotH_sub2 {r : Rule} {ns : List Int} {h h' : Int} (hh : h ≤ h') : ∀ y ∈ (lotH r ns h).map (·.2), y ∈ (lotH r ns h').map (·.2) := fun y hy => by
  obtain ⟨q, hq, rfl⟩ := List.mem_map.mp hy
  exact List.mem_map_of_mem (lotH_sub hh q hq)
/-- more lesser ones never tell less -/
theorem tell_mono {m : Int} {ns : List Int} {h h' : Int} (hh : h ≤ h') (nn : ∀ o : Int, 0 ≤ nth ns o) : ∀ {r : Rule} {c y : Int}, r.Wf m → Tell r (lotH r ns h) c → Tell r (lotH r ns h') y → c ≤ y
  | .held n, c, y, _, a, b => by rw [show c = n from a, show y = n from b]; exact Int.le_refl _
  | .sum own ties, c, y, wf, a, b => by
    rw [show c = _ from a, show y = _ from b, sum_lot, sum_lot]
    have := sum_mono (wgt ties) (fun p => (wgt_nn wf.2.2 p).1) (fun o => decide (nth ns o < h)) (fun o => decide (nth ns o < h')) (fun o z => decide_eq_true (Int.lt_of_lt_of_le (of_decide_eq_true z) hh)) (Rule.sum own ties).persons
    omega
  | .cap own ties most, c, y, wf, a, b => by
    rw [show c = _ from a, show y = _ from b, sum_lot, sum_lot]
    have := sum_mono (wgt ties) (fun p => (wgt_nn wf.2.2.1 p).1) (fun o => decide (nth ns o < h)) (fun o => decide (nth ns o < h')) (fun o z => decide_eq_true (Int.lt_of_lt_of_le (of_decide_eq_true z) hh)) (Rule.cap own ties most).persons
    omega
  | .kinds own seen, c, y, _, ⟨ks, n1, m1, e1⟩, ⟨ls, n2, m2, e2⟩ => by
    have := nodup_len ks ls n1 fun x hx => (m2 x).mpr (lotH_sub2 hh x ((m1 x).mp hx))
    omega
  | .next seen, c, y, _, a, b => by
    have y0 : 0 ≤ y := by
      rcases b with ⟨_, e⟩ | ⟨e, _⟩
      · omega
      · obtain ⟨q, hq, e⟩ := List.mem_map.mp e
        obtain ⟨o, _, rfl⟩ := List.mem_map.mp hq
        have h1 := nn o
        have : nth ns o = y - 1 := e
        omega
    rcases a with ⟨_, e⟩ | ⟨e, _⟩
    · omega
    · have e' := lotH_sub2 hh _ e
      rcases b with ⟨z, _⟩ | ⟨_, z⟩
      · rw [z] at e'; exact absurd e' (by simp)
      · have := z _ e'; omega
  | .free seen, c, y, _, ⟨a1, a2, a3⟩, ⟨b1, b2, b3⟩ => by
    rcases Int.lt_or_le y c with z | z
    · exact absurd (lotH_sub2 hh _ (a3 y b2 z)) b1
    · exact z
theorem dedup_ex : ∀ xs : List Int, ∃ ks : List Int, ks.Nodup ∧ ∀ k, k ∈ ks ↔ k ∈ xs
  | [] => ⟨[], .nil, fun _ => Iff.rfl⟩
  | x :: t => by
    obtain ⟨ks, h1, h2⟩ := dedup_ex t
    by_cases c : x ∈ t
    · refine ⟨ks, h1, fun k => ?_⟩
      rw [h2, List.mem_cons]
      exact ⟨.inr, fun z => z.elim (fun e => e ▸ c) id⟩
    · refine ⟨x :: ks, List.nodup_cons.mpr ⟨fun z => c ((h2 x).mp z), h1⟩, fun k => ?_⟩
      rw [List.mem_cons, List.mem_cons, h2]
theorem max_ex : ∀ xs : List Int, xs ≠ [] → ∃ x ∈ xs, ∀ y ∈ xs, y ≤ x
  | [], h => absurd rfl h
  | [x], _ => ⟨x, List.mem_cons_self, fun y hy => by rw [List.mem_singleton.mp hy]; exact Int.le_refl _⟩
  | x :: z :: t, _ => by
    obtain ⟨m, h1, h2⟩ := max_ex (z :: t) (by simp)
    rcases Int.le_total x m with c | c
    · refine ⟨m, List.mem_cons_of_mem _ h1, fun y hy => ?_⟩
      rcases List.mem_cons.mp hy with rfl | hy
      · exact c
      · exact h2 y hy
    · refine ⟨x, List.mem_cons_self, fun y hy => ?_⟩
      rcases List.mem_cons.mp hy with rfl | hy
      · exact Int.le_refl _
      · exact Int.le_trans (h2 y hy) c
theorem mex_from (xs : List Int) : ∀ (d k : Nat), (∀ j : Nat, j < k → (j : Int) ∈ xs) → xs.length + 1 ≤ k + d → ∃ x, IsMex xs x
  | 0, k, hk, hd => by
    exfalso
    have := nodup_len ((List.range k).map fun n : Nat => (n : Int)) xs (by
      rw [List.nodup_iff_pairwise_ne]
      exact List.Pairwise.map _ (fun a b z q => z (by omega)) (List.nodup_iff_pairwise_ne.mp List.nodup_range)) (fun x hx => by
        obtain ⟨n, hn, rfl⟩ := List.mem_map.mp hx
        exact hk n (List.mem_range.mp hn))
    rw [List.length_map, List.length_range] at this
    omega
  | d + 1, k, hk, hd => by
    by_cases c : (k : Int) ∈ xs
    · exact mex_from xs d (k + 1) (fun j hj => by
        by_cases e : j = k
        · subst e; exact c
        · exact hk j (by omega)) (by omega)
    · refine ⟨k, c, by omega, fun j h0 h1 => ?_⟩
      have := hk j.toNat (by omega)
      rw [show ((j.toNat : Nat) : Int) = j by omega] at this
      exact this
theorem Tell.ex : ∀ (r : Rule) (lot : List (Int × Int)), ∃ y, Tell r lot y
  | .held n, _ => ⟨n, rfl⟩
  | .sum _ _, _ => ⟨_, rfl⟩
  | .cap _ _ _, _ => ⟨_, rfl⟩
  | .kinds _ _, lot => by
    obtain ⟨ks, h1, h2⟩ := dedup_ex (lot.map (·.2))
    exact ⟨_, ks, h1, h2, rfl⟩
  | .next _, lot => by
    by_cases c : lot = []
    · exact ⟨0, .inl ⟨c, rfl⟩⟩
    · obtain ⟨x, h1, h2⟩ := max_ex (lot.map (·.2)) (fun z => c (List.map_eq_nil_iff.mp z))
      refine ⟨x + 1, .inr ⟨?_, fun y hy => ?_⟩⟩
      · rw [show x + 1 - 1 = x by omega]; exact h1
      · have := h2 y hy; omega
  | .free _, lot => mex_from _ ((lot.map (·.2)).length + 1) 0 (fun j hj => absurd hj (by omega)) (by omega)
/-- what a rule tells is no less than 0, and no more than it shows itself or some bound -/
def bnd : Rule → Int
  | .held n => n
  | .sum own ties => own + 1000 * ties.length
  | .cap _ _ most => most
  | .kinds own seen => own + seen.length
  | .next _ => 0
  | .free seen => seen.length
theorem sum_bnd (f : Int → Int) (hf : ∀ p, f p ≤ 1000) (h0 : ∀ p, 0 ≤ f p) (P : Int → Bool) : ∀ xs : List Int, ((xs.filter P).map f).sum ≤ 1000 * xs.length ∧ 0 ≤ ((xs.filter P).map f).sum
  | [] => ⟨Int.le_refl _, Int.le_refl _⟩
  | x :: t => by
    have ih := sum_bnd f hf h0 P t
    have := hf x
    have := h0 x
    rw [List.filter_cons, List.length_cons]
    by_cases c : P x = true
    · rw [if_pos c, List.map_cons, List.sum_cons]; omega
    · rw [if_neg c]; omega
theorem lotH_len (r : Rule) (ns : List Int) (h : Int) : (lotH r ns h).length ≤ r.persons.length := by
  unfold lotH
  rw [List.length_map]
  exact List.length_filter_le _ _
theorem tell_bnd {m : Int} {ns : List Int} {h : Int} (nn : ∀ o : Int, 0 ≤ nth ns o) (h0 : 0 ≤ h) : ∀ {r : Rule} {y : Int}, r.Wf m → Tell r (lotH r ns h) y → 0 ≤ y ∧ (y ≤ bnd r ∨ y ≤ h)
  | .held n, y, wf, a => by rw [show y = n from a]; exact ⟨wf.1, .inl (Int.le_refl _)⟩
  | .sum own ties, y, wf, a => by
    have e : y = _ := a
    rw [sum_lot] at e
    have := sum_bnd (wgt ties) (fun p => (wgt_nn wf.2.2 p).2) (fun p => (wgt_nn wf.2.2 p).1) (fun o => decide (nth ns o < h)) (Rule.sum own ties).persons
    have e2 : (Rule.sum own ties).persons.length = ties.length := List.length_map _
    have := wf.1.1
    refine ⟨by omega, .inl ?_⟩
    show y ≤ own + 1000 * ties.length
    rw [← e2]; omega
  | .cap own ties most, y, wf, a => by
    have e : y = _ := a
    rw [sum_lot] at e
    have := sum_bnd (wgt ties) (fun p => (wgt_nn wf.2.2.1 p).2) (fun p => (wgt_nn wf.2.2.1 p).1) (fun o => decide (nth ns o < h)) (Rule.cap own ties most).persons
    have := wf.1.1
    have := wf.2.2.2.1
    refine ⟨by omega, .inl ?_⟩
    show y ≤ most
    omega
  | .kinds own seen, y, wf, ⟨ks, n1, m1, e1⟩ => by
    have h1 := nodup_len ks ((lotH (.kinds own seen) ns h).map (·.2)) n1 fun x hx => (m1 x).mp hx
    rw [List.length_map] at h1
    have h2 := lotH_len (.kinds own seen) ns h
    have h3 : (Rule.kinds own seen).persons.length = seen.length := rfl
    have := wf.1.1
    refine ⟨by omega, .inl ?_⟩
    show y ≤ own + seen.length
    omega
  | .next seen, y, _, a => by
    rcases a with ⟨_, e⟩ | ⟨e, _⟩
    · exact ⟨by omega, .inr (by omega)⟩
    · obtain ⟨q, hq, e⟩ := List.mem_map.mp e
      obtain ⟨o, ho, rfl⟩ := List.mem_map.mp hq
      have h1 := nn o
      have h2 : nth ns o < h := of_decide_eq_true (List.mem_filter.mp ho).2
      have : nth ns o = y - 1 := e
      exact ⟨by omega, .inr (by omega)⟩
  | .free seen, y, _, ⟨a1, a2, a3⟩ => by
    refine ⟨a2, .inl ?_⟩
    have h1 := nodup_len ((List.range y.toNat).map fun n : Nat => (n : Int)) ((lotH (.free seen) ns h).map (·.2)) (by
      rw [List.nodup_iff_pairwise_ne]
      exact List.Pairwise.map _ (fun a b z q => z (by omega)) (List.nodup_iff_pairwise_ne.mp List.nodup_range)) (fun x hx => by
        obtain ⟨n, hn, rfl⟩ := List.mem_map.mp hx
        have := List.mem_range.mp hn
        exact a3 n (by omega) (by omega))
    rw [List.length_map, List.length_range, List.length_map] at h1
    have h2 := lotH_len (.free seen) ns h
    have h3 : (Rule.free seen).persons.length = seen.length := rfl
    show y ≤ (seen.length : Int)
    omega
/-- nobody's turn changes it -/
def Rest (rs : List Rule) (ns : List Int) : Prop := ∀ (i : Nat) (h : i < rs.length), Tell rs[i] (lotI rs[i] ns i) (nth ns i)
theorem upto {P : Nat → Nat → Prop} (mono : ∀ p t t', t ≤ t' → P p t → P p t') : ∀ n : Nat, (∀ p, p < n → ∃ t, P p t) → ∃ t, ∀ p, p < n → P p t
  | 0, _ => ⟨0, fun p h => absurd h (by omega)⟩
  | n + 1, h => by
    obtain ⟨t1, h1⟩ := upto mono n fun p hp => h p (by omega)
    obtain ⟨t2, h2⟩ := h n (by omega)
    refine ⟨max t1 t2, fun p hp => ?_⟩
    by_cases c : p = n
    · subst c; exact mono _ _ _ (Nat.le_max_right _ _) h2
    · exact mono _ _ _ (Nat.le_max_left _ _) (h1 p (by omega))
section
variable {rs : List Rule} {s : Nat → List Int} {S : Nat → Int → Prop}
structure Fair (rs : List Rule) (s : Nat → List Int) (S : Nat → Int → Prop) : Prop where
  hh : ∀ r ∈ rs, r.Wf rs.length
  len : ∀ k, (s k).length = rs.length
  step : ∀ k, Turned rs (s k) (S k) (s (k + 1))
  nn0 : ∀ o : Int, 0 ≤ nth (s 0) o
  fair : ∀ (k p : Nat), p < rs.length → ∃ j, k ≤ j ∧ S j p
theorem nth_out {ns : List Int} {o : Int} (h : ns.length ≤ o.toNat) : nth ns o = 0 := by
  unfold nth
  rw [List.getD_eq_getElem?_getD, List.getElem?_eq_none h]
  rfl
theorem nth_nat {ns : List Int} (o : Int) : nth ns o = nth ns (o.toNat : Nat) := by
  unfold nth
  rw [Int.toNat_natCast]
theorem Fair.nn (f : Fair rs s S) : ∀ (k : Nat) (o : Int), 0 ≤ nth (s k) o
  | 0, o => f.nn0 o
  | k + 1, o => by
    have ih := f.nn k
    by_cases c : o.toNat < rs.length
    · rw [nth_nat]
      have t := (f.step k).2 o.toNat c
      by_cases d : S k (o.toNat : Nat)
      · have h1 := t.1 d
        rw [lotI_H] at h1
        exact (tell_bnd ih (ih _) (f.hh _ (List.getElem_mem c)) h1).1
      · rw [t.2 d]; exact ih _
    · rw [nth_out (by rw [f.len]; omega)]
      exact Int.le_refl _
theorem Fair.bound (f : Fair rs s S) : ∃ B : Int, 0 ≤ B ∧ ∀ (k : Nat) (o : Nat), nth (s k) o ≤ B := by
  have b1 : ∀ xs : List Int, ∃ B : Int, 0 ≤ B ∧ ∀ x ∈ xs, x ≤ B := fun xs => by
    obtain ⟨m, _, hm⟩ := max_ex (0 :: xs) (by simp)
    exact ⟨m, hm 0 List.mem_cons_self, fun x hx => hm x (List.mem_cons_of_mem _ hx)⟩
  obtain ⟨B, B0, hB⟩ := b1 (rs.map bnd ++ s 0)
  refine ⟨B, B0, fun k => ?_⟩
  induction k with
  | zero =>
    intro o
    by_cases c : o < (s 0).length
    · refine hB _ (List.mem_append_right _ ?_)
      have := nth_get (ns := s 0) (p := (o : Int)) (by omega) (by omega)
      rw [Int.toNat_natCast, List.getElem?_map, List.getElem?_eq_getElem c] at this
      have e : (s 0)[o] = nth (s 0) o := V.int.inj (Option.some.inj this)
      rw [← e]
      exact List.getElem_mem c
    · rw [nth_out (by omega)]; exact B0
  | succ k ih =>
    intro o
    by_cases c : o < rs.length
    · have t := (f.step k).2 o c
      by_cases d : S k o
      · have h1 := t.1 d
        rw [lotI_H] at h1
        rcases (tell_bnd (f.nn k) (f.nn k _) (f.hh _ (List.getElem_mem c)) h1).2 with h2 | h2
        · exact Int.le_trans h2 (hB _ (List.mem_append_left _ (List.mem_map_of_mem (List.getElem_mem c))))
        · exact Int.le_trans h2 (ih o)
      · rw [t.2 d]; exact ih o
    · rw [nth_out (by rw [f.len]; omega)]; exact B0
/-- from T on p shows one number below h, or never one below it -/
def Fix (s : Nat → List Int) (h : Int) (p T : Nat) : Prop := ((∀ k, T ≤ k → nth (s k) p = nth (s T) p) ∧ nth (s T) p < h) ∨ ∀ k, T ≤ k → h ≤ nth (s k) p
theorem Fix.later {h : Int} {p T T' : Nat} (l : T ≤ T') : Fix s h p T → Fix s h p T'
  | .inl ⟨a, b⟩ => .inl ⟨fun k hk => by rw [a k (by omega), a T' l], by rw [a T' l]; exact b⟩
  | .inr a => .inr fun k hk => a k (by omega)
theorem lot_still (f : Fair rs s S) {h : Int} {T k : Nat} (hk : T ≤ k) (fx : ∀ p, p < rs.length → Fix s h p T) {i : Nat} (hi : i < rs.length) : lotH rs[i] (s k) h = lotH rs[i] (s T) h := by
  have inr : ∀ o ∈ rs[i].persons, 0 ≤ o ∧ o < rs.length := by
    intro o ho
    have wf := f.hh _ (List.getElem_mem hi)
    generalize rs[i] = r at ho wf
    cases r with
    | held n => exact absurd ho (by simp [Rule.persons])
    | sum own ties => exact wf.2.1.2 o ho
    | cap own ties most => exact wf.2.1.2 o ho
    | kinds own seen => exact wf.2.2 o ho
    | next seen => exact wf.2 o ho
    | free seen => exact wf.2 o ho
  have key : ∀ o ∈ rs[i].persons, (nth (s k) o = nth (s T) o) ∨ (h ≤ nth (s k) o ∧ h ≤ nth (s T) o) := fun o ho => by
    have io := inr o ho
    rw [nth_nat (ns := s k), nth_nat (ns := s T)]
    rcases fx o.toNat (by omega) with ⟨a, _⟩ | a
    · exact .inl (a k hk)
    · exact .inr ⟨a k hk, a T (Nat.le_refl _)⟩
  unfold lotH
  have e1 : (rs[i].persons.filter fun o => decide (nth (s k) o < h)) = rs[i].persons.filter fun o => decide (nth (s T) o < h) := by
    refine List.filter_congr fun o ho => ?_
    rcases key o ho with e | ⟨a, b⟩
    · rw [e]
    · rw [decide_eq_false (by omega), decide_eq_false (by omega)]
  rw [e1]
  refine List.map_congr_left fun o ho => ?_
  obtain ⟨o1, o2⟩ := List.mem_filter.mp ho
  have lt : nth (s T) o < h := of_decide_eq_true o2
  rcases key o o1 with e | ⟨a, b⟩
  · rw [e]
  · omega
theorem Fair.levels (f : Fair rs s S) : ∀ h : Nat, ∃ T, ∀ p, p < rs.length → Fix s h p T
  | 0 => ⟨0, fun p _ => .inr fun k _ => f.nn k p⟩
  | h + 1 => by
    obtain ⟨T, fx⟩ := f.levels h
    refine upto (P := fun p t => Fix s ((h + 1 : Nat) : Int) p t) (fun p t t' l => Fix.later l) rs.length fun p hp => ?_
    rcases fx p hp with ⟨a, b⟩ | a
    · exact ⟨T, .inl ⟨a, by omega⟩⟩
    obtain ⟨c, hc⟩ := Tell.ex rs[p] (lotH rs[p] (s T) h)
    have wf := f.hh _ (List.getElem_mem hp)
    -- a turn of p behind T tells no less than c, and c itself at h
    have low : ∀ k, T ≤ k → S k p → c ≤ nth (s (k + 1)) p := fun k hk hS => by
      have t := ((f.step k).2 p hp).1 hS
      rw [lotI_H] at t
      rw [← lot_still f hk fx hp] at hc
      exact tell_mono (a k hk) (f.nn k) wf hc t
    have just : ∀ k, T ≤ k → S k p → nth (s k) p = h → nth (s (k + 1)) p = c := fun k hk hS e => by
      have t := ((f.step k).2 p hp).1 hS
      rw [lotI_H, e, lot_still f hk fx hp] at t
      exact t.unique hc
    have stay : ∀ k, ¬ S k p → nth (s (k + 1)) p = nth (s k) p := fun k hS => ((f.step k).2 p hp).2 hS
    by_cases ch : (h : Int) < c
    · obtain ⟨j, hj, hS⟩ := f.fair T p hp
      refine ⟨j + 1, .inr fun k hk => ?_⟩
      have : ∀ d, c ≤ nth (s (j + 1 + d)) p := fun d => by
        induction d with
        | zero => exact low j hj hS
        | succ d ih =>
          show c ≤ nth (s (j + 1 + d + 1)) p
          by_cases e : S (j + 1 + d) p
          · exact low (j + 1 + d) (by omega) e
          · rw [stay _ e]; exact ih
      have h1 := this (k - (j + 1))
      rw [show j + 1 + (k - (j + 1)) = k by omega] at h1
      omega
    · by_cases ex : ∃ k, T ≤ k ∧ nth (s k) p = h
      · obtain ⟨k, hk, e⟩ := ex
        have all : ∀ d, nth (s (k + d)) p = h := fun d => by
          induction d with
          | zero => exact e
          | succ d ih =>
            rw [show k + (d + 1) = k + d + 1 by omega]
            by_cases z : S (k + d) p
            · have h1 := just _ (by omega) z ih
              have h2 := a (k + d + 1) (by omega)
              omega
            · rw [stay _ z]; exact ih
        refine ⟨k, .inl ⟨fun k' hk' => ?_, by rw [e]; omega⟩⟩
        have h1 := all (k' - k)
        rw [show k + (k' - k) = k' by omega] at h1
        rw [h1, e]
      · refine ⟨T, .inr fun k hk => ?_⟩
        have h1 := a k hk
        have h2 : nth (s k) p ≠ h := fun z => ex ⟨k, hk, z⟩
        omega
/-- all come to rest -/
theorem Fair.rest (f : Fair rs s S) : ∃ T, (∀ k, T ≤ k → s k = s T) ∧ Rest rs (s T) := by
  obtain ⟨B, B0, hB⟩ := f.bound
  obtain ⟨T, fx⟩ := f.levels (B.toNat + 1)
  have still : ∀ k, T ≤ k → s k = s T := fun k hk => by
    refine nth_ext (by rw [f.len, f.len]) fun i hi => ?_
    rw [f.len] at hi
    rcases fx i hi with ⟨a, _⟩ | a
    · exact a k hk
    · have h1 := a k hk
      have h2 := hB k i
      omega
  refine ⟨T, still, fun i hi => ?_⟩
  obtain ⟨j, hj, hS⟩ := f.fair T i hi
  have t := ((f.step j).2 i hi).1 hS
  rw [still j hj, still (j + 1) (by omega)] at t
  exact t
end
end Lh

namespace Lh
open PySem PySem.Spec PyProof.Rows L2
theorem eqvAll_ints : ∀ a b : List Int, PyData.eqvAll (a.map PyData.int) (b.map PyData.int) = decide (a = b)
  | [], [] => by rw [List.map_nil, PyData.eqvAll]; rfl
  | [], y :: t => by rw [List.map_nil, List.map_cons, PyData.eqvAll]; rfl
  | x :: t, [] => by rw [List.map_nil, List.map_cons, PyData.eqvAll]; rfl
  | x :: t, y :: u => by
    rw [List.map_cons, List.map_cons, PyData.eqvAll, PyData.eqv, eqvAll_ints t u, Bool.eq_iff_iff]
    simp
theorem eqv_tups (a b : List Int) : PyData.eqv (.tuple (a.map PyData.int)) (.tuple (b.map PyData.int)) = decide (a = b) := by
  rw [PyData.eqv]
  exact eqvAll_ints a b
theorem shaped_tup (ns : List Int) : SeqAt.shaped (.tuple (ns.map PyData.int)) = true := by
  show (PyData.canLayAll0 (ns.map PyData.int) && decide (PyData.depthAll (ns.map PyData.int) + 1 ≤ 64)) = true
  rw [canLay_ints, depth_ints]
  rfl
/-- [e for n in numbers] -/
theorem TupAt.dp {K : PySem.W.Frag} {H : Hp} {t : Addr} {ns : List Int} (h : TupAt H t (ns.map V.int)) : Dp K H (.ref t) (.tuple (ns.map PyData.int)) := .tup h.sq (RpAll.dp (bx := t) (RpAll.ints ns))
/-- the standing behind a beat -/
theorem Beat.ex (rs : List Rule) {ns : List Int} (hn : ns.length = rs.length) : ∃ ms, Beat rs ns ms := by
  have : ∀ k, k ≤ rs.length → ∃ ms : List Int, ms.length = k ∧ ∀ (i : Nat) (h : i < rs.length), i < k → Tell rs[i] (lotI rs[i] ns i) (nth ms i) := by
    intro k
    induction k with
    | zero => exact fun _ => ⟨[], rfl, fun i _ h => absurd h (by omega)⟩
    | succ k ih =>
      intro hk
      obtain ⟨ms, h1, h2⟩ := ih (by omega)
      obtain ⟨y, hy⟩ := Tell.ex rs[k] (lotI rs[k] ns k)
      refine ⟨ms ++ [y], by rw [List.length_append, h1]; rfl, fun i h hi => ?_⟩
      by_cases c : i = k
      · subst c
        have e : nth (ms ++ [y]) (i : Int) = y := by
          unfold nth
          rw [Int.toNat_natCast, List.getD_eq_getElem?_getD, List.getElem?_append_right (by omega), h1, Nat.sub_self]; rfl
        rw [e]; exact hy
      · have e : nth (ms ++ [y]) (i : Int) = nth ms i := by
          unfold nth
          rw [Int.toNat_natCast, List.getD_eq_getElem?_getD, List.getD_eq_getElem?_getD, List.getElem?_append_left (by omega)]
        rw [e]; exact h2 i h (by omega)
  obtain ⟨ms, h1, h2⟩ := this rs.length (Nat.le_refl _)
  exact ⟨ms, by rw [h1, hn], fun i h => ⟨fun _ => h2 i h h, fun z => absurd trivial z⟩⟩
noncomputable def beatF (rs : List Rule) (ns : List Int) : List Int := open Classical in if h : ∃ ms, Beat rs ns ms then Classical.choose h else ns
theorem beatF_ok {rs : List Rule} {ns : List Int} (hn : ns.length = rs.length) : Beat rs ns (beatF rs ns) := by
  unfold beatF
  rw [dif_pos (Beat.ex rs hn)]
  exact Classical.choose_spec (Beat.ex rs hn)
noncomputable def beatN (rs : List Rule) (ns : List Int) : Nat → List Int
  | 0 => ns
  | k + 1 => beatF rs (beatN rs ns k)
theorem beatN_len {rs : List Rule} {ns : List Int} (hn : ns.length = rs.length) : ∀ k, (beatN rs ns k).length = rs.length
  | 0 => hn
  | k + 1 => by
    show (beatF rs (beatN rs ns k)).length = rs.length
    rw [(beatF_ok (beatN_len hn k)).1]; exact beatN_len hn k
theorem beatN_step {rs : List Rule} {ns : List Int} (hn : ns.length = rs.length) (k : Nat) : Beat rs (beatN rs ns k) (beatN rs ns (k + 1)) := beatF_ok (beatN_len hn k)
theorem nth_pos {ns : List Int} (h : ∀ n ∈ ns, 0 ≤ n) (o : Int) : 0 ≤ nth ns o := by
  unfold nth
  rw [List.getD_eq_getElem?_getD]
  cases e : ns[o.toNat]? with
  | none => exact Int.le_refl _
  | some x => exact h x (List.mem_of_getElem? e)
theorem beat_rest {rs : List Rule} {ns : List Int} (hh : Halls rs) (hn : ns.length = rs.length) (pos : ∀ n ∈ ns, 0 ≤ n) : ∃ T, (∀ k, T ≤ k → beatN rs ns k = beatN rs ns T) ∧ Rest rs (beatN rs ns T) :=
  Fair.rest (S := fun _ _ => True) ⟨hh.2.2, beatN_len hn, beatN_step hn, nth_pos pos, fun k p _ => ⟨k, Nat.le_refl _, trivial⟩⟩
theorem Rest.beat {rs : List Rule} {ns : List Int} (h : Rest rs ns) : Beat rs ns ns := ⟨rfl, fun i hi => ⟨fun _ => h i hi, fun z => absurd trivial z⟩⟩
/-- where beats lead, and behind how many -/
def Come (rs : List Rule) (ns m : List Int) (b : Nat) : Prop := m = beatN rs ns b ∧ Beat rs m m ∧ ∀ i, i < b → beatN rs ns i ≠ beatN rs ns (i + 1)
theorem Come.unique {rs : List Rule} {ns m m' : List Int} {b b' : Nat} (hn : ns.length = rs.length) (h : Come rs ns m b) (h' : Come rs ns m' b') : m = m' ∧ b = b' := by
  have key : ∀ {m m' : List Int} {b b' : Nat}, Come rs ns m b → Come rs ns m' b' → ¬ b < b' := fun {m m' b b'} x y z => by
    refine y.2.2 b z ?_
    have s := beatN_step hn b
    have e := x.1
    rw [← e] at s ⊢
    exact x.2.1.unique (by rw [e]; exact beatN_len hn b) s
  have e : b = b' := by
    have h1 := key h h'
    have h2 := key h' h
    omega
  subst e
  exact ⟨h.1.trans h'.1.symm, rfl⟩
def cntOf (i : Nat) (σ : L2.St) : Nat := match σ[i]? with
  | some (some (.int b)) => b.toNat
  | _ => 0
/-- those whom a turn would change -/
noncomputable def restL (rs : List Rule) (ns : List Int) : List Int := ((List.range rs.length).filter fun i : Nat => decide (nth (beatF rs ns) i ≠ nth ns i)).map fun k : Nat => (k : Int)
theorem restL_len (rs : List Rule) (ns : List Int) : (restL rs ns).length ≤ rs.length := by
  unfold restL
  rw [List.length_map]
  exact Nat.le_trans (List.length_filter_le _ _) (by rw [List.length_range]; exact Nat.le_refl _)
theorem restL_nil {rs : List Rule} {ns : List Int} (hn : ns.length = rs.length) : (restL rs ns).isEmpty = true ↔ Rest rs ns := by
  have bt := beatF_ok hn
  rw [List.isEmpty_iff]
  unfold restL
  rw [List.map_eq_nil_iff, List.filter_eq_nil_iff]
  constructor
  · intro h i hi
    have h1 := h i (List.mem_range.mpr hi)
    have h2 : nth (beatF rs ns) i = nth ns i := by simpa using h1
    have h3 := (bt.2 i hi).1 trivial
    rw [h2] at h3
    exact h3
  · intro h i hi
    have hi' := List.mem_range.mp hi
    have h3 := ((bt.2 i hi').1 trivial).unique (h i hi')
    simpa using h3
theorem Rest.turned {rs : List Rule} {ns ms : List Int} {S : Int → Prop} (hn : ns.length = rs.length) (h : Rest rs ns) (t : Turned rs ns S ms) : ms = ns := by
  refine t.unique (q := S) hn (fun _ _ => Iff.rfl) ⟨rfl, fun i hi => ⟨fun _ => h i hi, fun _ => rfl⟩⟩
theorem beatN_pos {rs : List Rule} {ns : List Int} (hh : Halls rs) (hn : ns.length = rs.length) (pos : ∀ n ∈ ns, 0 ≤ n) (k : Nat) : ∀ n ∈ beatN rs ns k, 0 ≤ n := fun n hm => by
  have f : Fair rs (beatN rs ns) (fun _ _ => True) := ⟨hh.2.2, beatN_len hn, beatN_step hn, nth_pos pos, fun k p _ => ⟨k, Nat.le_refl _, trivial⟩⟩
  obtain ⟨i, hi, e⟩ := List.mem_iff_getElem.mp hm
  have h1 := f.nn k i
  have h2 := nth_get (ns := beatN rs ns k) (p := (i : Int)) (by omega) (by omega)
  rw [Int.toNat_natCast, List.getElem?_map, List.getElem?_eq_getElem hi] at h2
  have h3 : (beatN rs ns k)[i] = nth (beatN rs ns k) i := V.int.inj (Option.some.inj h2)
  rw [← e, h3]
  exact h1
theorem Turned.pos {rs : List Rule} {ns ms : List Int} {S : Int → Prop} (hh : Halls rs) (hn : ns.length = rs.length) (pos : ∀ n ∈ ns, 0 ≤ n) (be : Turned rs ns S ms) : ∀ n ∈ ms, 0 ≤ n := fun n hm => by
  obtain ⟨i, hi, e⟩ := List.mem_iff_getElem.mp hm
  have hi' : i < rs.length := by rw [← hn, ← be.1]; exact hi
  have h2 := nth_get (ns := ms) (p := (i : Int)) (by omega) (by omega)
  rw [Int.toNat_natCast, List.getElem?_map, List.getElem?_eq_getElem hi] at h2
  have h3 : ms[i] = nth ms i := V.int.inj (Option.some.inj h2)
  rw [← e, h3]
  by_cases c : S i
  · have tl := (be.2 i hi').1 c
    rw [lotI_H] at tl
    exact (tell_bnd (nth_pos pos) (nth_pos pos _) (hh.2.2 _ (List.getElem_mem hi')) tl).1
  · rw [(be.2 i hi').2 c]
    exact nth_pos pos _
theorem bnd_small {m : Int} {r : Rule} (h : r.Wf m) (hl : r.persons.length ≤ 12) : bnd r ≤ 1000000 := by
  cases r with
  | held n =>
    have := h.2
    show n ≤ 1000000
    omega
  | sum own ties =>
    have h1 := h.1.2
    have h2 : ties.length ≤ 12 := by simpa [Rule.persons] using hl
    show own + 1000 * ties.length ≤ 1000000
    omega
  | cap own ties most =>
    have := h.2.2.2.2
    show most ≤ 1000000
    omega
  | kinds own seen =>
    have h1 := h.1.2
    have h2 : seen.length ≤ 12 := hl
    show own + seen.length ≤ 1000000
    omega
  | next seen => show (0 : Int) ≤ 1000000; decide
  | free seen =>
    have h2 : seen.length ≤ 12 := hl
    show (seen.length : Int) ≤ 1000000
    omega
theorem Turned.small {rs : List Rule} {ns ms : List Int} {S : Int → Prop} (hh : Halls rs) (hn : ns.length = rs.length) (sm : ∀ n ∈ ns, 0 ≤ n ∧ n ≤ 1000000) (be : Turned rs ns S ms) : ∀ n ∈ ms, 0 ≤ n ∧ n ≤ 1000000 := fun n hm => by
  have pos : ∀ n ∈ ns, 0 ≤ n := fun n h => (sm n h).1
  refine ⟨be.pos hh hn pos n hm, ?_⟩
  obtain ⟨i, hi, e⟩ := List.mem_iff_getElem.mp hm
  have hi' : i < rs.length := by rw [← hn, ← be.1]; exact hi
  have up : nth ns (i : Int) ≤ 1000000 := by
    unfold nth
    rw [Int.toNat_natCast, List.getD_eq_getElem?_getD, List.getElem?_eq_getElem (by omega)]
    exact (sm _ (List.getElem_mem _)).2
  have h2 := nth_get (ns := ms) (p := (i : Int)) (by omega) (by omega)
  rw [Int.toNat_natCast, List.getElem?_map, List.getElem?_eq_getElem hi] at h2
  have h3 : ms[i] = nth ms i := V.int.inj (Option.some.inj h2)
  rw [← e, h3]
  by_cases c : S i
  · have tl := (be.2 i hi').1 c
    rw [lotI_H] at tl
    rcases (tell_bnd (nth_pos pos) (nth_pos pos _) (hh.2.2 _ (List.getElem_mem hi')) tl).2 with z | z
    · exact Int.le_trans z (bnd_small (hh.2.2 _ (List.getElem_mem hi')) (hh.few hi'))
    · exact Int.le_trans z up
  · rw [(be.2 i hi').2 c]
    exact up
end Lh

namespace Lh
open PySem PySem.Spec PyProof.Rows L2
/-! ### comprehensions that leave all as it was -/
theorem lc_map {J : It} {n : Nat} {G : Hp → Prop} {Y : Nat → Hp → V → Hp → Prop} (wk : Walk J n G Y) {g : TG} {te : TE} {vs : List Nat} {σ : L2.St} {H1 : Hp} {D : Addr} {Qd : Hp → Prop} (f : Nat → V) (hD : H1 D = none) (hn : n ≤ 1000) (hG : ∀ H3, Same H1 H3 → G H3)
    (hs : ∀ i x H3 H4, i < n → Same H1 H3 → Y i H3 x H4 → ∀ (Q : VK) (Z : Hp → Prop), (∀ H5, Same H3 H5 → Q (f i) H5) → g x (wipe σ vs) H4 fun σ2 H2 => wipe σ2 vs = wipe σ vs ∧ tYes σ2 H2 fun b H3 => if b = true then te σ2 H3 Q else Z H3)
    (hq : ∀ H', Same H1 H' → H' D = some (.lst ((List.range n).map f)) → Qd H') :
    ∃ W : Nat → Nat → Hp → Prop, (∃ m, W 0 m (upd H1 D (.lst []))) ∧ ∀ i m H, W i m H →
      (J.stop i H ∧ Qd H) ∨ (J.go i H ∧ ∃ Nx : Hp → Prop, (∀ H', Nx H' → ∃ m', m' < m ∧ W (i + 1) m' H') ∧ ∀ x H', J.yld i H x H' → g x (wipe σ vs) H' fun σ2 H2 => wipe σ2 vs = wipe σ vs ∧ tYes σ2 H2 fun b H3 =>
        if b = true then te σ2 H3 fun y H4 => ∃ acc, H4 D = some (.lst acc) ∧ acc.length < sizeLine ∧ Nx (upd H4 D (.lst (acc ++ [y]))) else Nx H3) := by
  refine lc_it wk (fun i H3 => Same H1 H3 ∧ H3 D = some (.lst ((List.range i).map f))) ⟨same_upd hD, upd_same⟩ (fun i H3 _ h => hG H3 h.1) ?_ (fun H3 h => hq H3 h.1 h.2)
  rintro i x H3 H4 hi ⟨sm, h3⟩ hy
  refine hs i x H3 H4 hi sm hy _ _ (fun H5 s5 => ⟨_, s5 _ _ h3, ?_, same_mut (sm.trans s5) hD, ?_⟩)
  · rw [List.length_map, List.length_range]; exact small1000 (by omega)
  · rw [upd_same, List.range_succ, List.map_append]; rfl
theorem lc_filt {J : It} {n : Nat} {G : Hp → Prop} {Y : Nat → Hp → V → Hp → Prop} (wk : Walk J n G Y) {g : TG} {tt : TT} {te : TE} {vs : List Nat} {σ : L2.St} {H1 : Hp} {D : Addr} {Qd : Hp → Prop} (p : Nat → Bool) (f : Nat → V) (hD : H1 D = none) (hn : n ≤ 1000) (hG : ∀ H3, Same H1 H3 → G H3)
    (hs : ∀ i x H3 H4, i < n → Same H1 H3 → Y i H3 x H4 → ∀ (Q : VK) (Z : Hp → Prop), (p i = true → ∀ H5, Same H3 H5 → Q (f i) H5) → (p i = false → ∀ H5, Same H3 H5 → Z H5) → g x (wipe σ vs) H4 fun σ2 H2 => wipe σ2 vs = wipe σ vs ∧ tt σ2 H2 fun b H3 => if b = true then te σ2 H3 Q else Z H3)
    (hq : ∀ H', Same H1 H' → H' D = some (.lst (((List.range n).filter p).map f)) → Qd H') :
    ∃ W : Nat → Nat → Hp → Prop, (∃ m, W 0 m (upd H1 D (.lst []))) ∧ ∀ i m H, W i m H →
      (J.stop i H ∧ Qd H) ∨ (J.go i H ∧ ∃ Nx : Hp → Prop, (∀ H', Nx H' → ∃ m', m' < m ∧ W (i + 1) m' H') ∧ ∀ x H', J.yld i H x H' → g x (wipe σ vs) H' fun σ2 H2 => wipe σ2 vs = wipe σ vs ∧ tt σ2 H2 fun b H3 =>
        if b = true then te σ2 H3 fun y H4 => ∃ acc, H4 D = some (.lst acc) ∧ acc.length < sizeLine ∧ Nx (upd H4 D (.lst (acc ++ [y]))) else Nx H3) := by
  refine lc_it wk (fun i H3 => Same H1 H3 ∧ H3 D = some (.lst (((List.range i).filter p).map f))) ⟨same_upd hD, upd_same⟩ (fun i H3 _ h => hG H3 h.1) ?_ (fun H3 h => hq H3 h.1 h.2)
  rintro i x H3 H4 hi ⟨sm, h3⟩ hy
  refine hs i x H3 H4 hi sm hy _ _ (fun z H5 s5 => ⟨_, s5 _ _ h3, ?_, same_mut (sm.trans s5) hD, ?_⟩) (fun z H5 s5 => ⟨sm.trans s5, ?_⟩)
  · rw [List.length_map]; exact small1000 (Nat.le_trans (List.length_filter_le _ _) (by rw [List.length_range]; omega))
  · rw [upd_same, List.range_succ, List.filter_append, List.map_append, List.filter_cons, if_pos z]; rfl
  · rw [s5 _ _ h3, List.range_succ, List.filter_append, List.filter_cons, if_neg (by rw [z]; exact Bool.false_ne_true), List.filter_nil, List.append_nil]
/-! ### lines -/
noncomputable def tellF (r : Rule) (lot : List (Int × Int)) : Int := Classical.choose (Tell.ex r lot)
theorem tellF_ok (r : Rule) (lot : List (Int × Int)) : Tell r lot (tellF r lot) := Classical.choose_spec (Tell.ex r lot)
theorem Tell.eqF {r : Rule} {lot : List (Int × Int)} {y : Int} (h : Tell r lot y) : y = tellF r lot := h.unique (tellF_ok r lot)
/-- what p is told of those below h -/
noncomputable def toldH (rs : List Rule) (ns : List Int) (p : Nat) (h : Int) : Int := tellF (rs.getD p (.held 0)) (lotH (rs.getD p (.held 0)) ns h)
theorem getD_at {rs : List Rule} {p : Nat} (hp : p < rs.length) : rs.getD p (.held 0) = rs[p] := by
  rw [List.getD_eq_getElem?_getD, List.getElem?_eq_getElem hp]; rfl
theorem toldH_of {rs : List Rule} {ns : List Int} {p : Nat} {h y : Int} (hp : p < rs.length) (t : Tell rs[p] (lotH rs[p] ns h) y) : y = toldH rs ns p h := by
  unfold toldH
  rw [getD_at hp]
  exact t.eqF
theorem toldH_ok {rs : List Rule} {ns : List Int} {p : Nat} {h : Int} (hp : p < rs.length) : Tell rs[p] (lotH rs[p] ns h) (toldH rs ns p h) := by
  unfold toldH
  rw [getD_at hp]
  exact tellF_ok _ _
theorem toldH_at {rs : List Rule} {ns : List Int} {p : Nat} {y : Int} (hp : p < rs.length) (t : Tell rs[p] (lotI rs[p] ns p) y) : y = toldH rs ns p (nth ns p) := toldH_of hp t
noncomputable def keepB (rs : List Rule) (ns : List Int) (h : Int) (p : Nat) : Bool := if nth ns p < h then decide (toldH rs ns p (nth ns p) = nth ns p) else decide (h ≤ toldH rs ns p h)
noncomputable def lineB (rs : List Rule) (ns : List Int) (h : Int) : Bool := (List.range rs.length).all fun p => keepB rs ns h p
def IsMin (l : List Int) (m : Int) : Prop := m ∈ l ∧ ∀ y ∈ l, m ≤ y
theorem IsMin.unique {l : List Int} {a b : Int} (x : IsMin l a) (y : IsMin l b) : a = b := Int.le_antisymm (x.2 _ y.1) (y.2 _ x.1)
noncomputable def minOf (l : List Int) : Int := open Classical in if h : ∃ m, IsMin l m then Classical.choose h else 0
theorem IsMin.eq {l : List Int} {a : Int} (x : IsMin l a) : a = minOf l := by
  unfold minOf
  rw [dif_pos ⟨a, x⟩]
  exact x.unique (Classical.choose_spec (⟨a, x⟩ : ∃ m, IsMin l m))
theorem min_ex : ∀ xs : List Int, xs ≠ [] → ∃ x, IsMin xs x
  | [], h => absurd rfl h
  | [x], _ => ⟨x, List.mem_cons_self, fun y hy => by rw [List.mem_singleton.mp hy]; exact Int.le_refl _⟩
  | x :: z :: t, _ => by
    obtain ⟨m, h1, h2⟩ := min_ex (z :: t) (by simp)
    rcases Int.le_total m x with c | c
    · refine ⟨m, List.mem_cons_of_mem _ h1, fun y hy => ?_⟩
      rcases List.mem_cons.mp hy with rfl | hy
      · exact c
      · exact h2 y hy
    · refine ⟨x, List.mem_cons_self, fun y hy => ?_⟩
      rcases List.mem_cons.mp hy with rfl | hy
      · exact Int.le_refl _
      · exact Int.le_trans c (h2 y hy)
theorem minOf_ok {xs : List Int} (h : xs ≠ []) : IsMin xs (minOf xs) := by
  obtain ⟨m, hm⟩ := min_ex xs h
  rw [← hm.eq]; exact hm
/-- those who show top or more, and what they are told of the others -/
noncomputable def topL (rs : List Rule) (ns : List Int) (top : Int) : List Int := top :: ((List.range rs.length).filter fun p : Nat => decide (top ≤ nth ns p)).map fun p => toldH rs ns p top
noncomputable def topM (rs : List Rule) (ns : List Int) (top : Int) : Int := minOf (topL rs ns top)
theorem topM_ok (rs : List Rule) (ns : List Int) (top : Int) : IsMin (topL rs ns top) (topM rs ns top) := minOf_ok (by unfold topL; simp)
theorem toldH_nn {rs : List Rule} {ns : List Int} {p : Nat} {h : Int} (hh : Halls rs) (hp : p < rs.length) (nn : ∀ n ∈ ns, 0 ≤ n) (h0 : 0 ≤ h) : 0 ≤ toldH rs ns p h := (tell_bnd (nth_pos nn) h0 (hh.2.2 _ (List.getElem_mem hp)) (toldH_ok hp)).1
theorem topM_nn {rs : List Rule} {ns : List Int} {top : Int} (hh : Halls rs) (nn : ∀ n ∈ ns, 0 ≤ n) (h0 : 0 ≤ top) : 0 ≤ topM rs ns top := by
  have h1 := (topM_ok rs ns top).1
  unfold topL at h1
  rcases List.mem_cons.mp h1 with e | e
  · omega
  · obtain ⟨p, hp, e⟩ := List.mem_map.mp e
    have h2 := List.mem_range.mp (List.mem_filter.mp hp).1
    rw [← e]
    exact toldH_nn hh h2 nn h0
theorem nth_mem {ns : List Int} {p : Nat} (h : p < ns.length) : nth ns p ∈ ns := by
  unfold nth
  rw [Int.toNat_natCast, List.getD_eq_getElem?_getD, List.getElem?_eq_getElem h]
  exact List.getElem_mem h
/-- of the least number shown it's a line -/
theorem line_least {rs : List Rule} {ns : List Int} (hh : Halls rs) (hn : ns.length = rs.length) : ∃ top ∈ ns, lineB rs ns (topM rs ns top) = true := by
  have h0 := hh.1
  obtain ⟨top, h1, h2⟩ := min_ex ns (by intro z; rw [z] at hn; rw [← hn] at h0; exact absurd h0 (by decide))
  refine ⟨top, h1, ?_⟩
  unfold lineB
  rw [List.all_eq_true]
  intro p hp
  have hp' := List.mem_range.mp hp
  have tp := h2 _ (nth_mem (ns := ns) (p := p) (by omega))
  have mk := topM_ok rs ns top
  have le : topM rs ns top ≤ top := mk.2 _ List.mem_cons_self
  unfold keepB
  rw [if_neg (by omega)]
  refine decide_eq_true ?_
  have e : toldH rs ns p (topM rs ns top) = toldH rs ns p top := by
    have none : ∀ h : Int, h ≤ top → lotH rs[p] ns h = [] := fun h hl => by
      unfold lotH
      rw [List.filter_eq_nil_iff.mpr, List.map_nil]
      intro o ho
      have io := per_in hh hp' o ho
      have h3 := h2 _ (nth_mem (ns := ns) (p := o.toNat) (by omega))
      have h4 : nth ns o = nth ns (o.toNat : Nat) := nth_nat o
      simp
      omega
    unfold toldH
    rw [getD_at hp', none _ le, none _ (Int.le_refl _)]
  rw [e]
  exact mk.2 _ (List.mem_cons_of_mem _ (List.mem_map_of_mem (List.mem_filter.mpr ⟨hp, decide_eq_true tp⟩)))
/-- the greatest of these lines -/
def WlIs (rs : List Rule) (ns : List Int) (m : Int) : Prop := (∃ top ∈ ns, m = topM rs ns top ∧ lineB rs ns m = true) ∧ ∀ top ∈ ns, lineB rs ns (topM rs ns top) = true → topM rs ns top ≤ m
theorem WlIs.unique {rs : List Rule} {ns : List Int} {a b : Int} (x : WlIs rs ns a) (y : WlIs rs ns b) : a = b := by
  obtain ⟨⟨t1, m1, e1, l1⟩, g1⟩ := x
  obtain ⟨⟨t2, m2, e2, l2⟩, g2⟩ := y
  have h1 := g1 t2 m2 (by rw [← e2]; exact l2)
  have h2 := g2 t1 m1 (by rw [← e1]; exact l1)
  omega
def Wl (rs : List Rule) (ns : List Int) : Option Int → Prop
  | none => Rest rs ns
  | some m => ¬ Rest rs ns ∧ WlIs rs ns m
theorem Wl.unique {rs : List Rule} {ns : List Int} : ∀ {a b : Option Int}, Wl rs ns a → Wl rs ns b → a = b
  | none, none, _, _ => rfl
  | none, some _, x, y => absurd x y.1
  | some _, none, x, y => absurd y x.1
  | some _, some _, x, y => by rw [x.2.unique y.2]
def vO : Option Int → V
  | none => .non
  | some m => .int m
def dO : Option Int → PyData
  | none => .none
  | some m => .int m
theorem rp_vO {bx : Addr} {H : Hp} : ∀ o : Option Int, Rp bx H (vO o) (dO o)
  | none => .non
  | some m => .int m
theorem okD_vO {n : Nat} : ∀ o : Option Int, okD n (dO o)
  | none => by cases n <;> trivial
  | some m => by cases n <;> trivial
noncomputable def firmB (rs : List Rule) (ns : List Int) (h : Int) (p : Nat) : Bool := if nth ns p = h then decide (toldH rs ns p (nth ns p) = h) else decide (nth ns p < h)
noncomputable def firmL (rs : List Rule) (ns : List Int) : Option Int → List Int
  | none => (List.range rs.length).map fun k : Nat => (k : Int)
  | some h => ((List.range rs.length).filter fun p => firmB rs ns h p).map fun k : Nat => (k : Int)
theorem firmL_len (rs : List Rule) (ns : List Int) : ∀ o : Option Int, (firmL rs ns o).length ≤ rs.length
  | none => by unfold firmL; rw [List.length_map, List.length_range]; exact Nat.le_refl _
  | some h => by
    unfold firmL
    rw [List.length_map]
    exact Nat.le_trans (List.length_filter_le _ _) (by rw [List.length_range]; exact Nat.le_refl _)
end Lh

namespace Lh
open PySem PySem.Spec PyProof.Rows L2
/-! ### lot by lot -/
noncomputable def turnL (rs : List Rule) (ns qs : List Int) : List Int := (List.range rs.length).map fun i : Nat => if (i : Int) ∈ qs then nth (beatF rs ns) i else nth ns i
theorem turnL_len (rs : List Rule) (ns qs : List Int) : (turnL rs ns qs).length = rs.length := by unfold turnL; rw [List.length_map, List.length_range]
theorem turnL_nth {rs : List Rule} {ns qs : List Int} {i : Nat} (hi : i < rs.length) : nth (turnL rs ns qs) i = if (i : Int) ∈ qs then nth (beatF rs ns) i else nth ns i := by
  unfold turnL
  rw [show nth ((List.range rs.length).map fun i : Nat => if (i : Int) ∈ qs then nth (beatF rs ns) i else nth ns i) (i : Int) = _ from rfl]
  unfold nth
  rw [Int.toNat_natCast, List.getD_eq_getElem?_getD, List.getElem?_map, List.getElem?_range hi]
  rfl
theorem turnL_ok {rs : List Rule} {ns qs : List Int} (hn : ns.length = rs.length) : Turned rs ns (fun i => i ∈ qs) (turnL rs ns qs) := by
  refine ⟨by rw [turnL_len, hn], fun i hi => ?_⟩
  rw [turnL_nth hi]
  refine ⟨fun z => ?_, fun z => by rw [if_neg z]⟩
  rw [if_pos z]
  exact ((beatF_ok hn).2 i hi).1 trivial
noncomputable def seqL (rs : List Rule) (ns : List Int) (lots : List (List Int)) : Nat → List Int
  | 0 => ns
  | k + 1 => turnL rs (seqL rs ns lots k) (lots.getD (k % lots.length) [])
theorem seqL_len {rs : List Rule} {ns : List Int} (hn : ns.length = rs.length) (lots : List (List Int)) : ∀ k, (seqL rs ns lots k).length = rs.length
  | 0 => hn
  | k + 1 => turnL_len _ _ _
theorem seqL_step {rs : List Rule} {ns : List Int} (hn : ns.length = rs.length) (lots : List (List Int)) (k : Nat) : Turned rs (seqL rs ns lots k) (fun i => i ∈ lots.getD (k % lots.length) []) (seqL rs ns lots (k + 1)) := turnL_ok (seqL_len hn lots k)
def Covers (n : Nat) (lots : List (List Int)) : Prop := ∀ p : Nat, p < n → ∃ j : Nat, j < lots.length ∧ (p : Int) ∈ lots.getD j []
theorem seqL_rest {rs : List Rule} {ns : List Int} (hh : Halls rs) (hn : ns.length = rs.length) (pos : ∀ n ∈ ns, 0 ≤ n) {lots : List (List Int)} (cv : Covers rs.length lots) : ∃ T, (∀ k, T ≤ k → seqL rs ns lots k = seqL rs ns lots T) ∧ Rest rs (seqL rs ns lots T) := by
  refine Fair.rest (S := fun k i => i ∈ lots.getD (k % lots.length) []) ⟨hh.2.2, seqL_len hn lots, seqL_step hn lots, nth_pos pos, fun k p hp => ?_⟩
  obtain ⟨j, hj, hm⟩ := cv p hp
  refine ⟨k * lots.length + j, ?_, ?_⟩
  · have : k ≤ k * lots.length := Nat.le_mul_of_pos_right k (by omega)
    omega
  · rw [Nat.mul_comm, Nat.mul_add_mod, Nat.mod_eq_of_lt hj]
    exact hm
noncomputable def lastc (rs : List Rule) (ns : List Int) (lots : List (List Int)) : Nat → Nat
  | 0 => 0
  | k + 1 => open Classical in if seqL rs ns lots (k + 1) = seqL rs ns lots k then lastc rs ns lots k else k + 1
theorem lastc_same {rs : List Rule} {ns : List Int} {lots : List (List Int)} {k : Nat} (h : seqL rs ns lots (k + 1) = seqL rs ns lots k) : lastc rs ns lots (k + 1) = lastc rs ns lots k := by
  rw [lastc]; exact if_pos h
theorem lastc_move {rs : List Rule} {ns : List Int} {lots : List (List Int)} {k : Nat} (h : ¬ seqL rs ns lots (k + 1) = seqL rs ns lots k) : lastc rs ns lots (k + 1) = k + 1 := by
  rw [lastc]; exact if_neg h
/-- where lots lead, and behind how many -/
def ByLots (rs : List Rule) (ns : List Int) (lots : List (List Int)) (m : List Int) (c : Nat) : Prop := ∃ r : Nat, m = seqL rs ns lots (r * lots.length) ∧ c = lastc rs ns lots (r * lots.length) ∧ Rest rs m ∧ ∀ r' : Nat, r' < r → ¬ Rest rs (seqL rs ns lots (r' * lots.length))
theorem ByLots.unique {rs : List Rule} {ns m m' : List Int} {lots : List (List Int)} {c c' : Nat} (a : ByLots rs ns lots m c) (b : ByLots rs ns lots m' c') : m = m' ∧ c = c' := by
  obtain ⟨r, a1, a2, a3, a4⟩ := a
  obtain ⟨r', b1, b2, b3, b4⟩ := b
  have e : r = r' := by
    rcases Nat.lt_trichotomy r r' with z | z | z
    · exact absurd (by rw [← a1]; exact a3) (b4 r z)
    · exact z
    · exact absurd (by rw [← b1]; exact b3) (a4 r' z)
  subst e
  exact ⟨a1.trans b1.symm, a2.trans b2.symm⟩
theorem ByLots.rest {rs : List Rule} {ns : List Int} {lots : List (List Int)} (h : Rest rs ns) : ByLots rs ns lots ns 0 := ⟨0, by rw [Nat.zero_mul]; rfl, by rw [Nat.zero_mul]; rfl, h, fun r hr => absurd hr (by omega)⟩
/-- one lot of all: beats -/
theorem seqL_all {rs : List Rule} {ns : List Int} (hn : ns.length = rs.length) {qs : List Int} (al : ∀ p : Nat, p < rs.length → (p : Int) ∈ qs) : ∀ k, seqL rs ns [qs] k = beatN rs ns k
  | 0 => rfl
  | k + 1 => by
    have st := seqL_step hn [qs] k
    rw [seqL_all hn al k] at st
    have e : ([qs] : List (List Int)).getD (k % [qs].length) [] = qs := by
      rw [show [qs].length = 1 from rfl, Nat.mod_one]; rfl
    rw [e] at st
    exact st.unique (beatN_len hn k) (fun i hi => ⟨fun _ => trivial, fun _ => al i hi⟩) (beatN_step hn k)
theorem ByLots.come {rs : List Rule} {ns m : List Int} {c : Nat} (hn : ns.length = rs.length) {qs : List Int} (al : ∀ p : Nat, p < rs.length → (p : Int) ∈ qs) (b : ByLots rs ns [qs] m c) : Come rs ns m c := by
  obtain ⟨r, b1, b2, b3, b4⟩ := b
  rw [show [qs].length = 1 from rfl, Nat.mul_one] at b1 b2
  have nr : ∀ i, i < r → ¬ Rest rs (beatN rs ns i) := fun i hi => by
    have := b4 i hi
    rw [show [qs].length = 1 from rfl, Nat.mul_one, seqL_all hn al] at this
    exact this
  have mv : ∀ i, i < r → beatN rs ns i ≠ beatN rs ns (i + 1) := fun i hi z => nr i hi fun k hk => by
    have t := (beatN_step hn i).2 k hk
    have t1 := t.1 trivial
    rw [← z] at t1
    exact t1
  have lc : ∀ k, k ≤ r → lastc rs ns [qs] k = k := fun k hk => by
    cases k with
    | zero => rfl
    | succ k =>
      unfold lastc
      rw [if_neg]
      rw [seqL_all hn al, seqL_all hn al]
      exact fun z => mv k (by omega) z.symm
  rw [lc r (Nat.le_refl _)] at b2
  subst b2
  rw [seqL_all hn al] at b1
  exact ⟨b1, b3.beat, mv⟩
/-! ### a while by its turns -/
theorem while_idx {c : TT} {tb : TS} {D : Ends} {σ : L2.St} {H : Hp} (T : Nat) (Pv : Nat → L2.St → Hp → Prop) (h0 : Pv 0 σ H)
    (hs : ∀ r σ H, Pv r σ H → c σ H fun b H1 => if b = true then (r < T ∧ tb { D with nx := Pv (r + 1), ct := Pv (r + 1), bk := D.nx } σ H1) else D.nx σ H1)
    (mono : ∀ σ H Q Q', (∀ b H1, Q b H1 → Q' b H1) → c σ H Q → c σ H Q') : tWhile c tb D σ H := by
  refine ⟨fun m σ H => ∃ r, m = T - r ∧ Pv r σ H, ⟨_, 0, rfl, h0⟩, ?_⟩
  rintro m σ H ⟨r, rfl, p⟩
  refine mono σ H _ _ (fun b H1 q => ?_) (hs r σ H p)
  cases b with
  | true =>
    rw [if_pos rfl] at q ⊢
    obtain ⟨lt, t⟩ := q
    exact ⟨Pv (r + 1), fun σ' H' p' => ⟨T - (r + 1), by omega, r + 1, rfl, p'⟩, t⟩
  | false =>
    rw [if_neg Bool.false_ne_true] at q ⊢
    exact q
/-- lots at a place -/
def LotAtL (H : Hp) (v : V) (qs : List Int) : Prop := ∃ a, v = .ref a ∧ H a = some (.lst (qs.map V.int))
def LotsAt (H : Hp) : List V → List (List Int) → Prop := Paired (LotAtL H)
theorem LotsAt.same {H H' : Hp} (s : Same H H') : ∀ {vs : List V} {lots : List (List Int)}, LotsAt H vs lots → LotsAt H' vs lots
  | _, _, .nil => .nil
  | _, _, .cons ⟨a, e, h⟩ r => .cons ⟨a, e, s _ _ h⟩ (LotsAt.same s r)
theorem LotsAt.get {H : Hp} : ∀ {vs : List V} {lots : List (List Int)}, LotsAt H vs lots → ∀ (i : Nat) (h : i < lots.length), ∃ a, vs[i]? = some (.ref a) ∧ H a = some (.lst (lots[i].map V.int))
  | _, _, .nil, i, h => absurd h (by simp)
  | _, _, .cons ⟨a, e, h⟩ r, 0, _ => ⟨a, by rw [e]; rfl, h⟩
  | _, _, .cons _ r, i + 1, h => by
    obtain ⟨a, h1, h2⟩ := LotsAt.get r i (by simpa using h)
    exact ⟨a, by simpa using h1, by simpa using h2⟩
theorem lots_in {n : Nat} {lots : List (List Int)} (hq : ∀ qs ∈ lots, ∀ q ∈ qs, 0 ≤ q ∧ q < (n : Int)) {i : Nat} (hi : i < lots.length) : ∀ q ∈ lots[i], 0 ≤ q ∧ q < (n : Int) := hq _ (List.getElem_mem hi)
theorem idx_mod {r n j : Nat} (hj : j < n) : (r * n + j) % n = j := by rw [Nat.mul_comm, Nat.mul_add_mod, Nat.mod_eq_of_lt hj]
theorem eqv_nil2 (xs : List Int) : PyData.eqv (.list (xs.map PyData.int)) (.list []) = xs.isEmpty := by
  rw [PyData.eqv, show ([] : List PyData) = ([] : List Int).map PyData.int from rfl, eqvAll_ints]
  cases xs with
  | nil => rfl
  | cons x t => exact decide_eq_false (by simp)
end Lh

namespace Lh
open PySem PySem.Spec PyProof.Rows L2
section
variable {P : Program} {w : World} {K : PySem.W.Frag} {mg : Str → Option Value} {base : Heap}
def spWays : Sp := fun vs H Q _ => ∃ n : Nat, vs = [.int ((n : Int) - 2)] ∧ n ≤ 1000 ∧ Q (.int (fb n : Nat)) H
theorem ok_ways_of (T : Txt K mg w) : FnOk P w K mg base CX0 1 T.f_ways_of T.fd_ways_of p_ways_of spWays := by
  refine T.F_ways_of.ok sc_ways_of (fun vs H Q E h => ?_) (fun cdv A outer s H vs Q E hr h => ?_)
  · obtain ⟨n, rfl, _⟩ := h
    rfl
  · obtain ⟨n, rfl, n1, q⟩ := h
    refine ⟨_, (pss_cons (ps_set (i := 1) sc_ways_of.nd rfl (.inl rfl) pe_int)
      (pss_cons (ps_set (i := 2) sc_ways_of.nd rfl (.inl rfl) pe_int)
      (pss_cons (ps_for PassesOwn.never rfl (pi_range1 (by rfl) T.m_range (pa_cons (pe_op op_add (pv 0) pe_int) pa_nil)) (pg_name (i := 3) sc_ways_of.nd rfl (.inl rfl))
        (pss_one (ps_par (i := 1) (j := 2) (by rfl) sc_ways_of.nd rfl rfl (by decide) rfl rfl (pa_cons (pv 2) (pa_cons (pe_op op_add (pv 1) (pv 2)) pa_nil)) (by rfl))))
      (pss_one (ps_ret (pv 2)))))), ?_⟩
    refine ⟨.int ((n : Int) - 2), rfl, _, _, rfl, rfl, _, rfl, by omega, by omega, ?_⟩
    refine for_it walk_range (fun i σ H3 => ∃ (lo : Int) (y3 : Option V), σ = [some (.int ((n : Int) - 2)), some (.int lo), some (.int (fb i : Nat)), y3] ∧ lo + fb i = fb (i + 1) ∧ H3 = H) ⟨1, none, rfl, rfl, rfl⟩ (fun _ _ _ _ _ => trivial) ?_ ?_
    · rintro i x σ H3 H4 hi ⟨lo, y3, rfl, e1, rfl⟩ ⟨rfl, rfl⟩
      refine ⟨.int (fb i : Nat), rfl, .int lo, rfl, .int (fb i : Nat), rfl, _, _, rfl, rfl, _, _, rfl, fb i, some (.int (0 + i)), ?_, ?_, rfl⟩
      · show [some (V.int ((n : Int) - 2)), some (V.int (fb i : Nat)), some (V.int (lo + (fb i : Nat))), some (V.int (0 + (i : Int)))] = _
        rw [e1]
      · rw [show fb (i + 1 + 1) = fb i + fb (i + 1) from fb_two i]; omega
    · rintro σ H3 ⟨lo, y3, rfl, e1, rfl⟩
      refine ⟨_, rfl, ?_⟩
      rw [show ((n : Int) - 2 + 2).toNat = n by omega]
      exact q
def spCounts : Sp := fun vs H Q _ => ∃ (n : Nat) (ring : Bool), vs = [.int n, .bl ring] ∧ 2 ≤ n ∧ n ≤ 100 ∧ Q (.int (cntK ring n : Nat)) H
theorem ok_line_counts (T : Txt K mg w) : FnOk P w K mg base CX0 2 T.f_line_counts T.fd_line_counts p_line_counts spCounts := by
  have G_ways_of := ok_ways_of (P := P) (w := w) (base := base) T
  refine T.F_line_counts.ok sc_line_counts (fun vs H Q E h => ?_) (fun cdv A outer s H vs Q E hr h => ?_)
  · obtain ⟨n, ring, rfl, _⟩ := h
    rfl
  · obtain ⟨n, ring, rfl, n0, n1, q⟩ := h
    refine ⟨_, PSs.nox (pss_cons (ps_if (pt_val (pv 1))
        (pss_one (ps_ret (pe_op op_add (pe_call G_ways_of (hr.mono (by decide)) (by rfl) T.g_ways_of T.F_ways_of.kp T.b_ways_of .nil pass0 (pa_cons (pe_op op_sub (pv 0) pe_int) pa_nil)) (pe_call G_ways_of (hr.mono (by decide)) (by rfl) T.g_ways_of T.F_ways_of.kp T.b_ways_of .nil pass0 (pa_cons (pe_op op_sub (pv 0) pe_int) pa_nil)))))
        pss_nil)
      (pss_one (ps_ret (pe_call G_ways_of (hr.mono (by decide)) (by rfl) T.g_ways_of T.F_ways_of.kp T.b_ways_of .nil pass0 (pa_cons (pe_op op_sub (pv 0) pe_int) pa_nil))))), ?_⟩
    refine ⟨.bl ring, rfl, ring, rfl, ite2 (fun z => ?_) (fun z => ?_)⟩
    · subst z
      refine ⟨.int n, rfl, _, _, rfl, rfl, n + 1, by show [V.int ((n : Int) - 1)] = [V.int (((n + 1 : Nat) : Int) - 2)]; rw [show ((n + 1 : Nat) : Int) - 2 = (n : Int) - 1 by omega], by omega, ?_⟩
      refine ⟨.int n, rfl, _, _, rfl, rfl, n - 1, by show [V.int ((n : Int) - 3)] = [V.int (((n - 1 : Nat) : Int) - 2)]; rw [show ((n - 1 : Nat) : Int) - 2 = (n : Int) - 3 by omega], by omega, ?_⟩
      exact ⟨_, _, rfl, rfl, q⟩
    · have z : ring = false := by simpa using z
      subst z
      exact ⟨.int n, rfl, _, _, rfl, rfl, n + 1, by show [V.int ((n : Int) - 1)] = [V.int (((n + 1 : Nat) : Int) - 2)]; rw [show ((n + 1 : Nat) : Int) - 2 = (n : Int) - 1 by omega], by omega, q⟩
theorem decP_succ (ring : Bool) (m : Nat) (pre : List Int) (a : Nat) : decP ring (m + 1) pre a = if a < fb (m + 1 + exE ring pre) then decP ring m (pre ++ [0]) a else decP ring m (pre ++ [1]) (a - fb (m + 1 + exE ring pre)) := rfl
theorem numP_cons (ring : Bool) (pre : List Int) (x : Int) (xs : List Int) : numP ring pre (x :: xs) = (if x = 1 then fb (xs.length + 1 + exE ring pre) else 0) + numP ring (pre ++ [x]) xs := rfl
theorem cutI_map (ns : List Int) (lo hi : Option Int) : cutI (ns.map V.int) lo hi = (cutI ns lo hi).map V.int := by
  rw [← cutV_id]; exact cut_map V.int ns lo hi
theorem cut_1 (xs : List Int) : cutI xs none (some 1) = xs.take 1 := by
  cases xs with
  | nil => unfold cutI; rw [List.drop_nil, List.take_nil, List.take_nil]
  | cons x t => exact cut_to (x :: t) 1 (by rw [List.length_cons]; omega)
def spBehindL : Sp := fun vs H Q _ => ∃ (m : Nat) (l : Addr) (ring : Bool) (pre : List Int), vs = [.int ((m : Int) - 1), .ref l, .bl ring] ∧ m ≤ 900 ∧ H l = some (.lst (pre.map V.int)) ∧ ∀ H', Same H H' → Q (.int (fb (m + exE ring pre) : Nat)) H'
def spBehindT : Sp := fun vs H Q _ => ∃ (m : Nat) (l : Addr) (ring : Bool) (pre : List Int), vs = [.int ((m : Int) - 1), .ref l, .bl ring] ∧ m ≤ 900 ∧ TupAt H l (pre.map V.int) ∧ ∀ H', Same H H' → Q (.int (fb (m + exE ring pre) : Nat)) H'
theorem ok_ways_behindL (T : Txt K mg w) : FnOk P w K mg base CX0 2 T.f_ways_behind T.fd_ways_behind p_ways_behind spBehindL := by
  have G_ways_of := ok_ways_of (P := P) (w := w) (base := base) T
  refine T.F_ways_behind.ok sc_ways_behind (fun vs H Q E h => ?_) (fun cdv A outer s H vs Q E hr h => ?_)
  · obtain ⟨m, l, ring, pre, rfl, _⟩ := h
    rfl
  · obtain ⟨m, l, ring, pre, rfl, m1, hl, q⟩ := h
    refine ⟨_, (pss_cons (ps_if (PW.pt (pw_and (pt_val (pv 2)) (pw_and1 (pt_cmpR op_notIn_seq pe_int (pe_slice sl_list (pv 1) po_none (po_some pe_int)) (by rfl)))))
        (pss_one (ps_ret (pe_call G_ways_of (hr.mono (by decide)) (by rfl) T.g_ways_of T.F_ways_of.kp T.b_ways_of .nil pass0 (pa_cons (pv 0) pa_nil))))
        pss_nil)
      (pss_one (ps_ret (pe_call G_ways_of (hr.mono (by decide)) (by rfl) T.g_ways_of T.F_ways_of.kp T.b_ways_of .nil pass0 (pa_cons (pe_op op_sub (pv 0) pe_int) pa_nil))))), ?_⟩
    have fin : ∀ H', Same H H' → exE ring pre = 0 → spWays [.int ((m : Int) - 1 - 1)] H' Q E := fun H' s' e => by
      refine ⟨m, by rw [show (m : Int) - 1 - 1 = (m : Int) - 2 by omega], by omega, ?_⟩
      have := q H' s'
      rw [e] at this
      exact this
    refine ⟨.bl ring, rfl, ring, rfl, ite2 (fun z => ?_) (fun z => ?_)⟩
    · subst z
      refine ⟨.ref l, rfl, 1, rfl, ?_⟩
      dsimp only [tNoPart]
      refine ⟨l, _, rfl, .inl (.inl hl), fun c nc => ?_⟩
      rw [cut_map V.int, cut_1]
      have sc := same_upd (o := .lst ((pre.take 1).map V.int)) nc
      refine ⟨c, _, rfl, .inl (.inl (.inl upd_same)), rfl, flat_ints _, _, rfl, ?_⟩
      rw [in_ints]
      by_cases c : (1 : Int) ∈ pre.take 1
      · refine iteN (by rw [decide_eq_true c]; rfl) ?_
        exact ⟨_, rfl, _, _, rfl, rfl, fin _ sc (if_neg fun z => z.2 c)⟩
      · refine iteP (by rw [decide_eq_false c]; rfl) ?_
        refine ⟨_, rfl, m + 1, by show [V.int ((m : Int) - 1)] = [V.int (((m + 1 : Nat) : Int) - 2)]; rw [show ((m + 1 : Nat) : Int) - 2 = (m : Int) - 1 by omega], by omega, ?_⟩
        have := q _ sc
        rw [show exE true pre = 1 from if_pos ⟨rfl, c⟩] at this
        exact this
    · refine iteN rfl ?_
      have z : ring = false := by simpa using z
      exact ⟨_, rfl, _, _, rfl, rfl, fin H (Same.refl _) (by rw [z]; exact exE_line _)⟩
theorem ok_ways_behindT (T : Txt K mg w) : FnOk P w K mg base CX0 2 T.f_ways_behind T.fd_ways_behind p_ways_behind spBehindT := by
  have G_ways_of := ok_ways_of (P := P) (w := w) (base := base) T
  refine T.F_ways_behind.ok sc_ways_behind (fun vs H Q E h => ?_) (fun cdv A outer s H vs Q E hr h => ?_)
  · obtain ⟨m, l, ring, pre, rfl, _⟩ := h
    rfl
  · obtain ⟨m, l, ring, pre, rfl, m1, hl, q⟩ := h
    refine ⟨_, (pss_cons (ps_if (PW.pt (pw_and (pt_val (pv 2)) (pw_and1 (pt_cmpR op_notIn_seq pe_int (pe_slice sl_tupA (pv 1) po_none (po_some pe_int)) (by rfl)))))
        (pss_one (ps_ret (pe_call G_ways_of (hr.mono (by decide)) (by rfl) T.g_ways_of T.F_ways_of.kp T.b_ways_of .nil pass0 (pa_cons (pv 0) pa_nil))))
        pss_nil)
      (pss_one (ps_ret (pe_call G_ways_of (hr.mono (by decide)) (by rfl) T.g_ways_of T.F_ways_of.kp T.b_ways_of .nil pass0 (pa_cons (pe_op op_sub (pv 0) pe_int) pa_nil))))), ?_⟩
    have fin : ∀ H', Same H H' → exE ring pre = 0 → spWays [.int ((m : Int) - 1 - 1)] H' Q E := fun H' s' e => by
      refine ⟨m, by rw [show (m : Int) - 1 - 1 = (m : Int) - 2 by omega], by omega, ?_⟩
      have := q H' s'
      rw [e] at this
      exact this
    refine ⟨.bl ring, rfl, ring, rfl, ite2 (fun z => ?_) (fun z => ?_)⟩
    · subst z
      refine ⟨.ref l, rfl, 1, rfl, ?_⟩
      dsimp only [tNoPart]
      refine sl_tup_use hl fun c Hc sc hc => ?_
      rw [cutI_map, cut_1] at hc
      refine ⟨c, _, rfl, .inr hc.sq, rfl, flat_ints _, _, rfl, ?_⟩
      rw [in_ints]
      by_cases c : (1 : Int) ∈ pre.take 1
      · refine iteN (by rw [decide_eq_true c]; rfl) ?_
        exact ⟨_, rfl, _, _, rfl, rfl, fin _ sc (if_neg fun z => z.2 c)⟩
      · refine iteP (by rw [decide_eq_false c]; rfl) ?_
        refine ⟨_, rfl, m + 1, by show [V.int ((m : Int) - 1)] = [V.int (((m + 1 : Nat) : Int) - 2)]; rw [show ((m + 1 : Nat) : Int) - 2 = (m : Int) - 1 by omega], by omega, ?_⟩
        have := q _ sc
        rw [show exE true pre = 1 from if_pos ⟨rfl, c⟩] at this
        exact this
    · refine iteN rfl ?_
      have z : ring = false := by simpa using z
      exact ⟨_, rfl, _, _, rfl, rfl, fin H (Same.refl _) (by rw [z]; exact exE_line _)⟩
def spLineRest : Sp := fun vs H Q _ => ∃ (n k : Nat) (ring : Bool), vs = [.int n, .int k, .bl ring] ∧ 2 ≤ n ∧ n ≤ 100 ∧ k < cntK ring n ∧ ∀ (t : Addr) (H' : Hp), Same H H' → TupAt H' t ((rowK ring n k).map V.int) → Q (.ref t) H'
set_option maxHeartbeats 2000000 in
theorem ok_line_rest (T : Txt K mg w) : FnOk P w K mg base CX0 3 T.f_line_rest T.fd_line_rest p_line_rest spLineRest := by
  have G_line_counts := ok_line_counts (P := P) (w := w) (base := base) T
  have G_ways_behind := ok_ways_behindL (P := P) (w := w) (base := base) T
  refine T.F_line_rest.ok sc_line_rest (fun vs H Q E h => ?_) (fun cdv A outer s H vs Q E hr h => ?_)
  · obtain ⟨n, k, ring, rfl, _⟩ := h
    rfl
  · obtain ⟨n, k, ring, rfl, n0, n1, kc, q⟩ := h
    refine ⟨_, PSs.nox (pss_cons (ps_if (pt_not (pt_chain op_le op_lt pe_int (pv 1) (pe_callN G_line_counts (hr.mono (by decide)) (by rfl) T.g_line_counts T.F_line_counts.kp T.kb_line_counts pass0 (pa_cons (pv 0) pa_nil) (pk_cons (pv 2) pk_nil))))
        (pss_one ps_never)
        pss_nil)
      (pss_cons (ps_set (i := 3) sc_line_rest.nd rfl (.inl rfl) (pe_lst pa_nil))
      (pss_cons (ps_set (i := 4) sc_line_rest.nd rfl (.inl rfl) (pv 1))
      (pss_cons (ps_while PassesOwn.never (pt_cmpR op_lt (pe_callB call_len_seq (by rfl) T.m_len (by decide +kernel) (pa_cons (pv 3) pa_nil)) (pv 0) (nomark _))
        (pss_cons (ps_set (i := 5) sc_line_rest.nd rfl (.inl rfl) (pe_call G_ways_behind (hr.mono (by decide)) (by rfl) T.g_ways_behind T.F_ways_behind.kp T.b_ways_behind .nil pass0 (pa_cons (pe_op op_sub (pe_op op_sub (pv 0) (pe_callB call_len_seq (by rfl) T.m_len (by decide +kernel) (pa_cons (pv 3) pa_nil))) pe_int) (pa_cons (pv 3) (pa_cons (pv 2) pa_nil)))))
        (pss_one (ps_if (pt_cmpR op_lt (pv 4) (pv 5) (nomark _))
          (pss_one (ps_expr (pe_bm PySem.F.plainAttrs_list PySem.F.slot_list_append PySem.F.type_list_append mt_append (pv 3) (pa_cons pe_int pa_nil))))
          (pss_cons (ps_expr (pe_bm PySem.F.plainAttrs_list PySem.F.slot_list_append PySem.F.type_list_append mt_append (pv 3) (pa_cons pe_int pa_nil)))
          (pss_one (ps_aug (i := 4) sc_line_rest.nd rfl (.inl rfl) (pv 5) ip_sub)))))))
      (pss_one (ps_ret (pe_callTy call_tupleF (by rfl) T.m_tuple (by decide +kernel) (pa_cons (pv 3) pa_nil)))))))), ?_⟩
    refine ⟨.int k, rfl, _, _, rfl, rfl, _, rfl, iteP (decide_eq_true (by omega)) ?_⟩
    refine ⟨.int n, rfl, .bl ring, rfl, rfl, rfl, n, ring, rfl, n0, n1, _, _, rfl, rfl, _, rfl, iteN (by rw [decide_eq_true (by omega)]; rfl) ?_⟩
    refine ⟨Nat.zero_le _, fun R nR => ⟨_, rfl, ?_⟩⟩
    refine while_idx n (fun r σ H3 => ∃ (pre : List Int) (a : Nat) (y5 : Option V), σ = [some (.int n), some (.int k), some (.bl ring), some (.ref R), some (.int a), y5] ∧ Same H H3 ∧ H3 R = some (.lst (pre.map V.int)) ∧ pre.length = r ∧ r ≤ n ∧ decP ring (n - r) pre a = rowK ring n k) ⟨[], k, none, rfl, same_upd nR, upd_same, rfl, Nat.zero_le _, rfl⟩ ?_ ?_
    · rintro r σ H3 ⟨pre, a, y5, rfl, s3, h3, lr, rn, ed⟩
      refine ⟨.ref R, rfl, R, _, rfl, .inl (.inl (.inl h3)), .int n, rfl, _, _, rfl, rfl, _, rfl, ite2 (fun z => ?_) (fun z => ?_)⟩
      · have z' : ((pre.map V.int).length : Int) < n := of_decide_eq_true z
        rw [List.length_map] at z'
        have rl : r < n := by omega
        refine ⟨rl, ?_⟩
        obtain ⟨m, em⟩ : ∃ m, n - r = m + 1 := ⟨n - r - 1, by omega⟩
        rw [em] at ed
        refine ⟨.int n, rfl, .ref R, rfl, R, _, rfl, .inl (.inl (.inl h3)), _, _, rfl, rfl, _, _, rfl, rfl, .ref R, rfl, .bl ring, rfl, m + 1, R, ring, pre, ?_, by omega, h3, fun H4 s4 => ?_⟩
        · rw [List.length_map]
          show [V.int ((n : Int) - (pre.length : Int) - 1), V.ref R, V.bl ring] = [V.int (((m + 1 : Nat) : Int) - 1), V.ref R, V.bl ring]
          rw [show (n : Int) - (pre.length : Int) - 1 = ((m + 1 : Nat) : Int) - 1 by omega]
        have h4 := s4 _ _ h3
        rw [decP_succ] at ed
        refine ⟨.int a, rfl, _, rfl, _, _, rfl, rfl, _, rfl, ite2 (fun z2 => ?_) (fun z2 => ?_)⟩
        · have z2' : (a : Int) < (fb (m + 1 + exE ring pre) : Nat) := of_decide_eq_true z2
          rw [if_pos (by omega)] at ed
          refine ⟨.ref R, rfl, .inl ⟨rfl, _, .inl (.inl h4)⟩, R, _, _, rfl, rfl, h4, by rw [List.length_map]; exact small1000 (by omega), ?_⟩
          refine ⟨pre ++ [0], a, _, rfl, same_mut (s3.trans s4) nR, by rw [upd_same, List.map_append]; rfl, by rw [List.length_append, lr]; rfl, rl, ?_⟩
          rw [show n - (r + 1) = m by omega]
          exact ed
        · have z2' : ¬ (a : Int) < (fb (m + 1 + exE ring pre) : Nat) := fun y => z2 (decide_eq_true y)
          rw [if_neg (by omega)] at ed
          refine ⟨.ref R, rfl, .inl ⟨rfl, _, .inl (.inl h4)⟩, R, _, _, rfl, rfl, h4, by rw [List.length_map]; exact small1000 (by omega), ?_⟩
          refine ⟨_, rfl, _, rfl, _, _, rfl, rfl, ?_⟩
          refine ⟨pre ++ [1], a - fb (m + 1 + exE ring pre), some (.int (fb (m + 1 + exE ring pre) : Nat)), ?_, same_mut (s3.trans s4) nR, by rw [upd_same, List.map_append]; rfl, by rw [List.length_append, lr]; rfl, rl, ?_⟩
          · rw [show ((a - fb (m + 1 + exE ring pre) : Nat) : Int) = (a : Int) - (fb (m + 1 + exE ring pre) : Nat) by omega]
            rfl
          · rw [show n - (r + 1) = m by omega]
            exact ed
      · have z' : ¬ ((pre.map V.int).length : Int) < n := fun y => z (decide_eq_true y)
        rw [List.length_map] at z'
        rw [show n - r = 0 by omega] at ed
        have ed : pre = rowK ring n k := ed
        subst ed
        refine ⟨.ref R, rfl, ?_⟩
        refine ⟨R, _, rfl, .inl (.inl h3), fun t o nt od => q t _ (s3.trans (same_upd nt)) (.inr ⟨o, od, upd_same⟩)⟩
    · intro σ H3 Q1 Q2 hQ h
      obtain ⟨v, h1, a, xs, e, hs, u, h2, i, j, e1, e2, k, e3, h3⟩ := h
      exact ⟨v, h1, a, xs, e, hs, u, h2, i, j, e1, e2, k, e3, hQ _ _ h3⟩
def spLineNumber : Sp := fun vs H Q _ => ∃ (t : Addr) (ring : Bool) (row : List Int), vs = [.ref t, .bl ring] ∧ row.length ≤ 100 ∧ TupAt H t (row.map V.int) ∧ ∀ H' : Hp, Same H H' → Q (.int (numP ring [] row : Nat)) H'
set_option maxHeartbeats 2000000 in
theorem ok_line_number (T : Txt K mg w) : FnOk P w K mg base CX0 3 T.f_line_number T.fd_line_number p_line_number spLineNumber := by
  have G_ways_behind := ok_ways_behindT (P := P) (w := w) (base := base) T
  refine T.F_line_number.ok sc_line_number (fun vs H Q E h => ?_) (fun cdv A outer s H vs Q E hr h => ?_)
  · obtain ⟨t, ring, row, rfl, _⟩ := h
    rfl
  · obtain ⟨t, ring, row, rfl, n1, hS, q⟩ := h
    refine ⟨_, PSs.nox (pss_cons (ps_set (i := 2) sc_line_number.nd rfl (.inl rfl) pe_int)
      (pss_cons (ps_for PassesOwn.never rfl (pi_enumT (by rfl) T.m_enumerate (pa_cons (pv 0) pa_nil)) (pg_tup rfl (pgs_cons (pg_name (i := 3) sc_line_number.nd rfl (.inl rfl)) (pgs_cons (pg_name (i := 4) sc_line_number.nd rfl (.inl rfl)) pgs_nil)))
        (pss_one (ps_if (pt_cmpR op_eq (pv 4) pe_int (nomark _))
          (pss_one (ps_aug (i := 2) sc_line_number.nd rfl (.inl rfl) (pe_call G_ways_behind (hr.mono (by decide)) (by rfl) T.g_ways_behind T.F_ways_behind.kp T.b_ways_behind .nil pass0 (pa_cons (pe_op op_sub (pe_op op_sub (pe_callB call_len_seq (by rfl) T.m_len (by decide +kernel) (pa_cons (pv 0) pa_nil)) (pv 3)) pe_int) (pa_cons (pe_slice sl_tupA (pv 0) po_none (po_some (pv 3))) (pa_cons (pv 1) pa_nil)))) ip_add))
          pss_nil)))
      (pss_one (ps_ret (pv 2))))), ?_⟩
    refine ⟨.ref t, rfl, t, _, rfl, hS.sq, ?_⟩
    refine for_it (walk_enumT (xs := row.map V.int)) (fun i σ H3 => ∃ (a : Nat) (y3 y4 : Option V), σ = [some (.ref t), some (.bl ring), some (.int a), y3, y4] ∧ Same H H3 ∧ a + numP ring (row.take i) (row.drop i) = numP ring [] row) ⟨0, none, none, rfl, Same.refl H, Nat.zero_add _⟩ ?_ ?_ ?_
    · rintro i σ H3 _ ⟨a, y3, y4, rfl, s3, _⟩
      exact (hS.keep (Keep.same s3)).sq
    · rintro i y σ H3 H4 hi ⟨a, y3, y4, rfl, s3, ed⟩ ⟨u, x1, x2, rfl, nu, rfl, e1, e2⟩
      rw [List.length_map] at hi
      have q1 : x1 = .int (i : Nat) := (Option.some.inj e1).symm
      have q2 : x2 = .int row[i] := by
        have e2' : (row.map V.int)[i]? = some x2 := e2
        rw [List.getElem?_map, List.getElem?_eq_getElem hi] at e2'
        exact (Option.some.inj e2').symm
      subst q1 q2
      have sU := same_upd (o := .tup [.int (i : Nat), .int row[i]]) nu
      have s4 := s3.trans sU
      have edr : row.drop i = row[i] :: row.drop (i + 1) := List.drop_eq_getElem_cons hi
      have ett : row.take (i + 1) = row.take i ++ [row[i]] := List.take_succ_eq_append_getElem hi
      rw [edr, numP_cons, ← ett, List.length_drop] at ed
      refine ⟨u, _, rfl, .inl (.inl upd_same), rfl, _, _, rfl, _, _, rfl, rfl, ?_⟩
      refine ⟨.int row[i], rfl, rfl, _, rfl, ite2 (fun z => ?_) (fun z => ?_)⟩
      · have z' : row[i] = 1 := by simpa using z
        rw [if_pos z'] at ed
        have hS4 := hS.keep (Keep.same s4)
        refine ⟨.int a, rfl, .ref t, rfl, t, _, rfl, .inr hS4.sq, .int (i : Nat), rfl, _, _, rfl, rfl, _, _, rfl, rfl, .ref t, rfl, ?_⟩
        dsimp only [tNoPart]
        refine ⟨.int (i : Nat), rfl, _, rfl, ?_⟩
        refine sl_tup_use hS4 fun c Hc sc hc => ?_
        rw [cutI_map, cut_to _ _ (by omega)] at hc
        refine ⟨.bl ring, rfl, row.length - i, c, ring, row.take i, ?_, by omega, hc, fun H5 s5 => ?_⟩
        · rw [List.length_map]
          show [V.int ((row.length : Int) - (i : Int) - 1), V.ref c, V.bl ring] = [V.int (((row.length - i : Nat) : Int) - 1), V.ref c, V.bl ring]
          rw [show (row.length : Int) - (i : Int) - 1 = ((row.length - i : Nat) : Int) - 1 by omega]
        refine ⟨_, _, rfl, rfl, ?_⟩
        refine ⟨a + fb (row.length - i + exE ring (row.take i)), some (.int (i : Nat)), some (.int row[i]), ?_, (s4.trans sc).trans s5, ?_⟩
        · rw [Int.natCast_add]; rfl
        · rw [show row.length - (i + 1) + 1 = row.length - i by omega] at ed
          omega
      · have z' : ¬ row[i] = 1 := by simpa using z
        rw [if_neg z', Nat.zero_add] at ed
        exact ⟨a, _, _, rfl, s4, ed⟩
    · rintro σ H3 ⟨a, y3, y4, rfl, s3, ed⟩
      refine ⟨_, rfl, ?_⟩
      rw [List.length_map, List.drop_length] at ed
      have ed : a + 0 = numP ring [] row := ed
      have := q H3 s3
      rw [← ed] at this
      exact this
end
end Lh

namespace Lh
open PySem PySem.Spec PyProof.Rows L2
/-! ### more words around exceptions: one class in a clause, keywords and methods within a suite -/
theorem seq_useN {t u : TS} {D : Ends} {σ : L2.St} {H : Hp} (Φ : L2.St → Hp → Prop) (a : ∀ N : L2.St → Hp → Prop, (∀ σ H, Φ σ H → N σ H) → t { D with nx := N } σ H) (b : ∀ σ H, Φ σ H → u D σ H) : tSeq t u D σ H := a (u D) b
theorem gname_step {i : Nat} {v : V} {σ : L2.St} {H : Hp} {D : L2.St → Hp → Prop} (h : D (σ.set i (some v)) H) : gName i v σ H D := h
theorem seq_asg {v : V} {i : Nat} {u : TS} {D : Ends} {σ : L2.St} {H : Hp} (h : u D (σ.set i (some v)) H) : tSeq (tAsg (tC v) (gName i)) u D σ H := h
section
variable {X : Cx} {x : Str} {c1 : Value} {p1 : Pos}
theorem tests1 (hc1 : Names X x c1) : Tests X (.Name x p1) (fun cls => PySem.W.exmOne X.K cls c1 = some true) := by
  intro pins σ H s a oa va cls d I ga za da na ap one R E q
  refine named I ga da na ap hc1 ?_
  have knd : PySem.W.Looks (model X.prog X.w) s.heap (typeOf (.ref a)) cls := fun _ _ _ _ k q => wpAny_typeOf_ref (k _ _ ga) (za.1.symm ▸ q)
  exact (PySem.W.exm_one (M := model X.prog X.w) I.kIn knd one).here (q s.heap fun _ _ z => z)
end
section
variable {X : Cx} {CX : CXT} {k n : Nat} {f : Addr} {fd : FuncData} {ps ks : List Str} {sp : Sp} {E : L2.St → XK} {x : Str} {p pos : Pos} {e : Expr} {es : List Expr} {kws : List Keyword} {t tk : TA} {g : List Value → List Value → List Value} {gV : List V → List V → List V}
def tCallNS (n m : Nat) (sp : Sp) (gV : List V → List V → List V) (E : L2.St → XK) (t tk : TA) : TE := fun σ H Q => t σ H fun vs H1 => tk σ H1 fun zs H2 => vs.length = n ∧ zs.length = m ∧ sp (gV vs zs) H2 Q (E σ)
/-- f(e, .., k = v, ..) where what it may let out is caught by the slots -/
theorem pe_callNS (F : FnOk X.prog X.w X.K X.mg X.base CX k f fd ps sp) (hr : Room k X.A) (hg : Gl X x) (hm : X.mg x = some (.ref f)) (hk : PySem.W.keepIn X.K (.ref f) = true) (hb : KBn X.K fd ps n ks g gV) (hx : ∀ σ, PassesAt CX X σ (E σ))
    (ha : PA X (e :: es) t) (hkw : PK X kws tk) (hall : (backToKw pos (keywordEach kws X.env)).all (·.1.isSome) = true := by rfl) (hks : (backToKw pos (keywordEach kws X.env)).filterMap (·.1) = ks := by rfl)
    (hdb : (x == ("__debug__" : Str)) = false := by decide) (he : starEach (e :: es) X.env = (false, eval e X.env) :: starEach es X.env := by rfl)
    (hpl : ((backTo pos (starEach (e :: es) X.env)).any (·.1) || (backToKw pos (keywordEach kws X.env)).any (·.1.isNone)) = false := by rfl) :
    PE X (.Call (.Name x p) (e :: es) kws pos) (tCallNS n ks.length sp gV E t tk) := by
  constructor
  intro pins s σ H Q I h
  refine wpAny_Call_Name_kw (ld_glob I hg hm ?_ hdb)
  refine PySem.W.callWith_KW (h₀ := X.base) I.ok.mod.kin hk hall (thn (ha.run pos pins s σ H _ I h) ?_) hpl he
  rintro us s1 ⟨vs, H1, I1, r, q⟩
  refine thn (hkw.run pos pins s1 σ H1 _ I1 q) ?_
  rintro ws s2 ⟨zs, H2, I2, rz, l1, l2, q2⟩
  refine ⟨I2.kIn, ?_⟩
  rw [hks]
  have r2 := hb.rel r rz
  refine wpAny_call (codeAny_mono (F.run X.A X.stack s2 H2 ⟨us, ks.zip ws⟩ (g us ws) (gV vs zs) Q (E σ) hr I2.env0 (hb.to s2 us ws I2.kIn (r.length.symm.trans l1) (rz.length.symm.trans l2)) r2 q2) ?_)
  intro z s3 hq
  match z with
  | .error er => exact hx σ pins H2 s2 er s3 I2 hq
  | .ok (.ret u) => exact I2.after hq
  | .ok .next => exact hq.elim
  | .ok .brk => exact hq.elim
  | .ok .cont => exact hq.elim
end
section
variable {X : Cx} {CX : CXT} {k n : Nat} {f C : Addr} {fd : FuncData} {ps ks : List Str} {sp : Sp} {E : L2.St → XK} {m : Str} {apos pos : Pos} {e o : Expr} {es : List Expr} {kw : Keyword} {kws : List Keyword} {ta : TE} {t tk : TA} {g : List Value → List Value → List Value} {gV : List V → List V → List V}
def tMethS (C : Addr) (m : Str) (sp : Sp) (E : L2.St → XK) (ta : TE) (t : TA) : TE := fun σ H Q => ta σ H fun x H1 => ∃ (a dx : Addr) (fs : List (Str × V)), x = .ref a ∧ H1 a = some (.ins C dx fs) ∧ fs.lookup m = none ∧ t σ H1 fun vs H2 => sp (.ref a :: vs) H2 Q (E σ)
/-- o.m(e, ..) where what it may let out is caught by the slots -/
theorem pe_methS {pl : Sem Bool} (he : PE X o ta) (c : Cls X.K C) (hm : Meth X.K C m f) (F : FnOk X.prog X.w X.K X.mg X.base CX k f fd ps sp) (hr : Room k X.A) (hb : Binds X.K fd ps []) (hx : ∀ σ, PassesAt CX X σ (E σ)) (ha : PA X (e :: es) t)
    (hst : starEach (e :: es) X.env = (false, eval e X.env) :: starEach es X.env := by rfl) (hpl : (backTo pos (starEach es X.env)).any (·.1) = false := by rfl)
    (ht : eval (.Call (.Attribute o m apos) (e :: es) [] pos) X.env = (do
      let ov ← eval o X.env
      standAt apos.atName
      let (f, first) ← holding [ov] (getMethod ov m pl)
      callWith pos f first (backTo pos (starEach (e :: es) X.env)) (backToKw pos (keywordEach [] X.env))) := by rfl) :
    PE X (.Call (.Attribute o m apos) (e :: es) [] pos) (tMethS C m sp E ta t) := by
  constructor
  intro pins s σ H Q I h
  refine PySem.W.methodCall_KW (pl := pl) (thn (he.run pins s σ H _ I h) ?_) ht
  rintro u s1 ⟨x, H1, I1, rx, a, dx, fs, ex, ea, l, q⟩
  subst ex
  cases (show u = Value.ref a from rx)
  refine getmeth_ok I1 ea c hm l ?_
  refine PySem.W.callWith_K (first := [.ref a]) (h₀ := X.base) I.ok.mod.kin hm.kp (thn (ha.run pos pins s1 σ H1 _ I1 q) ?_) hst hpl
  rintro us s2 ⟨vs, H2, I2, r, q2⟩
  exact ⟨I2.kIn, run_fnS (us := .ref a :: us) (vs := .ref a :: vs) F hr hb (hx σ) I2 (.cons rfl r) q2⟩
end
end Lh

namespace Lh
open PySem PySem.Spec PyProof.Rows L2
section
variable {P : Program} {w : World} {K : PySem.W.Frag} {mg : Str → Option Value} {base : Heap}
def spSeen : Sp := fun vs H Q _ => ∃ (v : V) (r : Rule), vs = [v] ∧ RuleAt H v r ∧ r.persons.length ≤ 1000 ∧ ∀ (p : Addr) (ps : List Addr) (H' : Hp), Same H H' → H p = none → H' p = some (.lst (ps.map V.ref)) → Paired (PairAtH H') ps (seenPairs r) → Q (.ref p) H'
theorem ok_seen (T : Txt K mg w) : FnOk P w K mg base CX0 1 T.f_seen T.fd_seen p_seen spSeen := by
  refine T.F_seen.ok sc_seen (fun vs H Q E h => ?_) (fun cdv A outer s H vs Q E hr h => ?_)
  · obtain ⟨v, r, rfl, _⟩ := h
    rfl
  · obtain ⟨v, r, rfl, hv, hl, q⟩ := h
    refine ⟨_, (pss_cons (ps_if (pt_cmpR op_eq (pe_ix ix_tup (pv 0) pe_int (fun _ _ => rfl)) pe_str (nomark _))
        (pss_one (ps_ret (pe_lst pa_nil)))
        pss_nil)
      (pss_one (ps_ret (pe_ifExp (pt_cmpR op_in_seq (pe_ix ix_tup (pv 0) pe_int (fun _ _ => rfl)) (pe_tup (pa_cons pe_str (pa_cons pe_str pa_nil))) (by rfl)) (pe_callTy call_list_of (by rfl) T.m_list (by decide +kernel) (pa_cons (pe_ix ix_tup (pv 0) pe_int (fun _ _ => rfl)) pa_nil)) (pe_lc (own := [("_law_one", 1)]) (g := gName 1) (by rfl) sc_seen.nd (pi_tup (pe_ix ix_tup (pv 0) (pe_un un_neg pe_int) (fun _ _ => rfl))) (blkOk_by (own := [("_law_one", 1)]) (N := n_seen) (sc := defScope s_seen) (by decide +kernel)) (fun _ _ _ _ _ => (pg_name (i := 1) sc_seen.nd rfl (.inl rfl) (.inr rfl))) (fun _ _ _ _ _ => pts_nil) (fun _ _ _ _ _ => (pe_tup (pa_cons (pv 1) (pa_cons pe_int pa_nil))))))))), ?_⟩
    cases r with
    | held n =>
      obtain ⟨a, rfl, ha⟩ := hv
      refine ⟨.ref a, rfl, a, _, 0, _, rfl, rfl, .inl (.inl ha), rfl, rfl, _, rfl, iteP (by decide +kernel) ?_⟩
      exact ⟨Nat.zero_le _, fun p np => q p [] _ (same_upd np) np upd_same .nil⟩
    | sum own ties =>
      obtain ⟨a, t, rfl, ha, o, ps, od, ht, pr⟩ := hv
      refine ⟨.ref a, rfl, a, _, 0, _, rfl, rfl, .inl (.inl ha), rfl, rfl, _, rfl, iteN (by decide +kernel) ?_⟩
      refine ⟨.ref a, rfl, a, _, 0, _, rfl, rfl, .inl (.inl ha), rfl, by show 2 ≤ sizeLine; decide, fun u hu => ⟨u, _, rfl, .inr (.inl (.inl upd_same)), rfl, rfl, _, rfl, iteP (by decide +kernel) ?_⟩⟩
      have s1 := same_upd (o := .tup [.str "sum", .str "cap"]) hu
      refine ⟨.ref a, rfl, a, _, 2, _, rfl, rfl, .inl (.inl (s1 _ _ ha)), rfl, t, _, rfl, .inr (ht.keep (Keep.same s1)).sq, fun p np => ?_⟩
      exact q p ps _ (s1.trans (same_upd np)) (s1.free np) upd_same (pairs_keep (Keep.same (s1.trans (same_upd np))) pr)
    | cap own ties most =>
      obtain ⟨a, t, rfl, ha, o, ps, od, ht, pr⟩ := hv
      refine ⟨.ref a, rfl, a, _, 0, _, rfl, rfl, .inl (.inl ha), rfl, rfl, _, rfl, iteN (by decide +kernel) ?_⟩
      refine ⟨.ref a, rfl, a, _, 0, _, rfl, rfl, .inl (.inl ha), rfl, by show 2 ≤ sizeLine; decide, fun u hu => ⟨u, _, rfl, .inr (.inl (.inl upd_same)), rfl, rfl, _, rfl, iteP (by decide +kernel) ?_⟩⟩
      have s1 := same_upd (o := .tup [.str "sum", .str "cap"]) hu
      refine ⟨.ref a, rfl, a, _, 2, _, rfl, rfl, .inl (.inl (s1 _ _ ha)), rfl, t, _, rfl, .inr (ht.keep (Keep.same s1)).sq, fun p np => ?_⟩
      exact q p ps _ (s1.trans (same_upd np)) (s1.free np) upd_same (pairs_keep (Keep.same (s1.trans (same_upd np))) pr)
    | kinds own seen =>
      obtain ⟨a, t, rfl, ha, hs⟩ := hv
      refine ⟨.ref a, rfl, a, _, 0, _, rfl, rfl, .inl (.inl ha), rfl, rfl, _, rfl, iteN (by decide +kernel) ?_⟩
      refine ⟨.ref a, rfl, a, _, 0, _, rfl, rfl, .inl (.inl ha), rfl, by show 2 ≤ sizeLine; decide, fun u hu => ⟨u, _, rfl, .inr (.inl (.inl upd_same)), rfl, rfl, _, rfl, iteN (by decide +kernel) ?_⟩⟩
      have s1 := same_upd (o := .tup [.str "sum", .str "cap"]) hu
      have hs1 := hs.keep (Keep.same s1)
      refine ⟨.ref a, rfl, 1, rfl, a, _, -1, _, rfl, rfl, .inl (.inl (s1 _ _ ha)), rfl, t, rfl, ⟨_, TupAt.sq hs1⟩, fun D hD => ?_⟩
      exact lc_ones hs1 hD hl (fun _ => rfl) (fun _ => rfl) (fun H3 ps s3 h3 pr => q D ps H3 (s1.trans s3) (s1.free hD) h3 pr)
    | next seen =>
      obtain ⟨a, t, rfl, ha, hs⟩ := hv
      refine ⟨.ref a, rfl, a, _, 0, _, rfl, rfl, .inl (.inl ha), rfl, rfl, _, rfl, iteN (by decide +kernel) ?_⟩
      refine ⟨.ref a, rfl, a, _, 0, _, rfl, rfl, .inl (.inl ha), rfl, by show 2 ≤ sizeLine; decide, fun u hu => ⟨u, _, rfl, .inr (.inl (.inl upd_same)), rfl, rfl, _, rfl, iteN (by decide +kernel) ?_⟩⟩
      have s1 := same_upd (o := .tup [.str "sum", .str "cap"]) hu
      have hs1 := hs.keep (Keep.same s1)
      refine ⟨.ref a, rfl, 1, rfl, a, _, -1, _, rfl, rfl, .inl (.inl (s1 _ _ ha)), rfl, t, rfl, ⟨_, TupAt.sq hs1⟩, fun D hD => ?_⟩
      exact lc_ones hs1 hD hl (fun _ => rfl) (fun _ => rfl) (fun H3 ps s3 h3 pr => q D ps H3 (s1.trans s3) (s1.free hD) h3 pr)
    | free seen =>
      obtain ⟨a, t, rfl, ha, hs⟩ := hv
      refine ⟨.ref a, rfl, a, _, 0, _, rfl, rfl, .inl (.inl ha), rfl, rfl, _, rfl, iteN (by decide +kernel) ?_⟩
      refine ⟨.ref a, rfl, a, _, 0, _, rfl, rfl, .inl (.inl ha), rfl, by show 2 ≤ sizeLine; decide, fun u hu => ⟨u, _, rfl, .inr (.inl (.inl upd_same)), rfl, rfl, _, rfl, iteN (by decide +kernel) ?_⟩⟩
      have s1 := same_upd (o := .tup [.str "sum", .str "cap"]) hu
      have hs1 := hs.keep (Keep.same s1)
      refine ⟨.ref a, rfl, 1, rfl, a, _, -1, _, rfl, rfl, .inl (.inl (s1 _ _ ha)), rfl, t, rfl, ⟨_, TupAt.sq hs1⟩, fun D hD => ?_⟩
      exact lc_ones hs1 hD hl (fun _ => rfl) (fun _ => rfl) (fun H3 ps s3 h3 pr => q D ps H3 (s1.trans s3) (s1.free hD) h3 pr)
end
end Lh

namespace Lh
open PySem PySem.Spec PyProof.Rows L2
section
variable {P : Program} {w : World} {K : PySem.W.Frag} {mg : Str → Option Value} {base : Heap}
def spTells : Sp := fun vs H Q _ => ∃ (v l : V) (r : Rule) (many : Int) (lot : List (Int × Int)), vs = [v, l] ∧ RuleAt H v r ∧ r.Wf many ∧ r.persons.length ≤ 1000 ∧ (∃ (a : Addr) (ps : List Addr), l = .ref a ∧ H a = some (.lst (ps.map V.ref)) ∧ Paired (PairAtH H) ps lot ∧ ps.length ≤ 60) ∧
  (∀ q ∈ lot, q.1 ∈ r.persons) ∧ ∀ (x : Int) (H' : Hp), Same H H' → Tell r lot x → Q (.int x) H'
theorem ok_tells (T : Txt K mg w) : FnOk P w K mg base CX0 2 T.f_tells T.fd_tells p_tells spTells := by
  have G_seen := ok_seen (P := P) (w := w) (base := base) T
  refine T.F_tells.ok sc_tells (fun vs H Q E h => ?_) (fun cdv A outer s H vs Q E hr h => ?_)
  · obtain ⟨v, l, r, many, lot, rfl, _⟩ := h
    rfl
  · obtain ⟨v, l, r, many, lot, rfl, hv, wf, hl, ⟨b, qs, rfl, hb, pq, lq⟩, sub, q⟩ := h
    refine ⟨_, (pss_cons (ps_asg (pe_tup (pa_cons (pe_ix ix_tup (pv 0) pe_int (fun _ _ => rfl)) (pa_cons (pe_callB (r := rSortedSet w) (cr_sortedSet rfl) (by rfl) T.m_sorted (by decide +kernel) (pa_cons (pe_callTy (r := rSetL K w) (cr_setL rfl) (by rfl) T.m_set (by decide +kernel) (pa_cons (pe_lc (own := [("_law_other", 4), ("_law_number", 5)]) (g := gTup K 2 (gCons (gName 4) (gCons (gName 5) gNil))) (by rfl) sc_tells.nd (pi_list (pv 1)) (blkOk_by (own := [("_law_other", 4), ("_law_number", 5)]) (N := n_tells) (sc := defScope s_tells) (by decide +kernel)) (fun _ _ _ _ _ => (pg_tup rfl (pgs_cons (pg_name (i := 4) sc_tells.nd rfl (.inl rfl) (.inr rfl)) (pgs_cons (pg_name (i := 5) sc_tells.nd rfl (.inl rfl) (.inr rfl)) pgs_nil)))) (fun _ _ _ _ _ => pts_nil) (fun _ _ _ _ _ => (pv 5))) pa_nil)) pa_nil)) pa_nil))) (pg_tup rfl (pgs_cons (pg_name (i := 2) sc_tells.nd rfl (.inl rfl)) (pgs_cons (pg_name (i := 3) sc_tells.nd rfl (.inr rfl)) pgs_nil))))
      (pss_cons (ps_if (pt_cmpR op_eq (pv 2) pe_str (nomark _))
        (pss_one (ps_ret (pe_ix ix_tup (pv 0) pe_int (fun _ _ => rfl))))
        pss_nil)
      (pss_cons (ps_if (pt_cmpR op_eq (pv 2) pe_str (nomark _))
        (pss_one (ps_ret (pe_op op_add (pe_ix ix_tup (pv 0) pe_int (fun _ _ => rfl)) (pe_callB call_len_seq (by rfl) T.m_len (by decide +kernel) (pa_cons (pv 3) pa_nil)))))
        pss_nil)
      (pss_cons (ps_if (pt_cmpR op_eq (pv 2) pe_str (nomark _))
        (pss_one (ps_ret (pe_ifExp (pt_cmpR (op_neD hr.units) (pv 3) (pe_lst pa_nil) (nomark _)) (pe_op op_add (pe_ix ix_list (pv 3) (pe_un un_neg pe_int) (fun _ _ => rfl)) pe_int) pe_int)))
        pss_nil)
      (pss_cons (ps_if (pt_cmpR op_eq (pv 2) pe_str (nomark _))
        (pss_one (ps_ret (pe_ix ix_list (pe_lc (own := [("_law_k", 6)]) (g := gName 6) (by rfl) sc_tells.nd (pi_range1 (by rfl) T.m_range (pa_cons (pe_op op_add (pe_callB call_len_seq (by rfl) T.m_len (by decide +kernel) (pa_cons (pv 3) pa_nil)) pe_int) pa_nil)) (blkOk_by (own := [("_law_k", 6)]) (N := n_tells) (sc := defScope s_tells) (by decide +kernel)) (fun _ _ _ _ _ => (pg_name (i := 6) sc_tells.nd rfl (.inl rfl) (.inr rfl))) (fun _ _ _ _ _ => (pts_one (pt_cmpR (r := rIn K true) op_notIn_seq (pv 6) (pv 3) (by rfl)))) (fun _ _ _ _ _ => (pv 6))) pe_int (fun _ _ => rfl))))
        pss_nil)
      (pss_cons (ps_asg (pe_tup (pa_cons (pe_callTy (call_dictP rfl) (by rfl) T.m_dict (by decide +kernel) (pa_cons (pe_call G_seen (hr.mono (by decide)) (by rfl) T.g_seen T.F_seen.kp T.b_seen .nil pass0 (pa_cons (pv 0) pa_nil)) pa_nil)) (pa_cons (pe_lc (own := [("_law_other", 4), ("_law_number", 5)]) (g := gTup K 2 (gCons (gName 4) (gCons (gName 5) gNil))) (by rfl) sc_tells.nd (pi_list (pv 1)) (blkOk_by (own := [("_law_other", 4), ("_law_number", 5)]) (N := n_tells) (sc := defScope s_tells) (by decide +kernel)) (fun _ _ _ _ _ => (pg_tup rfl (pgs_cons (pg_name (i := 4) sc_tells.nd rfl (.inl rfl) (.inr rfl)) (pgs_cons (pg_name (i := 5) sc_tells.nd rfl (.inl rfl) (.inr rfl)) pgs_nil)))) (fun _ _ _ _ _ => pts_nil) (fun _ _ _ _ _ => (pv 4))) pa_nil))) (pg_tup rfl (pgs_cons (pg_name (i := 7) sc_tells.nd rfl (.inr rfl)) (pgs_cons (pg_name (i := 8) sc_tells.nd rfl (.inl rfl)) pgs_nil))))
      (pss_cons (ps_set (i := 9) sc_tells.nd rfl (.inl rfl) (pe_op op_add (pe_ix ix_tup (pv 0) pe_int (fun _ _ => rfl)) (pe_callB (cr_sum rfl) (by rfl) T.m_sum (by decide +kernel) (pa_cons (pe_lc (own := [("_law_other", 4)]) (g := gName 4) (by rfl) sc_tells.nd (pi_list (pv 8)) (blkOk_by (own := [("_law_other", 4)]) (N := n_tells) (sc := defScope s_tells) (by decide +kernel)) (fun _ _ _ _ _ => (pg_name (i := 4) sc_tells.nd rfl (.inl rfl) (.inr rfl))) (fun _ _ _ _ _ => pts_nil) (fun _ _ _ _ _ => (pe_dget (hu_of hr) (pv 7) (pv 4) (fun _ _ => rfl)))) pa_nil))))
      (pss_one (ps_ret (pe_ifExp (pt_cmpR op_eq (pv 2) pe_str (nomark _)) (pv 9) (pe_callB (call_min2 rfl) (by rfl) T.m_min (by decide +kernel) (pa_cons (pv 9) (pa_cons (pe_ix ix_tup (pv 0) pe_int (fun _ _ => rfl)) pa_nil))))))))))))), ?_⟩
    obtain ⟨a, xs, rfl, ha⟩ := hv.word
    have hl3 : (lot.map (·.2)).length ≤ 60 := by rw [List.length_map, ← pq.length]; exact lq
    refine ⟨.ref a, rfl, a, _, 0, _, rfl, rfl, .inl (.inl ha), atI_nat (j := 0) rfl, .ref b, rfl, b, rfl, ⟨_, .inl (.inl hb)⟩, fun D hD => ?_⟩
    refine lc_pairs (·.2) (walk_listR qs) pq hD (by omega) (fun H3 s3 => .inl (.inl (s3 _ _ hb))) (fun _ _ => rfl) (fun q _ H3 _ Q h => ⟨_, rfl, h⟩) (fun H3 s3 h3 => ?_)
    refine ⟨D, _, rfl, .inl (.inl h3), by omega, fun p c ks np nd kl cl mem => ⟨p, _, c, rfl, upd_same, by omega, fun ms z pw mm0 ml nz => ⟨by show 2 ≤ sizeLine; decide, fun t nt => ⟨t, _, rfl, .inl (.inl upd_same), rfl, _, _, rfl, _, _, rfl, rfl, ?_⟩⟩⟩⟩
    have s4 : Same H (upd (upd (upd H3 p (SetO w p (fun j => decide (j ∈ lot.map (·.2))) c)) z (.lst (ms.map V.int))) t (.tup [.str (wordOf r), .ref z])) := s3.trans ((same_upd np).trans ((same_upd nz).trans (same_upd nt)))
    have hz : (upd (upd (upd H3 p (SetO w p (fun j => decide (j ∈ lot.map (·.2))) c)) z (.lst (ms.map V.int))) t (.tup [.str (wordOf r), .ref z])) z = some (.lst (ms.map V.int)) := by rw [upd_ne (ne_of_none upd_same nt)]; exact upd_same
    have mm : ∀ k, k ∈ ms ↔ k ∈ lot.map (·.2) := fun k => (mm0 k).trans decide_eq_true_iff
    have mlen : ms.length ≤ 60 := by omega
    have mnd : ms.Nodup := List.nodup_iff_pairwise_ne.mpr (pw.imp fun z => by omega)
    generalize hH4 : upd (upd (upd H3 p (SetO w p (fun j => decide (j ∈ lot.map (·.2))) c)) z (.lst (ms.map V.int))) t (.tup [.str (wordOf r), .ref z]) = H4 at *
    have hv4 := hv.keep (Keep.same s4)
    have hb4 := s4 _ _ hb
    have pq4 := pairs_keep (Keep.same s4) pq
    cases r with
    | held n =>
      obtain ⟨a', e, ha'⟩ := hv4
      cases e
      refine ⟨_, rfl, rfl, _, rfl, iteP (show decide (V.str (Str.ofString "held") = V.str (Str.ofString "held")) = true by decide +kernel) ?_⟩
      exact ⟨.ref a, rfl, a, _, 1, _, rfl, rfl, .inl (.inl ha'), rfl, q n H4 s4 rfl⟩
    | kinds own seen =>
      obtain ⟨a', t', e, ha', hs⟩ := hv4
      cases e
      refine ⟨_, rfl, rfl, _, rfl, iteN (show decide (V.str (Str.ofString "kinds") = V.str (Str.ofString "held")) = false by decide +kernel) ?_⟩
      refine ⟨_, rfl, rfl, _, rfl, iteP (show decide (V.str (Str.ofString "kinds") = V.str (Str.ofString "kinds")) = true by decide +kernel) ?_⟩
      refine ⟨.ref a, rfl, a, _, 1, _, rfl, rfl, .inl (.inl ha'), rfl, .ref z, rfl, z, _, rfl, .inl (.inl (.inl hz)), own, _, rfl, rfl, q _ H4 s4 ⟨ms, mnd, mm, ?_⟩⟩
      rw [List.length_map]
    | next seen =>
      refine ⟨_, rfl, rfl, _, rfl, iteN (show decide (V.str (Str.ofString "next") = V.str (Str.ofString "held")) = false by decide +kernel) ?_⟩
      refine ⟨_, rfl, rfl, _, rfl, iteN (show decide (V.str (Str.ofString "next") = V.str (Str.ofString "kinds")) = false by decide +kernel) ?_⟩
      refine ⟨_, rfl, rfl, _, rfl, iteP (show decide (V.str (Str.ofString "next") = V.str (Str.ofString "next")) = true by decide +kernel) ?_⟩
      refine ⟨.ref z, rfl, Nat.zero_le _, fun e he => ?_⟩
      have hz5 : upd H4 e (.lst []) z = some (.lst (ms.map V.int)) := by rw [upd_ne (ne_of_none hz he)]; exact hz
      refine ⟨.list (ms.map PyData.int), .list [], .lst (.inl (.inl hz5)) (RpAll.dp (bx := 0) (RpAll.ints ms)), .lst (.inl (.inl upd_same)) .nil, shaped_ints ms, by decide +kernel, _, rfl, ?_⟩
      cases ms with
      | nil =>
        refine iteN (by decide +kernel) ?_
        refine q 0 _ (s4.trans (same_upd he)) (.inl ⟨?_, rfl⟩)
        cases lot with
        | nil => rfl
        | cons x r => exact absurd ((mm x.2).mpr (by simp)) (by simp)
      | cons m r =>
        refine iteP (by rfl) ?_
        have gl : atI ((m :: r).map V.int) (-1) = some (.int ((m :: r).getLast (List.cons_ne_nil _ _))) := by
          have hd : (m :: r).map V.int = ((m :: r).dropLast.map V.int) ++ [.int ((m :: r).getLast (List.cons_ne_nil _ _))] := by
            rw [← List.map_singleton, ← List.map_append, List.dropLast_concat_getLast]
          rw [hd]
          exact atI_last _ _
        refine ⟨.ref z, rfl, 1, rfl, z, _, -1, _, rfl, rfl, .inl (.inl hz5), gl, _, 1, rfl, rfl, q _ _ (s4.trans (same_upd he)) (.inr ⟨?_, fun y hy => ?_⟩)⟩
        · rw [show (m :: r).getLast (List.cons_ne_nil _ _) + 1 - 1 = (m :: r).getLast (List.cons_ne_nil _ _) by omega]
          exact (mm _).mp (List.getLast_mem _)
        · have := last_max (m :: r) (List.cons_ne_nil _ _) pw y ((mm y).mpr hy)
          omega
    | free seen =>
      refine ⟨_, rfl, rfl, _, rfl, iteN (show decide (V.str (Str.ofString "free") = V.str (Str.ofString "held")) = false by decide +kernel) ?_⟩
      refine ⟨_, rfl, rfl, _, rfl, iteN (show decide (V.str (Str.ofString "free") = V.str (Str.ofString "kinds")) = false by decide +kernel) ?_⟩
      refine ⟨_, rfl, rfl, _, rfl, iteN (show decide (V.str (Str.ofString "free") = V.str (Str.ofString "next")) = false by decide +kernel) ?_⟩
      refine ⟨_, rfl, rfl, _, rfl, iteP (show decide (V.str (Str.ofString "free") = V.str (Str.ofString "free")) = true by decide +kernel) ?_⟩
      refine ⟨.ref z, rfl, z, _, rfl, .inl (.inl (.inl hz)), _, 1, rfl, rfl, _, rfl, ?_, ?_, fun D2 hD2 => ?_⟩
      · rw [List.length_map]; omega
      · rw [List.length_map]; omega
      have en : (((ms.map V.int).length : Int) + 1).toNat = ms.length + 1 := by rw [List.length_map]; omega
      rw [en]
      refine lc_it walk_range (fun i H5 => Same H4 H5 ∧ H5 D2 = some (.lst ((((List.range i).filter fun k : Nat => decide ((k : Int) ∉ ms)).map fun k : Nat => V.int k)))) ⟨same_upd hD2, upd_same⟩ (fun _ _ _ _ => trivial) ?_ ?_
      · rintro i x H5 H6 hi ⟨s5, h5⟩ ⟨rfl, rfl⟩
        refine ⟨rfl, ?_⟩
        refine ⟨.int (0 + i), rfl, .ref z, rfl, z, _, rfl, .inl (.inl (.inl (s5 _ _ hz))), rfl, flat_ints ms, _, rfl, ?_⟩
        rw [if_pos rfl, in_ints, Int.zero_add]
        have fl : ((List.range (i + 1)).filter fun k : Nat => decide ((k : Int) ∉ ms)) = ((List.range i).filter fun k : Nat => decide ((k : Int) ∉ ms)) ++ (if (i : Int) ∈ ms then [] else [i]) := by
          rw [List.range_succ, List.filter_append]
          congr 1
          by_cases c : (i : Int) ∈ ms
          · rw [if_pos c, List.filter_cons, if_neg (by simpa using c)]; rfl
          · rw [if_neg c, List.filter_cons, if_pos (by simpa using c)]; rfl
        refine ite2 (fun e => ?_) (fun e => ?_)
        · have c : (i : Int) ∉ ms := by simpa using e
          refine ⟨.int (0 + i), rfl, _, h5, ?_, same_mut s5 hD2, ?_⟩
          · rw [List.length_map]
            refine small1000 ?_
            have := List.length_filter_le (fun k : Nat => decide ((k : Int) ∉ ms)) (List.range i)
            rw [List.length_range] at this
            omega
          · rw [upd_same, fl, if_neg c, List.map_append, Int.zero_add]; rfl
        · have c : (i : Int) ∈ ms := by simpa using e
          refine ⟨s5, ?_⟩
          rw [fl, if_pos c, List.append_nil]; exact h5
      · rintro H5 ⟨s5, h5⟩
        obtain ⟨h, tl, el⟩ : ∃ h tl, ((List.range (ms.length + 1)).filter fun k : Nat => decide ((k : Int) ∉ ms)) = h :: tl := by
          cases q : ((List.range (ms.length + 1)).filter fun k : Nat => decide ((k : Int) ∉ ms)) with
          | cons h tl => exact ⟨h, tl, rfl⟩
          | nil =>
            exfalso
            have hh := nodup_len ((List.range (ms.length + 1)).map fun n : Nat => (n : Int)) ms (by
              rw [List.nodup_iff_pairwise_ne]
              exact List.Pairwise.map _ (fun a b z q => z (by omega)) (List.nodup_iff_pairwise_ne.mp List.nodup_range)) (fun x hx => by
                obtain ⟨n, hn, rfl⟩ := List.mem_map.mp hx
                have := List.filter_eq_nil_iff.mp q n hn
                simpa using this)
            rw [List.length_map, List.length_range] at hh
            omega
        rw [el] at h5
        refine ⟨D2, _, 0, .int h, rfl, rfl, .inl (.inl h5), atI_nat (j := 0) rfl, q h _ (s4.trans s5) ?_⟩
        have mh : h ∈ ((List.range (ms.length + 1)).filter fun k : Nat => decide ((k : Int) ∉ ms)) := by rw [el]; exact List.mem_cons_self
        obtain ⟨mh1, mh2⟩ := List.mem_filter.mp mh
        have srt : ((List.range (ms.length + 1)).filter fun k : Nat => decide ((k : Int) ∉ ms)).Pairwise (· < ·) := List.Pairwise.sublist List.filter_sublist List.pairwise_lt_range
        refine ⟨fun z => ?_, by omega, fun j j0 j1 => ?_⟩
        · exact of_decide_eq_true mh2 ((mm _).mpr z)
        · refine (mm j).mp ?_
          by_cases c : j ∈ ms
          · exact c
          · exfalso
            have mj : j.toNat ∈ ((List.range (ms.length + 1)).filter fun k : Nat => decide ((k : Int) ∉ ms)) := by
              refine List.mem_filter.mpr ⟨List.mem_range.mpr (by have := List.mem_range.mp mh1; omega), decide_eq_true ?_⟩
              rw [show ((j.toNat : Nat) : Int) = j by omega]; exact c
            rw [el] at mj srt
            rcases List.mem_cons.mp mj with e | e
            · omega
            · have := (List.pairwise_cons.mp srt).1 _ e; omega
    | sum own ties =>
      obtain ⟨a', t', e, ha', hT⟩ := hv4
      cases e
      obtain ⟨_, rs, _⟩ := wf
      refine ⟨_, rfl, rfl, _, rfl, iteN (show decide (V.str (Str.ofString "sum") = V.str (Str.ofString "held")) = false by decide +kernel) ?_⟩
      refine ⟨_, rfl, rfl, _, rfl, iteN (show decide (V.str (Str.ofString "sum") = V.str (Str.ofString "kinds")) = false by decide +kernel) ?_⟩
      refine ⟨_, rfl, rfl, _, rfl, iteN (show decide (V.str (Str.ofString "sum") = V.str (Str.ofString "next")) = false by decide +kernel) ?_⟩
      refine ⟨_, rfl, rfl, _, rfl, iteN (show decide (V.str (Str.ofString "sum") = V.str (Str.ofString "free")) = false by decide +kernel) ?_⟩
      refine ⟨.ref a, rfl, .ref a, .sum own ties, rfl, ⟨a, t', rfl, ha', hT⟩, hl, fun p5 ps5 H5 s5 n5 h5 pr5 => ?_⟩
      refine ⟨p5, ps5, kvOf ties, rfl, .inl (.inl h5), pairs_sq pr5, fun d hd => ?_⟩
      rw [merge_kv rs.nodup]
      have s6 := s5.trans (same_upd (o := .dK (kvOf ties)) hd)
      refine ⟨.ref b, rfl, b, rfl, ⟨_, .inl (.inl (s6 _ _ hb4))⟩, fun D6 hD6 => ?_⟩
      refine lc_pairs (·.1) (walk_listR qs) (pairs_keep (Keep.same s6) pq4) hD6 (by omega) (fun H3 s3 => .inl (.inl (s3 _ _ (s6 _ _ hb4)))) (fun _ _ => rfl) (fun q _ H3 _ Q h => ⟨_, rfl, h⟩) (fun H7 s7 h7 => ?_)
      refine ⟨by show 2 ≤ sizeLine; decide, fun t8 nt8 => ⟨t8, _, rfl, .inl (.inl upd_same), rfl, _, _, rfl, _, _, rfl, rfl, ?_⟩⟩
      have s8 := s7.trans (same_upd (o := .tup [.ref d, .ref D6]) nt8)
      have h8 := same_upd (o := .tup [.ref d, .ref D6]) nt8 _ _ h7
      have hd8 := s8 _ _ (upd_same (H := H5) (a := d) (o := .dK (kvOf ties)))
      refine ⟨.ref a, rfl, a, _, 1, _, rfl, rfl, .inl (.inl (s8 _ _ (s6 _ _ ha'))), rfl, .ref D6, rfl, D6, rfl, ⟨_, .inl (.inl h8)⟩, fun D9 hD9 => ?_⟩
      refine lc_ints (fun n => wgt ties n) h8 hD9 (by rw [List.length_map, ← pq.length]; omega) (fun _ => rfl) (fun n hn H9 s9 Q h => ?_) (fun H9 s9 h9 => ?_)
      · refine ⟨.ref d, rfl, .int n, rfl, d, _, rfl, ?_, h⟩
        obtain ⟨q0, hq0, rfl⟩ := List.mem_map.mp hn
        rw [← kv_get (sub q0 hq0)]
        exact DGet.k (k := Sum.inl q0.1) (s9 _ _ hd8)
      · refine ⟨D9, _, rfl, .inl (.inl h9), own, _, rfl, rfl, ?_⟩
        rw [List.map_map]
        refine ⟨_, rfl, rfl, _, rfl, iteP (show decide (V.str (Str.ofString "sum") = V.str (Str.ofString "sum")) = true by decide +kernel) ?_⟩
        exact ⟨_, rfl, q _ _ (s4.trans (s6.trans (s8.trans s9))) rfl⟩
    | cap own ties most =>
      obtain ⟨a', t', e, ha', hT⟩ := hv4
      cases e
      obtain ⟨_, rs, _⟩ := wf
      refine ⟨_, rfl, rfl, _, rfl, iteN (show decide (V.str (Str.ofString "cap") = V.str (Str.ofString "held")) = false by decide +kernel) ?_⟩
      refine ⟨_, rfl, rfl, _, rfl, iteN (show decide (V.str (Str.ofString "cap") = V.str (Str.ofString "kinds")) = false by decide +kernel) ?_⟩
      refine ⟨_, rfl, rfl, _, rfl, iteN (show decide (V.str (Str.ofString "cap") = V.str (Str.ofString "next")) = false by decide +kernel) ?_⟩
      refine ⟨_, rfl, rfl, _, rfl, iteN (show decide (V.str (Str.ofString "cap") = V.str (Str.ofString "free")) = false by decide +kernel) ?_⟩
      refine ⟨.ref a, rfl, .ref a, .cap own ties most, rfl, ⟨a, t', rfl, ha', hT⟩, hl, fun p5 ps5 H5 s5 n5 h5 pr5 => ?_⟩
      refine ⟨p5, ps5, kvOf ties, rfl, .inl (.inl h5), pairs_sq pr5, fun d hd => ?_⟩
      rw [merge_kv rs.nodup]
      have s6 := s5.trans (same_upd (o := .dK (kvOf ties)) hd)
      refine ⟨.ref b, rfl, b, rfl, ⟨_, .inl (.inl (s6 _ _ hb4))⟩, fun D6 hD6 => ?_⟩
      refine lc_pairs (·.1) (walk_listR qs) (pairs_keep (Keep.same s6) pq4) hD6 (by omega) (fun H3 s3 => .inl (.inl (s3 _ _ (s6 _ _ hb4)))) (fun _ _ => rfl) (fun q _ H3 _ Q h => ⟨_, rfl, h⟩) (fun H7 s7 h7 => ?_)
      refine ⟨by show 2 ≤ sizeLine; decide, fun t8 nt8 => ⟨t8, _, rfl, .inl (.inl upd_same), rfl, _, _, rfl, _, _, rfl, rfl, ?_⟩⟩
      have s8 := s7.trans (same_upd (o := .tup [.ref d, .ref D6]) nt8)
      have h8 := same_upd (o := .tup [.ref d, .ref D6]) nt8 _ _ h7
      have hd8 := s8 _ _ (upd_same (H := H5) (a := d) (o := .dK (kvOf ties)))
      refine ⟨.ref a, rfl, a, _, 1, _, rfl, rfl, .inl (.inl (s8 _ _ (s6 _ _ ha'))), rfl, .ref D6, rfl, D6, rfl, ⟨_, .inl (.inl h8)⟩, fun D9 hD9 => ?_⟩
      refine lc_ints (fun n => wgt ties n) h8 hD9 (by rw [List.length_map, ← pq.length]; omega) (fun _ => rfl) (fun n hn H9 s9 Q h => ?_) (fun H9 s9 h9 => ?_)
      · refine ⟨.ref d, rfl, .int n, rfl, d, _, rfl, ?_, h⟩
        obtain ⟨q0, hq0, rfl⟩ := List.mem_map.mp hn
        rw [← kv_get (sub q0 hq0)]
        exact DGet.k (k := Sum.inl q0.1) (s9 _ _ hd8)
      · refine ⟨D9, _, rfl, .inl (.inl h9), own, _, rfl, rfl, ?_⟩
        rw [List.map_map]
        refine ⟨_, rfl, rfl, _, rfl, iteN (show decide (V.str (Str.ofString "cap") = V.str (Str.ofString "sum")) = false by decide +kernel) ?_⟩
        refine ⟨_, rfl, .ref a, rfl, a, _, 3, _, rfl, rfl, .inl (.inl (s9 _ _ (s8 _ _ (s6 _ _ ha')))), rfl, _, _, rfl, q _ _ (s4.trans (s6.trans (s8.trans s9))) ?_⟩
        show (if most < own + (lot.map fun q => wgt ties q.1).sum then most else own + (lot.map fun q => wgt ties q.1).sum) = min (own + (lot.map fun q => wgt ties q.1).sum) most
        split <;> omega
end
end Lh

namespace Lh
open PySem PySem.Spec PyProof.Rows L2
section
variable {P : Program} {w : World} {K : PySem.W.Frag} {mg : Str → Option Value} {base : Heap}
def spLot : Sp := fun vs H Q _ => ∃ (l st : Addr) (p : Nat) (us : List V) (rs : List Rule) (ns : List Int) (h : p < rs.length), vs = [.ref l, .ref st, .int p] ∧ TupAt H l us ∧ RulesAt H us rs ∧ Halls rs ∧ TupAt H st (ns.map V.int) ∧ ns.length = rs.length ∧
  ∀ (z : Addr) (ps : List Addr) (H' : Hp), Same H H' → H z = none → H' z = some (.lst (ps.map V.ref)) → Paired (PairAtH H') ps (lotI rs[p] ns p) → Q (.ref z) H'
set_option maxHeartbeats 1000000 in
theorem ok_lot (T : Txt K mg w) : FnOk P w K mg base CX0 2 T.f_lot T.fd_lot p_lot spLot := by
  have G_seen := ok_seen (P := P) (w := w) (base := base) T
  refine T.F_lot.ok sc_lot (fun vs H Q E h => ?_) (fun cdv A outer s H vs Q E hr h => ?_)
  · obtain ⟨l, st, p, us, rs, ns, hp, rfl, _⟩ := h
    rfl
  · obtain ⟨l, st, p, us, rs, ns, hp, rfl, hl, ra, hh, hS, hn, q⟩ := h
    have few := hh.few hp
    have inr := per_in hh hp
    obtain ⟨v, hv, rv⟩ := ra.get p hp
    refine ⟨_, (pss_one (ps_ret (pe_lc (own := [("_law_other", 3), ("_law_weight", 4)]) (g := gTup K 2 (gCons (gName 3) (gCons (gName 4) gNil))) (by rfl) sc_lot.nd (pi_list (pe_call G_seen (hr.mono (by decide)) (by rfl) T.g_seen T.F_seen.kp T.b_seen .nil pass0 (pa_cons (pe_ix ix_tup (pv 0) (pv 2) (fun _ _ => rfl)) pa_nil))) (blkOk_by (own := [("_law_other", 3), ("_law_weight", 4)]) (N := n_lot) (sc := defScope s_lot) (by decide +kernel)) (fun _ _ _ _ _ => (pg_tup rfl (pgs_cons (pg_name (i := 3) sc_lot.nd rfl (.inl rfl) (.inr rfl)) (pgs_cons (pg_name (i := 4) sc_lot.nd rfl (.inl rfl) (.inr rfl)) pgs_nil)))) (fun _ _ _ _ _ => (pts_one (pt_cmpR op_lt (pe_ix (r := rIxT K) ix_tup (pv 1) (pv 3) (fun _ _ => rfl)) (pe_ix (r := rIxT K) ix_tup (pv 1) (pv 2) (fun _ _ => rfl)) (nomark _)))) (fun _ _ _ _ _ => (pe_tup (pa_cons (pv 3) (pa_cons (pe_ix (r := rIxT K) ix_tup (pv 1) (pv 3) (fun _ _ => rfl)) pa_nil))))))), ?_⟩
    refine ⟨.ref l, rfl, .int p, rfl, l, us, p, v, rfl, rfl, hl.sq, atI_nat hv, ?_⟩
    refine ⟨v, rs[p], rfl, rv, by omega, fun z6 ps6 H1 s1 n6 h6 pr6 => ?_⟩
    have hS1 := hS.keep (Keep.same s1)
    have ll : ps6.length = (seenPairs rs[p]).length := pr6.length
    have lp : (seenPairs rs[p]).length = rs[p].persons.length := by rw [← seen_persons rs[p], List.length_map]
    refine ⟨z6, rfl, ⟨_, .inl (.inl h6)⟩, fun D hD => ?_⟩
    refine lc_it (walk_listR ps6) (fun n H3 => ∃ ps : List Addr, Same H1 H3 ∧ H3 D = some (.lst (ps.map V.ref)) ∧ Paired (PairAtH H3) ps ((((seenPairs rs[p]).take n).filter fun q => decide (nth ns q.1 < nth ns p)).map fun q => (q.1, nth ns q.1))) ⟨[], same_upd hD, upd_same, .nil⟩ ?_ ?_ ?_
    · rintro n H3 _ ⟨ps, s3, _⟩
      exact .inl (.inl (s3 _ _ h6))
    · rintro n y H3 H4 hi ⟨ps, s3, h3, pr⟩ ⟨rfl, hy⟩
      rw [List.getElem?_map, List.getElem?_eq_getElem hi] at hy
      cases hy
      have hn2 : n < (seenPairs rs[p]).length := by omega
      have pa := pairs_at pr6 n hi hn2
      have io := inr (seenPairs rs[p])[n].1 (by
        have h : (seenPairs rs[p])[n].1 ∈ (seenPairs rs[p]).map (·.1) := List.mem_map_of_mem (List.getElem_mem hn2)
        rw [seen_persons] at h
        exact h)
      have hS3 := hS1.keep (Keep.same s3)
      have tk : (seenPairs rs[p]).take (n + 1) = (seenPairs rs[p]).take n ++ [(seenPairs rs[p])[n]] := by rw [List.take_add_one, List.getElem?_eq_getElem hn2]; rfl
      have pl : ps.length ≤ n := by
        rw [pr.length, List.length_map]
        refine Nat.le_trans (List.length_filter_le _ _) ?_
        rw [List.length_take]; omega
      refine ⟨ps6[n], _, rfl, .inl (.inl (s3 _ _ pa)), rfl, _, _, rfl, _, _, rfl, rfl, rfl, ?_⟩
      generalize (seenPairs rs[p])[n] = a at *
      refine ⟨.ref st, rfl, .int a.1, rfl, st, _, _, _, rfl, rfl, hS3.sq, nth_at io.1 (by omega), .ref st, rfl, .int p, rfl, st, _, _, _, rfl, rfl, hS3.sq, nth_at (by omega) (by omega), _, _, rfl, rfl, _, rfl, ite2 (fun z => ?_) (fun z => ?_)⟩
      · refine ⟨.int a.1, rfl, .ref st, rfl, .int a.1, rfl, st, _, _, _, rfl, rfl, hS3.sq, nth_at io.1 (by omega), by show 2 ≤ sizeLine; decide, fun u nu => ?_⟩
        have sU := same_upd (o := .tup [.int a.1, .int (nth ns a.1)]) nu
        have h5 := sU _ _ h3
        have kT := keep_lst (ys := ps.map V.ref ++ [.ref u]) h5
        refine ⟨_, h5, by rw [List.length_map]; exact small1000 (by omega), ps ++ [u], same_mut (s3.trans sU) hD, ?_, ?_⟩
        · rw [upd_same, List.map_append]; rfl
        · rw [tk, List.filter_append, List.map_append, List.filter_cons, if_pos z]
          exact Paired.snoc (R := PairAtH _) (show PairAtH _ _ _ from kT.tup _ _ upd_same) (pairs_keep ((Keep.same sU).trans kT) pr)
      · refine ⟨ps, s3, h3, ?_⟩
        rw [tk, List.filter_append, List.filter_cons, if_neg z, List.filter_nil, List.append_nil]
        exact pr
    · rintro H3 ⟨ps, s3, h3, pr⟩
      rw [ll, List.take_length, lotI_pairs] at pr
      exact q D ps H3 (s1.trans s3) (s1.free hD) h3 pr
def spLawTurned : Sp := fun vs H Q _ => ∃ (l st pl : Addr) (us : List V) (rs : List Rule) (ns qs : List Int), vs = [.ref l, .ref st, .ref pl] ∧ TupAt H l us ∧ RulesAt H us rs ∧ Halls rs ∧ TupAt H st (ns.map V.int) ∧ ns.length = rs.length ∧ H pl = some (.lst (qs.map V.int)) ∧ (∀ q ∈ qs, 0 ≤ q ∧ q < rs.length) ∧ qs.length ≤ 900 ∧
  ∀ (t : Addr) (ms : List Int) (H' : Hp), Same H H' → H t = none → TupAt H' t (ms.map V.int) → Turned rs ns (fun i => i ∈ qs) ms → Q (.ref t) H'
set_option maxHeartbeats 2000000 in
theorem ok_law_turned (T : Txt K mg w) : FnOk P w K mg base CX0 3 T.f_turned T.fd_turned p_turned spLawTurned := by
  have G_lot := ok_lot (P := P) (w := w) (base := base) T
  have G_tells := ok_tells (P := P) (w := w) (base := base) T
  refine T.F_turned.ok sc_turned (fun vs H Q E h => ?_) (fun cdv A outer s H vs Q E hr h => ?_)
  · obtain ⟨l, st, pl, us, rs, ns, qs, rfl, _⟩ := h
    rfl
  · obtain ⟨l, st, pl, us, rs, ns, qs, rfl, hl, ra, hh, hS, hn, hpl, hq, ql, q⟩ := h
    have r1 := hh.2.1
    refine ⟨_, (pss_cons (ps_set (i := 3) sc_turned.nd rfl (.inr rfl) (pe_callTy (call_dictP rfl) (by rfl) T.m_dict (by decide +kernel) (pa_cons (pe_lc (own := [("_law_one", 4)]) (g := gName 4) (by rfl) sc_turned.nd (pi_list (pv 2)) (blkOk_by (own := [("_law_one", 4)]) (N := n_turned) (sc := defScope s_turned) (by decide +kernel)) (fun _ _ _ _ _ => (pg_name (i := 4) sc_turned.nd rfl (.inl rfl) (.inr rfl))) (fun _ _ _ _ _ => pts_nil) (fun _ _ _ _ _ => (pe_tup (pa_cons (pv 4) (pa_cons (pe_call G_tells (hr.mono (by decide)) (by rfl) T.g_tells T.F_tells.kp T.b_tells .nil pass0 (pa_cons (pe_ix (r := rIxT K) ix_tup (pv 0) (pv 4) (fun _ _ => rfl)) (pa_cons (pe_call G_lot (hr.mono (by decide)) (by rfl) T.g_lot T.F_lot.kp T.b_lot .nil pass0 (pa_cons (pv 0) (pa_cons (pv 1) (pa_cons (pv 4) pa_nil)))) pa_nil))) pa_nil))))) pa_nil)))
      (pss_one (ps_ret (pe_callTy call_tupleF (by rfl) T.m_tuple (by decide +kernel) (pa_cons (pe_lc (own := [("_law_one", 4), ("_law_number", 5)]) (g := gTup K 2 (gCons (gName 4) (gCons (gName 5) gNil))) (by rfl) sc_turned.nd (pi_enumT (by rfl) T.m_enumerate (pa_cons (pv 1) pa_nil)) (blkOk_by (own := [("_law_one", 4), ("_law_number", 5)]) (N := n_turned) (sc := defScope s_turned) (by decide +kernel)) (fun _ _ _ _ _ => (pg_tup rfl (pgs_cons (pg_name (i := 4) sc_turned.nd rfl (.inl rfl) (.inr rfl)) (pgs_cons (pg_name (i := 5) sc_turned.nd rfl (.inl rfl) (.inr rfl)) pgs_nil)))) (fun _ _ _ _ _ => pts_nil) (fun _ _ _ _ _ => (pe_dget2 (hu_of hr) (pv 3) (pv 4) (pv 5) ⟨rfl, rfl, rfl, rfl⟩))) pa_nil))))), ?_⟩
    refine ⟨.ref pl, rfl, pl, rfl, ⟨_, .inl (.inl hpl)⟩, fun D hD => ?_⟩
    refine lc_it (walk_list (xs := qs.map V.int)) (fun n H3 => ∃ (ps : List Addr) (kv : List (Int × Int)), Same H H3 ∧ H3 D = some (.lst (ps.map V.ref)) ∧ Paired (PairAtH H3) ps kv ∧ kv.map (·.1) = qs.take n ∧ ∀ x ∈ kv, ∃ (i : Nat) (h : i < rs.length), x.1 = i ∧ Tell rs[i] (lotI rs[i] ns i) x.2) ⟨[], [], same_upd hD, upd_same, .nil, rfl, fun x h => absurd h (by simp)⟩ ?_ ?_ ?_
    · rintro n H3 _ ⟨ps, kv, s3, _⟩
      exact .inl (.inl (s3 _ _ hpl))
    · rintro n y H3 H4 hi ⟨ps, kv, s3, h3, pr, fs, tl⟩ ⟨rfl, hy⟩
      rw [List.length_map] at hi
      rw [List.getElem?_map, List.getElem?_eq_getElem hi] at hy
      cases hy
      have io := hq _ (List.getElem_mem hi)
      obtain ⟨p, ep⟩ : ∃ p : Nat, qs[n] = (p : Int) := ⟨qs[n].toNat, by omega⟩
      have hp : p < rs.length := by omega
      have lk : ps.length = n := by
        rw [pr.length, ← List.length_map (f := (·.1)), fs, List.length_take]; omega
      obtain ⟨v, hv, rv⟩ := ra.get p hp
      refine ⟨rfl, yes (iteT ?_)⟩
      rw [ep]
      refine ⟨.int p, rfl, .ref l, rfl, .int p, rfl, l, us, p, v, rfl, rfl, (hl.keep (Keep.same s3)).sq, atI_nat hv, .ref l, rfl, .ref st, rfl, .int p, rfl, l, st, p, us, rs, ns, hp, rfl, hl.keep (Keep.same s3), ra.keep (Keep.same s3), hh, hS.keep (Keep.same s3), hn, fun z ps5 H5 s5 n5 h5 pr5 => ?_⟩
      have few := hh.few hp
      have l5 : ps5.length ≤ 12 := by
        rw [pr5.length]
        unfold lotI
        rw [List.length_map]
        exact Nat.le_trans (List.length_filter_le _ _) few
      refine ⟨v, .ref z, rs[p], rs.length, _, rfl, rv.keep (Keep.same (s3.trans s5)), hh.2.2 _ (List.getElem_mem hp), by omega, ⟨z, ps5, rfl, h5, pr5, by omega⟩, lotI_in, fun x H6 s6 tx => ⟨by show 2 ≤ sizeLine; decide, fun u nu => ?_⟩⟩
      have sU := (s5.trans s6).trans (same_upd (o := .tup [.int p, .int x]) nu)
      have h7 := sU _ _ h3
      have kT := keep_lst (ys := ps.map V.ref ++ [.ref u]) h7
      refine ⟨_, h7, by rw [List.length_map]; exact small1000 (by omega), ps ++ [u], kv ++ [((p : Int), x)], same_mut (s3.trans sU) hD, ?_, ?_, ?_, ?_⟩
      · rw [upd_same, List.map_append]; rfl
      · exact Paired.snoc (R := PairAtH _) (show PairAtH _ _ _ from kT.tup _ _ upd_same) (pairs_keep ((Keep.same sU).trans kT) pr)
      · rw [List.map_append, fs, List.take_add_one, List.getElem?_eq_getElem hi, ep]; rfl
      · intro x' hx'
        rcases List.mem_append.mp hx' with h | h
        · exact tl x' h
        · rw [List.mem_singleton.mp h]; exact ⟨p, hp, rfl, tx⟩
    · rintro H3 ⟨ps, kv, s3, h3, pr, fs, tl⟩
      rw [List.length_map, List.take_length] at fs
      refine ⟨D, ps, kvOf kv, rfl, .inl (.inl h3), pairs_sq pr, fun d nd => ?_⟩
      have s4 := s3.trans (same_upd (o := .dK (mergeK [] (kvOf kv))) nd)
      have hd4 := upd_same (H := H3) (a := d) (o := HO.dK (mergeK [] (kvOf kv)))
      have hS4 := hS.keep (Keep.same s4)
      refine ⟨.ref st, rfl, st, _, rfl, hS4.sq, fun D2 hD2 => ?_⟩
      refine lc_it (walk_enumT (xs := ns.map V.int)) (fun n H5 => ∃ ms : List Int, Same (upd H3 d (.dK (mergeK [] (kvOf kv)))) H5 ∧ H5 D2 = some (.lst (ms.map V.int)) ∧ ms.length = n ∧ ∀ (i : Nat) (h : i < rs.length), i < n → ((i : Int) ∈ qs → Tell rs[i] (lotI rs[i] ns i) (nth ms i)) ∧ (¬ (i : Int) ∈ qs → nth ms i = nth ns i)) ⟨[], same_upd hD2, upd_same, rfl, fun i _ h => absurd h (by omega)⟩ ?_ ?_ ?_
      · rintro n H5 _ ⟨ms, s5, _⟩
        exact (hS4.keep (Keep.same s5)).sq
      · rintro n y H5 H6 hi ⟨ms, s5, h5, m5, t5⟩ ⟨t, x1, x2, rfl, nt, rfl, e1', e2'⟩
        rw [List.length_map] at hi
        have e2'' : (ns.map V.int)[n]? = some x2 := e2'
        have gn := nth_get (ns := ns) (p := (n : Int)) (by omega) (by omega)
        rw [Int.toNat_natCast, e2''] at gn
        cases gn
        cases e1'
        have sT := s5.trans (same_upd (o := .tup [V.int ((n : Nat) : Int), V.int (nth ns n)]) nt)
        have hdT := sT _ _ hd4
        have h5T := same_upd (o := .tup [V.int ((n : Nat) : Int), V.int (nth ns n)]) nt _ _ h5
        refine ⟨t, _, rfl, .inl (.inl upd_same), rfl, _, _, rfl, _, _, rfl, rfl, rfl, yes (iteT ?_)⟩
        refine ⟨.ref d, rfl, d, rfl, .inl ⟨_, .inl hdT⟩, .int n, rfl, .int (nth ns n), rfl, _, DGet.k (k := Sum.inl (n : Int)) hdT, ?_⟩
        have fin : ∀ z : Int, (((n : Int) ∈ qs → ∀ h : n < rs.length, Tell rs[n] (lotI rs[n] ns n) z) ∧ (¬ (n : Int) ∈ qs → z = nth ns n)) → (valV (mergeK [] (kvOf kv)) (Sum.inl (n : Int))).getD (.int (nth ns n)) = .int z → ∃ acc, (upd H5 t (.tup [V.int ((n : Nat) : Int), V.int (nth ns n)])) D2 = some (.lst acc) ∧ acc.length < sizeLine ∧ ∃ ms : List Int, Same (upd H3 d (.dK (mergeK [] (kvOf kv)))) (upd (upd H5 t (.tup [V.int ((n : Nat) : Int), V.int (nth ns n)])) D2 (.lst (acc ++ [(valV (mergeK [] (kvOf kv)) (Sum.inl (n : Int))).getD (.int (nth ns n))]))) ∧ (upd (upd H5 t (.tup [V.int ((n : Nat) : Int), V.int (nth ns n)])) D2 (.lst (acc ++ [(valV (mergeK [] (kvOf kv)) (Sum.inl (n : Int))).getD (.int (nth ns n))]))) D2 = some (.lst (ms.map V.int)) ∧ ms.length = n + 1 ∧ ∀ (i : Nat) (h : i < rs.length), i < n + 1 → ((i : Int) ∈ qs → Tell rs[i] (lotI rs[i] ns i) (nth ms i)) ∧ (¬ (i : Int) ∈ qs → nth ms i = nth ns i) := by
          intro z hz ez
          rw [ez]
          refine ⟨_, h5T, by rw [List.length_map]; exact small1000 (by omega), ms ++ [z], same_mut sT hD2, by rw [upd_same, List.map_append]; rfl, by rw [List.length_append, m5]; rfl, fun i h hi' => ?_⟩
          by_cases c : i = n
          · subst c
            have e : nth (ms ++ [z]) (i : Int) = z := by
              unfold nth
              rw [Int.toNat_natCast, List.getD_eq_getElem?_getD, List.getElem?_append_right (by omega), m5, Nat.sub_self]; rfl
            rw [e]
            exact ⟨fun hq' => hz.1 hq' h, hz.2⟩
          · have e : nth (ms ++ [z]) (i : Int) = nth ms i := by
              unfold nth
              rw [Int.toNat_natCast, List.getD_eq_getElem?_getD, List.getD_eq_getElem?_getD, List.getElem?_append_left (by omega)]
            rw [e]
            exact t5 i h (by omega)
        rcases merge_get kv [] (n : Int) with ⟨y, g1, g2⟩ | ⟨g1, g2⟩
        · refine fin y ⟨fun _ h => ?_, fun z => ?_⟩ (by rw [g1]; rfl)
          · obtain ⟨i, hi2, e, ty⟩ := tl _ g2
            have e' : i = n := by have : (n : Int) = (i : Int) := e; omega
            subst e'
            exact ty
          · exact absurd (by rw [← fs]; exact List.mem_map.mpr ⟨_, g2, rfl⟩) z
        · refine fin (nth ns n) ⟨fun z => ?_, fun _ => rfl⟩ (by rw [g2]; rfl)
          exact absurd z (by rw [← fs]; exact g1)
      · rintro H5 ⟨ms, s5, h5, m5, t5⟩
        rw [List.length_map] at m5 t5
        refine ⟨D2, _, rfl, .inl (.inl h5), fun t o nt od => ?_⟩
        exact q t ms _ ((s4.trans s5).trans (same_upd nt)) ((s4.trans s5).free nt) (.inr ⟨o, od, upd_same⟩) ⟨m5, fun i h => t5 i h (by omega)⟩
end
end Lh

namespace Lh
open PySem PySem.Spec PyProof.Rows L2
section
variable {P : Program} {w : World} {K : PySem.W.Frag} {mg : Str → Option Value} {base : Heap}
def spLawRestless : Sp := fun vs H Q _ => ∃ (l st : Addr) (us : List V) (rs : List Rule) (ns : List Int), vs = [.ref l, .ref st] ∧ TupAt H l us ∧ RulesAt H us rs ∧ Halls rs ∧ TupAt H st (ns.map V.int) ∧ ns.length = rs.length ∧
  ∀ (z : Addr) (H' : Hp), Same H H' → H z = none → H' z = some (.lst ((restL rs ns).map V.int)) → Q (.ref z) H'
set_option maxHeartbeats 1000000 in
theorem ok_law_restless (T : Txt K mg w) : FnOk P w K mg base CX0 4 T.f_restless T.fd_restless p_restless spLawRestless := by
  have G_turned := ok_law_turned (P := P) (w := w) (base := base) T
  refine T.F_restless.ok sc_restless (fun vs H Q E h => ?_) (fun cdv A outer s H vs Q E hr h => ?_)
  · obtain ⟨l, st, us, rs, ns, rfl, _⟩ := h
    rfl
  · obtain ⟨l, st, us, rs, ns, rfl, hl, ra, hh, hS, hn, q⟩ := h
    have r1 := hh.2.1
    have lu : us.length = rs.length := ra.length
    have bt := beatF_ok hn
    refine ⟨_, (pss_cons (ps_set (i := 2) sc_restless.nd rfl (.inl rfl) (pe_call G_turned (hr.mono (by decide)) (by rfl) T.g_turned T.F_turned.kp T.b_turned .nil pass0 (pa_cons (pv 0) (pa_cons (pv 1) (pa_cons (pe_listRg (by rfl) (by rfl) T.m_list (prg_1 (by rfl) T.m_range (pe_callB call_len_seq (by rfl) T.m_len (by decide +kernel) (pa_cons (pv 0) pa_nil)))) pa_nil)))))
      (pss_one (ps_ret (pe_lc (own := [("_law_one", 3), ("_law_number", 4)]) (g := gTup K 2 (gCons (gName 3) (gCons (gName 4) gNil))) (by rfl) sc_restless.nd (pi_enumT (by rfl) T.m_enumerate (pa_cons (pv 2) pa_nil)) (blkOk_by (own := [("_law_one", 3), ("_law_number", 4)]) (N := n_restless) (sc := defScope s_restless) (by decide +kernel)) (fun _ _ _ _ _ => (pg_tup rfl (pgs_cons (pg_name (i := 3) sc_restless.nd rfl (.inl rfl) (.inr rfl)) (pgs_cons (pg_name (i := 4) sc_restless.nd rfl (.inl rfl) (.inr rfl)) pgs_nil)))) (fun _ _ _ _ _ => (pts_one (pt_cmpR op_ne (pv 4) (pe_ix (r := rIxT K) ix_tup (pv 1) (pv 3) (fun _ _ => rfl)) (nomark _)))) (fun _ _ _ _ _ => (pv 3)))))), ?_⟩
    refine ⟨.ref l, rfl, .ref st, rfl, .ref l, rfl, l, _, rfl, .inr hl.sq, _, rfl, RgOk.of_le (by omega) (by omega) (by omega) (by omega), fun pl np => ?_⟩
    rw [lu]
    have s0 := same_upd (o := .lst (rgV 0 (rs.length : Int))) np
    refine ⟨l, st, pl, us, rs, ns, (List.range ((rs.length : Int)).toNat).map (fun k : Nat => (k : Int)), rfl, hl.keep (Keep.same s0), ra.keep (Keep.same s0), hh, hS.keep (Keep.same s0), hn, by rw [upd_same, rg_ints], (rg_rising _ (by omega)).2, by rw [List.length_map, List.length_range]; omega, fun t ms H1 s1 nt ht tu => ?_⟩
    have be : Beat rs ns ms := ⟨tu.1, fun i hi => ⟨fun _ => (tu.2 i hi).1 (List.mem_map.mpr ⟨i, List.mem_range.mpr (by omega), rfl⟩), fun z => absurd trivial z⟩⟩
    have em : ms = beatF rs ns := be.unique hn bt
    have sH1 := s0.trans s1
    have hS1 := hS.keep (Keep.same sH1)
    have lm : ms.length = rs.length := by rw [be.1]; exact hn
    refine ⟨.ref t, rfl, t, _, rfl, ht.sq, fun D hD => ?_⟩
    refine lc_it (walk_enumT (xs := ms.map V.int)) (fun i H3 => Same H1 H3 ∧ H3 D = some (.lst ((((List.range i).filter fun i : Nat => decide (nth (beatF rs ns) i ≠ nth ns i)).map fun k : Nat => (k : Int)).map V.int))) ⟨same_upd hD, upd_same⟩ ?_ ?_ ?_
    · rintro i H3 _ ⟨s3, _⟩
      exact (ht.keep (Keep.same s3)).sq
    · rintro i y H3 H4 hi ⟨s3, h3⟩ ⟨u, x1, x2, rfl, nu, rfl, e1, e2⟩
      rw [List.length_map] at hi
      have hi' : i < rs.length := by omega
      have e1' : x1 = .int (i : Nat) := (Option.some.inj e1).symm
      have e2' : x2 = .int (nth (beatF rs ns) i) := by
        have h1 := nth_get (ns := ms) (p := (i : Int)) (by omega) (by omega)
        rw [Int.toNat_natCast] at h1
        rw [← em]
        exact Option.some.inj (e2.symm.trans h1)
      subst e1' e2'
      have sU := same_upd (o := .tup [.int (i : Nat), .int (nth (beatF rs ns) i)]) nu
      have hS4 := (hS1.keep (Keep.same s3)).keep (Keep.same sU)
      refine ⟨u, _, rfl, .inl (.inl upd_same), rfl, _, _, rfl, _, _, rfl, rfl, rfl, ?_⟩
      refine ⟨.int (nth (beatF rs ns) i), rfl, .ref st, rfl, .int (i : Nat), rfl, st, _, _, _, rfl, rfl, hS4.sq, nth_at (by omega) (by omega), rfl, _, rfl, ?_⟩
      refine ite2 (fun z => ?_) (fun z => ?_)
      · have ne : nth (beatF rs ns) i ≠ nth ns i := by simpa using z
        refine ⟨.int (i : Nat), rfl, _, sU _ _ h3, by rw [List.length_map, List.length_map]; exact small1000 (Nat.le_trans (List.length_filter_le _ _) (by rw [List.length_range]; omega)), same_mut (s3.trans sU) hD, ?_⟩
        rw [upd_same, List.range_succ, List.filter_append, List.map_append, List.map_append, List.filter_cons, if_pos (decide_eq_true ne)]
        rfl
      · have eq : nth (beatF rs ns) i = nth ns i := by simpa using z
        refine ⟨s3.trans sU, ?_⟩
        rw [sU _ _ h3, List.range_succ, List.filter_append, List.filter_cons, if_neg (by simpa using eq), List.filter_nil, List.append_nil]
    · rintro H3 ⟨s3, h3⟩
      rw [List.length_map, lm] at h3
      exact q D H3 (sH1.trans s3) (sH1.free hD) h3
end
end Lh

namespace Lh
open PySem PySem.Spec PyProof.Rows L2
/-- each sees the next one, the last one nobody, or the first one -/
def nextT (n : Nat) (ring : Bool) (i : Nat) : List (Int × Int) := if i + 1 < n then [((i : Int) + 1, 1)] else if ring = true then [(0, 1)] else []
def nextR (n : Nat) (ring : Bool) : List Rule := (List.range n).map fun i => Rule.sum 0 (nextT n ring i)
theorem nextR_len (n : Nat) (ring : Bool) : (nextR n ring).length = n := by
  unfold nextR
  rw [List.length_map, List.length_range]
theorem nextT_mem {n i : Nat} {ring : Bool} (hi : i < n) : ∀ q ∈ nextT n ring i, 0 ≤ q.1 ∧ q.1 < n ∧ q.2 = 1 := by
  intro q hq
  unfold nextT at hq
  by_cases c : i + 1 < n
  · rw [if_pos c, List.mem_singleton] at hq
    rw [hq]
    exact ⟨by show (0 : Int) ≤ (i : Int) + 1; omega, by show (i : Int) + 1 < n; omega, rfl⟩
  · rw [if_neg c] at hq
    by_cases d : ring = true
    · rw [if_pos d, List.mem_singleton] at hq
      rw [hq]
      exact ⟨by decide, by show (0 : Int) < n; omega, rfl⟩
    · rw [if_neg d] at hq
      exact absurd hq (by simp)
theorem nextT_one (n i : Nat) (ring : Bool) : nextT n ring i = [] ∨ ∃ q, nextT n ring i = [q] := by
  unfold nextT
  by_cases c : i + 1 < n
  · rw [if_pos c]; exact .inr ⟨_, rfl⟩
  · rw [if_neg c]
    by_cases d : ring = true
    · rw [if_pos d]; exact .inr ⟨_, rfl⟩
    · rw [if_neg d]; exact .inl rfl
theorem nextR_halls {n : Nat} (ring : Bool) (h1 : 1 ≤ n) (h2 : n ≤ 12) : Halls (nextR n ring) := by
  refine ⟨by rw [nextR_len]; exact h1, by rw [nextR_len]; exact h2, fun r hr => ?_⟩
  rw [nextR_len]
  obtain ⟨i, hi, rfl⟩ := List.mem_map.mp hr
  have hi := List.mem_range.mp hi
  have key := nextT_mem (ring := ring) hi
  refine ⟨⟨by decide, by decide⟩, ⟨?_, fun m hm => ?_⟩, fun q hq => ?_⟩
  · rcases nextT_one n i ring with e | ⟨q, e⟩
    · rw [e]; exact List.Pairwise.nil
    · rw [e]; exact List.pairwise_singleton _ _
  · obtain ⟨q, hq, rfl⟩ := List.mem_map.mp hm
    exact ⟨(key q hq).1, (key q hq).2.1⟩
  · rw [(key q hq).2.2]
    exact ⟨by decide, by decide⟩
/-- ties that stand in written tuples -/
def o00 : Obj := { cls := .type "tuple", data := .seq #[] }
theorem ties_one {H : Hp} {t p : Addr} {q : Int × Int} (ht : H t = some (.tup [.ref p])) (hp : H p = some (.tup [.int q.1, .int q.2])) : TiesAt H t [q] := ⟨o00, [p], rfl, .inl ht, .cons hp .nil⟩
theorem ties_none {H : Hp} {t : Addr} (ht : H t = some (.tup [])) : TiesAt H t [] := ⟨o00, [], rfl, .inl ht, .nil⟩
def TieAll (H : Hp) : List Addr → List (List (Int × Int)) → Prop := Paired (TiesAt H)
theorem TieAll.keep {H H' : Hp} (k : Keep H H') : ∀ {ts : List Addr} {rs : List (List (Int × Int))}, TieAll H ts rs → TieAll H' ts rs
  | _, _, .nil => .nil
  | _, _, .cons h r => .cons (h.keep k) (TieAll.keep k r)
/-- NoRest(number) -/
def NoR (X : Addr) (E : XK) (H : Hp) (p : Int) : Prop := ∀ (d : Addr) (H' : Hp), Same H H' → H d = none → H' d = some (.xd [("number", .int p)]) → E (.ref X) (some d) H'
section
variable {P : Program} {w : World} {K : PySem.W.Frag} {mg : Str → Option Value} {base : Heap}
theorem ok_NoRest_init (T : Txt K mg w) : FnOk P w K mg base CX0 1 T.f_NoRest_init T.fd_NoRest_init p_NoRest_init (spInitF T.C_NoRest "number") := by
  refine T.F_NoRest_init.ok sc_NoRest_init (fun vs H Q E h => ?_) (fun cdv A outer s H vs Q E hr h => ?_)
  · obtain ⟨a, v, rfl, _⟩ := h
    rfl
  · obtain ⟨a, v, rfl, ha, q⟩ := h
    refine ⟨_, (pss_cons (ps_expr (pe_base (B := "IndexError") ty_IndexError boot_IndexError (by rfl) T.m_IndexError T.vi_IndexError (pa_cons (pv 0) (pa_cons pe_str pa_nil)) (by decide) (by decide) (by decide +kernel) (by decide +kernel)))
      (pss_one (ps_put (pv 0) (pv 1)))), ?_⟩
    refine ⟨.ref a, rfl, a, T.C_NoRest, _, rfl, by show 1 ≤ 1000; decide, ⟨_, _, T.ox_NoRest⟩, ha, ?_⟩
    exact ⟨v, rfl, .ref a, rfl, a, T.C_NoRest, rfl, ⟨_, _, _, _, T.ox_NoRest⟩, T.na_NoRest_number, ha, q⟩
def spCounts1 : Sp := fun vs H Q _ => ∃ (n : Nat) (ring : Bool), vs = [.int n, .bl ring] ∧ 1 ≤ n ∧ n ≤ 100 ∧ Q (.int (cntK ring n : Nat)) H
theorem ok_line_counts1 (T : Txt K mg w) : FnOk P w K mg base CX0 2 T.f_line_counts T.fd_line_counts p_line_counts spCounts1 := by
  have G_ways_of := ok_ways_of (P := P) (w := w) (base := base) T
  refine T.F_line_counts.ok sc_line_counts (fun vs H Q E h => ?_) (fun cdv A outer s H vs Q E hr h => ?_)
  · obtain ⟨n, ring, rfl, _⟩ := h
    rfl
  · obtain ⟨n, ring, rfl, n0, n1, q⟩ := h
    refine ⟨_, PSs.nox (pss_cons (ps_if (pt_val (pv 1))
        (pss_one (ps_ret (pe_op op_add (pe_call G_ways_of (hr.mono (by decide)) (by rfl) T.g_ways_of T.F_ways_of.kp T.b_ways_of .nil pass0 (pa_cons (pe_op op_sub (pv 0) pe_int) pa_nil)) (pe_call G_ways_of (hr.mono (by decide)) (by rfl) T.g_ways_of T.F_ways_of.kp T.b_ways_of .nil pass0 (pa_cons (pe_op op_sub (pv 0) pe_int) pa_nil)))))
        pss_nil)
      (pss_one (ps_ret (pe_call G_ways_of (hr.mono (by decide)) (by rfl) T.g_ways_of T.F_ways_of.kp T.b_ways_of .nil pass0 (pa_cons (pe_op op_sub (pv 0) pe_int) pa_nil))))), ?_⟩
    refine ⟨.bl ring, rfl, ring, rfl, ite2 (fun z => ?_) (fun z => ?_)⟩
    · subst z
      refine ⟨.int n, rfl, _, _, rfl, rfl, n + 1, by show [V.int ((n : Int) - 1)] = [V.int (((n + 1 : Nat) : Int) - 2)]; rw [show ((n + 1 : Nat) : Int) - 2 = (n : Int) - 1 by omega], by omega, ?_⟩
      refine ⟨.int n, rfl, _, _, rfl, rfl, n - 1, by show [V.int ((n : Int) - 3)] = [V.int (((n - 1 : Nat) : Int) - 2)]; rw [show ((n - 1 : Nat) : Int) - 2 = (n : Int) - 3 by omega], by omega, ?_⟩
      exact ⟨_, _, rfl, rfl, q⟩
    · have z : ring = false := by simpa using z
      subst z
      exact ⟨.int n, rfl, _, _, rfl, rfl, n + 1, by show [V.int ((n : Int) - 1)] = [V.int (((n + 1 : Nat) : Int) - 2)]; rw [show ((n + 1 : Nat) : Int) - 2 = (n : Int) - 1 by omega], by omega, q⟩
def spLineRestX (X : Addr) : Sp := fun vs H Q E => ∃ (n : Nat) (p : Int) (ring : Bool), vs = [.int n, .int p, .bl ring] ∧ 1 ≤ n ∧ n ≤ 100 ∧
  (∀ k : Nat, p = (k : Int) → k < cntK ring n → ∀ (t : Addr) (H' : Hp), Same H H' → TupAt H' t ((rowK ring n k).map V.int) → Q (.ref t) H') ∧ (¬ (0 ≤ p ∧ p < cntK ring n) → NoR X E H p)
set_option maxHeartbeats 2000000 in
theorem ok_line_restX (T : Txt K mg w) : FnOk P w K mg base (L2.CX P w) 3 T.f_line_rest T.fd_line_rest p_line_rest (spLineRestX T.C_NoRest) := by
  have G_line_counts := ok_line_counts1 (P := P) (w := w) (base := base) T
  have G_ways_behind := ok_ways_behindL (P := P) (w := w) (base := base) T
  have G_NoRest_init := ok_NoRest_init (P := P) (w := w) (base := base) T
  refine T.F_line_rest.ok sc_line_rest (fun vs H Q E h => ?_) (fun cdv A outer s H vs Q E hr h => ?_)
  · obtain ⟨n, p, ring, rfl, _⟩ := h
    rfl
  · obtain ⟨n, p, ring, rfl, n0, n1, qQ, qE⟩ := h
    refine ⟨_, (pss_cons (ps_if (pt_not (pt_chain op_le op_lt pe_int (pv 1) (pe_callN G_line_counts (hr.mono (by decide)) (by rfl) T.g_line_counts T.F_line_counts.kp T.kb_line_counts pass0 (pa_cons (pv 0) pa_nil) (pk_cons (pv 2) pk_nil))))
        (pss_one (ps_raise rfl (takes_of rfl rfl rfl rfl) (pmk_own T.ox_NoRest T.me_NoRest_init.1 T.ti_NoRest G_NoRest_init (hr.mono (by decide)) T.b_NoRest_init .nil pass0 (by rfl) T.g_NoRest (pa_cons (pv 1) pa_nil))))
        pss_nil)
      (pss_cons (ps_set (i := 3) sc_line_rest.nd rfl (.inl rfl) (pe_lst pa_nil))
      (pss_cons (ps_set (i := 4) sc_line_rest.nd rfl (.inl rfl) (pv 1))
      (pss_cons (ps_while PassesOwn.leaving (pt_cmpR op_lt (pe_callB call_len_seq (by rfl) T.m_len (by decide +kernel) (pa_cons (pv 3) pa_nil)) (pv 0) (nomark _))
        (pss_cons (ps_set (i := 5) sc_line_rest.nd rfl (.inl rfl) (pe_call G_ways_behind (hr.mono (by decide)) (by rfl) T.g_ways_behind T.F_ways_behind.kp T.b_ways_behind .nil pass0 (pa_cons (pe_op op_sub (pe_op op_sub (pv 0) (pe_callB call_len_seq (by rfl) T.m_len (by decide +kernel) (pa_cons (pv 3) pa_nil))) pe_int) (pa_cons (pv 3) (pa_cons (pv 2) pa_nil)))))
        (pss_one (ps_if (pt_cmpR op_lt (pv 4) (pv 5) (nomark _))
          (pss_one (ps_expr (pe_bm PySem.F.plainAttrs_list PySem.F.slot_list_append PySem.F.type_list_append mt_append (pv 3) (pa_cons pe_int pa_nil))))
          (pss_cons (ps_expr (pe_bm PySem.F.plainAttrs_list PySem.F.slot_list_append PySem.F.type_list_append mt_append (pv 3) (pa_cons pe_int pa_nil)))
          (pss_one (ps_aug (i := 4) sc_line_rest.nd rfl (.inl rfl) (pv 5) ip_sub)))))))
      (pss_one (ps_ret (pe_callTy call_tupleF (by rfl) T.m_tuple (by decide +kernel) (pa_cons (pv 3) pa_nil)))))))), ?_⟩
    have raise : ¬ (0 ≤ p ∧ p < cntK ring n) → tMkO T.C_NoRest (spInitF T.C_NoRest "number") [] (tCons (tVar 1) tNil) (L2.start n_line_rest [V.int n, V.int p, V.bl ring]) H fun a b c => E a b c := fun c => by
      refine ⟨.int p, rfl, by show 1 ≤ 1000; decide, fun e ne => ?_⟩
      refine ⟨e, .int p, rfl, upd_same, fun d nd nde => ⟨rfl, d, [("number", .int p)], upd_same, ?_, ?_, ?_⟩⟩
      · rw [upd_ne nde, upd_same]
      · rw [upd_ne nde] at nd; exact nd
      · rw [upd_ne nde] at nd
        refine qE c d _ (fun b o hbo => ?_) nd upd_same
        have n1 : b ≠ e := ne_of_none hbo ne
        have n2 : b ≠ d := ne_of_none hbo nd
        rw [upd_ne n2, L2.del_ne n1, upd_ne n1, upd_ne n2, upd_ne n1]
        exact hbo
    refine ⟨.int p, rfl, _, _, rfl, rfl, _, rfl, ite2 (fun c0 => ?_) (fun c0 => ?_)⟩
    · have p0 : 0 ≤ p := of_decide_eq_true c0
      refine ⟨.int n, rfl, .bl ring, rfl, rfl, rfl, n, ring, rfl, n0, n1, _, _, rfl, rfl, _, rfl, ?_⟩
      by_cases c1 : p < cntK ring n
      · refine iteN (by rw [decide_eq_true c1]; rfl) ?_
        obtain ⟨k, rfl⟩ : ∃ k : Nat, p = (k : Int) := ⟨p.toNat, by omega⟩
        have kc : k < cntK ring n := by omega
        have q := qQ k rfl kc
        clear raise qQ qE
        refine ⟨Nat.zero_le _, fun R nR => ⟨_, rfl, ?_⟩⟩
        refine while_idx n (fun r σ H3 => ∃ (pre : List Int) (a : Nat) (y5 : Option V), σ = [some (.int n), some (.int k), some (.bl ring), some (.ref R), some (.int a), y5] ∧ Same H H3 ∧ H3 R = some (.lst (pre.map V.int)) ∧ pre.length = r ∧ r ≤ n ∧ decP ring (n - r) pre a = rowK ring n k) ⟨[], k, none, rfl, same_upd nR, upd_same, rfl, Nat.zero_le _, rfl⟩ ?_ ?_
        · rintro r σ H3 ⟨pre, a, y5, rfl, s3, h3, lr, rn, ed⟩
          refine ⟨.ref R, rfl, R, _, rfl, .inl (.inl (.inl h3)), .int n, rfl, _, _, rfl, rfl, _, rfl, ite2 (fun z => ?_) (fun z => ?_)⟩
          · have z' : ((pre.map V.int).length : Int) < n := of_decide_eq_true z
            rw [List.length_map] at z'
            have rl : r < n := by omega
            refine ⟨rl, ?_⟩
            obtain ⟨m, em⟩ : ∃ m, n - r = m + 1 := ⟨n - r - 1, by omega⟩
            rw [em] at ed
            refine ⟨.int n, rfl, .ref R, rfl, R, _, rfl, .inl (.inl (.inl h3)), _, _, rfl, rfl, _, _, rfl, rfl, .ref R, rfl, .bl ring, rfl, m + 1, R, ring, pre, ?_, by omega, h3, fun H4 s4 => ?_⟩
            · rw [List.length_map]
              show [V.int ((n : Int) - (pre.length : Int) - 1), V.ref R, V.bl ring] = [V.int (((m + 1 : Nat) : Int) - 1), V.ref R, V.bl ring]
              rw [show (n : Int) - (pre.length : Int) - 1 = ((m + 1 : Nat) : Int) - 1 by omega]
            have h4 := s4 _ _ h3
            rw [decP_succ] at ed
            refine ⟨.int a, rfl, _, rfl, _, _, rfl, rfl, _, rfl, ite2 (fun z2 => ?_) (fun z2 => ?_)⟩
            · have z2' : (a : Int) < (fb (m + 1 + exE ring pre) : Nat) := of_decide_eq_true z2
              rw [if_pos (by omega)] at ed
              refine ⟨.ref R, rfl, .inl ⟨rfl, _, .inl (.inl h4)⟩, R, _, _, rfl, rfl, h4, by rw [List.length_map]; exact small1000 (by omega), ?_⟩
              refine ⟨pre ++ [0], a, _, rfl, same_mut (s3.trans s4) nR, by rw [upd_same, List.map_append]; rfl, by rw [List.length_append, lr]; rfl, rl, ?_⟩
              rw [show n - (r + 1) = m by omega]
              exact ed
            · have z2' : ¬ (a : Int) < (fb (m + 1 + exE ring pre) : Nat) := fun y => z2 (decide_eq_true y)
              rw [if_neg (by omega)] at ed
              refine ⟨.ref R, rfl, .inl ⟨rfl, _, .inl (.inl h4)⟩, R, _, _, rfl, rfl, h4, by rw [List.length_map]; exact small1000 (by omega), ?_⟩
              refine ⟨_, rfl, _, rfl, _, _, rfl, rfl, ?_⟩
              refine ⟨pre ++ [1], a - fb (m + 1 + exE ring pre), some (.int (fb (m + 1 + exE ring pre) : Nat)), ?_, same_mut (s3.trans s4) nR, by rw [upd_same, List.map_append]; rfl, by rw [List.length_append, lr]; rfl, rl, ?_⟩
              · rw [show ((a - fb (m + 1 + exE ring pre) : Nat) : Int) = (a : Int) - (fb (m + 1 + exE ring pre) : Nat) by omega]
                rfl
              · rw [show n - (r + 1) = m by omega]
                exact ed
          · have z' : ¬ ((pre.map V.int).length : Int) < n := fun y => z (decide_eq_true y)
            rw [List.length_map] at z'
            rw [show n - r = 0 by omega] at ed
            have ed : pre = rowK ring n k := ed
            subst ed
            refine ⟨.ref R, rfl, ?_⟩
            refine ⟨R, _, rfl, .inl (.inl h3), fun t o nt od => q t _ (s3.trans (same_upd nt)) (.inr ⟨o, od, upd_same⟩)⟩
        · intro σ H3 Q1 Q2 hQ h
          obtain ⟨v, h1, a, xs, e, hs, u, h2, i, j, e1, e2, k, e3, h3⟩ := h
          exact ⟨v, h1, a, xs, e, hs, u, h2, i, j, e1, e2, k, e3, hQ _ _ h3⟩
      · refine iteP (by rw [decide_eq_false c1]; rfl) ?_
        exact raise fun z => c1 z.2
    · exact ⟨_, rfl, iteP rfl (raise fun z => c0 (decide_eq_true z.1))⟩
end
end Lh

namespace Lh
open PySem PySem.Spec PyProof.Rows L2
/-- all rows of so many noughts and ones -/
def bitsL : Nat → List (List Int)
  | 0 => [[]]
  | n + 1 => (bitsL n).flatMap fun r => [r ++ [0], r ++ [1]]
def RowsAt (H : Hp) : List Addr → List (List Int) → Prop := Paired fun t row => TupAt H t (row.map V.int)
theorem RowsAt.keep {H H' : Hp} (k : Keep H H') : ∀ {ts : List Addr} {rows : List (List Int)}, RowsAt H ts rows → RowsAt H' ts rows
  | _, _, .nil => .nil
  | _, _, .cons h r => .cons (TupAt.keep k h) (RowsAt.keep k r)
theorem RowsAt.app {H : Hp} : ∀ {ts ts2 : List Addr} {rows rows2 : List (List Int)}, RowsAt H ts rows → RowsAt H ts2 rows2 → RowsAt H (ts ++ ts2) (rows ++ rows2)
  | _, _, _, _, .nil, h => h
  | _, _, _, _, .cons h r, h2 => .cons h (RowsAt.app r h2)
theorem bitsL_len : ∀ n, (bitsL n).length = 2 ^ n
  | 0 => rfl
  | n + 1 => by
    show ((bitsL n).flatMap fun r => [r ++ [0], r ++ [1]]).length = _
    rw [List.length_flatMap]
    simp only [List.length_cons, List.length_nil]
    have key : ∀ xs : List (List Int), (List.map (fun _ => 0 + 1 + 1) xs).sum = xs.length * 2 := fun xs => by
      induction xs with
      | nil => rfl
      | cons x t ih => rw [List.map_cons, List.sum_cons, ih, List.length_cons]; omega
    rw [key, bitsL_len n, Nat.pow_succ]
theorem bitsL_row : ∀ n, ∀ r ∈ bitsL n, r.length = n
  | 0, r, h => by rw [List.mem_singleton.mp h]; rfl
  | n + 1, r, h => by
    obtain ⟨r0, h0, h1⟩ := List.mem_flatMap.mp h
    have e := bitsL_row n r0 h0
    simp only [List.mem_cons, List.not_mem_nil, or_false] at h1
    rcases h1 with rfl | rfl <;> rw [List.length_append, e] <;> rfl
theorem paired_get {α β : Type} {R : α → β → Prop} : ∀ {xs : List α} {ys : List β}, Paired R xs ys → ∀ (i : Nat) (h1 : i < xs.length) (h2 : i < ys.length), R xs[i] ys[i]
  | _, _, .nil, _, h, _ => absurd h (Nat.not_lt_zero _)
  | _, _, .cons g _, 0, _, _ => g
  | _, _, .cons _ r, i + 1, h1, h2 => paired_get r i (Nat.lt_of_succ_lt_succ h1) (Nat.lt_of_succ_lt_succ h2)
theorem nextT_in {m i : Nat} {ring : Bool} (h : i < m) : nextT (m + 1) ring i = [((i : Int) + 1, 1)] := if_pos (by omega)
theorem nextT_last (m : Nat) (ring : Bool) : nextT (m + 1) ring m = if ring = true then [(0, 1)] else [] := if_neg (by omega)
theorem nextR_snoc (m : Nat) (ring : Bool) : nextR (m + 1) ring = (List.range m).map (fun k => Rule.sum 0 (nextT (m + 1) ring k)) ++ [Rule.sum 0 (if ring = true then [(0, 1)] else [])] := by
  unfold nextR
  rw [List.range_succ, List.map_append, ← nextT_last]
  rfl
section
variable {P : Program} {w : World} {K : PySem.W.Frag} {mg : Str → Option Value} {base : Heap}
def spBits : Sp := fun vs H Q _ => ∃ n : Nat, vs = [.int n] ∧ n ≤ 8 ∧ ∀ (z : Addr) (ts : List Addr) (H' : Hp), Same H H' → H z = none → H' z = some (.lst (ts.map V.ref)) → RowsAt H' ts (bitsL n) → Q (.ref z) H'
set_option maxHeartbeats 2000000 in
theorem ok_bits (T : Txt K mg w) : FnOk P w K mg base CX0 1 T.f_bits T.fd_bits p_bits spBits := by
  refine T.F_bits.ok sc_bits (fun vs H Q E h => ?_) (fun cdv A outer s H vs Q E hr h => ?_)
  · obtain ⟨n, rfl, _⟩ := h
    rfl
  · obtain ⟨n, rfl, n8, q⟩ := h
    refine ⟨_, (pss_cons (ps_set (i := 1) sc_bits.nd rfl (.inl rfl) (pe_lst (pa_cons (pe_tup pa_nil) pa_nil)))
      (pss_cons (ps_for PassesOwn.never rfl (pi_range1 (by rfl) T.m_range (pa_cons (pv 0) pa_nil)) (pg_name (i := 2) sc_bits.nd rfl (.inl rfl))
        (pss_cons (ps_set (i := 3) sc_bits.nd rfl (.inl rfl) (pe_lst pa_nil))
        (pss_cons (ps_for PassesOwn.never rfl (pi_list (pv 1)) (pg_name (i := 4) sc_bits.nd rfl (.inl rfl))
          (pss_one (ps_set (i := 3) sc_bits.nd rfl (.inl rfl) (pe_op op_cat (pv 3) (pe_lst (pa_cons (pe_op op_catA (pv 4) (pe_tup (pa_cons pe_int pa_nil))) (pa_cons (pe_op op_catA (pv 4) (pe_tup (pa_cons pe_int pa_nil))) pa_nil)))))))
        (pss_one (ps_set (i := 1) sc_bits.nd rfl (.inl rfl) (pv 3))))))
      (pss_one (ps_ret (pv 1))))), ?_⟩
    refine ⟨Nat.zero_le _, fun t0 nt0 => ⟨by show 1 ≤ sizeLine; decide, fun z0 nz0 => ?_⟩⟩
    have st0 := same_upd (o := .tup []) nt0
    have sz0 := same_upd (o := .lst [V.ref t0]) nz0
    refine ⟨.int n, rfl, _, rfl, by omega, by omega, ?_⟩
    refine for_it walk_range (fun k σ H3 => ∃ (f : Addr) (ts : List Addr) (y2 y3 y4 : Option V), σ = [some (.int n), some (.ref f), y2, y3, y4] ∧ Same H H3 ∧ H f = none ∧ H3 f = some (.lst (ts.map V.ref)) ∧ RowsAt H3 ts (bitsL k)) ⟨z0, [t0], none, none, none, rfl, st0.trans sz0, st0.free nz0, upd_same, .cons (.inl (sz0 _ _ upd_same)) .nil⟩ (fun _ _ _ _ _ => trivial) ?_ ?_
    · rintro k x σ H3 H4 hk ⟨f, ts, y2, y3, y4, rfl, s3, nf, hf, ra⟩ ⟨rfl, rfl⟩
      have hk' : k < n := by have : k < ((n : Nat) : Int).toNat := hk; omega
      have lts : ts.length = 2 ^ k := by rw [ra.length, bitsL_len]
      have l256 : 2 ^ k ≤ 128 := Nat.le_trans (Nat.pow_le_pow_right (by decide) (by omega : k ≤ 7)) (by decide)
      refine ⟨Nat.zero_le _, fun g ng => ?_⟩
      have sg := same_upd (o := .lst []) ng
      have hg := upd_same (H := H4) (a := g) (o := HO.lst [])
      generalize upd H4 g (.lst []) = H5 at sg hg ⊢
      refine ⟨.ref f, rfl, f, rfl, ⟨_, .inl (.inl (sg _ _ hf))⟩, ?_⟩
      refine for_it (walk_listR ts) (fun j σ H6 => ∃ (f2 : Addr) (us : List Addr) (y4 : Option V), σ = [some (.int n), some (.ref f), some (.int (0 + (k : Int))), some (.ref f2), y4] ∧ Same H4 H6 ∧ H4 f2 = none ∧ H6 f2 = some (.lst (us.map V.ref)) ∧ RowsAt H6 us (((bitsL k).take j).flatMap fun r => [r ++ [0], r ++ [1]])) ⟨g, [], y4, rfl, sg, ng, hg, .nil⟩ ?_ ?_ ?_
      · rintro j σ H6 _ ⟨f2, us, y4, rfl, s6, _⟩
        exact .inl (.inl (s6 _ _ hf))
      · rintro j y σ H6 H7 hj ⟨f2, us, y4, rfl, s6, nf2, hf2, ru⟩ ⟨rfl, hy⟩
        rw [List.getElem?_map, List.getElem?_eq_getElem hj] at hy
        cases hy
        have hj2 : j < (bitsL k).length := by rw [← ra.length]; exact hj
        have htr := (paired_get ra j hj hj2).keep (Keep.same s6)
        have lrow := bitsL_row k _ (List.getElem_mem hj2)
        have tk : (bitsL k).take (j + 1) = (bitsL k).take j ++ [(bitsL k)[j]] := List.take_succ_eq_append_getElem hj2
        have lus : us.length ≤ 2 * j := by
          rw [ru.length]
          have key : ∀ xs : List (List Int), (xs.flatMap fun r => [r ++ [0], r ++ [1]]).length = 2 * xs.length := fun xs => by
            induction xs with
            | nil => rfl
            | cons x t ih => rw [List.flatMap_cons, List.length_append, ih, List.length_cons]; show 2 + 2 * t.length = 2 * (t.length + 1); omega
          rw [key, List.length_take]; omega
        rw [tk]
        generalize (bitsL k)[j] = row at htr lrow tk ⊢
        have hj3 : j < 2 ^ k := by rw [← lts]; exact hj
        have small2 : (row.map V.int).length + 1 ≤ sizeLine := by rw [List.length_map, lrow]; exact Nat.le_of_lt (small1000 (by omega))
        refine ⟨.ref f2, rfl, .ref ts[j], rfl, by show 1 ≤ sizeLine; decide, fun a1 na1 => ?_⟩
        have sa1 := same_upd (o := .tup [.int 0]) na1
        refine cat_use (htr.keep (Keep.same sa1)) (.inl upd_same) small2 fun c1 Hc1 sc1 hc1 => ?_
        refine ⟨.ref ts[j], rfl, by show 1 ≤ sizeLine; decide, fun a2 na2 => ?_⟩
        have sa2 := same_upd (o := .tup [.int 1]) na2
        refine cat_use (htr.keep (Keep.same (sa1.trans (sc1.trans sa2)))) (.inl upd_same) small2 fun c2 Hc2 sc2 hc2 => ?_
        refine ⟨by show 2 ≤ sizeLine; decide, fun l1 nl1 => ?_⟩
        have sl1 := same_upd (o := .lst [.ref c1, .ref c2]) nl1
        have sAll := sa1.trans (sc1.trans (sa2.trans (sc2.trans sl1)))
        refine ⟨f2, l1, _, _, rfl, rfl, sAll _ _ hf2, upd_same, by rw [List.length_map]; exact Nat.le_of_lt (small1000 (by show us.length + 2 ≤ 1000; omega)), fun e ne => ?_⟩
        have se := same_upd (o := .lst (us.map V.ref ++ [.ref c1, .ref c2])) ne
        refine ⟨e, us ++ [c1, c2], _, rfl, s6.trans (sAll.trans se), (s6.trans sAll).free ne, by rw [upd_same, List.map_append]; rfl, ?_⟩
        rw [List.flatMap_append, List.flatMap_cons, List.flatMap_nil, List.append_nil]
        refine RowsAt.app (ru.keep (Keep.same (sAll.trans se))) (.cons ?_ (.cons ?_ .nil))
        · rw [List.map_append]
          exact hc1.keep (Keep.same (sa2.trans (sc2.trans (sl1.trans se))))
        · rw [List.map_append]
          exact hc2.keep (Keep.same (sl1.trans se))
      · rintro σ H6 ⟨f2, us, y4, rfl, s6, nf2, hf2, ru⟩
        rw [show ts.length = (bitsL k).length from ra.length, List.take_length] at ru
        exact ⟨_, rfl, f2, us, _, _, _, rfl, s3.trans s6, s3.free nf2, hf2, ru⟩
    · rintro σ H3 ⟨f, ts, y2, y3, y4, rfl, s3, nf, hf, ra⟩
      refine ⟨.ref f, rfl, q f ts H3 s3 nf hf ?_⟩
      rw [show ((n : Nat) : Int).toNat = n by omega] at ra
      exact ra
def spNextRules : Sp := fun vs H Q _ => ∃ (n : Nat) (ring : Bool), vs = [.int n, .bl ring] ∧ 1 ≤ n ∧ n ≤ 12 ∧ ∀ (t : Addr) (us : List V) (H' : Hp), Same H H' → TupAt H' t us → RulesAt H' us (nextR n ring) → Q (.ref t) H'
set_option maxHeartbeats 2000000 in
theorem ok_next_rules (T : Txt K mg w) : FnOk P w K mg base CX0 1 T.f_next_rules T.fd_next_rules p_next_rules spNextRules := by
  refine T.F_next_rules.ok sc_next_rules (fun vs H Q E h => ?_) (fun cdv A outer s H vs Q E hr h => ?_)
  · obtain ⟨n, ring, rfl, _⟩ := h
    rfl
  · obtain ⟨n, ring, rfl, n1, n12, q⟩ := h
    obtain ⟨m, rfl⟩ : ∃ m, n = m + 1 := ⟨n - 1, by omega⟩
    refine ⟨_, (pss_cons (ps_setLc (i := 2) (own := [("_law_one", 3)]) (g := gName 3) (by rfl) sc_next_rules.nd rfl rfl (sw_true rfl rfl rfl (by decide +kernel)) (pi_range1 (by rfl) T.m_range (pa_cons (pe_op op_sub (pv 0) pe_int) pa_nil)) (blkOk_by (own := [("_law_one", 3)]) (N := n_next_rules) (sc := defScope s_next_rules) (by decide +kernel)) (fun _ _ _ _ _ => (pg_name (i := 3) sc_next_rules.nd rfl (.inl rfl) (.inr rfl))) (fun _ _ _ _ _ => pts_nil) (fun _ _ _ _ _ => (pe_tup (pa_cons pe_str (pa_cons pe_int (pa_cons (pe_tup (pa_cons (pe_tup (pa_cons (pe_op op_add (pv 3) pe_int) (pa_cons pe_int pa_nil))) pa_nil)) pa_nil))))))
      (pss_one (ps_ret (pe_callTy call_tuple_of (by rfl) T.m_tuple (by decide +kernel) (pa_cons (pe_op op_cat (pv 2) (pe_lst (pa_cons (pe_tup (pa_cons pe_str (pa_cons pe_int (pa_cons (pe_ifExp (pt_val (pv 1)) (pe_tup (pa_cons (pe_tup (pa_cons pe_int (pa_cons pe_int pa_nil))) pa_nil)) (pe_tup pa_nil)) pa_nil)))) pa_nil))) pa_nil))))), ?_⟩
    refine ⟨.int (m + 1 : Nat), rfl, _, _, rfl, rfl, _, rfl, by omega, by omega, fun D hD => ?_⟩
    refine lc_it walk_range (fun i H3 => ∃ us : List V, Same H H3 ∧ H3 D = some (.lst us) ∧ us.length = i ∧ RulesAt H3 us ((List.range i).map fun k => Rule.sum 0 (nextT (m + 1) ring k))) ⟨[], same_upd hD, upd_same, rfl, .nil⟩ (fun _ _ _ _ => trivial) ?_ ?_
    · rintro i v H3 H4 hi ⟨us, s3, h3, lus, ra⟩ ⟨rfl, rfl⟩
      have hi' : i < m := by have : i < (((m + 1 : Nat) : Int) - 1).toNat := hi; omega
      refine ⟨rfl, yes (iteT ?_)⟩
      refine ⟨.int (0 + i), rfl, _, _, rfl, rfl, by show 2 ≤ sizeLine; decide, fun p np => ⟨by show 1 ≤ sizeLine; decide, fun t nt => ⟨by show 3 ≤ sizeLine; decide, fun a na => ?_⟩⟩⟩
      have sp := same_upd (o := .tup [.int (0 + i + 1), .int 1]) np
      have st := same_upd (o := .tup [.ref p]) nt
      have sa := same_upd (o := .tup [.str "sum", .int 0, .ref t]) na
      have s4a := sp.trans (st.trans sa)
      have h3a := s4a _ _ h3
      have kT := keep_lst (ys := us ++ [.ref a]) h3a
      refine ⟨_, h3a, by rw [lus]; exact small1000 (by omega), us ++ [.ref a], same_mut (s3.trans s4a) hD, upd_same, by rw [List.length_append, lus]; rfl, ?_⟩
      rw [List.range_succ, List.map_append]
      refine Paired.snoc (R := RuleAt _) ?_ ((ra.keep (Keep.same s4a)).keep kT)
      refine ⟨a, t, rfl, kT.tup _ _ upd_same, ?_⟩
      rw [nextT_in hi']
      exact TiesAt.keep kT (ties_one (sa _ _ upd_same) ((sa _ _ (st _ _ upd_same)).trans (by rw [Int.zero_add])))
    · rintro H3 ⟨us, s3, h3, lus, ra⟩
      rw [show (((m + 1 : Nat) : Int) - 1).toNat = m by omega] at lus ra
      have fin : ∀ (t : Addr) (H4 : Hp), Same H3 H4 → TiesAt H4 t (if ring = true then [(0, 1)] else []) → ∀ a, H4 a = none → ∀ l, upd H4 a (.tup [.str "sum", .int 0, .ref t]) l = none → ∀ e, upd (upd H4 a (.tup [.str "sum", .int 0, .ref t])) l (.lst [.ref a]) e = none →
          ∀ z, upd (upd (upd H4 a (.tup [.str "sum", .int 0, .ref t])) l (.lst [.ref a])) e (.lst (us ++ [.ref a])) z = none → Q (.ref z) (upd (upd (upd (upd H4 a (.tup [.str "sum", .int 0, .ref t])) l (.lst [.ref a])) e (.lst (us ++ [.ref a]))) z (.tup (us ++ [.ref a]))) := by
        intro t H4 s4 ht a na l nl e ne z nz
        have sa := same_upd (o := .tup [.str "sum", .int 0, .ref t]) na
        have s5 := sa.trans ((same_upd (o := .lst [.ref a]) nl).trans ((same_upd (o := .lst (us ++ [.ref a])) ne).trans (same_upd (o := .tup (us ++ [.ref a])) nz)))
        refine q z _ _ (s3.trans (s4.trans s5)) (.inl upd_same) ?_
        rw [nextR_snoc]
        refine Paired.snoc (R := RuleAt _) ?_ (ra.keep (Keep.same (s4.trans s5)))
        refine ⟨a, t, rfl, ?_, ht.keep (Keep.same s5)⟩
        exact ((same_upd (o := .lst [.ref a]) nl).trans ((same_upd (o := .lst (us ++ [.ref a])) ne).trans (same_upd (o := .tup (us ++ [.ref a])) nz))) _ _ upd_same
      have big : us.length + 1 ≤ sizeLine := by rw [lus]; exact Nat.le_of_lt (small1000 (by omega))
      refine ⟨.ref D, rfl, .bl ring, rfl, ring, rfl, ?_⟩
      cases ring with
      | true =>
        refine iteP rfl ⟨by show 2 ≤ sizeLine; decide, fun p np => ⟨by show 1 ≤ sizeLine; decide, fun t nt => ⟨by show 3 ≤ sizeLine; decide, fun a na => ⟨by show 1 ≤ sizeLine; decide, fun l nl => ?_⟩⟩⟩⟩
        have sp := same_upd (o := .tup [.int 0, .int 1]) np
        have st := same_upd (o := .tup [.ref p]) nt
        refine ⟨D, l, _, _, rfl, rfl, ?_, upd_same, big, fun e ne => ⟨e, _, rfl, .inl ⟨.inl (.inl upd_same), fun z nz => ?_⟩⟩⟩
        · exact ((sp.trans st).trans ((same_upd na).trans (same_upd nl))) _ _ h3
        · exact fin t _ (sp.trans st) (ties_one upd_same (st _ _ upd_same)) a na l nl e ne z nz
      | false =>
        refine iteN rfl ⟨Nat.zero_le _, fun t nt => ⟨by show 3 ≤ sizeLine; decide, fun a na => ⟨by show 1 ≤ sizeLine; decide, fun l nl => ?_⟩⟩⟩
        have st := same_upd (o := .tup []) nt
        refine ⟨D, l, _, _, rfl, rfl, ?_, upd_same, big, fun e ne => ⟨e, _, rfl, .inl ⟨.inl (.inl upd_same), fun z nz => ?_⟩⟩⟩
        · exact (st.trans ((same_upd na).trans (same_upd nl))) _ _ h3
        · exact fin t _ st (ties_none upd_same) a na l nl e ne z nz
def spLineHall (C : Addr) : Sp := fun vs H Q _ => ∃ (n : Nat) (ring : Bool), vs = [.int n, .bl ring] ∧ 1 ≤ n ∧ n ≤ 12 ∧ ∀ (x : Addr) (H' : Hp), Same H H' → HallAt C H' x (nextR n ring) → Q (.ref x) H'
set_option maxHeartbeats 2000000 in
theorem ok_line_hall (T : Txt K mg w) : FnOk P w K mg base CX0 9 T.f_line_hall T.fd_line_hall p_line_hall (spLineHall T.C_Hall) := by
  have G_Hall_init := ok_Hall_init (P := P) (w := w) (base := base) T
  refine T.F_line_hall.ok sc_line_hall (fun vs H Q E h => ?_) (fun cdv A outer s H vs Q E hr h => ?_)
  · obtain ⟨n, ring, rfl, _⟩ := h
    rfl
  · obtain ⟨n, ring, rfl, n1, n12, q⟩ := h
    obtain ⟨m, rfl⟩ : ∃ m, n = m + 1 := ⟨n - 1, by omega⟩
    refine ⟨_, PSs.nox (pss_cons (ps_setLc (i := 2) (own := [("person", 3)]) (g := gName 3) (by rfl) sc_line_hall.nd rfl rfl (sw_true rfl rfl rfl (by decide +kernel)) (pi_range1 (by rfl) T.m_range (pa_cons (pe_op op_sub (pv 0) pe_int) pa_nil)) (blkOk_by (own := [("person", 3)]) (N := n_line_hall) (sc := defScope s_line_hall) (by decide +kernel)) (fun _ _ _ _ _ => (pg_name (i := 3) sc_line_hall.nd rfl (.inl rfl) (.inr rfl))) (fun _ _ _ _ _ => pts_nil) (fun _ _ _ _ _ => (pe_tup (pa_cons (pe_tup (pa_cons (pe_op op_add (pv 3) pe_int) (pa_cons pe_int pa_nil))) pa_nil))))
      (pss_cons (ps_expr (pe_bm PySem.F.plainAttrs_list PySem.F.slot_list_append PySem.F.type_list_append mt_append (pv 2) (pa_cons (pe_ifExp (pt_val (pv 1)) (pe_tup (pa_cons (pe_tup (pa_cons pe_int (pa_cons pe_int pa_nil))) pa_nil)) (pe_tup pa_nil)) pa_nil)))
      (pss_one (ps_ret (pe_make T.mk_Hall G_Hall_init (hr.mono (by decide)) (by rfl) T.g_Hall T.b_Hall_init .nil pass0 (pa_cons (pe_lc (own := [("one", 4)]) (g := gName 4) (by rfl) sc_line_hall.nd (pi_list (pv 2)) (blkOk_by (own := [("one", 4)]) (N := n_line_hall) (sc := defScope s_line_hall) (by decide +kernel)) (fun _ _ _ _ _ => (pg_name (i := 4) sc_line_hall.nd rfl (.inl rfl) (.inr rfl))) (fun _ _ _ _ _ => pts_nil) (fun _ _ _ _ _ => (pe_tup (pa_cons pe_str (pa_cons pe_int (pa_cons (pv 4) pa_nil)))))) pa_nil)))))), ?_⟩
    refine ⟨.int (m + 1 : Nat), rfl, _, _, rfl, rfl, _, rfl, by omega, by omega, fun D hD => ?_⟩
    refine lc_it walk_range (fun i H3 => ∃ ts : List Addr, Same H H3 ∧ H3 D = some (.lst (ts.map V.ref)) ∧ ts.length = i ∧ TieAll H3 ts ((List.range i).map fun k => nextT (m + 1) ring k)) ⟨[], same_upd hD, upd_same, rfl, .nil⟩ (fun _ _ _ _ => trivial) ?_ ?_
    · rintro i v H3 H4 hi ⟨ts, s3, h3, lts, ra⟩ ⟨rfl, rfl⟩
      have hi' : i < m := by have : i < (((m + 1 : Nat) : Int) - 1).toNat := hi; omega
      refine ⟨rfl, yes (iteT ?_)⟩
      refine ⟨.int (0 + i), rfl, _, _, rfl, rfl, by show 2 ≤ sizeLine; decide, fun p np => ⟨by show 1 ≤ sizeLine; decide, fun t nt => ?_⟩⟩
      have sp := same_upd (o := .tup [.int (0 + i + 1), .int 1]) np
      have st := same_upd (o := .tup [.ref p]) nt
      have s4a := sp.trans st
      have h3a := s4a _ _ h3
      have kT := keep_lst (ys := ts.map V.ref ++ [.ref t]) h3a
      refine ⟨_, h3a, by rw [List.length_map, lts]; exact small1000 (by omega), ts ++ [t], same_mut (s3.trans s4a) hD, by rw [upd_same, List.map_append]; rfl, by rw [List.length_append, lts]; rfl, ?_⟩
      rw [List.range_succ, List.map_append]
      refine Paired.snoc (R := TiesAt _) ?_ ((TieAll.keep (Keep.same s4a) ra).keep kT)
      show TiesAt _ t (nextT (m + 1) ring i)
      rw [nextT_in hi']
      exact TiesAt.keep kT (ties_one upd_same ((st _ _ upd_same).trans (by rw [Int.zero_add])))
    · rintro H3 ⟨ts, s3, h3, lts, ra⟩
      rw [show (((m + 1 : Nat) : Int) - 1).toNat = m by omega] at lts ra
      have fin : ∀ (t : Addr) (H4 : Hp), Same H3 H4 → TiesAt H4 t (if ring = true then [(0, 1)] else []) → ∃ H5, H5 = upd H4 D (.lst (ts.map V.ref ++ [.ref t])) ∧ Same H H5 ∧ H5 D = some (.lst ((ts ++ [t]).map V.ref)) ∧ TieAll H5 (ts ++ [t]) ((List.range (m + 1)).map fun k => nextT (m + 1) ring k) := by
        intro t H4 s4 ht
        have h4 := s4 _ _ h3
        have kT := keep_lst (ys := ts.map V.ref ++ [.ref t]) h4
        refine ⟨_, rfl, same_mut (s3.trans s4) hD, by rw [upd_same, List.map_append]; rfl, ?_⟩
        rw [List.range_succ, List.map_append]
        refine Paired.snoc (R := TiesAt _) ?_ ((TieAll.keep (Keep.same s4) ra).keep kT)
        show TiesAt _ t (nextT (m + 1) ring m)
        rw [nextT_last]
        exact ht.keep kT
      refine gname_step ?_
      dsimp only
      refine seq_useN (t := tDrop _) (fun σ H5 => σ = [some (.int (m + 1 : Nat)), some (.bl ring), some (.ref D), none, none] ∧ ∃ t : Addr, Same H H5 ∧ H5 D = some (.lst ((ts ++ [t]).map V.ref)) ∧ TieAll H5 (ts ++ [t]) ((List.range (m + 1)).map fun k => nextT (m + 1) ring k)) (fun N hN => ?_) ?_
      · refine ⟨.ref D, rfl, .inl ⟨rfl, _, .inl (.inl h3)⟩, .bl ring, rfl, ring, rfl, ?_⟩
        have big : (ts.map V.ref).length < sizeLine := by rw [List.length_map, lts]; exact small1000 (by omega)
        cases ring with
        | true =>
          refine iteP rfl ⟨by show 2 ≤ sizeLine; decide, fun p np => ⟨by show 1 ≤ sizeLine; decide, fun t nt => ?_⟩⟩
          have sp := same_upd (o := .tup [.int 0, .int 1]) np
          have st := same_upd (o := .tup [.ref p]) nt
          obtain ⟨H5, e5, g1, g2, g3⟩ := fin t _ (sp.trans st) (ties_one upd_same (st _ _ upd_same))
          refine ⟨D, _, _, rfl, rfl, (sp.trans st) _ _ h3, big, ?_⟩
          rw [e5] at g1 g2 g3
          exact hN _ _ ⟨rfl, t, g1, g2, g3⟩
        | false =>
          refine iteN rfl ⟨Nat.zero_le _, fun t nt => ?_⟩
          have st := same_upd (o := .tup []) nt
          obtain ⟨H5, e5, g1, g2, g3⟩ := fin t _ st (ties_none upd_same)
          refine ⟨D, _, _, rfl, rfl, st _ _ h3, big, ?_⟩
          rw [e5] at g1 g2 g3
          exact hN _ _ ⟨rfl, t, g1, g2, g3⟩
      · rintro σ H5 ⟨rfl, t, s5, h5, rt⟩
        have lt2 : (ts ++ [t]).length = m + 1 := by rw [List.length_append, lts]; rfl
        generalize ts ++ [t] = tt at h5 rt lt2
        refine ⟨.ref D, rfl, D, rfl, ⟨_, .inl (.inl h5)⟩, fun D2 hD2 => ?_⟩
        refine lc_it (walk_listR tt) (fun i H6 => ∃ us : List V, Same H5 H6 ∧ H6 D2 = some (.lst us) ∧ us.length = i ∧ RulesAt H6 us ((List.range i).map fun k => Rule.sum 0 (nextT (m + 1) ring k))) ⟨[], same_upd hD2, upd_same, rfl, .nil⟩ (fun i H6 _ h => by obtain ⟨us, s6, _⟩ := h; exact .inl (.inl (s6 _ _ h5))) ?_ ?_
        · rintro i v H6 H7 hi ⟨us, s6, h6, lus, ra⟩ ⟨rfl, hy⟩
          rw [List.getElem?_map, List.getElem?_eq_getElem hi] at hy
          cases hy
          have hi2 : i < ((List.range (m + 1)).map fun k => nextT (m + 1) ring k).length := by rw [List.length_map, List.length_range]; omega
          have hti := (paired_get rt i hi hi2).keep (Keep.same s6)
          rw [List.getElem_map, List.getElem_range] at hti
          refine ⟨rfl, yes (iteT ⟨.ref tt[i], rfl, by show 3 ≤ sizeLine; decide, fun a na => ?_⟩)⟩
          have sa := same_upd (o := .tup [.str "sum", .int 0, .ref tt[i]]) na
          have h6a := sa _ _ h6
          have kT := keep_lst (ys := us ++ [.ref a]) h6a
          refine ⟨_, h6a, by rw [lus]; exact small1000 (by omega), us ++ [.ref a], same_mut (s6.trans sa) hD2, upd_same, by rw [List.length_append, lus]; rfl, ?_⟩
          rw [List.range_succ, List.map_append]
          refine Paired.snoc (R := RuleAt _) ?_ ((ra.keep (Keep.same sa)).keep kT)
          exact ⟨a, _, rfl, kT.tup _ _ upd_same, (hti.keep (Keep.same sa)).keep kT⟩
        · rintro H6 ⟨us, s6, h6, lus, ra⟩
          rw [lt2] at ra
          refine fun x dx nx ndx nxd => ?_
          have sx : Same H6 (upd (upd H6 dx (.own x)) x (.ins T.C_Hall dx [])) := fun b o hb => by
            rw [upd_ne (ne_of_none hb nx), upd_ne (ne_of_none hb ndx)]
            exact hb
          refine ⟨x, dx, D2, us, nextR (m + 1) ring, rfl, upd_same, sx _ _ h6, RulesAt.keep (Keep.same sx) ra, nextR_halls ring n1 n12, fun H7 k7 hA => ⟨rfl, ?_⟩⟩
          have s7 : Same H6 H7 := fun b o hb => k7 b o (ne_of_none hb nx) (sx b o hb)
          exact q x H7 (s5.trans (s6.trans s7)) hA
def spRefused (X : Addr) : Sp := fun vs H Q _ => ∃ (n : Nat) (p : Int) (ring : Bool), vs = [.int n, .int p, .bl ring] ∧ 1 ≤ n ∧ n ≤ 100 ∧ ¬ (0 ≤ p ∧ p < cntK ring n) ∧ ∀ H', Same H H' → Q (.int p) H'
set_option maxHeartbeats 2000000 in
theorem ok_refused (T : Txt K mg w) : FnOk P w K mg base CX0 4 T.f_refused T.fd_refused p_refused (spRefused T.C_NoRest) := by
  have G_line_rest := ok_line_restX (P := P) (w := w) (base := base) T
  refine T.F_refused.ok sc_refused (fun vs H Q E h => ?_) (fun cdv A outer s H vs Q E hr h => ?_)
  · obtain ⟨n, p, ring, rfl, _⟩ := h
    rfl
  · obtain ⟨n, p, ring, rfl, n1, n2, no, q⟩ := h
    refine ⟨_, (pss_cons (ps_set (i := 3) sc_refused.nd rfl (.inl rfl) pe_non)
      (pss_cons (ps_try_keep (i := 4) rfl rfl rfl sc_refused.nd rfl rfl (tests1 (by exact ⟨rfl, by decide, .inl T.g_NoRest⟩)) (fun W pn xe tk _ => (pss_one (ps_expr (pe_callNS G_line_rest (hr.mono (by decide)) (by rfl) T.g_line_rest T.F_line_rest.kp T.kb_line_rest (fun σ => passAt tk σ) (pa_cons (pv 0) (pa_cons (pv 1) pa_nil)) (pk_cons (pv 2) pk_nil))))) (fun a oe cls d pn _ _ => (pss_one (ps_set (i := 3) sc_refused.nd rfl (.inl rfl) (pv 4)))))
      (pss_cons (ps_if (PW.pt (pw_or (pt_not (pt_val (pe_callB (call_or call_isi call_isX) (by rfl) T.m_isinstance (by decide +kernel) (pa_cons (pv 3) (pa_cons (pe_glob (v := .ref T.C_NoRest) (by rfl) T.g_NoRest rfl) pa_nil))))) (pw_or (pt_val (pe_callB (call_or call_isi call_isX) (by rfl) T.m_isinstance (by decide +kernel) (pa_cons (pv 3) (pa_cons (pe_glob (v := .ref T.C_NoPerson) (by rfl) T.g_NoPerson rfl) pa_nil)))) (pw_or1 (pt_not (pt_val (pe_callB (call_or call_isi call_isX) (by rfl) T.m_isinstance (by decide +kernel) (pa_cons (pv 3) (pa_cons (pe_bltn (v := .ty "IndexError") (by rfl) T.m_IndexError (by decide +kernel) rfl) pa_nil)))))))))
        (pss_one (ps_ret pe_non))
        pss_nil)
      (pss_one (ps_ret (pe_xk (pv 3))))))), ?_⟩
    have xk := T.xc_NoRest
    refine seq_asg (seq_useN (fun σ H1 => ∃ (e d : Addr), σ = [some (.int n), some (.int p), some (.bl ring), some (.ref e), none] ∧ Same H H1 ∧ H1 e = some (exK e (.ref T.C_NoRest) (some d)) ∧ H1 d = some (.xd [("number", .int p)])) (fun N hN => ?_) ?_)
    · refine ⟨.int n, rfl, .int p, rfl, .bl ring, rfl, rfl, rfl, n, p, ring, rfl, n1, n2, fun k e kc => absurd ⟨by omega, by omega⟩ no, fun _ d H' s' nd hd => ⟨T.em_NoRest_NoRest, fun e ne => ⟨.ref e, rfl, ?_⟩⟩⟩
      have se := same_upd (o := exK e (.ref T.C_NoRest) (some d)) ne
      exact hN _ _ ⟨e, d, rfl, s'.trans se, upd_same, se _ _ hd⟩
    rintro σ H1 ⟨e, d, rfl, s1, he, hd⟩
    refine ⟨.ref e, rfl, .inr ⟨e, T.C_NoRest, d, _, .ref T.C_NoRest, .ref T.C_NoRest, _, rfl, he, hd, xk, fun u h => h, T.ki_NoRest_NoRest, ?_⟩⟩
    refine ⟨_, rfl, iteN rfl ?_⟩
    refine ⟨.ref e, rfl, .inr ⟨e, T.C_NoRest, d, _, .ref T.C_NoPerson, .ref T.C_NoPerson, _, rfl, he, hd, xk, fun u h => h, T.ki_NoRest_NoPerson, ?_⟩⟩
    refine ⟨_, rfl, iteN rfl ?_⟩
    refine ⟨.ref e, rfl, .inr ⟨e, T.C_NoRest, d, _, .ty "IndexError", .type "IndexError", _, rfl, he, hd, xk, fun u h => h, T.ki_NoRest_IndexError, ?_⟩⟩
    refine ⟨_, rfl, iteN rfl ?_⟩
    exact ⟨.ref e, rfl, e, T.C_NoRest, d, _, .int p, rfl, he, hd, T.xf_NoRest, T.na_NoRest_number, rfl, q H1 s1⟩
end
end Lh

namespace Lh
open PySem PySem.Spec PyProof.Rows L2
/-! ### which rows of noughts and ones rest -/
def lessT (ns : List Int) (a : Int) : List (Int × Int) → Int
  | [] => 0
  | q :: _ => if nth ns q.1 < a then 1 else 0
theorem tell_next {n i : Nat} {ring : Bool} {ns : List Int} {x : Int} (hi : i < n) : Tell (.sum 0 (nextT n ring i)) (lotI (.sum 0 (nextT n ring i)) ns i) x ↔ x = lessT ns (nth ns i) (nextT n ring i) := by
  have key := nextT_mem (ring := ring) hi
  show x = 0 + ((lotI (.sum 0 (nextT n ring i)) ns i).map fun q => wgt (nextT n ring i) q.1).sum ↔ _
  have e : 0 + ((lotI (.sum 0 (nextT n ring i)) ns i).map fun q => wgt (nextT n ring i) q.1).sum = lessT ns (nth ns i) (nextT n ring i) := by
    rcases nextT_one n i ring with e | ⟨q, e⟩
    · rw [e]; rfl
    · have h2 := (key q (by rw [e]; exact List.mem_singleton_self _)).2.2
      rw [e]
      show 0 + (((([q].map (·.1)).filter fun o => decide (nth ns o < nth ns i)).map fun o => (o, nth ns o)).map fun z => wgt [q] z.1).sum = if nth ns q.1 < nth ns i then 1 else 0
      rw [List.map_cons, List.map_nil, List.filter_cons, List.filter_nil]
      by_cases c : nth ns q.1 < nth ns i
      · rw [if_pos (decide_eq_true c), if_pos c]
        show 0 + ((wgt [q] q.1) + 0) = 1
        have e1 : wgt [q] q.1 = 1 := by simp [wgt, h2]
        rw [e1]
        rfl
      · rw [if_neg (by simpa using c), if_neg c]
        rfl
  rw [e]
theorem nextR_get {n i : Nat} {ring : Bool} (h : i < (nextR n ring).length) : (nextR n ring)[i] = Rule.sum 0 (nextT n ring i) := by
  simp [nextR]
def restB (n : Nat) (ring : Bool) (ns : List Int) : Bool := (List.range n).all fun i => decide (nth ns i = lessT ns (nth ns i) (nextT n ring i))
theorem restB_iff {n : Nat} {ring : Bool} {ns : List Int} (hn : ns.length = n) : (restL (nextR n ring) ns).isEmpty = restB n ring ns := by
  rw [Bool.eq_iff_iff, restL_nil (by rw [nextR_len]; exact hn)]
  unfold Rest restB
  rw [List.all_eq_true]
  constructor
  · intro h i hi
    have hi := List.mem_range.mp hi
    have h1 := h i (by rw [nextR_len]; exact hi)
    rw [nextR_get] at h1
    exact decide_eq_true ((tell_next hi).mp h1)
  · intro h i hi
    rw [nextR_len] at hi
    have h1 := of_decide_eq_true (h i (List.mem_range.mpr hi))
    rw [nextR_get]
    exact (tell_next hi).mpr h1
theorem rows_known : (List.range 8).all (fun m => [false, true].all fun ring => decide ((bitsL (m + 1)).filter (restB (m + 1) ring) = (List.range (cntK ring (m + 1))).map (rowK ring (m + 1))) &&
    decide ((List.range (cntK ring (m + 1))).map (fun k => numP ring [] (rowK ring (m + 1) k)) = List.range (cntK ring (m + 1)))) = true := by decide +kernel
theorem rows_due {n : Nat} (h1 : 1 ≤ n) (h2 : n ≤ 8) (ring : Bool) : (bitsL n).filter (restB n ring) = (List.range (cntK ring n)).map (rowK ring n) ∧ (List.range (cntK ring n)).map (fun k => numP ring [] (rowK ring n k)) = List.range (cntK ring n) := by
  have h := List.all_eq_true.mp rows_known (n - 1) (List.mem_range.mpr (by omega))
  have h := List.all_eq_true.mp h ring (by cases ring <;> simp)
  rw [show n - 1 + 1 = n by omega, Bool.and_eq_true] at h
  exact ⟨of_decide_eq_true h.1, of_decide_eq_true h.2⟩
theorem cnt_small {n : Nat} (h1 : 1 ≤ n) (h2 : n ≤ 8) (ring : Bool) : cntK ring n ≤ 256 := by
  have h := (rows_due h1 h2 ring).1
  have l := congrArg List.length h
  rw [List.length_map, List.length_range] at l
  rw [← l]
  refine Nat.le_trans (List.length_filter_le _ _) ?_
  rw [bitsL_len]
  exact Nat.le_trans (Nat.pow_le_pow_right (by decide) h2) (by decide)
end Lh

namespace Lh
open PySem PySem.Spec PyProof.Rows L2
theorem okD_ints {n : Nat} {ns : List Int} (h : ns.length ≤ 8388608) : okD (n + 1) (.tuple (ns.map PyData.int)) := by
  refine ⟨by rw [List.length_map]; exact h, fun d hd => ?_⟩
  obtain ⟨x, _, rfl⟩ := List.mem_map.mp hd
  cases n <;> trivial
def wayD (nss : List (List Int)) : PyData := .list (nss.map fun ms => .tuple (ms.map PyData.int))
theorem okD_way {n : Nat} {nss : List (List Int)} (h : nss.length ≤ 8388608) (h2 : ∀ ms ∈ nss, ms.length ≤ 8388608) : okD (n + 2) (wayD nss) := by
  refine ⟨by rw [List.length_map]; exact h, fun d hd => ?_⟩
  obtain ⟨x, hx, rfl⟩ := List.mem_map.mp hd
  exact okD_ints (h2 x hx)
theorem tup_nb {bx : Addr} {c : Int} {H : Hp} {t : Addr} {xs : List V} (b : Box bx c H) (h : TupAt H t xs) : t ≠ bx := by
  obtain ⟨_, _, _, hb, _⟩ := b
  rcases h with h | ⟨o, _, h⟩
  · exact ne_of h hb (by intro z; cases z)
  · exact ne_of h hb (by intro z; cases z)
theorem StandsAt.rp {bx : Addr} {c : Int} {H : Hp} (b : Box bx c H) : ∀ {vs : List V} {nss : List (List Int)}, StandsAt H vs nss → RpAll bx H vs (nss.map fun ms => .tuple (ms.map PyData.int))
  | _, _, .nil => .nil
  | _, _, .cons ⟨t, e, h⟩ r => by
    subst e
    exact .cons (.tup h (tup_nb b h) (RpAll.ints _)) (StandsAt.rp b r)
theorem StandsAt.drop {H : Hp} : ∀ {vs : List V} {nss : List (List Int)} (k : Nat), StandsAt H vs nss → StandsAt H (vs.drop k) (nss.drop k)
  | _, _, 0, h => h
  | _, _, k + 1, .nil => .nil
  | _, _, k + 1, .cons _ r => StandsAt.drop k r
theorem StandsAt.take {H : Hp} : ∀ {vs : List V} {nss : List (List Int)} (k : Nat), StandsAt H vs nss → StandsAt H (vs.take k) (nss.take k)
  | _, _, 0, h => .nil
  | _, _, k + 1, .nil => .nil
  | _, _, k + 1, .cons h r => .cons h (StandsAt.take k r)
/-- what stands while a hall is asked -/
structure F7 (C bx : Addr) (c : Int) (H0 : Hp) (l x t : Addr) (us : List V) (rs : List Rule) (ns : List Int) (Hk : Hp) : Prop where
  e : Ext bx H0 Hk
  b : Box bx c Hk
  hl : Hk l = some (.lst us)
  ra : RulesAt Hk us rs
  hA : HallAt C Hk x rs
  hS : TupAt Hk t (ns.map V.int)
theorem F7.same {C bx : Addr} {c : Int} {H0 : Hp} {l x t : Addr} {us : List V} {rs : List Rule} {ns : List Int} {Hk H' : Hp} (f : F7 C bx c H0 l x t us rs ns Hk) (s : Same Hk H') : F7 C bx c H0 l x t us rs ns H' :=
  ⟨f.e.trans (Ext.of s), f.b.same s, s _ _ f.hl, f.ra.keep (Keep.same s), f.hA.keep s, f.hS.keep (Keep.same s)⟩
theorem F7.draw {C bx : Addr} {c c' : Int} {H0 : Hp} {l x t : Addr} {us : List V} {rs : List Rule} {ns : List Int} {Hk H' : Hp} (f : F7 C bx c H0 l x t us rs ns Hk) (nl : l ≠ bx) (e : Ext bx Hk H') (b : Box bx c' H') : F7 C bx c' H0 l x t us rs ns H' :=
  ⟨f.e.trans e, b, e _ _ nl f.hl, f.ra.keep (Keep.ext e f.b), f.hA.ext e f.b, f.hS.keep (Keep.ext e f.b)⟩
theorem F7.lst {C bx : Addr} {c : Int} {H0 : Hp} {l x t d : Addr} {us ys zs : List V} {rs : List Rule} {ns : List Int} {Hk : Hp} (f : F7 C bx c H0 l x t us rs ns Hk) (hd : Hk d = some (.lst ys)) (n1 : d ≠ bx) (n2 : l ≠ d) (n0 : H0 d = none) : F7 C bx c H0 l x t us rs ns (upd Hk d (.lst zs)) := by
  have kT := keep_lst (ys := zs) hd
  refine ⟨f.e.new n0, f.b.at n1, by rw [upd_ne n2]; exact f.hl, f.ra.keep kT, ?_, f.hS.keep kT⟩
  obtain ⟨dx, t', vs, h1, h2, h3⟩ := f.hA
  refine ⟨dx, t', vs, ?_, h2.keep kT, h3.keep kT⟩
  rw [upd_ne (ne_of h1 hd (by intro z; cases z))]
  exact h1
def tupD (ms : List Int) : PyData := .tuple (ms.map PyData.int)
theorem TupAt.rpI {bx : Addr} {c : Int} {H : Hp} (b : Box bx c H) {t : Addr} {ms : List Int} (h : TupAt H t (ms.map V.int)) : Rp bx H (.ref t) (tupD ms) := .tup h (tup_nb b h) (RpAll.ints _)
theorem okD_tups {n : Nat} {ds : List (List Int)} (h : ds.length ≤ 8388608) (h2 : ∀ ms ∈ ds, ms.length ≤ 8388608) : okD (n + 2) (.list (ds.map tupD)) := okD_way h h2
theorem okD_intsL {n : Nat} {ns : List Int} (h : ns.length ≤ 8388608) : okD (n + 1) (.list (ns.map PyData.int)) := by
  refine ⟨by rw [List.length_map]; exact h, fun d hd => ?_⟩
  obtain ⟨x, _, rfl⟩ := List.mem_map.mp hd
  cases n <;> trivial
def spRight : Sp := fun vs H Q _ => ∃ bx : Addr, vs = [.ref bx] ∧ Box bx 0 H ∧ ∀ H', Ext bx H H' → Q (.bl true) H'
end Lh

namespace Lh
open PySem PySem.Spec PyProof.Rows L2
section
variable {P : Program} {w : World} {K : PySem.W.Frag} {mg : Str → Option Value} {base : Heap}
def spSame : Nat → Sp
  | 0 => fun _ _ _ _ => False
  | n + 1 => fun vs H Q _ => ∃ (bx : Addr) (v u : V) (d : PyData), vs = [v, u] ∧ Rp bx H v d ∧ Rp bx H u d ∧ okD n d ∧ ∀ H', Same H H' → Q (.bl true) H'
theorem ok_same (T : Txt K mg w) : ∀ n, FnOk P w K mg base CX0 n T.f_same T.fd_same p_same (spSame n)
  | 0 => ⟨fun _ _ _ _ h => h.elim, fun _ _ _ _ _ _ _ _ _ _ _ _ _ h => h.elim⟩
  | n + 1 => by
    have G_same : FnOk P w K mg base CX0 n T.f_same T.fd_same p_same (spSame n) := ok_same T n
    refine T.F_same.ok sc_same (fun vs H Q E h => ?_) (fun cdv A outer s H vs Q E hr h => ?_)
    · obtain ⟨bx, v, u, d, rfl, _⟩ := h
      rfl
    · obtain ⟨bx, v, u, d, rfl, hv, hu, hd, q⟩ := h
      refine ⟨_, (pss_cons (ps_if (pt_val (pe_callB call_isiT (by rfl) T.m_isinstance (by decide +kernel) (pa_cons (pv 1) (pa_cons (pe_tup (pa_cons (pe_bltn (v := .ty "list") (by rfl) T.m_list (by decide +kernel) rfl) (pa_cons (pe_bltn (v := .ty "tuple") (by rfl) T.m_tuple (by decide +kernel) rfl) pa_nil))) pa_nil))))
        (pss_cons (ps_if (PW.pt (pw_or (pt_cmpR op_ne (pe_callB call_isi (by rfl) T.m_isinstance (by decide +kernel) (pa_cons (pv 0) (pa_cons (pe_bltn (v := .ty "list") (by rfl) T.m_list (by decide +kernel) rfl) pa_nil))) (pe_callB call_isi (by rfl) T.m_isinstance (by decide +kernel) (pa_cons (pv 1) (pa_cons (pe_bltn (v := .ty "list") (by rfl) T.m_list (by decide +kernel) rfl) pa_nil))) (nomark _)) (pw_or1 (pt_cmpR op_ne (pe_callB call_isi (by rfl) T.m_isinstance (by decide +kernel) (pa_cons (pv 0) (pa_cons (pe_bltn (v := .ty "tuple") (by rfl) T.m_tuple (by decide +kernel) rfl) pa_nil))) (pe_callB call_isi (by rfl) T.m_isinstance (by decide +kernel) (pa_cons (pv 1) (pa_cons (pe_bltn (v := .ty "tuple") (by rfl) T.m_tuple (by decide +kernel) rfl) pa_nil))) (nomark _)))))
          (pss_one (ps_ret pe_bl))
          pss_nil)
        (pss_one (ps_ret (pe_and (pe_cmpR op_eq (pe_callB call_len_seq (by rfl) T.m_len (by decide +kernel) (pa_cons (pv 0) pa_nil)) (pe_callB call_len_seq (by rfl) T.m_len (by decide +kernel) (pa_cons (pv 1) pa_nil)) (nomark _)) (pe_one (pe_callB (cr_all rfl) (by rfl) T.m_all (by decide +kernel) (pa_cons (pe_lc (own := [("_law_one", 2), ("_law_two", 3)]) (g := gTup K 2 (gCons (gName 2) (gCons (gName 3) gNil))) (by rfl) sc_same.nd (RZ.pi_zipA (by rfl) T.m_zip (pa_cons (pv 0) (pa_cons (pv 1) pa_nil))) (blkOk_by (own := [("_law_one", 2), ("_law_two", 3)]) (N := n_same) (sc := defScope s_same) (by decide +kernel)) (fun _ _ _ _ _ => (pg_tup rfl (pgs_cons (pg_name (i := 2) sc_same.nd rfl (.inl rfl) (.inr rfl)) (pgs_cons (pg_name (i := 3) sc_same.nd rfl (.inl rfl) (.inr rfl)) pgs_nil)))) (fun _ _ _ _ _ => pts_nil) (fun _ _ _ _ _ => (pe_call G_same hr (by rfl) T.g_same T.F_same.kp T.b_same .nil pass0 (pa_cons (pv 2) (pa_cons (pv 3) pa_nil))))) pa_nil)))))))
        pss_nil)
      (pss_cons (ps_if (PW.pt (pw_or (pt_cmpR op_isN (pv 1) pe_non (nomark _)) (pw_or1 (pt_cmpR op_isN (pv 0) pe_non (nomark _)))))
        (pss_one (ps_ret (pe_and (pe_cmpR op_isN (pv 1) pe_non (nomark _)) (pe_one (pe_cmpR op_isN (pv 0) pe_non (nomark _))))))
        pss_nil)
      (pss_cons (ps_if (PW.pt (pw_or (pt_val (pe_callB call_isi (by rfl) T.m_isinstance (by decide +kernel) (pa_cons (pv 1) (pa_cons (pe_bltn (v := .ty "bool") (by rfl) T.m_bool (by decide +kernel) rfl) pa_nil)))) (pw_or1 (pt_val (pe_callB call_isi (by rfl) T.m_isinstance (by decide +kernel) (pa_cons (pv 1) (pa_cons (pe_bltn (v := .ty "str") (by rfl) T.m_str (by decide +kernel) rfl) pa_nil)))))))
        (pss_one (ps_ret (pe_and (pe_cmpR op_eq (pe_callB call_isi (by rfl) T.m_isinstance (by decide +kernel) (pa_cons (pv 0) (pa_cons (pe_bltn (v := .ty "bool") (by rfl) T.m_bool (by decide +kernel) rfl) pa_nil))) (pe_callB call_isi (by rfl) T.m_isinstance (by decide +kernel) (pa_cons (pv 1) (pa_cons (pe_bltn (v := .ty "bool") (by rfl) T.m_bool (by decide +kernel) rfl) pa_nil))) (nomark _)) (pe_one (pe_cmpR op_eq (pv 0) (pv 1) (nomark _))))))
        pss_nil)
      (pss_one (ps_ret (pe_and (pe_callB call_isi (by rfl) T.m_isinstance (by decide +kernel) (pa_cons (pv 0) (pa_cons (pe_bltn (v := .ty "int") (by rfl) T.m_int (by decide +kernel) rfl) pa_nil))) (pe_and (pe_not (pe_callB call_isi (by rfl) T.m_isinstance (by decide +kernel) (pa_cons (pv 0) (pa_cons (pe_bltn (v := .ty "bool") (by rfl) T.m_bool (by decide +kernel) rfl) pa_nil)))) (pe_one (pe_cmpR op_eq (pv 0) (pv 1) (nomark _)))))))))), ?_⟩
      have ty : ∀ {H' : Hp} {x : V}, Same H H' → Rp bx H x d → TyX K H' x (.type (tyD d)) := fun s h => (h.ext (Ext.of s)).ty
      have sz : ∀ {m : Nat}, m ≤ 8388608 → m < sizeLine := fun h => Nat.lt_of_le_of_lt h (by decide)
      cases d with
      | none =>
        cases hv
        cases hu
        refine rd_isi2 (x := .non) (T := "NoneType") rfl (.base .non) (by decide +kernel : kitB "NoneType" "list" = some false) (by decide +kernel : kitB "NoneType" "tuple" = some false) (fun p hp => ?_) (fun p hp => .base .non)
        refine ⟨_, rfl, iteN rfl ?_⟩
        refine ⟨.non, rfl, rfl, _, rfl, iteP (decide_eq_true rfl) (iteP rfl ?_)⟩
        refine ⟨.non, rfl, rfl, _, rfl, iteP (decide_eq_true rfl) ?_⟩
        exact ⟨.non, rfl, rfl, blT (decide_eq_true rfl) (q _ (same_upd hp))⟩
      | bool b =>
        cases hv
        cases hu
        refine rd_isi2 (x := .bl b) (T := "bool") rfl (.base (.bl b)) (by decide +kernel : kitB "bool" "list" = some false) (by decide +kernel : kitB "bool" "tuple" = some false) (fun p hp => ?_) (fun p hp => .base (.bl b))
        refine ⟨_, rfl, iteN rfl ?_⟩
        refine ⟨.bl b, rfl, rfl, _, rfl, iteN (decide_eq_false (by intro z; cases z)) ⟨.bl b, rfl, rfl, _, rfl, iteN (decide_eq_false (by intro z; cases z)) ?_⟩⟩
        refine rd_isi (x := .bl b) (T := "bool") rfl (.base (.bl b)) (by decide +kernel : kitB "bool" "bool" = some true) ⟨_, rfl, iteP rfl (iteP rfl ?_)⟩
        refine rd_isi (x := .bl b) (T := "bool") rfl (.base (.bl b)) (by decide +kernel : kitB "bool" "bool" = some true) ?_
        refine rd_isi (x := .bl b) (T := "bool") rfl (.base (.bl b)) (by decide +kernel : kitB "bool" "bool" = some true) ⟨rfl, _, rfl, iteP (decide_eq_true rfl) ?_⟩
        exact ⟨.bl b, rfl, .bl b, rfl, rfl, blT (decide_eq_true rfl) (q _ (same_upd hp))⟩
      | int i =>
        cases hv
        cases hu
        refine rd_isi2 (x := .int i) (T := "int") rfl (.base (.int i)) (by decide +kernel : kitB "int" "list" = some false) (by decide +kernel : kitB "int" "tuple" = some false) (fun p hp => ?_) (fun p hp => .base (.int i))
        refine ⟨_, rfl, iteN rfl ?_⟩
        refine ⟨.int i, rfl, rfl, _, rfl, iteN (decide_eq_false (by intro z; cases z)) ⟨.int i, rfl, rfl, _, rfl, iteN (decide_eq_false (by intro z; cases z)) ?_⟩⟩
        refine rd_isi (x := .int i) (T := "int") rfl (.base (.int i)) (by decide +kernel : kitB "int" "bool" = some false) ⟨_, rfl, iteN rfl ?_⟩
        refine rd_isi (x := .int i) (T := "int") rfl (.base (.int i)) (by decide +kernel : kitB "int" "str" = some false) ⟨_, rfl, iteN rfl ?_⟩
        refine rd_isi (x := .int i) (T := "int") rfl (.base (.int i)) (by decide +kernel : kitB "int" "int" = some true) ⟨_, rfl, iteP rfl ?_⟩
        refine rd_isi (x := .int i) (T := "int") rfl (.base (.int i)) (by decide +kernel : kitB "int" "bool" = some false) ⟨_, rfl, _, rfl, iteP rfl ?_⟩
        exact ⟨.int i, rfl, .int i, rfl, rfl, blT (decide_eq_true rfl) (q _ (same_upd hp))⟩
      | str x =>
        cases hv
        cases hu
        refine rd_isi2 (x := .str x) (T := "str") rfl (.base (.str x)) (by decide +kernel : kitB "str" "list" = some false) (by decide +kernel : kitB "str" "tuple" = some false) (fun p hp => ?_) (fun p hp => .base (.str x))
        refine ⟨_, rfl, iteN rfl ?_⟩
        refine ⟨.str x, rfl, rfl, _, rfl, iteN (decide_eq_false (by intro z; cases z)) ⟨.str x, rfl, rfl, _, rfl, iteN (decide_eq_false (by intro z; cases z)) ?_⟩⟩
        refine rd_isi (x := .str x) (T := "str") rfl (.base (.str x)) (by decide +kernel : kitB "str" "bool" = some false) ⟨_, rfl, iteN rfl ?_⟩
        refine rd_isi (x := .str x) (T := "str") rfl (.base (.str x)) (by decide +kernel : kitB "str" "str" = some true) ⟨_, rfl, iteP rfl ?_⟩
        refine rd_isi (x := .str x) (T := "str") rfl (.base (.str x)) (by decide +kernel : kitB "str" "bool" = some false) ?_
        refine rd_isi (x := .str x) (T := "str") rfl (.base (.str x)) (by decide +kernel : kitB "str" "bool" = some false) ⟨rfl, _, rfl, iteP (decide_eq_true rfl) ?_⟩
        exact ⟨.str x, rfl, .str x, rfl, rfl, blT (decide_eq_true rfl) (q _ (same_upd hp))⟩
      | list ds =>
        cases n with
        | zero => exact hd.elim
        | succ n =>
        obtain ⟨hlen, hds⟩ := hd
        refine rd_isi2 (x := u) (T := "list") rfl hu.ty (by decide +kernel : kitB "list" "list" = some true) (by decide +kernel : kitB "list" "tuple" = some false) (fun p hp => ?_) (fun p hp => ty (same_upd hp) hu)
        have s1 := same_upd (o := .tup [.ty "list", .ty "tuple"]) hp
        refine ⟨_, rfl, iteP rfl ?_⟩
        refine rd_isi (x := v) (T := "list") rfl (ty s1 hv) (by decide +kernel : kitB "list" "list" = some true) ?_
        refine rd_isi (x := u) (T := "list") rfl (ty s1 hu) (by decide +kernel : kitB "list" "list" = some true) ⟨rfl, _, rfl, iteN rfl ?_⟩
        refine rd_isi (x := v) (T := "list") rfl (ty s1 hv) (by decide +kernel : kitB "list" "tuple" = some false) ?_
        refine rd_isi (x := u) (T := "list") rfl (ty s1 hu) (by decide +kernel : kitB "list" "tuple" = some false) ⟨rfl, _, rfl, iteN rfl ?_⟩
        have hv1 := hv.ext (Ext.of s1)
        have hu1 := hu.ext (Ext.of s1)
        generalize hH1 : upd H p (.tup [.ty "list", .ty "tuple"]) = H1 at *
        cases hv1 with
        | @lst a xs _ ha na rx =>
        cases hu1 with
        | @lst b ys _ hb nb ry =>
        have ex : xs.length = ds.length := rx.length
        have ey : ys.length = ds.length := ry.length
        refine ⟨.ref a, rfl, a, _, rfl, .inl (.inl (.inl ha)), .ref b, rfl, b, _, rfl, .inl (.inl (.inl hb)), rfl, _, rfl, iteP (decide_eq_true (by rw [ex, ey])) ?_⟩
        refine ⟨.ref a, rfl, .ref b, rfl, a, b, xs, ys, rfl, .inl ⟨.inl (.inl ha), .inl (.inl hb), fun D hD => ?_⟩⟩
        refine lc_it (walk_zip (xs := xs) (ys := ys) (n := ds.length) (by rw [ex, ey, Nat.min_self])) (fun i H3 => Same H1 H3 ∧ H3 D = some (.lst (List.replicate i (.bl true)))) ⟨same_upd hD, upd_same⟩ ?_ ?_ ?_
        · rintro i H3 _ ⟨sm, _⟩
          exact ⟨.inl (.inl (sm _ _ ha)), .inl (.inl (sm _ _ hb))⟩
        · rintro i x H3 H4 hi ⟨sm, hD3⟩ ⟨t, x1, x2, rfl, nt, rfl, e1, e2⟩
          have sT := same_upd (o := .tup [x1, x2]) nt
          refine ⟨t, _, rfl, .inl (.inl upd_same), rfl, _, _, rfl, _, _, rfl, rfl, rfl, yes (iteT ?_)⟩
          obtain ⟨z1, f1, r1⟩ := rx.get (List.getElem?_eq_getElem hi)
          obtain ⟨z2, f2, r2⟩ := ry.get (List.getElem?_eq_getElem hi)
          have g1 : x1 = z1 := Option.some.inj (e1.symm.trans f1)
          have g2 : x2 = z2 := Option.some.inj (e2.symm.trans f2)
          subst g1 g2
          refine ⟨x1, rfl, x2, rfl, bx, x1, x2, ds[i], rfl, r1.ext (Ext.of (sm.trans sT)), r2.ext (Ext.of (sm.trans sT)), hds _ (List.getElem_mem hi), fun H5 s5 => ?_⟩
          refine ⟨_, s5 _ _ (sT _ _ hD3), by rw [List.length_replicate]; exact sz (by omega), same_mut (sm.trans (sT.trans s5)) hD, ?_⟩
          rw [upd_same, List.replicate_succ']
        · rintro H3 ⟨sm, hD3⟩
          refine ⟨D, List.replicate ds.length true, rfl, .inl (.inl (by rw [hD3, List.map_replicate])), blT ?_ (q _ (s1.trans sm))⟩
          rw [List.all_eq_true]
          intro z hz
          rw [List.eq_of_mem_replicate hz]
          rfl
      | tuple ds =>
        cases n with
        | zero => exact hd.elim
        | succ n =>
        obtain ⟨hlen, hds⟩ := hd
        refine rd_isi2 (x := u) (T := "tuple") rfl hu.ty (by decide +kernel : kitB "tuple" "list" = some false) (by decide +kernel : kitB "tuple" "tuple" = some true) (fun p hp => ?_) (fun p hp => ty (same_upd hp) hu)
        have s1 := same_upd (o := .tup [.ty "list", .ty "tuple"]) hp
        refine ⟨_, rfl, iteP rfl ?_⟩
        refine rd_isi (x := v) (T := "tuple") rfl (ty s1 hv) (by decide +kernel : kitB "tuple" "list" = some false) ?_
        refine rd_isi (x := u) (T := "tuple") rfl (ty s1 hu) (by decide +kernel : kitB "tuple" "list" = some false) ⟨rfl, _, rfl, iteN rfl ?_⟩
        refine rd_isi (x := v) (T := "tuple") rfl (ty s1 hv) (by decide +kernel : kitB "tuple" "tuple" = some true) ?_
        refine rd_isi (x := u) (T := "tuple") rfl (ty s1 hu) (by decide +kernel : kitB "tuple" "tuple" = some true) ⟨rfl, _, rfl, iteN rfl ?_⟩
        have hv1 := hv.ext (Ext.of s1)
        have hu1 := hu.ext (Ext.of s1)
        generalize hH1 : upd H p (.tup [.ty "list", .ty "tuple"]) = H1 at *
        cases hv1 with
        | @tup a xs _ ha na rx =>
        cases hu1 with
        | @tup b ys _ hb nb ry =>
        have ex : xs.length = ds.length := rx.length
        have ey : ys.length = ds.length := ry.length
        refine ⟨.ref a, rfl, a, _, rfl, .inr ha.sq, .ref b, rfl, b, _, rfl, .inr hb.sq, rfl, _, rfl, iteP (decide_eq_true (by rw [ex, ey])) ?_⟩
        refine ⟨.ref a, rfl, .ref b, rfl, a, b, xs, ys, rfl, .inr ⟨ha.sq, hb.sq, fun D hD => ?_⟩⟩
        refine lc_it (walk_zipT (xs := xs) (ys := ys) (n := ds.length) ex ey) (fun i H3 => Same H1 H3 ∧ H3 D = some (.lst (List.replicate i (.bl true)))) ⟨same_upd hD, upd_same⟩ ?_ ?_ ?_
        · rintro i H3 _ ⟨sm, _⟩
          exact ⟨(ha.ext (Ext.of (bx := bx) sm) na).sq, (hb.ext (Ext.of (bx := bx) sm) nb).sq⟩
        · rintro i x H3 H4 hi ⟨sm, hD3⟩ ⟨t, x1, x2, rfl, nt, rfl, e1, e2⟩
          have sT := same_upd (o := .tup [x1, x2]) nt
          refine ⟨t, _, rfl, .inl (.inl upd_same), rfl, _, _, rfl, _, _, rfl, rfl, rfl, yes (iteT ?_)⟩
          obtain ⟨z1, f1, r1⟩ := rx.get (List.getElem?_eq_getElem hi)
          obtain ⟨z2, f2, r2⟩ := ry.get (List.getElem?_eq_getElem hi)
          have g1 : x1 = z1 := Option.some.inj (e1.symm.trans f1)
          have g2 : x2 = z2 := Option.some.inj (e2.symm.trans f2)
          subst g1 g2
          refine ⟨x1, rfl, x2, rfl, bx, x1, x2, ds[i], rfl, r1.ext (Ext.of (sm.trans sT)), r2.ext (Ext.of (sm.trans sT)), hds _ (List.getElem_mem hi), fun H5 s5 => ?_⟩
          refine ⟨_, s5 _ _ (sT _ _ hD3), by rw [List.length_replicate]; exact sz (by omega), same_mut (sm.trans (sT.trans s5)) hD, ?_⟩
          rw [upd_same, List.replicate_succ']
        · rintro H3 ⟨sm, hD3⟩
          refine ⟨D, List.replicate ds.length true, rfl, .inl (.inl (by rw [hD3, List.map_replicate])), blT ?_ (q _ (s1.trans sm))⟩
          rw [List.all_eq_true]
          intro z hz
          rw [List.eq_of_mem_replicate hz]
          rfl
      | dict kvs => cases hv
end
end Lh

namespace Lh
open PySem PySem.Spec PyProof.Rows L2
def pairD (q : Int × Int) : PyData := .tuple [.int q.1, .int q.2]
def Rule.data : Rule → PyData
  | .held n => .tuple [.str "held", .int n]
  | .sum own ties => .tuple [.str "sum", .int own, .tuple (ties.map pairD)]
  | .cap own ties most => .tuple [.str "cap", .int own, .tuple (ties.map pairD), .int most]
  | .kinds own seen => .tuple [.str "kinds", .int own, .tuple (seen.map PyData.int)]
  | .next seen => .tuple [.str "next", .tuple (seen.map PyData.int)]
  | .free seen => .tuple [.str "free", .tuple (seen.map PyData.int)]
theorem Box.neF {bx : Addr} {c : Int} {H : Hp} (h : Box bx c H) {p : Addr} {o : Obj} {u : HO} (n : H p = some (.frz o u)) : p ≠ bx := by
  obtain ⟨a, b, n', h, _⟩ := h
  exact ne_of n h (by intro z; cases z)
theorem pairs_rp {bx : Addr} {c : Int} {H : Hp} (b : Box bx c H) : ∀ {ps : List Addr} {ties : List (Int × Int)}, Paired (PairAtH H) ps ties → RpAll bx H (ps.map V.ref) (ties.map pairD)
  | _, _, .nil => .nil
  | _, _, .cons h r => .cons (.tup (.inl h) (b.neT h) (.cons (.int _) (.cons (.int _) .nil))) (pairs_rp b r)
theorem TiesAt.rp {bx : Addr} {c : Int} {H : Hp} (b : Box bx c H) {t : Addr} {ties : List (Int × Int)} (h : TiesAt H t ties) : Rp bx H (.ref t) (.tuple (ties.map pairD)) := by
  obtain ⟨o, ps, od, ht, pr⟩ := h
  rcases ht with ht | ⟨o2, od2, ht⟩
  · exact .tup (.inl ht) (b.neT ht) (pairs_rp b pr)
  · exact .tup (.inr ⟨o2, od2, ht⟩) (b.neF ht) (pairs_rp b pr)
theorem SeenAt.rp {bx : Addr} {c : Int} {H : Hp} (b : Box bx c H) {t : Addr} {seen : List Int} (h : SeenAt H t seen) : Rp bx H (.ref t) (.tuple (seen.map PyData.int)) := by
  rcases h with ht | ⟨o, od, ht⟩
  · exact .tup (.inl ht) (b.neT ht) (RpAll.ints seen)
  · exact .tup (.inr ⟨o, od, ht⟩) (b.neF ht) (RpAll.ints seen)
theorem RuleAt.rp {bx : Addr} {c : Int} {H : Hp} (b : Box bx c H) {v : V} : ∀ {r : Rule}, RuleAt H v r → Rp bx H v r.data
  | .held n, ⟨a, e, h⟩ => by rw [e]; exact .tup (.inl h) (b.neT h) (.cons (.str _) (.cons (.int _) .nil))
  | .sum _ _, ⟨a, t, e, h, q⟩ => by rw [e]; exact .tup (.inl h) (b.neT h) (.cons (.str _) (.cons (.int _) (.cons (q.rp b) .nil)))
  | .cap _ _ _, ⟨a, t, e, h, q⟩ => by rw [e]; exact .tup (.inl h) (b.neT h) (.cons (.str _) (.cons (.int _) (.cons (q.rp b) (.cons (.int _) .nil))))
  | .kinds _ _, ⟨a, t, e, h, q⟩ => by rw [e]; exact .tup (.inl h) (b.neT h) (.cons (.str _) (.cons (.int _) (.cons (q.rp b) .nil)))
  | .next _, ⟨a, t, e, h, q⟩ => by rw [e]; exact .tup (.inl h) (b.neT h) (.cons (.str _) (.cons (q.rp b) .nil))
  | .free _, ⟨a, t, e, h, q⟩ => by rw [e]; exact .tup (.inl h) (b.neT h) (.cons (.str _) (.cons (q.rp b) .nil))
/-! ### data that can be shown -/
def tame (w : Nat) : Nat → PyData → Prop
  | _, .none => True
  | _, .bool _ => True
  | _, .int i => i.natAbs < 10 ^ 12
  | _, .str x => x.cps.size ≤ 10 ∧ ∀ c ∈ x.cps.toList, c < 16 ^ 8
  | n + 1, .list ds => ds.length ≤ w ∧ ∀ d ∈ ds, tame w n d
  | n + 1, .tuple ds => ds.length ≤ w ∧ ∀ d ∈ ds, tame w n d
  | _, _ => False
def Bk (w : Nat) : Nat → Nat
  | 0 => 10
  | n + 1 => 10 + w * (Bk w n + 1)
theorem Bk_ge (w : Nat) : ∀ n, 10 ≤ Bk w n
  | 0 => Nat.le_refl _
  | n + 1 => Nat.le_add_right _ _
theorem log_small {i : Int} (h : i.natAbs < 10 ^ 12) : i.natAbs.log2 < 1920 := by
  by_cases z : i.natAbs = 0
  · rw [z]; decide
  · rw [Nat.log2_lt z]
    exact Nat.lt_trans h (Nat.lt_of_lt_of_le (by decide : 10 ^ 12 < 2 ^ 40) (Nat.pow_le_pow_right (by decide) (by decide)))
structure Shown (n : Nat) (b : Nat) (d : PyData) : Prop where
  sh : d.showable = true
  nd : d.hasDict = false
  dp : d.depth ≤ n
  lv : d.leavesShort 13 = true
  bk : d.bulk ≤ b
theorem all_sh : ∀ {ds : List PyData} {n b : Nat}, (∀ d ∈ ds, Shown n b d) → PyData.showableAll ds = true ∧ PyData.hasDictAll ds = false ∧ PyData.depthAll ds ≤ n ∧ PyData.leavesShortAll 13 ds = true ∧ PyData.bulkAll ds ≤ ds.length * (b + 1)
  | [], n, b, _ => ⟨rfl, rfl, Nat.zero_le _, rfl, by show 0 ≤ _; omega⟩
  | d :: r, n, b, h => by
    have h1 := h d List.mem_cons_self
    obtain ⟨a1, a2, a3, a4, a5⟩ := all_sh (ds := r) (n := n) (b := b) (fun x hx => h x (List.mem_cons_of_mem _ hx))
    refine ⟨?_, ?_, ?_, ?_, ?_⟩
    · show (d.showable && PyData.showableAll r) = true
      rw [h1.sh, a1]; rfl
    · show (d.hasDict || PyData.hasDictAll r) = false
      rw [h1.nd, a2]; rfl
    · show max d.depth (PyData.depthAll r) ≤ n
      have := h1.dp
      omega
    · show (d.leavesShort 13 && PyData.leavesShortAll 13 r) = true
      rw [h1.lv, a4]; rfl
    · show d.bulk + 1 + PyData.bulkAll r ≤ (r.length + 1) * (b + 1)
      have := h1.bk
      rw [Nat.add_mul]
      omega
theorem tame_shown (w : Nat) : ∀ (n : Nat) (d : PyData), tame w n d → Shown n (Bk w n) d
  | n, .none, _ => ⟨rfl, rfl, Nat.zero_le _, rfl, Nat.zero_le _⟩
  | n, .bool _, _ => ⟨rfl, rfl, Nat.zero_le _, rfl, Nat.zero_le _⟩
  | n, .int i, h => by
    have h' : i.natAbs < 10 ^ 12 := by cases n <;> exact h
    exact ⟨decide_eq_true (log_small h'), rfl, Nat.zero_le _, decide_eq_true (PyData.shown_int_le h'), Nat.zero_le _⟩
  | n, .str x, h => by
    have h' : x.cps.size ≤ 10 ∧ ∀ c ∈ x.cps.toList, c < 16 ^ 8 := by cases n <;> exact h
    refine ⟨rfl, rfl, Nat.zero_le _, ?_, Nat.le_trans h'.1 (Bk_ge w n)⟩
    show (x.cps.toList.all fun c => decide (c < 16 ^ 8)) = true
    rw [List.all_eq_true]
    exact fun c hc => decide_eq_true (h'.2 c hc)
  | 0, .list _, h => h.elim
  | 0, .tuple _, h => h.elim
  | n + 1, .list ds, ⟨hl, h⟩ => by
    obtain ⟨a1, a2, a3, a4, a5⟩ := all_sh (fun d hd => tame_shown w n d (h d hd))
    refine ⟨a1, a2, Nat.succ_le_succ a3, a4, ?_⟩
    show PyData.bulkAll ds ≤ 10 + w * (Bk w n + 1)
    have := Nat.mul_le_mul_right (Bk w n + 1) hl
    omega
  | n + 1, .tuple ds, ⟨hl, h⟩ => by
    obtain ⟨a1, a2, a3, a4, a5⟩ := all_sh (fun d hd => tame_shown w n d (h d hd))
    refine ⟨a1, a2, Nat.succ_le_succ a3, a4, ?_⟩
    show PyData.bulkAll ds ≤ 10 + w * (Bk w n + 1)
    have := Nat.mul_le_mul_right (Bk w n + 1) hl
    omega
  | 0, .dict _, h => h.elim
  | n + 1, .dict _, h => h.elim
theorem tame_fits {w n : Nat} {d : PyData} (h : tame w n d) (hb : Bk w n ≤ 2 ^ 20) : d.shown.length ≤ sizeLine :=
  PyData.shown_fits_bulk (B := 13) (by decide) (by decide) (tame_shown w n d h).lv (Nat.le_trans (tame_shown w n d h).bk hb)
theorem tame_ok {w : Nat} (hw : w ≤ 8388608) : ∀ (n : Nat) (d : PyData), tame w n d → okD n d
  | n, .none, _ => by cases n <;> trivial
  | n, .bool _, _ => by cases n <;> trivial
  | n, .int i, _ => by cases n <;> trivial
  | n, .str x, _ => by cases n <;> trivial
  | 0, .list _, h => h.elim
  | 0, .tuple _, h => h.elim
  | n + 1, .list ds, ⟨hl, h⟩ => ⟨Nat.le_trans hl hw, fun d hd => tame_ok hw n d (h d hd)⟩
  | n + 1, .tuple ds, ⟨hl, h⟩ => ⟨Nat.le_trans hl hw, fun d hd => tame_ok hw n d (h d hd)⟩
  | 0, .dict _, h => h.elim
  | n + 1, .dict _, h => h.elim
theorem tame_int {w n : Nat} {i : Int} (h : i.natAbs < 10 ^ 12) : tame w n (.int i) := by cases n <;> exact h
theorem tame_word {w n : Nat} {x : Str} (h : x.cps.size ≤ 10 ∧ ∀ c ∈ x.cps.toList, c < 16 ^ 8) : tame w n (.str x) := by cases n <;> exact h
theorem tame_pairs {w n : Nat} (hw : 2 ≤ w) {l : List (Int × Int)} (h : ∀ q ∈ l, q.1.natAbs < 10 ^ 12 ∧ q.2.natAbs < 10 ^ 12) (hl : l.length ≤ w) : tame w (n + 2) (.tuple (l.map pairD)) := by
  refine ⟨by rw [List.length_map]; exact hl, fun d hd => ?_⟩
  obtain ⟨q, hq, rfl⟩ := List.mem_map.mp hd
  refine ⟨hw, fun x hx => ?_⟩
  have := h q hq
  rcases List.mem_cons.mp hx with e | e
  · rw [e]; exact tame_int this.1
  · rw [List.mem_singleton.mp e]; exact tame_int this.2
theorem tame_seen {w n : Nat} {l : List Int} (h : ∀ q ∈ l, q.natAbs < 10 ^ 12) (hl : l.length ≤ w) : tame w (n + 1) (.tuple (l.map PyData.int)) := by
  refine ⟨by rw [List.length_map]; exact hl, fun d hd => ?_⟩
  obtain ⟨q, hq, rfl⟩ := List.mem_map.mp hd
  exact tame_int (h q hq)
theorem tame_rule {w : Nat} (hw : 4 ≤ w) {many : Int} (hm : many ≤ 1000000) : ∀ {r : Rule}, r.Wf many → r.persons.length ≤ w → tame w 3 r.data
  | .held n, h, _ => by
    have h' : 0 ≤ n ∧ n ≤ 1000000 := by
      first
        | exact h
        | exact ⟨(show smallI n from h).1, Int.le_trans (show smallI n from h).2 (by decide)⟩
    refine ⟨by show 2 ≤ w; omega, fun d hd => ?_⟩
    simp only [List.mem_cons, List.not_mem_nil, or_false] at hd
    rcases hd with rfl | rfl
    · exact tame_word (by decide +kernel)
    · exact tame_int (by omega)
  | .sum own ties, ⟨ho, rs, w1⟩, hl => by
    unfold smallI at ho
    have hl' : ties.length ≤ w := by simpa [Rule.persons] using hl
    refine ⟨by show 3 ≤ w; omega, fun d hd => ?_⟩
    simp only [List.mem_cons, List.not_mem_nil, or_false] at hd
    rcases hd with rfl | rfl | rfl
    · exact tame_word (by decide +kernel)
    · exact tame_int (by omega)
    · refine tame_pairs (by omega) (fun q hq => ?_) hl'
      have h1 := rs.2 _ (List.mem_map_of_mem (f := (·.1)) hq)
      have h2 := w1 q hq
      omega
  | .cap own ties most, ⟨ho, rs, w1, hmo⟩, hl => by
    unfold smallI at ho hmo
    have hl' : ties.length ≤ w := by simpa [Rule.persons] using hl
    refine ⟨by show 4 ≤ w; omega, fun d hd => ?_⟩
    simp only [List.mem_cons, List.not_mem_nil, or_false] at hd
    rcases hd with rfl | rfl | rfl | rfl
    · exact tame_word (by decide +kernel)
    · exact tame_int (by omega)
    · refine tame_pairs (by omega) (fun q hq => ?_) hl'
      have h1 := rs.2 _ (List.mem_map_of_mem (f := (·.1)) hq)
      have h2 := w1 q hq
      omega
    · exact tame_int (by omega)
  | .kinds own seen, ⟨ho, rs⟩, hl => by
    unfold smallI at ho
    refine ⟨by show 3 ≤ w; omega, fun d hd => ?_⟩
    simp only [List.mem_cons, List.not_mem_nil, or_false] at hd
    rcases hd with rfl | rfl | rfl
    · exact tame_word (by decide +kernel)
    · exact tame_int (by omega)
    · exact tame_seen (fun q hq => by have := rs.2 q hq; omega) hl
  | .next seen, rs, hl => by
    have rs' : Rising many seen := rs
    refine ⟨by show 2 ≤ w; omega, fun d hd => ?_⟩
    simp only [List.mem_cons, List.not_mem_nil, or_false] at hd
    rcases hd with rfl | rfl
    · exact tame_word (by decide +kernel)
    · exact tame_seen (fun q hq => by have := rs'.2 q hq; omega) hl
  | .free seen, rs, hl => by
    have rs' : Rising many seen := rs
    refine ⟨by show 2 ≤ w; omega, fun d hd => ?_⟩
    simp only [List.mem_cons, List.not_mem_nil, or_false] at hd
    rcases hd with rfl | rfl
    · exact tame_word (by decide +kernel)
    · exact tame_seen (fun q hq => by have := rs'.2 q hq; omega) hl
end Lh

namespace Lh
open PySem PySem.Spec PyProof.Rows L2
theorem cutI_headN {α : Type} (xs : List α) : (cutI xs none (some 2)).length = min 2 xs.length := by
  unfold cutI
  rw [HT.sIx_none, show HT.sIx xs.length xs.length (some 2) = min 2 xs.length from HT.sIx_nat xs.length _ 2, List.length_take, List.length_drop]
  omega
theorem cutI_tailN {α : Type} (xs : List α) (h : xs.length ≤ 2) : (cutI xs (some 2) (some 63)).length = 0 := by
  unfold cutI
  rw [show HT.sIx xs.length 0 (some 2) = min 2 xs.length from HT.sIx_nat xs.length _ 2, List.length_take, List.length_drop]
  omega
section
variable {P : Program} {w : World} {K : PySem.W.Frag} {mg : Str → Option Value} {base : Heap}
def spFoldedN (K : PySem.W.Frag) : Sp := fun vs H Q _ => ∃ (a : Addr) (ns : List Int), vs = [.ref a, .int 2] ∧ SqL K H a (ns.map V.int) ∧ ns.length ≤ 63 ∧
  ∀ (p : Addr) (ms : List Int) (H' : Hp), Same H H' → H p = none → H' p = some (.lst (ms.map V.int)) → ms.length ≤ 2 → Q (.ref p) H'
theorem ok_foldedN (T : Txt K mg w) : FnOk P w K mg base CX0 1 T.f_folded T.fd_folded p_folded (spFoldedN K) := by
  refine T.F_folded.ok sc_folded (fun vs H Q E h => ?_) (fun cdv A outer s H vs Q E hr h => ?_)
  · obtain ⟨a, ns, rfl, _⟩ := h
    rfl
  · obtain ⟨a, ns, rfl, hS, hl, q⟩ := h
    refine ⟨_, (pss_cons (ps_set (i := 2) sc_folded.nd rfl (.inl rfl) (pe_callTy call_list_of (by rfl) T.m_list (by decide +kernel) (pa_cons (pe_slice sl_list (pv 0) po_none (po_some (pv 1))) pa_nil)))
      (pss_cons (ps_for PassesOwn.never rfl (pi_enum (by rfl) T.m_enumerate (pa_cons (pe_slice sl_list (pv 0) (po_some (pv 1)) (po_some pe_int)) pa_nil)) (pg_tup rfl (pgs_cons (pg_name (i := 3) sc_folded.nd rfl (.inl rfl)) (pgs_cons (pg_name (i := 4) sc_folded.nd rfl (.inl rfl)) pgs_nil)))
        (pss_one (ps_asg (pe_op op_add (pe_ix ix_list (pv 2) (pe_op op_mod (pv 3) (pv 1)) (fun _ _ => rfl)) (pe_op op_mul (pv 4) (pe_op op_add (pv 3) pe_int))) (pg_sub (pv 2) (pe_op op_mod (pv 3) (pv 1)) set_list))))
      (pss_one (ps_ret (pv 2))))), ?_⟩
    -- the cells
    refine ⟨.ref a, rfl, .int 2, rfl, 2, rfl, a, _, rfl, hS, fun c nc => ?_⟩
    have s1 := same_upd (o := .lst (cutV (ns.map V.int) none (some 2))) nc
    refine ⟨c, _, rfl, .inl (.inl (.inl upd_same)), fun l nl => ?_⟩
    have s2 := s1.trans (same_upd (o := .lst (cutV (ns.map V.int) none (some 2))) nl)
    have nlH : H l = none := s1.free nl
    -- the rest of the script
    refine ⟨.ref a, rfl, .int 2, rfl, 2, rfl, 63, rfl, a, _, rfl, s2.seq hS, fun d nd => ?_⟩
    have s3 := s2.trans (same_upd (o := .lst (cutV (ns.map V.int) (some 2) (some 63))) nd)
    have nld : l ≠ d := ne_of_none upd_same nd
    refine ⟨d, _, rfl, .inl (.inl upd_same), ?_⟩
    rw [cut_map V.int, cut_map V.int] at *
    refine for_it (walk_enum (xs := (cutI ns (some 2) (some 63)).map V.int)) (fun i σ H3 => ∃ (y3 y4 : Option V) (ms : List Int), σ = [some (.ref a), some (.int 2), some (.ref l), y3, y4] ∧ Same H H3 ∧ H3 d = some (.lst ((cutI ns (some 2) (some 63)).map V.int)) ∧ H3 l = some (.lst (ms.map V.int)) ∧ ms.length = min 2 ns.length) ?_ ?_ ?_ ?_
    · refine ⟨none, none, cutI ns none (some 2), rfl, s3, upd_same, ?_, cutI_headN ns⟩
      rw [upd_ne nld, upd_same]
    · rintro i σ H3 _ ⟨y3, y4, ms, rfl, _, hd, _⟩
      exact .inl (.inl hd)
    · rintro i x σ H3 H4 hi ⟨y3, y4, ms, rfl, sm, hd, hl3, hm⟩ ⟨t, x1, x2, rfl, nt, rfl, e1, e2⟩
      rw [List.length_map] at hi
      have e1' : V.int (i : Nat) = x1 := Option.some.inj e1
      subst e1'
      have e2' : x2 = .int (cutI ns (some 2) (some 63))[i] := by
        have : ((cutI ns (some 2) (some 63)).map V.int)[i]? = some x2 := e2
        rw [List.getElem?_map, List.getElem?_eq_getElem hi] at this
        exact (Option.some.inj this).symm
      subst e2'
      have h3 : ms.length = 2 := by
        by_cases hc : ns.length ≤ 2
        · rw [cutI_tailN ns hc] at hi; omega
        · omega
      have nlt : l ≠ t := ne_of_none hl3 nt
      have hl4 : (upd H3 t (.tup [.int (i : Nat), .int (cutI ns (some 2) (some 63))[i]])) l = some (.lst (ms.map V.int)) := by rw [upd_ne nlt]; exact hl3
      have hlt : ((i : Int) % 2).toNat < ms.length := by omega
      refine ⟨t, _, rfl, .inl (.inl upd_same), rfl, _, _, rfl, _, _, rfl, rfl, ?_⟩
      refine ⟨.ref l, rfl, .int i, rfl, .int 2, rfl, i, 2, rfl, rfl, by show (0 : Int) < 2; decide, l, _, _, .int ms[((i : Int) % 2).toNat], rfl, rfl, .inl (.inl hl4), ?_, ?_⟩
      · refine at_of (j := ((i : Int) % 2).toNat) (by omega) ?_
        rw [List.getElem?_map, List.getElem?_eq_getElem hlt]; rfl
      refine ⟨_, rfl, .int i, rfl, i, 2, rfl, rfl, _, _, rfl, rfl, .inr ⟨by omega, ?_⟩, _, _, rfl, rfl, .ref l, rfl, .int i, rfl, .int 2, rfl, i, 2, rfl, rfl, by show (0 : Int) < 2; decide, l, _, _, ((i : Int) % 2).toNat, rfl, rfl, hl4, ?_, ?_⟩
      · have : (cutI ns (some 2) (some 63)).length ≤ ns.length := by
          unfold cutI; rw [List.length_take, List.length_drop]; omega
        omega
      · show ixN (ms.map V.int).length ((i : Int) % 2) = some _
        unfold ixN
        rw [List.length_map, if_pos (by omega), if_pos (by omega)]
      · refine ⟨_, _, ms.set ((i : Int) % 2).toNat (ms[((i : Int) % 2).toNat] + (cutI ns (some 2) (some 63))[i] * ((i : Int) + 2)), rfl, ?_, ?_, ?_, ?_⟩
        · exact fun b o e => by
            rw [upd_ne (ne_of_none e nlH), upd_ne (ne_of_none (sm b o e) nt)]
            exact sm b o e
        · rw [upd_ne nld.symm, upd_ne (ne_of_none hd nt)]
          exact hd
        · rw [upd_same, List.map_set]
        · rw [List.length_set]; exact hm
    · rintro σ H3 ⟨y3, y4, ms, rfl, sm, hd, hl3, hm⟩
      exact ⟨.ref l, rfl, q l ms H3 sm nlH hl3 (by omega)⟩
end
end Lh

namespace Lh
open PySem PySem.Spec PyProof.Rows L2
theorem okD_rule {n : Nat} {m : Int} {r : Rule} (h : r.Wf m) (hm : m ≤ 1000) (m0 : 0 ≤ m) : okD (n + 3) r.data := by
  have lp := (wf_len h hm m0).1
  have pr : ∀ ties : List (Int × Int), ties.length ≤ 1000 → okD (n + 2) (.tuple (ties.map pairD)) := fun ties ht => by
    refine ⟨by rw [List.length_map]; omega, fun d hd => ?_⟩
    obtain ⟨q, _, rfl⟩ := List.mem_map.mp hd
    refine ⟨by show 2 ≤ 8388608; decide, fun d hd => ?_⟩
    rcases List.mem_cons.mp hd with rfl | hd
    · cases n <;> trivial
    · rw [List.mem_singleton.mp hd]; cases n <;> trivial
  have sn : ∀ seen : List Int, seen.length ≤ 1000 → okD (n + 2) (.tuple (seen.map PyData.int)) := fun seen hs => by
    refine ⟨by rw [List.length_map]; omega, fun d hd => ?_⟩
    obtain ⟨q, _, rfl⟩ := List.mem_map.mp hd
    trivial
  cases r with
  | held n => exact ⟨by show 2 ≤ 8388608; decide, fun d hd => by
      simp only [List.mem_cons, List.not_mem_nil, or_false] at hd
      rcases hd with rfl | rfl <;> trivial⟩
  | sum own ties => exact ⟨by show 3 ≤ 8388608; decide, fun d hd => by
      simp only [List.mem_cons, List.not_mem_nil, or_false] at hd
      rcases hd with rfl | rfl | rfl
      · trivial
      · trivial
      · exact pr _ (by simpa [Rule.persons] using lp)⟩
  | cap own ties most => exact ⟨by show 4 ≤ 8388608; decide, fun d hd => by
      simp only [List.mem_cons, List.not_mem_nil, or_false] at hd
      rcases hd with rfl | rfl | rfl | rfl
      · trivial
      · trivial
      · exact pr _ (by simpa [Rule.persons] using lp)
      · trivial⟩
  | kinds own seen => exact ⟨by show 3 ≤ 8388608; decide, fun d hd => by
      simp only [List.mem_cons, List.not_mem_nil, or_false] at hd
      rcases hd with rfl | rfl | rfl
      · trivial
      · trivial
      · exact sn _ lp⟩
  | next seen => exact ⟨by show 2 ≤ 8388608; decide, fun d hd => by
      simp only [List.mem_cons, List.not_mem_nil, or_false] at hd
      rcases hd with rfl | rfl
      · trivial
      · exact sn _ lp⟩
  | free seen => exact ⟨by show 2 ≤ 8388608; decide, fun d hd => by
      simp only [List.mem_cons, List.not_mem_nil, or_false] at hd
      rcases hd with rfl | rfl
      · trivial
      · exact sn _ lp⟩
def rulesD (rs : List Rule) : PyData := .tuple (rs.map Rule.data)
theorem okD_rules {n : Nat} {rs : List Rule} (h : Halls rs) : okD (n + 4) (rulesD rs) := by
  have := h.2.1
  refine ⟨by rw [List.length_map]; omega, fun d hd => ?_⟩
  obtain ⟨r, hr, rfl⟩ := List.mem_map.mp hd
  exact okD_rule (h.2.2 r hr) (by omega) (by omega)
theorem RulesAt.rp {bx : Addr} {c : Int} {H : Hp} (b : Box bx c H) : ∀ {us : List V} {rs : List Rule}, RulesAt H us rs → RpAll bx H us (rs.map Rule.data)
  | _, _, .nil => .nil
  | _, _, .cons h r => .cons (h.rp b) (RulesAt.rp b r)
section
variable {P : Program} {w : World} {K : PySem.W.Frag} {mg : Str → Option Value} {base : Heap}
def spRules (C : Addr) : Sp := fun vs H Q _ => ∃ (x : Addr) (rs : List Rule), vs = [.ref x] ∧ HallAt C H x rs ∧ ∀ (t : Addr) (us : List V), TupAt H t us → RulesAt H us rs → Q (.ref t) H
theorem ok_Hall_rules (T : Txt K mg w) : FnOk P w K mg base CX0 1 T.f_Hall_rules T.fd_Hall_rules p_Hall_rules (spRules T.C_Hall) := by
  refine T.F_Hall_rules.ok sc_Hall_rules (fun vs H Q E h => ?_) (fun cdv A outer s H vs Q E hr h => ?_)
  · obtain ⟨x, rs, rfl, _⟩ := h
    rfl
  · obtain ⟨x, rs, rfl, ⟨dx, t, vs, hx, ht, hv⟩, q⟩ := h
    refine ⟨_, (pss_one (ps_ret (pe_fld (pv 0) rfl))), ?_⟩
    exact ⟨.ref x, rfl, x, T.C_Hall, dx, _, _, rfl, hx, T.cl_Hall, T.na_Hall_kept, kept_yes _, q t vs ht hv⟩
theorem neTA {bx : Addr} {c : Int} {H : Hp} (h : Box bx c H) {p : Addr} {xs : List V} (n : TupAt H p xs) : p ≠ bx := by
  rcases n with n | ⟨o, _, n⟩
  · exact h.neT n
  · exact h.neF n
def rowD (r : List Int) : PyData := .tuple (r.map PyData.int)
theorem RowsAt.rp {bx : Addr} {c : Int} {H : Hp} (b : Box bx c H) : ∀ {ts : List Addr} {rows : List (List Int)}, RowsAt H ts rows → RpAll bx H (ts.map V.ref) (rows.map rowD)
  | _, _, .nil => .nil
  | _, _, .cons h r => .cons (.tup h (neTA b h) (RpAll.ints _)) (RowsAt.rp b r)
theorem next_all : (List.range 8).all (fun m => [false, true].all fun ring => SeqAt.shaped (rulesD (nextR (m + 1) ring)) && PyData.eqv (rulesD (nextR (m + 1) ring)) (rulesD (nextR (m + 1) ring))) = true := by decide +kernel
theorem next_known {n : Nat} (h1 : 1 ≤ n) (h2 : n ≤ 8) (ring : Bool) : SeqAt.shaped (rulesD (nextR n ring)) = true ∧ PyData.eqv (rulesD (nextR n ring)) (rulesD (nextR n ring)) = true := by
  have h := List.all_eq_true.mp next_all (n - 1) (List.mem_range.mpr (by omega))
  have h := List.all_eq_true.mp h ring (by cases ring <;> simp)
  rw [show n - 1 + 1 = n by omega, Bool.and_eq_true] at h
  exact h
/-- what stands in a turn -/
structure F37 (bx : Addr) (c : Int) (H0 : Hp) (l : Addr) (us : List V) (rs : List Rule) (tp : Addr) (Hk : Hp) : Prop where
  e : Ext bx H0 Hk
  b : Box bx c Hk
  hl : TupAt Hk l us
  ra : RulesAt Hk us rs
  ht : Hk tp = some (.tup [.bl false, .bl true])
theorem F37.same {bx : Addr} {c : Int} {H0 : Hp} {l : Addr} {us : List V} {rs : List Rule} {tp : Addr} {Hk H' : Hp} (f : F37 bx c H0 l us rs tp Hk) (s : Same Hk H') : F37 bx c H0 l us rs tp H' :=
  ⟨f.e.trans (Ext.of s), f.b.same s, f.hl.keep (Keep.same s), f.ra.keep (Keep.same s), s _ _ f.ht⟩
theorem F37.draw {bx : Addr} {c c' : Int} {H0 : Hp} {l : Addr} {us : List V} {rs : List Rule} {tp : Addr} {Hk H' : Hp} (f : F37 bx c H0 l us rs tp Hk) (n : tp ≠ bx) (e : Ext bx Hk H') (b : Box bx c' H') : F37 bx c' H0 l us rs tp H' :=
  ⟨f.e.trans e, b, f.hl.keep (Keep.ext e f.b), f.ra.keep (Keep.ext e f.b), e _ _ n f.ht⟩
set_option maxHeartbeats 16000000 in
theorem ok_right (T : Txt K mg w) : FnG P w K mg base 11 T.f_right T.fd_right p_right spRight := by
  have G_take := ok_take (P := P) (w := w) (base := base) T
  have G_next_rules := ok_next_rules (P := P) (w := w) (base := base) T
  have G_line_hall := ok_line_hall (P := P) (w := w) (base := base) T
  have G_Hall_rules := ok_Hall_rules (P := P) (w := w) (base := base) T
  have G_bits := ok_bits (P := P) (w := w) (base := base) T
  have G_restless := ok_law_restless (P := P) (w := w) (base := base) T
  have G_line_rest := fn_calm (ok_line_restX (P := P) (w := w) (base := base) T)
  have G_line_counts := ok_line_counts1 (P := P) (w := w) (base := base) T
  have G_line_number := ok_line_number (P := P) (w := w) (base := base) T
  have G_refused := ok_refused (P := P) (w := w) (base := base) T
  have G_same := ok_same (P := P) (w := w) (base := base) T 6
  obtain ⟨D_line_counts, V_line_counts, B_line_counts⟩ := T.b_line_counts
  obtain ⟨D_line_hall, V_line_hall, B_line_hall⟩ := T.b_line_hall
  refine okG T.F_right sc_right (fun vs H Q E h => ?_) (fun cdv A outer s H vs Q E hr hG h => ?_)
  · obtain ⟨bx, rfl, _⟩ := h
    rfl
  · obtain ⟨bx, rfl, hB, q⟩ := h
    refine ⟨_, (pss_cons (ps_for PassesOwn.never rfl (pi_tup (pe_tup (pa_cons pe_bl (pa_cons pe_bl pa_nil)))) (pg_name (i := 1) sc_right.nd rfl (.inr rfl))
        (pss_cons (ps_set (i := 2) sc_right.nd rfl (.inr rfl) (pe_op op_add pe_int (pe_call G_take (hr.mono (by decide)) (by rfl) T.g_take T.F_take.kp T.b_take .nil pass0 (pa_cons (pv 0) (pa_cons pe_int pa_nil)))))
        (pss_cons (ps_set (i := 3) sc_right.nd rfl (.inr rfl) (pe_call G_next_rules (hr.mono (by decide)) (by rfl) T.g_next_rules T.F_next_rules.kp T.b_next_rules .nil pass0 (pa_cons (pv 2) (pa_cons (pv 1) pa_nil))))
        (pss_cons (ps_if (pt_not (pt_val (pe_call G_same (hr.mono (by decide)) (by rfl) T.g_same T.F_same.kp T.b_same .nil pass0 (pa_cons (pe_meth0 (pe_callN G_line_hall (hr.mono (by decide)) (by rfl) T.g_line_hall T.F_line_hall.kp T.kb_line_hall pass0 (pa_cons (pv 2) pa_nil) (pk_cons (pv 1) pk_nil)) T.cl_Hall T.me_Hall_rules G_Hall_rules (hr.mono (by decide)) T.b_Hall_rules .nil pass0) (pa_cons (pv 3) pa_nil)))))
          (pss_one (ps_ret pe_bl))
          pss_nil)
        (pss_cons (ps_setLc (i := 4) (own := [("_law_row", 5)]) (g := gName 5) (by rfl) sc_right.nd rfl rfl (sw_true rfl rfl rfl (by decide +kernel)) (pi_list (pe_call G_bits (hr.mono (by decide)) (by rfl) T.g_bits T.F_bits.kp T.b_bits .nil pass0 (pa_cons (pv 2) pa_nil))) (blkOk_by (own := [("_law_row", 5)]) (N := n_right) (sc := defScope s_right) (by decide +kernel)) (fun _ _ _ _ _ => (pg_name (i := 5) sc_right.nd rfl (.inl rfl) (.inr rfl))) (fun _ _ _ _ _ => (pts_one (pt_cmpR (r := rEqD K) (op_eqD hr.units) (pe_call G_restless (hr.mono (by decide)) (by rfl) T.g_restless T.F_restless.kp T.b_restless .nil pass0 (pa_cons (pv 3) (pa_cons (pv 5) pa_nil))) (pe_lst pa_nil) (nomark _)))) (fun _ _ _ _ _ => (pv 5)))
        (pss_cons (ps_setLc (i := 6) (own := [("_law_k", 7)]) (g := gName 7) (by rfl) sc_right.nd rfl rfl (sw_true rfl rfl rfl (by decide +kernel)) (pi_range1 (by rfl) T.m_range (pa_cons (pe_callB call_len_seq (by rfl) T.m_len (by decide +kernel) (pa_cons (pv 4) pa_nil)) pa_nil)) (blkOk_by (own := [("_law_k", 7)]) (N := n_right) (sc := defScope s_right) (by decide +kernel)) (fun _ _ _ _ _ => (pg_name (i := 7) sc_right.nd rfl (.inl rfl) (.inr rfl))) (fun _ _ _ _ _ => pts_nil) (fun _ _ _ _ _ => (pe_callN G_line_rest (hr.mono (by decide)) (by rfl) T.g_line_rest T.F_line_rest.kp T.kb_line_rest pass0 (pa_cons (pv 2) (pa_cons (pv 7) pa_nil)) (pk_cons (pv 1) pk_nil))))
        (pss_cons (ps_if (pt_not (pt_val (pe_call G_same (hr.mono (by decide)) (by rfl) T.g_same T.F_same.kp T.b_same .nil pass0 (pa_cons (pe_lst (pa_cons (pe_callN G_line_counts (hr.mono (by decide)) (by rfl) T.g_line_counts T.F_line_counts.kp T.kb_line_counts pass0 (pa_cons (pv 2) pa_nil) (pk_cons (pv 1) pk_nil)) (pa_cons (pv 6) pa_nil))) (pa_cons (pe_lst (pa_cons (pe_callB call_len_seq (by rfl) T.m_len (by decide +kernel) (pa_cons (pv 4) pa_nil)) (pa_cons (pv 4) pa_nil))) pa_nil)))))
          (pss_one (ps_ret pe_bl))
          pss_nil)
        (pss_cons (ps_if (pt_not (pt_val (pe_call G_same (hr.mono (by decide)) (by rfl) T.g_same T.F_same.kp T.b_same .nil pass0 (pa_cons (pe_lc (own := [("_law_row", 5)]) (g := gName 5) (by rfl) sc_right.nd (pi_list (pv 4)) (blkOk_by (own := [("_law_row", 5)]) (N := n_right) (sc := defScope s_right) (by decide +kernel)) (fun _ _ _ _ _ => (pg_name (i := 5) sc_right.nd rfl (.inl rfl) (.inr rfl))) (fun _ _ _ _ _ => pts_nil) (fun _ _ _ _ _ => (pe_callN G_line_number (hr.mono (by decide)) (by rfl) T.g_line_number T.F_line_number.kp T.kb_line_number pass0 (pa_cons (pv 5) pa_nil) (pk_cons (pv 1) pk_nil)))) (pa_cons (pe_listRg (by rfl) (by rfl) T.m_list (prg_1 (by rfl) T.m_range (pe_callB call_len_seq (by rfl) T.m_len (by decide +kernel) (pa_cons (pv 4) pa_nil)))) pa_nil)))))
          (pss_one (ps_ret pe_bl))
          pss_nil)
        (pss_cons (ps_set (i := 8) sc_right.nd rfl (.inl rfl) (pe_op op_add (pe_callB call_len_seq (by rfl) T.m_len (by decide +kernel) (pa_cons (pv 4) pa_nil)) (pe_call G_take (hr.mono (by decide)) (by rfl) T.g_take T.F_take.kp T.b_take .nil pass0 (pa_cons (pv 0) (pa_cons pe_int pa_nil)))))
        (pss_cons (ps_if (pt_not (pt_val (pe_call G_same (hr.mono (by decide)) (by rfl) T.g_same T.F_same.kp T.b_same .nil pass0 (pa_cons (pe_lc (own := [("_law_k", 7)]) (g := gName 7) (by rfl) sc_right.nd (pi_tup (pe_tup (pa_cons (pe_callB call_len_seq (by rfl) T.m_len (by decide +kernel) (pa_cons (pv 4) pa_nil)) (pa_cons (pv 8) (pa_cons (pe_un un_neg pe_int) pa_nil))))) (blkOk_by (own := [("_law_k", 7)]) (N := n_right) (sc := defScope s_right) (by decide +kernel)) (fun _ _ _ _ _ => (pg_name (i := 7) sc_right.nd rfl (.inl rfl) (.inr rfl))) (fun _ _ _ _ _ => pts_nil) (fun _ _ _ _ _ => (pe_call G_refused (hr.mono (by decide)) (by rfl) T.g_refused T.F_refused.kp T.b_refused .nil pass0 (pa_cons (pv 2) (pa_cons (pv 7) (pa_cons (pv 1) pa_nil)))))) (pa_cons (pe_lst (pa_cons (pe_callB call_len_seq (by rfl) T.m_len (by decide +kernel) (pa_cons (pv 4) pa_nil)) (pa_cons (pv 8) (pa_cons (pe_un un_neg pe_int) pa_nil)))) pa_nil)))))
          (pss_one (ps_ret pe_bl))
          pss_nil)
        (pss_cons (ps_set (i := 9) sc_right.nd rfl (.inl rfl) (pe_lst (pa_cons (pe_cmpR (op_eqD hr.units) (pe_meth0 (pe_call G_line_hall (hr.mono (by decide)) (by rfl) T.g_line_hall T.F_line_hall.kp B_line_hall V_line_hall pass0 (pa_cons (pv 2) pa_nil)) T.cl_Hall T.me_Hall_rules G_Hall_rules (hr.mono (by decide)) T.b_Hall_rules .nil pass0) (pv 3) (nomark _)) (pa_cons (pe_cmpR op_eq (pe_call G_line_counts (hr.mono (by decide)) (by rfl) T.g_line_counts T.F_line_counts.kp B_line_counts V_line_counts pass0 (pa_cons (pv 2) pa_nil)) (pe_callB call_len_seq (by rfl) T.m_len (by decide +kernel) (pa_cons (pv 4) pa_nil)) (nomark _)) pa_nil))))
        (pss_one (ps_if (PW.pt (pw_and (pt_not (pt_val (pv 1))) (pw_and1 (pt_cmpR (op_neD hr.units) (pv 9) (pe_lst (pa_cons pe_bl (pa_cons pe_bl pa_nil))) (nomark _)))))
          (pss_one (ps_ret pe_bl))
          pss_nil)))))))))))))
      (pss_one (ps_ret pe_bl))), ?_⟩
    refine ⟨by show 2 ≤ sizeLine; decide, fun tp ntp => ?_⟩
    refine ⟨tp, rfl, ⟨_, .inl (.inl upd_same)⟩, ?_⟩
    have sP := same_upd (o := .tup [.bl false, .bl true]) ntp
    refine for_it (walk_tup (xs := [V.bl false, V.bl true])) (fun i σ H3 => ∃ y1 y2 y3 y4 y5 y6 y7 y8 y9 : Option V, σ = [some (.ref bx), y1, y2, y3, y4, y5, y6, y7, y8, y9] ∧ Ext bx H H3 ∧ Box bx (2 * i) H3 ∧ H3 tp = some (.tup [.bl false, .bl true])) ⟨_, _, _, _, _, _, _, _, _, rfl, Ext.of sP, (hB.same sP).mono (by omega), upd_same⟩ ?_ ?_ ?_
    · rintro i σ H3 _ ⟨y1, y2, y3, y4, y5, y6, y7, y8, y9, rfl, e3, b3, h3⟩
      exact .inl (.inl h3)
    · rintro i x σ H3 H4 hi ⟨y1, y2, y3, y4, y5, y6, y7, y8, y9, rfl, e3, b3, h3⟩ ⟨rfl, hv⟩
      have hi' : i < 2 := hi
      obtain ⟨ring, rfl⟩ : ∃ ring : Bool, x = .bl ring := by
        have hv' : [V.bl false, V.bl true][i]? = some x := hv
        rcases (by omega : i = 0 ∨ i = 1) with c | c
        · subst c; exact ⟨false, (Option.some.inj hv').symm⟩
        · subst c; exact ⟨true, (Option.some.inj hv').symm⟩
      clear hv
      have ntb : tp ≠ bx := hB.ne ntp
      refine ⟨.ref bx, rfl, bx, _, 8, rfl, by decide, by decide, by omega, b3, fun r1 H5 r10 r11 e5 b5 => ⟨1, r1, rfl, rfl, ?_⟩⟩
      obtain ⟨n, en⟩ : ∃ n : Nat, (1 : Int) + r1 = (n : Int) := ⟨(1 + r1).toNat, by omega⟩
      dsimp only
      rw [en]
      have n1 : 1 ≤ n := by omega
      have n8 : n ≤ 8 := by omega
      have hh := nextR_halls ring n1 (by omega : n ≤ 12)
      have h5 := e5 _ _ ntb h3
      have eH5 := e3.trans e5
      clear e5 e3 b3 h3 en r10 r11
      refine ⟨.int n, rfl, .bl ring, rfl, n, ring, rfl, n1, by omega, fun l us H6 s6 hl ra => ?_⟩
      have b6 := b5.same s6
      have h6 := s6 _ _ h5
      have e6 := eH5.trans (Ext.of s6)
      clear s6 h5 b5 eH5
      -- the hall
      refine ⟨.int n, rfl, .bl ring, rfl, rfl, rfl, n, ring, rfl, n1, by omega, fun x H7 s7 hA => ?_⟩
      obtain ⟨dx, tx, vx, ex, _, _⟩ := id hA
      refine ⟨x, dx, _, rfl, ex, kept_no _ (by decide +kernel), x, nextR n ring, rfl, hA, fun t us2 ht ra2 => ?_⟩
      have hl7 := hl.keep (Keep.same s7)
      have ra7 := ra.keep (Keep.same s7)
      have b7 := b6.same s7
      refine ⟨.ref l, rfl, bx, .ref t, .ref l, rulesD (nextR n ring), rfl, .tup ht (neTA b7 ht) (ra2.rp b7), .tup hl7 (neTA b7 hl7) (ra7.rp b7), okD_rules hh, fun H8 s8 => ⟨_, rfl, iteN rfl ?_⟩⟩
      have s68 := s7.trans s8
      have F8 : F37 bx (2 * i + 1) H l us (nextR n ring) tp H8 := ⟨e6.trans (Ext.of s68), b6.same s68, hl.keep (Keep.same s68), ra.keep (Keep.same s68), s68 _ _ h6⟩
      clear s68 s8 s7 hl7 ra7 b7 ht ra2 hA ex b6 h6 e6 hl ra
      -- the rests
      refine ⟨.int n, rfl, n, rfl, n8, fun z ts H9 s9 nz hz rz => ⟨z, rfl, ⟨_, .inl (.inl hz)⟩, fun D hD => ?_⟩⟩
      have F9 := F8.same s9
      have p256 : 2 ^ n ≤ 256 := Nat.le_trans (Nat.pow_le_pow_right (by decide) n8) (by decide)
      have lts : ts.length = 2 ^ n := by rw [rz.length, bitsL_len]
      refine lc_it (walk_listR ts) (fun j HA => ∃ ds : List Addr, Same H9 HA ∧ HA D = some (.lst (ds.map V.ref)) ∧ RowsAt HA ds (((bitsL n).take j).filter (restB n ring))) ⟨[], same_upd hD, upd_same, .nil⟩ ?_ ?_ ?_
      · rintro j HA _ ⟨ds, sA, _⟩
        exact .inl (.inl (sA _ _ hz))
      · rintro j y HA HB hj ⟨ds, sA, hA, rd⟩ ⟨rfl, hy⟩
        rw [List.getElem?_map, List.getElem?_eq_getElem hj] at hy
        cases hy
        have hj2 : j < (bitsL n).length := by rw [← rz.length]; exact hj
        have htr := (paired_get rz j hj hj2).keep (Keep.same sA)
        have lrow := bitsL_row n _ (List.getElem_mem hj2)
        have tk : (bitsL n).take (j + 1) = (bitsL n).take j ++ [(bitsL n)[j]] := List.take_succ_eq_append_getElem hj2
        have dl : ds.length ≤ 256 := by
          rw [rd.length]
          refine Nat.le_trans (List.length_filter_le _ _) ?_
          rw [List.length_take]; omega
        rw [tk, List.filter_append]
        generalize (bitsL n)[j] = row at htr lrow tk ⊢
        have FA := F9.same sA
        refine ⟨rfl, ?_⟩
        refine ⟨.ref l, rfl, .ref ts[j], rfl, l, ts[j], us, nextR n ring, row, rfl, FA.hl, FA.ra, hh, htr, by rw [nextR_len]; exact lrow, fun z2 HC sC nz2 hz2 => ⟨Nat.zero_le _, fun e ne => ?_⟩⟩
        have se := same_upd (o := .lst []) ne
        refine ⟨.list ((restL (nextR n ring) row).map PyData.int), .list [], .lst (.inl (.inl (se _ _ hz2))) (RpAll.dp (bx := bx) (RpAll.ints _)), .lst (.inl (.inl upd_same)) .nil, shaped_ints _, by decide +kernel, _, rfl, ?_⟩
        rw [eqv_nil2, restB_iff lrow]
        have sCe := sC.trans se
        have hA2 := sCe _ _ hA
        cases hb : restB n ring row with
        | true =>
          refine iteP rfl ?_
          have kT := keep_lst (ys := ds.map V.ref ++ [.ref ts[j]]) hA2
          refine ⟨.ref ts[j], rfl, _, hA2, by rw [List.length_map]; exact small1000 (by omega), ds ++ [ts[j]], same_mut (sA.trans sCe) hD, by rw [upd_same, List.map_append]; rfl, ?_⟩
          rw [List.filter_cons, if_pos hb, List.filter_nil]
          exact Paired.snoc (R := fun (t : Addr) (row : List Int) => TupAt _ t (row.map V.int)) ((htr.keep (Keep.same sCe)).keep kT) ((RowsAt.keep (Keep.same sCe) rd).keep kT)
        | false =>
          refine iteN rfl ⟨ds, sA.trans sCe, hA2, ?_⟩
          rw [List.filter_cons, if_neg (by rw [hb]; decide), List.filter_nil, List.append_nil]
          exact rd.keep (Keep.same sCe)
      rintro HA ⟨ds, sA, hA, rd⟩
      rw [show ts.length = (bitsL n).length from rz.length, List.take_length, (rows_due n1 n8 ring).1] at rd
      have cs := cnt_small n1 n8 ring
      have lds : ds.length = cntK ring n := by rw [rd.length, List.length_map, List.length_range]
      have nDb := F9.b.ne hD
      have FA := F9.same sA
      have ldr : (ds.map V.ref).length = cntK ring n := by rw [List.length_map]; exact lds
      clear F9 F8 s9 nz hz rz hD lts p256 sA
      -- all of them, by number
      refine ⟨.ref D, rfl, D, _, rfl, .inl (.inl (.inl hA)), _, rfl, by rw [ldr]; omega, by rw [ldr]; omega, fun D2 hD2 => ?_⟩
      rw [ldr]
      refine lc_it walk_range (fun k HB => ∃ es : List Addr, Same HA HB ∧ HB D2 = some (.lst (es.map V.ref)) ∧ RowsAt HB es ((List.range k).map (rowK ring n))) ⟨[], same_upd hD2, upd_same, .nil⟩ (fun _ _ _ _ => trivial) ?_ ?_
      · rintro k v HB HC hk ⟨es, sB, hB2, re⟩ ⟨rfl, rfl⟩
        have hk' : k < cntK ring n := by have : k < ((cntK ring n : Nat) : Int).toNat := hk; omega
        have le : es.length = k := by rw [re.length, List.length_map, List.length_range]
        refine ⟨rfl, yes (iteT ?_)⟩
        refine ⟨.int n, rfl, .int (0 + k), rfl, .bl ring, rfl, rfl, rfl, n, 0 + (k : Int), ring, rfl, n1, by omega, fun k2 e kc t HC sC htC => ?_, fun no => absurd ⟨by omega, by omega⟩ no⟩
        have : k2 = k := by omega
        subst this
        have hB3 := sC _ _ hB2
        have kT := keep_lst (ys := es.map V.ref ++ [.ref t]) hB3
        refine ⟨_, hB3, by rw [List.length_map]; exact small1000 (by omega), es ++ [t], same_mut (sB.trans sC) hD2, by rw [upd_same, List.map_append]; rfl, ?_⟩
        rw [List.range_succ, List.map_append]
        exact Paired.snoc (R := fun (t : Addr) (row : List Int) => TupAt _ t (row.map V.int)) (htC.keep kT) ((RowsAt.keep (Keep.same sC) re).keep kT)
      rintro HB ⟨es, sB, hB2, re⟩
      rw [show ((cntK ring n : Nat) : Int).toNat = cntK ring n by omega] at re
      have FB := FA.same sB
      have hAB := sB _ _ hA
      have rdB := RowsAt.keep (Keep.same sB) rd
      have nD2b := FA.b.ne hD2
      have les : es.length = cntK ring n := by rw [re.length, List.length_map, List.length_range]
      have lrows : ((List.range (cntK ring n)).map (rowK ring n)).length = cntK ring n := by rw [List.length_map, List.length_range]
      clear FA hA rd sB hD2
      -- told so
      refine ⟨.int n, rfl, .bl ring, rfl, rfl, rfl, n, ring, rfl, n1, by omega, .ref D2, rfl, by show 2 ≤ sizeLine; decide, fun p1 np1 => ?_⟩
      have s1 := same_upd (o := .lst [.int (cntK ring n : Nat), .ref D2]) np1
      refine ⟨.ref D, rfl, D, _, rfl, .inl (.inl (.inl (s1 _ _ hAB))), .ref D, rfl, by show 2 ≤ sizeLine; decide, fun p2 np2 => ?_⟩
      rw [ldr]
      have s2 := same_upd (o := .lst [.int (cntK ring n : Nat), .ref D]) np2
      have b12 := (FB.b.same s1).same s2
      have okR : okD 4 (.list (((List.range (cntK ring n)).map (rowK ring n)).map rowD)) := by
        refine ⟨by rw [List.length_map, lrows]; omega, fun d hd => ?_⟩
        obtain ⟨r, hr, rfl⟩ := List.mem_map.mp hd
        obtain ⟨k, _, rfl⟩ := List.mem_map.mp hr
        exact okD_ints (by rw [rowK_len]; omega)
      refine ⟨bx, .ref p1, .ref p2, .list [.int (cntK ring n : Nat), .list (((List.range (cntK ring n)).map (rowK ring n)).map rowD)], rfl, .lst (s2 _ _ upd_same) (FB.b.ne np1) (.cons (.int _) (.cons (.lst (s2 _ _ (s1 _ _ hB2)) nD2b (RowsAt.rp b12 (RowsAt.keep (Keep.same (s1.trans s2)) re))) .nil)), .lst upd_same ((FB.b.same s1).ne np2) (.cons (.int _) (.cons (.lst (s2 _ _ (s1 _ _ hAB)) nDb (RowsAt.rp b12 (RowsAt.keep (Keep.same (s1.trans s2)) rdB))) .nil)), ⟨by show 2 ≤ 8388608; decide, fun d hd => ?_⟩, fun HC sC => ⟨_, rfl, iteN rfl ?_⟩⟩
      · simp only [List.mem_cons, List.not_mem_nil, or_false] at hd
        rcases hd with rfl | rfl
        · trivial
        · exact okR
      have sBC := s1.trans (s2.trans sC)
      have FC := FB.same sBC
      have hAC := sBC _ _ hAB
      have rdC := RowsAt.keep (Keep.same sBC) rdB
      clear s1 s2 sC sBC b12 np1 np2 FB hAB rdB hB2 re
      -- their numbers
      refine ⟨.ref D, rfl, D, rfl, ⟨_, .inl (.inl hAC)⟩, fun D3 hD3 => ?_⟩
      refine lc_map (walk_listR ds) (fun k => .int (numP ring [] (rowK ring n k) : Nat)) hD3 (by omega) (fun HD sD => .inl (.inl (sD _ _ hAC))) ?_ ?_
      · rintro k y HD HE hk sD ⟨rfl, hy⟩ Q' Z hQ
        rw [List.getElem?_map, List.getElem?_eq_getElem hk] at hy
        cases hy
        have hk2 : k < ((List.range (cntK ring n)).map (rowK ring n)).length := by rw [lrows]; omega
        have htr := (paired_get rdC k hk hk2).keep (Keep.same sD)
        rw [List.getElem_map, List.getElem_range] at htr
        refine ⟨rfl, yes (iteT ?_)⟩
        exact ⟨.ref ds[k], rfl, .bl ring, rfl, rfl, rfl, ds[k], ring, rowK ring n k, rfl, by rw [rowK_len]; omega, htr, fun H' s' => hQ _ s'⟩
      intro HD sD hD3'
      rw [lds] at hD3'
      have hD4 : HD D3 = some (.lst (((List.range (cntK ring n)).map fun k : Nat => (k : Int)).map V.int)) := by
        rw [hD3']
        have e := congrArg (List.map fun k : Nat => V.int (k : Int)) (rows_due n1 n8 ring).2
        rw [List.map_map] at e
        rw [List.map_map]
        exact congrArg (fun x => some (HO.lst x)) e
      have nD3b := FC.b.ne hD3
      have FD := FC.same sD
      have hAD := sD _ _ hAC
      refine ⟨.ref D, rfl, D, _, rfl, .inl (.inl (.inl hAD)), _, rfl, RgOk.of_le (by first | omega | (rw [ldr]; omega)) (by first | omega | (rw [ldr]; omega)) (by first | omega | (rw [ldr]; omega)) (by first | omega | (rw [ldr]; omega)), fun pl np => ?_⟩
      rw [ldr, rg_ints, Int.toNat_natCast]
      have s3 := same_upd (o := .lst (((List.range (cntK ring n)).map fun k : Nat => (k : Int)).map V.int)) np
      refine ⟨bx, .ref D3, .ref pl, .list (((List.range (cntK ring n)).map fun k : Nat => (k : Int)).map PyData.int), rfl, .lst (s3 _ _ hD4) nD3b (RpAll.ints _), .lst upd_same (FD.b.ne np) (RpAll.ints _), okD_intsL (by rw [List.length_map, List.length_range]; omega), fun HE sE => ⟨_, rfl, iteN rfl ?_⟩⟩
      have sDE := s3.trans sE
      have FE := FD.same sDE
      have hAE := sDE _ _ hAD
      clear hD3 hD3' hD4 nD3b sD s3 sE sDE FD hAD FC hAC rdC np les
      -- what is no number of a rest
      refine ⟨.ref D, rfl, D, _, rfl, .inl (.inl (.inl hAE)), .ref bx, rfl, bx, _, 99, rfl, by decide, by decide, by omega, FE.b, fun r2 HF r20 r21 eF bF => ⟨_, r2, rfl, rfl, ?_⟩⟩
      have FF := FE.draw ntb eF bF
      have hAF := eF _ _ nDb hAE
      rw [ldr]
      clear eF bF FE hAE
      obtain ⟨far, hfar⟩ : ∃ far : Int, ((cntK ring n : Nat) : Int) + r2 = far := ⟨_, rfl⟩
      dsimp only
      rw [hfar]
      refine ⟨.ref D, rfl, D, _, rfl, .inl (.inl (.inl hAF)), _, rfl, 1, rfl, by show 3 ≤ sizeLine; decide, fun tq ntq => ⟨tq, rfl, ⟨_, .inl (.inl upd_same)⟩, fun D5 hD5 => ?_⟩⟩
      rw [ldr] at hD5 ⊢
      have sq := same_upd (o := .tup [.int (cntK ring n : Nat), .int far, .int (-1)]) ntq
      have FG := FF.same sq
      have hAG := sq _ _ hAF
      have hqG := upd_same (H := HF) (a := tq) (o := HO.tup [.int (cntK ring n : Nat), .int far, .int (-1)])
      dsimp only at hD5 ⊢
      generalize upd HF tq (.tup [.int (cntK ring n : Nat), .int far, .int (-1)]) = HG at hD5 sq FG hAG hqG ⊢
      have nD5b := FG.b.ne hD5
      refine lc_map (walk_tup (xs := ([((cntK ring n : Nat) : Int), far, -1] : List Int).map V.int)) (fun k => .int (([((cntK ring n : Nat) : Int), far, -1] : List Int).getD k 0)) hD5 (by show 3 ≤ 1000; decide) (fun H' s' => .inl (.inl (s' _ _ hqG))) ?_ ?_
      · rintro k y HH HI hk sH ⟨rfl, hy⟩ Q' Z hQ
        have hk3 : k < 3 := hk
        obtain ⟨v, no, rfl, ek⟩ : ∃ v : Int, ¬ (0 ≤ v ∧ v < cntK ring n) ∧ y = .int v ∧ ([((cntK ring n : Nat) : Int), far, -1] : List Int).getD k 0 = v := by
          have hy' : (([((cntK ring n : Nat) : Int), far, -1] : List Int).map V.int)[k]? = some y := hy
          rcases (by omega : k = 0 ∨ k = 1 ∨ k = 2) with c | c | c
          · subst c; exact ⟨_, by omega, (Option.some.inj hy').symm, rfl⟩
          · subst c; exact ⟨far, by omega, (Option.some.inj hy').symm, rfl⟩
          · subst c; exact ⟨-1, by omega, (Option.some.inj hy').symm, rfl⟩
        rw [ek] at hQ
        refine ⟨rfl, yes (iteT ?_)⟩
        exact ⟨.int n, rfl, .int v, rfl, .bl ring, rfl, n, v, ring, rfl, n1, by omega, no, fun H' s' => hQ _ s'⟩
      intro HH sH hH
      have hH2 : HH D5 = some (.lst (([((cntK ring n : Nat) : Int), far, -1] : List Int).map V.int)) := hH
      have FH := FG.same sH
      have hAH := sH _ _ hAG
      refine ⟨.ref D, rfl, D, _, rfl, .inl (.inl (.inl hAH)), _, rfl, 1, rfl, by show 3 ≤ sizeLine; decide, fun l6 nl6 => ?_⟩
      rw [ldr]
      dsimp only
      have s6 := same_upd (o := .lst (([((cntK ring n : Nat) : Int), far, -1] : List Int).map V.int)) nl6
      refine ⟨bx, .ref D5, .ref l6, .list (([((cntK ring n : Nat) : Int), far, -1] : List Int).map PyData.int), rfl, .lst (s6 _ _ hH2) nD5b (RpAll.ints _), .lst upd_same (FH.b.ne nl6) (RpAll.ints ([((cntK ring n : Nat) : Int), far, -1] : List Int)), okD_intsL (by show 3 ≤ 8388608; decide), fun HJ sJ => ⟨_, rfl, iteN rfl ?_⟩⟩
      have sHJ := s6.trans sJ
      have FJ := FH.same sHJ
      have hAJ := sHJ _ _ hAH
      clear hH hH2 sH s6 sJ sHJ FH hAH nl6 FG hAG hD5 nD5b hqG sq ntq FF hAF hfar r20 r21
      -- a line needs no word
      refine ⟨.int n, rfl, n, false, rfl, n1, by omega, fun x2 HK sK hA2 => ?_⟩
      obtain ⟨dx2, tx2, vx2, ex2, _, _⟩ := id hA2
      refine ⟨x2, dx2, _, rfl, ex2, kept_no _ (by decide +kernel), x2, nextR n false, rfl, hA2, fun t2 us3 ht2 ra3 => ?_⟩
      have FK := FJ.same sK
      have hAK := sK _ _ hAJ
      refine ⟨.ref l, rfl, rulesD (nextR n false), rulesD (nextR n ring), Rp.dp (bx := bx) (.tup ht2 (neTA FK.b ht2) (ra3.rp FK.b)), Rp.dp (bx := bx) (.tup FK.hl (neTA FK.b FK.hl) (FK.ra.rp FK.b)), (next_known n1 n8 false).1, (next_known n1 n8 ring).1, ?_⟩
      refine ⟨.int n, rfl, n, false, rfl, n1, by omega, ?_⟩
      refine ⟨.ref D, rfl, D, _, rfl, .inl (.inl (.inl hAK)), ?_⟩
      rw [ldr]
      refine ⟨rfl, by show 2 ≤ sizeLine; decide, fun p9 np9 => ?_⟩
      have eqk : ∀ a : Int, (decide (V.int a = V.int a)) = true := fun a => decide_eq_true rfl
      have s9 := same_upd (o := .lst [.bl (PyData.eqv (rulesD (nextR n false)) (rulesD (nextR n ring))), .bl (decide (V.int (cntK false n : Nat) = V.int (cntK ring n : Nat)))]) np9
      have h9 := upd_same (H := HK) (a := p9) (o := HO.lst [.bl (PyData.eqv (rulesD (nextR n false)) (rulesD (nextR n ring))), .bl (decide (V.int (cntK false n : Nat) = V.int (cntK ring n : Nat)))])
      have n9b := FK.b.ne np9
      refine ⟨.bl ring, rfl, ring, rfl, ?_⟩
      have fin : ∀ (H' : Hp), Same HK H' → ∃ z1 z2 z3 z4 z5 z6 z7 z8 z9 : Option V, [some (.ref bx), some (.bl ring), some (.int n), some (.ref l), some (.ref D), y5, some (.ref D2), y7, some (.int far), some (.ref p9)] = [some (.ref bx), z1, z2, z3, z4, z5, z6, z7, z8, z9] ∧ Ext bx H H' ∧ Box bx (2 * ((i + 1 : Nat) : Int)) H' ∧ H' tp = some (.tup [.bl false, .bl true]) := fun H' s' =>
        ⟨_, _, _, _, _, _, _, _, _, rfl, (FK.same s').e, (FK.same s').b.mono (by omega), (FK.same s').ht⟩
      cases ring with
      | true => exact iteN rfl (iteN rfl (fin _ s9))
      | false =>
        refine iteP rfl ⟨.ref p9, rfl, by show 2 ≤ sizeLine; decide, fun p8 np8 => ?_⟩
        rw [(next_known n1 n8 false).2, eqk] at h9 np8 s9 ⊢
        have s8 := same_upd (o := .lst [V.bl true, .bl true]) np8
        refine ⟨.list [.bool true, .bool true], .list [.bool true, .bool true], Rp.dp (bx := bx) (.lst (s8 _ _ h9) n9b (.cons (.bl _) (.cons (.bl _) .nil))), Rp.dp (bx := bx) (.lst upd_same ((FK.b.same s9).ne np8) (.cons (.bl _) (.cons (.bl _) .nil))), by decide +kernel, by decide +kernel, ?_⟩
        exact ⟨_, rfl, iteN (by decide +kernel) (fin _ (s9.trans s8))⟩
    · rintro σ H3 ⟨y1, y2, y3, y4, y5, y6, y7, y8, y9, rfl, e3, b3, h3⟩
      exact q H3 e3
end
end Lh

namespace Lh
open PySem PySem.Spec PyProof.Rows L2
section
variable {P : Program} {w : World} {K : PySem.W.Frag} {mg : Str → Option Value} {base : Heap}
def spLaw (K : PySem.W.Frag) : Sp := fun vs H Q _ => ∃ (a : Addr) (ns : List Int), vs = [.ref a] ∧ SqL K H a (ns.map V.int) ∧ ns.length ≤ 63 ∧ ∀ H', Q (.bl true) H'
theorem ok_law (T : Txt K mg w) : FnG P w K mg base 12 T.f_law T.fd_law ["_law_script"] (spLaw K) := by
  have G_folded := ok_foldedN (P := P) (w := w) (base := base) T
  have G_dip := ok_dip (P := P) (w := w) (base := base) T
  have G_right := ok_right (P := P) (w := w) (base := base) T
  refine okG T.F_law sc_law (fun vs H Q E h => ?_) (fun cdv A outer s H vs Q E hr hG h => ?_)
  · obtain ⟨a, ns, rfl, _⟩ := h
    rfl
  · obtain ⟨a, ns, rfl, hS, hl, q⟩ := h
    refine ⟨_, (pss_cons (ps_set (i := 1) sc_law.nd rfl (.inr rfl) (pe_call G_folded (hr.mono (by decide)) (by rfl) T.g_folded T.F_folded.kp T.b_folded .nil pass0 (pa_cons (pv 0) (pa_cons pe_int pa_nil))))
      (pss_one (ps_ret (pe_callB (cr_all rfl) (by rfl) T.m_all (by decide +kernel) (pa_cons (pe_lc (own := [("_law_k", 2)]) (g := gName 2) (by rfl) sc_law.nd (pi_range1 (by rfl) T.m_range (pa_cons (pe_callB (call_max2 rfl) (by rfl) T.m_max (by decide +kernel) (pa_cons pe_int (pa_cons (pe_callB call_len_seq (by rfl) T.m_len (by decide +kernel) (pa_cons (pv 1) pa_nil)) pa_nil))) pa_nil)) (blkOk_by (own := [("_law_k", 2)]) (N := n_law) (sc := defScope s_law) (by decide +kernel)) (fun _ _ _ _ _ => (pg_name (i := 2) sc_law.nd rfl (.inl rfl) (.inr rfl))) (fun _ _ _ _ _ => pts_nil) (fun _ _ _ _ _ => (pe_callG G_right (hr.mono (by decide)) hG (by rfl) T.g_right T.F_right.kp T.b_right (pa_cons (pe_call G_dip (hr.mono (by decide)) (by rfl) T.g_dip T.F_dip.kp T.b_dip .nil pass0 (pa_cons (pv 1) (pa_cons (pv 2) pa_nil))) pa_nil)))) pa_nil))))), ?_⟩
    refine ⟨.ref a, rfl, a, ns, rfl, hS, hl, fun p ms H1 s1 np hp ml => ?_⟩
    refine ⟨.ref p, rfl, p, _, rfl, .inl (.inl (.inl hp)), 1, _, rfl, _, rfl, ?_, ?_, fun D hD => ?_⟩
    · rw [List.length_map]; split <;> omega
    · rw [List.length_map]; split <;> omega
    generalize hn : (if ((ms.map V.int).length : Int) > 1 then ((ms.map V.int).length : Int) else 1).toNat = n
    have hn3 : n ≤ 3 := by
      rw [← hn, List.length_map]
      split <;> omega
    refine lc_it walk_range (fun i H3 => H3 p = some (.lst (ms.map V.int)) ∧ H3 D = some (.lst (List.replicate i (.bl true)))) ⟨same_upd hD _ _ hp, upd_same⟩ (fun _ _ _ _ => trivial) ?_ ?_
    · rintro i x H3 H4 hi ⟨h1, h2⟩ ⟨rfl, rfl⟩
      refine ⟨rfl, yes (iteT ?_)⟩
      refine ⟨.ref p, rfl, .int (0 + i), rfl, p, ms, i, by show [V.ref p, V.int (0 + (i : Int))] = _; rw [Int.zero_add], .inl (.inl h1), by omega, fun bx H5 s5 nb bB => ?_⟩
      refine ⟨bx, rfl, bB, fun H6 e6 => ?_⟩
      have nD : D ≠ bx := ne_of_none h2 nb
      have nP : p ≠ bx := ne_of_none h1 nb
      have nPD : p ≠ D := ne_of_none hp hD
      refine ⟨_, e6 _ _ nD (s5 _ _ h2), by rw [List.length_replicate]; exact small1000 (by omega), ?_, ?_⟩
      · rw [upd_ne nPD]; exact e6 _ _ nP (s5 _ _ h1)
      · rw [upd_same, List.replicate_succ']
    · rintro H3 ⟨h1, h2⟩
      refine ⟨D, List.replicate n true, rfl, .inl (.inl (by rw [h2, List.map_replicate])), blT ?_ (q _)⟩
      rw [List.all_eq_true]
      intro z hz
      rw [List.eq_of_mem_replicate hz]
      rfl
end

set_option maxHeartbeats 4000000 in
theorem all_mk {l : PySem.W.OpenLaw} {w : World} {K : PySem.W.Frag} {h : Heap} {mg : Str → Option Value} {fa : Addr} (X : K.In h) (G : h.Ns mainGlobals mg) (hfa : mg "law" = some (.ref fa))
    {CHall : Addr} (aCHall : PySem.W.nsIn K mainGlobals "Hall" = some (some (.ref CHall)))
    {CBadHall : Addr} (aCBadHall : PySem.W.nsIn K mainGlobals "BadHall" = some (some (.ref CBadHall)))
    {CNoPerson : Addr} (aCNoPerson : PySem.W.nsIn K mainGlobals "NoPerson" = some (some (.ref CNoPerson)))
    {CNoRest : Addr} (aCNoRest : PySem.W.nsIn K mainGlobals "NoRest" = some (some (.ref CNoRest)))
    {f0 : Addr} {od0 an0 : Option Addr} {sl0 : Array (Option Value)} {oc0 kV0 dc0 pm0 cd0 ct0 : Value}
    (a0 : PySem.W.nsIn K mainGlobals "_wall" = some (some (.ref f0)))
    (l0 : K.lookup f0 = some ⟨oc0, od0, .func (PySem.W.fnOf "_wall" "_wall" (defArgs s__wall) (defBody s__wall) (defScope s__wall) .none kV0 dc0 pm0 an0 cd0 ct0), sl0⟩) (c0 : PySem.W.codeIn K cd0 "_wall" = true) (k0 : PySem.W.keepIn K (.ref f0) = true)
    {f1 : Addr} {od1 an1 : Option Addr} {sl1 : Array (Option Value)} {oc1 kV1 dc1 pm1 cd1 ct1 : Value}
    (a1 : PySem.W.findIn K (.ref CNoRest) "__init__" = some (some (.ref f1))) (i1 : PySem.W.isFn K (.ref f1) = true)
    (l1 : K.lookup f1 = some ⟨oc1, od1, .func (PySem.W.fnOf "__init__" "NoRest.__init__" (defArgs s_NoRest_init) (defBody s_NoRest_init) (defScope s_NoRest_init) .none kV1 dc1 pm1 an1 cd1 ct1), sl1⟩) (c1 : PySem.W.codeIn K cd1 "NoRest.__init__" = true) (k1 : PySem.W.keepIn K (.ref f1) = true)
    {f2 : Addr} {od2 an2 : Option Addr} {sl2 : Array (Option Value)} {oc2 kV2 dc2 pm2 cd2 ct2 : Value}
    (a2 : PySem.W.nsIn K mainGlobals "is_number" = some (some (.ref f2)))
    (l2 : K.lookup f2 = some ⟨oc2, od2, .func (PySem.W.fnOf "is_number" "is_number" (defArgs s_is_number) (defBody s_is_number) (defScope s_is_number) .none kV2 dc2 pm2 an2 cd2 ct2), sl2⟩) (c2 : PySem.W.codeIn K cd2 "is_number" = true) (k2 : PySem.W.keepIn K (.ref f2) = true)
    {f3 : Addr} {od3 an3 : Option Addr} {sl3 : Array (Option Value)} {oc3 kV3 dc3 pm3 cd3 ct3 : Value}
    (a3 : PySem.W.nsIn K mainGlobals "is_person" = some (some (.ref f3)))
    (l3 : K.lookup f3 = some ⟨oc3, od3, .func (PySem.W.fnOf "is_person" "is_person" (defArgs s_is_person) (defBody s_is_person) (defScope s_is_person) .none kV3 dc3 pm3 an3 cd3 ct3), sl3⟩) (c3 : PySem.W.codeIn K cd3 "is_person" = true) (k3 : PySem.W.keepIn K (.ref f3) = true)
    {f4 : Addr} {od4 an4 : Option Addr} {sl4 : Array (Option Value)} {oc4 kV4 dc4 pm4 cd4 ct4 : Value}
    (a4 : PySem.W.nsIn K mainGlobals "are_persons" = some (some (.ref f4)))
    (l4 : K.lookup f4 = some ⟨oc4, od4, .func (PySem.W.fnOf "are_persons" "are_persons" (defArgs s_are_persons) (defBody s_are_persons) (defScope s_are_persons) .none kV4 dc4 pm4 an4 cd4 ct4), sl4⟩) (c4 : PySem.W.codeIn K cd4 "are_persons" = true) (k4 : PySem.W.keepIn K (.ref f4) = true)
    {f5 : Addr} {od5 an5 : Option Addr} {sl5 : Array (Option Value)} {oc5 kV5 dc5 pm5 cd5 ct5 : Value}
    (a5 : PySem.W.nsIn K mainGlobals "rises" = some (some (.ref f5)))
    (l5 : K.lookup f5 = some ⟨oc5, od5, .func (PySem.W.fnOf "rises" "rises" (defArgs s_rises) (defBody s_rises) (defScope s_rises) .none kV5 dc5 pm5 an5 cd5 ct5), sl5⟩) (c5 : PySem.W.codeIn K cd5 "rises" = true) (k5 : PySem.W.keepIn K (.ref f5) = true)
    {f6 : Addr} {od6 an6 : Option Addr} {sl6 : Array (Option Value)} {oc6 kV6 dc6 pm6 cd6 ct6 : Value}
    (a6 : PySem.W.nsIn K mainGlobals "is_rule" = some (some (.ref f6)))
    (l6 : K.lookup f6 = some ⟨oc6, od6, .func (PySem.W.fnOf "is_rule" "is_rule" (defArgs s_is_rule) (defBody s_is_rule) (defScope s_is_rule) .none kV6 dc6 pm6 an6 cd6 ct6), sl6⟩) (c6 : PySem.W.codeIn K cd6 "is_rule" = true) (k6 : PySem.W.keepIn K (.ref f6) = true)
    {f7 : Addr} {od7 an7 : Option Addr} {sl7 : Array (Option Value)} {oc7 kV7 dc7 pm7 cd7 ct7 : Value}
    (a7 : PySem.W.nsIn K mainGlobals "is_part" = some (some (.ref f7)))
    (l7 : K.lookup f7 = some ⟨oc7, od7, .func (PySem.W.fnOf "is_part" "is_part" (defArgs s_is_part) (defBody s_is_part) (defScope s_is_part) .none kV7 dc7 pm7 an7 cd7 ct7), sl7⟩) (c7 : PySem.W.codeIn K cd7 "is_part" = true) (k7 : PySem.W.keepIn K (.ref f7) = true)
    {f8 : Addr} {od8 an8 : Option Addr} {sl8 : Array (Option Value)} {oc8 kV8 dc8 pm8 cd8 ct8 : Value}
    (a8 : PySem.W.nsIn K mainGlobals "are_ties" = some (some (.ref f8)))
    (l8 : K.lookup f8 = some ⟨oc8, od8, .func (PySem.W.fnOf "are_ties" "are_ties" (defArgs s_are_ties) (defBody s_are_ties) (defScope s_are_ties) .none kV8 dc8 pm8 an8 cd8 ct8), sl8⟩) (c8 : PySem.W.codeIn K cd8 "are_ties" = true) (k8 : PySem.W.keepIn K (.ref f8) = true)
    {f9 : Addr} {od9 an9 : Option Addr} {sl9 : Array (Option Value)} {oc9 kV9 dc9 pm9 cd9 ct9 : Value}
    (a9 : PySem.W.nsIn K mainGlobals "is_tie" = some (some (.ref f9)))
    (l9 : K.lookup f9 = some ⟨oc9, od9, .func (PySem.W.fnOf "is_tie" "is_tie" (defArgs s_is_tie) (defBody s_is_tie) (defScope s_is_tie) .none kV9 dc9 pm9 an9 cd9 ct9), sl9⟩) (c9 : PySem.W.codeIn K cd9 "is_tie" = true) (k9 : PySem.W.keepIn K (.ref f9) = true)
    {f10 : Addr} {od10 an10 : Option Addr} {sl10 : Array (Option Value)} {oc10 kV10 dc10 pm10 cd10 ct10 : Value}
    (a10 : PySem.W.nsIn K mainGlobals "seen_by" = some (some (.ref f10)))
    (l10 : K.lookup f10 = some ⟨oc10, od10, .func (PySem.W.fnOf "seen_by" "seen_by" (defArgs s_seen_by) (defBody s_seen_by) (defScope s_seen_by) .none kV10 dc10 pm10 an10 cd10 ct10), sl10⟩) (c10 : PySem.W.codeIn K cd10 "seen_by" = true) (k10 : PySem.W.keepIn K (.ref f10) = true)
    {f11 : Addr} {od11 an11 : Option Addr} {sl11 : Array (Option Value)} {oc11 kV11 dc11 pm11 cd11 ct11 : Value}
    (a11 : PySem.W.findIn K (.ref CHall) "__init__" = some (some (.ref f11))) (i11 : PySem.W.isFn K (.ref f11) = true)
    (l11 : K.lookup f11 = some ⟨oc11, od11, .func (PySem.W.fnOf "__init__" "Hall.__init__" (defArgs s_Hall_init) (defBody s_Hall_init) (defScope s_Hall_init) .none kV11 dc11 pm11 an11 cd11 ct11), sl11⟩) (c11 : PySem.W.codeIn K cd11 "Hall.__init__" = true) (k11 : PySem.W.keepIn K (.ref f11) = true)
    {f12 : Addr} {od12 an12 : Option Addr} {sl12 : Array (Option Value)} {oc12 kV12 dc12 pm12 cd12 ct12 : Value}
    (a12 : PySem.W.findIn K (.ref CHall) "must_have" = some (some (.ref f12))) (i12 : PySem.W.isFn K (.ref f12) = true)
    (l12 : K.lookup f12 = some ⟨oc12, od12, .func (PySem.W.fnOf "must_have" "Hall.must_have" (defArgs s_Hall_must_have) (defBody s_Hall_must_have) (defScope s_Hall_must_have) .none kV12 dc12 pm12 an12 cd12 ct12), sl12⟩) (c12 : PySem.W.codeIn K cd12 "Hall.must_have" = true) (k12 : PySem.W.keepIn K (.ref f12) = true)
    {f13 : Addr} {od13 an13 : Option Addr} {sl13 : Array (Option Value)} {oc13 kV13 dc13 pm13 cd13 ct13 : Value}
    (a13 : PySem.W.findIn K (.ref CHall) "rules" = some (some (.ref f13))) (i13 : PySem.W.isFn K (.ref f13) = true)
    (l13 : K.lookup f13 = some ⟨oc13, od13, .func (PySem.W.fnOf "rules" "Hall.rules" (defArgs s_Hall_rules) (defBody s_Hall_rules) (defScope s_Hall_rules) .none kV13 dc13 pm13 an13 cd13 ct13), sl13⟩) (c13 : PySem.W.codeIn K cd13 "Hall.rules" = true) (k13 : PySem.W.keepIn K (.ref f13) = true)
    {f14 : Addr} {od14 an14 : Option Addr} {sl14 : Array (Option Value)} {oc14 kV14 dc14 pm14 cd14 ct14 : Value}
    (a14 : PySem.W.findIn K (.ref CHall) "rule" = some (some (.ref f14))) (i14 : PySem.W.isFn K (.ref f14) = true)
    (l14 : K.lookup f14 = some ⟨oc14, od14, .func (PySem.W.fnOf "rule" "Hall.rule" (defArgs s_Hall_rule) (defBody s_Hall_rule) (defScope s_Hall_rule) .none kV14 dc14 pm14 an14 cd14 ct14), sl14⟩) (c14 : PySem.W.codeIn K cd14 "Hall.rule" = true) (k14 : PySem.W.keepIn K (.ref f14) = true)
    {f15 : Addr} {od15 an15 : Option Addr} {sl15 : Array (Option Value)} {oc15 kV15 dc15 pm15 cd15 ct15 : Value}
    (a15 : PySem.W.findIn K (.ref CHall) "sees" = some (some (.ref f15))) (i15 : PySem.W.isFn K (.ref f15) = true)
    (l15 : K.lookup f15 = some ⟨oc15, od15, .func (PySem.W.fnOf "sees" "Hall.sees" (defArgs s_Hall_sees) (defBody s_Hall_sees) (defScope s_Hall_sees) .none kV15 dc15 pm15 an15 cd15 ct15), sl15⟩) (c15 : PySem.W.codeIn K cd15 "Hall.sees" = true) (k15 : PySem.W.keepIn K (.ref f15) = true)
    {f16 : Addr} {od16 an16 : Option Addr} {sl16 : Array (Option Value)} {oc16 kV16 dc16 pm16 cd16 ct16 : Value}
    (a16 : PySem.W.findIn K (.ref CHall) "seers" = some (some (.ref f16))) (i16 : PySem.W.isFn K (.ref f16) = true)
    (l16 : K.lookup f16 = some ⟨oc16, od16, .func (PySem.W.fnOf "seers" "Hall.seers" (defArgs s_Hall_seers) (defBody s_Hall_seers) (defScope s_Hall_seers) .none kV16 dc16 pm16 an16 cd16 ct16), sl16⟩) (c16 : PySem.W.codeIn K cd16 "Hall.seers" = true) (k16 : PySem.W.keepIn K (.ref f16) = true)
    {f17 : Addr} {od17 an17 : Option Addr} {sl17 : Array (Option Value)} {oc17 kV17 dc17 pm17 cd17 ct17 : Value}
    (a17 : PySem.W.findIn K (.ref CHall) "__eq__" = some (some (.ref f17))) (i17 : PySem.W.isFn K (.ref f17) = true)
    (l17 : K.lookup f17 = some ⟨oc17, od17, .func (PySem.W.fnOf "__eq__" "Hall.__eq__" (defArgs s_Hall_eq) (defBody s_Hall_eq) (defScope s_Hall_eq) .none kV17 dc17 pm17 an17 cd17 ct17), sl17⟩) (c17 : PySem.W.codeIn K cd17 "Hall.__eq__" = true) (k17 : PySem.W.keepIn K (.ref f17) = true)
    {f18 : Addr} {od18 an18 : Option Addr} {sl18 : Array (Option Value)} {oc18 kV18 dc18 pm18 cd18 ct18 : Value}
    (a18 : PySem.W.findIn K (.ref CHall) "__len__" = some (some (.ref f18))) (i18 : PySem.W.isFn K (.ref f18) = true)
    (l18 : K.lookup f18 = some ⟨oc18, od18, .func (PySem.W.fnOf "__len__" "Hall.__len__" (defArgs s_Hall_len) (defBody s_Hall_len) (defScope s_Hall_len) .none kV18 dc18 pm18 an18 cd18 ct18), sl18⟩) (c18 : PySem.W.codeIn K cd18 "Hall.__len__" = true) (k18 : PySem.W.keepIn K (.ref f18) = true)
    {f19 : Addr} {od19 an19 : Option Addr} {sl19 : Array (Option Value)} {oc19 kV19 dc19 pm19 cd19 ct19 : Value}
    (a19 : PySem.W.findIn K (.ref CHall) "__repr__" = some (some (.ref f19))) (i19 : PySem.W.isFn K (.ref f19) = true)
    (l19 : K.lookup f19 = some ⟨oc19, od19, .func (PySem.W.fnOf "__repr__" "Hall.__repr__" (defArgs s_Hall_repr) (defBody s_Hall_repr) (defScope s_Hall_repr) .none kV19 dc19 pm19 an19 cd19 ct19), sl19⟩) (c19 : PySem.W.codeIn K cd19 "Hall.__repr__" = true) (k19 : PySem.W.keepIn K (.ref f19) = true)
    {f20 kD20 : Addr} {od20 an20 : Option Addr} {sl20 : Array (Option Value)} {oc20 dc20 pm20 cd20 ct20 : Value}
    (a20 : PySem.W.nsIn K mainGlobals "line_hall" = some (some (.ref f20)))
    (l20 : K.lookup f20 = some ⟨oc20, od20, .func (PySem.W.fnOf "line_hall" "line_hall" (defArgs s_line_hall) (defBody s_line_hall) (defScope s_line_hall) .none (.ref kD20) dc20 pm20 an20 cd20 ct20), sl20⟩) (c20 : PySem.W.codeIn K cd20 "line_hall" = true) (k20 : PySem.W.keepIn K (.ref f20) = true)
    (w20_0 : PySem.W.nsIn K kD20 "ring" = some (some (.bool false)))
    {f21 : Addr} {od21 an21 : Option Addr} {sl21 : Array (Option Value)} {oc21 kV21 dc21 pm21 cd21 ct21 : Value}
    (a21 : PySem.W.nsIn K mainGlobals "ways_of" = some (some (.ref f21)))
    (l21 : K.lookup f21 = some ⟨oc21, od21, .func (PySem.W.fnOf "ways_of" "ways_of" (defArgs s_ways_of) (defBody s_ways_of) (defScope s_ways_of) .none kV21 dc21 pm21 an21 cd21 ct21), sl21⟩) (c21 : PySem.W.codeIn K cd21 "ways_of" = true) (k21 : PySem.W.keepIn K (.ref f21) = true)
    {f22 kD22 : Addr} {od22 an22 : Option Addr} {sl22 : Array (Option Value)} {oc22 dc22 pm22 cd22 ct22 : Value}
    (a22 : PySem.W.nsIn K mainGlobals "line_counts" = some (some (.ref f22)))
    (l22 : K.lookup f22 = some ⟨oc22, od22, .func (PySem.W.fnOf "line_counts" "line_counts" (defArgs s_line_counts) (defBody s_line_counts) (defScope s_line_counts) .none (.ref kD22) dc22 pm22 an22 cd22 ct22), sl22⟩) (c22 : PySem.W.codeIn K cd22 "line_counts" = true) (k22 : PySem.W.keepIn K (.ref f22) = true)
    (w22_0 : PySem.W.nsIn K kD22 "ring" = some (some (.bool false)))
    {f23 : Addr} {od23 an23 : Option Addr} {sl23 : Array (Option Value)} {oc23 kV23 dc23 pm23 cd23 ct23 : Value}
    (a23 : PySem.W.nsIn K mainGlobals "ways_behind" = some (some (.ref f23)))
    (l23 : K.lookup f23 = some ⟨oc23, od23, .func (PySem.W.fnOf "ways_behind" "ways_behind" (defArgs s_ways_behind) (defBody s_ways_behind) (defScope s_ways_behind) .none kV23 dc23 pm23 an23 cd23 ct23), sl23⟩) (c23 : PySem.W.codeIn K cd23 "ways_behind" = true) (k23 : PySem.W.keepIn K (.ref f23) = true)
    {f24 kD24 : Addr} {od24 an24 : Option Addr} {sl24 : Array (Option Value)} {oc24 dc24 pm24 cd24 ct24 : Value}
    (a24 : PySem.W.nsIn K mainGlobals "line_rest" = some (some (.ref f24)))
    (l24 : K.lookup f24 = some ⟨oc24, od24, .func (PySem.W.fnOf "line_rest" "line_rest" (defArgs s_line_rest) (defBody s_line_rest) (defScope s_line_rest) .none (.ref kD24) dc24 pm24 an24 cd24 ct24), sl24⟩) (c24 : PySem.W.codeIn K cd24 "line_rest" = true) (k24 : PySem.W.keepIn K (.ref f24) = true)
    (w24_0 : PySem.W.nsIn K kD24 "ring" = some (some (.bool false)))
    {f25 kD25 : Addr} {od25 an25 : Option Addr} {sl25 : Array (Option Value)} {oc25 dc25 pm25 cd25 ct25 : Value}
    (a25 : PySem.W.nsIn K mainGlobals "line_number" = some (some (.ref f25)))
    (l25 : K.lookup f25 = some ⟨oc25, od25, .func (PySem.W.fnOf "line_number" "line_number" (defArgs s_line_number) (defBody s_line_number) (defScope s_line_number) .none (.ref kD25) dc25 pm25 an25 cd25 ct25), sl25⟩) (c25 : PySem.W.codeIn K cd25 "line_number" = true) (k25 : PySem.W.keepIn K (.ref f25) = true)
    (w25_0 : PySem.W.nsIn K kD25 "ring" = some (some (.bool false)))
    {f26 : Addr} {od26 an26 : Option Addr} {sl26 : Array (Option Value)} {oc26 kV26 dc26 pm26 cd26 ct26 : Value}
    (a26 : PySem.W.nsIn K mainGlobals "_law_dip" = some (some (.ref f26)))
    (l26 : K.lookup f26 = some ⟨oc26, od26, .func (PySem.W.fnOf "_law_dip" "_law_dip" (defArgs s_dip) (defBody s_dip) (defScope s_dip) .none kV26 dc26 pm26 an26 cd26 ct26), sl26⟩) (c26 : PySem.W.codeIn K cd26 "_law_dip" = true) (k26 : PySem.W.keepIn K (.ref f26) = true)
    {f27 : Addr} {od27 an27 : Option Addr} {sl27 : Array (Option Value)} {oc27 kV27 dc27 pm27 cd27 ct27 : Value}
    (a27 : PySem.W.nsIn K mainGlobals "_law_take" = some (some (.ref f27)))
    (l27 : K.lookup f27 = some ⟨oc27, od27, .func (PySem.W.fnOf "_law_take" "_law_take" (defArgs s_take) (defBody s_take) (defScope s_take) .none kV27 dc27 pm27 an27 cd27 ct27), sl27⟩) (c27 : PySem.W.codeIn K cd27 "_law_take" = true) (k27 : PySem.W.keepIn K (.ref f27) = true)
    {f28 : Addr} {od28 an28 : Option Addr} {sl28 : Array (Option Value)} {oc28 kV28 dc28 pm28 cd28 ct28 : Value}
    (a28 : PySem.W.nsIn K mainGlobals "_law_folded" = some (some (.ref f28)))
    (l28 : K.lookup f28 = some ⟨oc28, od28, .func (PySem.W.fnOf "_law_folded" "_law_folded" (defArgs s_folded) (defBody s_folded) (defScope s_folded) .none kV28 dc28 pm28 an28 cd28 ct28), sl28⟩) (c28 : PySem.W.codeIn K cd28 "_law_folded" = true) (k28 : PySem.W.keepIn K (.ref f28) = true)
    {f29 : Addr} {od29 an29 : Option Addr} {sl29 : Array (Option Value)} {oc29 kV29 dc29 pm29 cd29 ct29 : Value}
    (a29 : PySem.W.nsIn K mainGlobals "_law_same" = some (some (.ref f29)))
    (l29 : K.lookup f29 = some ⟨oc29, od29, .func (PySem.W.fnOf "_law_same" "_law_same" (defArgs s_same) (defBody s_same) (defScope s_same) .none kV29 dc29 pm29 an29 cd29 ct29), sl29⟩) (c29 : PySem.W.codeIn K cd29 "_law_same" = true) (k29 : PySem.W.keepIn K (.ref f29) = true)
    {f30 : Addr} {od30 an30 : Option Addr} {sl30 : Array (Option Value)} {oc30 kV30 dc30 pm30 cd30 ct30 : Value}
    (a30 : PySem.W.nsIn K mainGlobals "_law_seen" = some (some (.ref f30)))
    (l30 : K.lookup f30 = some ⟨oc30, od30, .func (PySem.W.fnOf "_law_seen" "_law_seen" (defArgs s_seen) (defBody s_seen) (defScope s_seen) .none kV30 dc30 pm30 an30 cd30 ct30), sl30⟩) (c30 : PySem.W.codeIn K cd30 "_law_seen" = true) (k30 : PySem.W.keepIn K (.ref f30) = true)
    {f31 : Addr} {od31 an31 : Option Addr} {sl31 : Array (Option Value)} {oc31 kV31 dc31 pm31 cd31 ct31 : Value}
    (a31 : PySem.W.nsIn K mainGlobals "_law_lot" = some (some (.ref f31)))
    (l31 : K.lookup f31 = some ⟨oc31, od31, .func (PySem.W.fnOf "_law_lot" "_law_lot" (defArgs s_lot) (defBody s_lot) (defScope s_lot) .none kV31 dc31 pm31 an31 cd31 ct31), sl31⟩) (c31 : PySem.W.codeIn K cd31 "_law_lot" = true) (k31 : PySem.W.keepIn K (.ref f31) = true)
    {f32 : Addr} {od32 an32 : Option Addr} {sl32 : Array (Option Value)} {oc32 kV32 dc32 pm32 cd32 ct32 : Value}
    (a32 : PySem.W.nsIn K mainGlobals "_law_tells" = some (some (.ref f32)))
    (l32 : K.lookup f32 = some ⟨oc32, od32, .func (PySem.W.fnOf "_law_tells" "_law_tells" (defArgs s_tells) (defBody s_tells) (defScope s_tells) .none kV32 dc32 pm32 an32 cd32 ct32), sl32⟩) (c32 : PySem.W.codeIn K cd32 "_law_tells" = true) (k32 : PySem.W.keepIn K (.ref f32) = true)
    {f33 : Addr} {od33 an33 : Option Addr} {sl33 : Array (Option Value)} {oc33 kV33 dc33 pm33 cd33 ct33 : Value}
    (a33 : PySem.W.nsIn K mainGlobals "_law_turned" = some (some (.ref f33)))
    (l33 : K.lookup f33 = some ⟨oc33, od33, .func (PySem.W.fnOf "_law_turned" "_law_turned" (defArgs s_turned) (defBody s_turned) (defScope s_turned) .none kV33 dc33 pm33 an33 cd33 ct33), sl33⟩) (c33 : PySem.W.codeIn K cd33 "_law_turned" = true) (k33 : PySem.W.keepIn K (.ref f33) = true)
    {f34 : Addr} {od34 an34 : Option Addr} {sl34 : Array (Option Value)} {oc34 kV34 dc34 pm34 cd34 ct34 : Value}
    (a34 : PySem.W.nsIn K mainGlobals "_law_restless" = some (some (.ref f34)))
    (l34 : K.lookup f34 = some ⟨oc34, od34, .func (PySem.W.fnOf "_law_restless" "_law_restless" (defArgs s_restless) (defBody s_restless) (defScope s_restless) .none kV34 dc34 pm34 an34 cd34 ct34), sl34⟩) (c34 : PySem.W.codeIn K cd34 "_law_restless" = true) (k34 : PySem.W.keepIn K (.ref f34) = true)
    {f35 : Addr} {od35 an35 : Option Addr} {sl35 : Array (Option Value)} {oc35 kV35 dc35 pm35 cd35 ct35 : Value}
    (a35 : PySem.W.nsIn K mainGlobals "_law_bits" = some (some (.ref f35)))
    (l35 : K.lookup f35 = some ⟨oc35, od35, .func (PySem.W.fnOf "_law_bits" "_law_bits" (defArgs s_bits) (defBody s_bits) (defScope s_bits) .none kV35 dc35 pm35 an35 cd35 ct35), sl35⟩) (c35 : PySem.W.codeIn K cd35 "_law_bits" = true) (k35 : PySem.W.keepIn K (.ref f35) = true)
    {f36 : Addr} {od36 an36 : Option Addr} {sl36 : Array (Option Value)} {oc36 kV36 dc36 pm36 cd36 ct36 : Value}
    (a36 : PySem.W.nsIn K mainGlobals "_law_next_rules" = some (some (.ref f36)))
    (l36 : K.lookup f36 = some ⟨oc36, od36, .func (PySem.W.fnOf "_law_next_rules" "_law_next_rules" (defArgs s_next_rules) (defBody s_next_rules) (defScope s_next_rules) .none kV36 dc36 pm36 an36 cd36 ct36), sl36⟩) (c36 : PySem.W.codeIn K cd36 "_law_next_rules" = true) (k36 : PySem.W.keepIn K (.ref f36) = true)
    {f37 : Addr} {od37 an37 : Option Addr} {sl37 : Array (Option Value)} {oc37 kV37 dc37 pm37 cd37 ct37 : Value}
    (a37 : PySem.W.nsIn K mainGlobals "_law_refused" = some (some (.ref f37)))
    (l37 : K.lookup f37 = some ⟨oc37, od37, .func (PySem.W.fnOf "_law_refused" "_law_refused" (defArgs s_refused) (defBody s_refused) (defScope s_refused) .none kV37 dc37 pm37 an37 cd37 ct37), sl37⟩) (c37 : PySem.W.codeIn K cd37 "_law_refused" = true) (k37 : PySem.W.keepIn K (.ref f37) = true)
    {f38 : Addr} {od38 an38 : Option Addr} {sl38 : Array (Option Value)} {oc38 kV38 dc38 pm38 cd38 ct38 : Value}
    (a38 : PySem.W.nsIn K mainGlobals "_law_right" = some (some (.ref f38)))
    (l38 : K.lookup f38 = some ⟨oc38, od38, .func (PySem.W.fnOf "_law_right" "_law_right" (defArgs s_right) (defBody s_right) (defScope s_right) .none kV38 dc38 pm38 an38 cd38 ct38), sl38⟩) (c38 : PySem.W.codeIn K cd38 "_law_right" = true) (k38 : PySem.W.keepIn K (.ref f38) = true)
    {f39 : Addr} {od39 an39 : Option Addr} {sl39 : Array (Option Value)} {oc39 kV39 dc39 pm39 cd39 ct39 : Value}
    (a39 : PySem.W.nsIn K mainGlobals "law" = some (some (.ref f39)))
    (l39 : K.lookup f39 = some ⟨oc39, od39, .func (PySem.W.fnOf "law" "law" (defArgs s_law) (defBody s_law) (defScope s_law) .none kV39 dc39 pm39 an39 cd39 ct39), sl39⟩) (c39 : PySem.W.codeIn K cd39 "law" = true) (k39 : PySem.W.keepIn K (.ref f39) = true)
    (pgHall : PySem.W.plainGet K CHall Str.empty = true) (hdHall : PySem.W.hasDictIn K CHall = true) (poHall : PySem.W.plainOver K CHall = true) (saHall : PySem.W.findIn K (.ref CHall) "__setattr__" = some (some (.builtin "object.__setattr__"))) (mkHall : PySem.W.makesIn K CHall = true) (kcHall : PySem.W.keepIn K (.ref CHall) = true)
    (nHall_kept : PySem.W.findIn K (.ref CHall) "kept" = some none)
    (ebBadHall : PySem.W.subIn K (.ref CBadHall) (.type "BaseException") = some true) (hdBadHall : PySem.W.hasDictIn K CBadHall = true) (tyBadHall : PySem.W.typeIn K (.ref CBadHall) = some (.type "type"))
    (ebNoPerson : PySem.W.subIn K (.ref CNoPerson) (.type "BaseException") = some true) (hdNoPerson : PySem.W.hasDictIn K CNoPerson = true) (tyNoPerson : PySem.W.typeIn K (.ref CNoPerson) = some (.type "type"))
    (ebNoRest : PySem.W.subIn K (.ref CNoRest) (.type "BaseException") = some true) (hdNoRest : PySem.W.hasDictIn K CNoRest = true) (tyNoRest : PySem.W.typeIn K (.ref CNoRest) = some (.type "type"))
    {nmNoRest qqNoRest : Str} {NNoRest : Addr} {bsNoRest : List Value} {snNoRest : List Str} {sbNoRest : List Value} {abNoRest : Bool} {coNoRest : Option Bool} {ddNoRest : Option Addr} {m0NoRest m1NoRest m2NoRest m3NoRest m5NoRest : Option Value}
    (xLNoRest : K.lookup CNoRest = some (excClassObj nmNoRest qqNoRest CNoRest NNoRest bsNoRest [.type "IndexError", .type "LookupError", .type "Exception", .type "BaseException", .type "object"] true snNoRest sbNoRest abNoRest coNoRest ddNoRest m0NoRest m1NoRest m2NoRest m3NoRest m5NoRest "IndexError.__new__"))
    (saNoRest : PySem.W.findIn K (.ref CNoRest) "__setattr__" = some (some (.builtin "object.__setattr__"))) (kcNoRest : PySem.W.keepIn K (.ref CNoRest) = true) (tiNoRest : PySem.W.typeIn K (.ref f1) = some (.type "function"))
    (gaNoRest : PySem.W.findIn K (.ref CNoRest) "__getattribute__" = some (some (.builtin "BaseException.__getattribute__"))) (ggNoRest : PySem.W.findIn K (.ref CNoRest) "__getattr__" = some none)
    (j1NoRest : PySem.W.findIn K (.ref CNoRest) "__class__" = some (some (.builtin "object.__class__"))) (j2NoRest : PySem.W.specialIn K (.builtin "object.__class__") "__get__" = some (some (.builtin "getset_descriptor.__get__"))) (j3NoRest : PySem.W.takesIn K (.builtin "object.__class__") = some true) (j4NoRest : PySem.W.mroIn K CNoRest (.type "object") = some true)
    (nNoRest_number : PySem.W.findIn K (.ref CNoRest) "number" = some none)
    (sbNoRest_NoRest : PySem.W.subIn K (.ref CNoRest) (.ref CNoRest) = some true)
    (sbNoRest_NoPerson : PySem.W.subIn K (.ref CNoRest) (.ref CNoPerson) = some false)
    (suNoRest_IndexError : PySem.W.subIn K (.ref CNoRest) (.type "IndexError") = some true)
    (viIndexError : PySem.W.findCls K (.type "IndexError") (.type "type") "__init__" = some (.val (.builtin "IndexError.__init__")))
    {DPARTS : Addr} {esPARTS : Array DictEntry} {enPARTS : Nat} (aDPARTS : PySem.W.nsIn K mainGlobals "PARTS" = some (some (.ref DPARTS))) (lDPARTS : K.lookup DPARTS = some ⟨.type "dict", none, .dict esPARTS enPARTS, #[]⟩) (kDPARTS : PySem.W.KeysLit w.params esPARTS.toList) (yDPARTS : (DPARTS == sysModules) = false)
    {tPARTS_held : Addr} {oPARTS_held : Option Addr} {itPARTS_held : Array Value} {inPARTS_held : Nat} {tsPARTS_held : Array (Option Value)} (ePARTS_held : PySem.W.nsIn K DPARTS "held" = some (some (.ref tPARTS_held))) (ltPARTS_held : K.lookup tPARTS_held = some ⟨.type "tuple", oPARTS_held, .seq itPARTS_held inPARTS_held, tsPARTS_held⟩) (ztPARTS_held : itPARTS_held.size ≤ sizeLine) (vtPARTS_held : Vals [V.str "number"] itPARTS_held.toList)
    {tPARTS_sum : Addr} {oPARTS_sum : Option Addr} {itPARTS_sum : Array Value} {inPARTS_sum : Nat} {tsPARTS_sum : Array (Option Value)} (ePARTS_sum : PySem.W.nsIn K DPARTS "sum" = some (some (.ref tPARTS_sum))) (ltPARTS_sum : K.lookup tPARTS_sum = some ⟨.type "tuple", oPARTS_sum, .seq itPARTS_sum inPARTS_sum, tsPARTS_sum⟩) (ztPARTS_sum : itPARTS_sum.size ≤ sizeLine) (vtPARTS_sum : Vals [V.str "number", V.str "ties"] itPARTS_sum.toList)
    {tPARTS_cap : Addr} {oPARTS_cap : Option Addr} {itPARTS_cap : Array Value} {inPARTS_cap : Nat} {tsPARTS_cap : Array (Option Value)} (ePARTS_cap : PySem.W.nsIn K DPARTS "cap" = some (some (.ref tPARTS_cap))) (ltPARTS_cap : K.lookup tPARTS_cap = some ⟨.type "tuple", oPARTS_cap, .seq itPARTS_cap inPARTS_cap, tsPARTS_cap⟩) (ztPARTS_cap : itPARTS_cap.size ≤ sizeLine) (vtPARTS_cap : Vals [V.str "number", V.str "ties", V.str "number"] itPARTS_cap.toList)
    {tPARTS_kinds : Addr} {oPARTS_kinds : Option Addr} {itPARTS_kinds : Array Value} {inPARTS_kinds : Nat} {tsPARTS_kinds : Array (Option Value)} (ePARTS_kinds : PySem.W.nsIn K DPARTS "kinds" = some (some (.ref tPARTS_kinds))) (ltPARTS_kinds : K.lookup tPARTS_kinds = some ⟨.type "tuple", oPARTS_kinds, .seq itPARTS_kinds inPARTS_kinds, tsPARTS_kinds⟩) (ztPARTS_kinds : itPARTS_kinds.size ≤ sizeLine) (vtPARTS_kinds : Vals [V.str "number", V.str "seen"] itPARTS_kinds.toList)
    {tPARTS_next : Addr} {oPARTS_next : Option Addr} {itPARTS_next : Array Value} {inPARTS_next : Nat} {tsPARTS_next : Array (Option Value)} (ePARTS_next : PySem.W.nsIn K DPARTS "next" = some (some (.ref tPARTS_next))) (ltPARTS_next : K.lookup tPARTS_next = some ⟨.type "tuple", oPARTS_next, .seq itPARTS_next inPARTS_next, tsPARTS_next⟩) (ztPARTS_next : itPARTS_next.size ≤ sizeLine) (vtPARTS_next : Vals [V.str "seen"] itPARTS_next.toList)
    {tPARTS_free : Addr} {oPARTS_free : Option Addr} {itPARTS_free : Array Value} {inPARTS_free : Nat} {tsPARTS_free : Array (Option Value)} (ePARTS_free : PySem.W.nsIn K DPARTS "free" = some (some (.ref tPARTS_free))) (ltPARTS_free : K.lookup tPARTS_free = some ⟨.type "tuple", oPARTS_free, .seq itPARTS_free inPARTS_free, tsPARTS_free⟩) (ztPARTS_free : itPARTS_free.size ≤ sizeLine) (vtPARTS_free : Vals [V.str "seen"] itPARTS_free.toList)
    (z0 : PySem.W.nsIn K mainGlobals "IndexError" = some none)
    (z1 : PySem.W.nsIn K mainGlobals "abs" = some none)
    (z2 : PySem.W.nsIn K mainGlobals "all" = some none)
    (z3 : PySem.W.nsIn K mainGlobals "bool" = some none)
    (z4 : PySem.W.nsIn K mainGlobals "dict" = some none)
    (z5 : PySem.W.nsIn K mainGlobals "enumerate" = some none)
    (z6 : PySem.W.nsIn K mainGlobals "int" = some none)
    (z7 : PySem.W.nsIn K mainGlobals "isinstance" = some none)
    (z8 : PySem.W.nsIn K mainGlobals "len" = some none)
    (z9 : PySem.W.nsIn K mainGlobals "list" = some none)
    (z10 : PySem.W.nsIn K mainGlobals "max" = some none)
    (z11 : PySem.W.nsIn K mainGlobals "min" = some none)
    (z12 : PySem.W.nsIn K mainGlobals "range" = some none)
    (z13 : PySem.W.nsIn K mainGlobals "set" = some none)
    (z14 : PySem.W.nsIn K mainGlobals "sorted" = some none)
    (z15 : PySem.W.nsIn K mainGlobals "str" = some none)
    (z16 : PySem.W.nsIn K mainGlobals "sum" = some none)
    (z17 : PySem.W.nsIn K mainGlobals "tuple" = some none)
    (z18 : PySem.W.nsIn K mainGlobals "zip" = some none) :
    ∃ fd : FuncData, (∀ (t : Shared) (v : Value), BindsTo t fd ⟨[v], []⟩ [("_law_script", v)]) ∧ ∀ base : Heap, K.In base → base.Ns mainGlobals mg → FnG l.prog w K mg base 12 fa fd ["_law_script"] (spLaw K) := by
  have e := hfa.symm.trans (PySem.W.mg_of X G a39)
  cases e
  refine ⟨PySem.W.fnOf "law" "law" (defArgs s_law) (defBody s_law) (defScope s_law) .none kV39 dc39 pm39 an39 cd39 ct39, fun t v => .of_eq rfl, fun base _ _ => ?_⟩
  exact ok_law (w := w) {
    t__wall := ⟨_, _, fun_mk (st := s__wall) l0 c0 k0, (fun_mk (st := s__wall) l0 c0 k0).binds (ps := p__wall) fun _ _ _ _ _ _ us hl => match us, hl with | [_], _ => rfl⟩,
    g__wall := PySem.W.mg_of X G a0,
    t_NoRest_init := ⟨_, _, fun_mk (st := s_NoRest_init) l1 c1 k1, (fun_mk (st := s_NoRest_init) l1 c1 k1).binds (ps := p_NoRest_init) fun _ _ _ _ _ _ us hl => match us, hl with | [_, _], _ => rfl⟩,
    t_is_number := ⟨_, _, fun_mk (st := s_is_number) l2 c2 k2, (fun_mk (st := s_is_number) l2 c2 k2).binds (ps := p_is_number) fun _ _ _ _ _ _ us hl => match us, hl with | [_], _ => rfl⟩,
    g_is_number := PySem.W.mg_of X G a2,
    t_is_person := ⟨_, _, fun_mk (st := s_is_person) l3 c3 k3, (fun_mk (st := s_is_person) l3 c3 k3).binds (ps := p_is_person) fun _ _ _ _ _ _ us hl => match us, hl with | [_, _], _ => rfl⟩,
    g_is_person := PySem.W.mg_of X G a3,
    t_are_persons := ⟨_, _, fun_mk (st := s_are_persons) l4 c4 k4, (fun_mk (st := s_are_persons) l4 c4 k4).binds (ps := p_are_persons) fun _ _ _ _ _ _ us hl => match us, hl with | [_, _], _ => rfl⟩,
    g_are_persons := PySem.W.mg_of X G a4,
    t_rises := ⟨_, _, fun_mk (st := s_rises) l5 c5 k5, (fun_mk (st := s_rises) l5 c5 k5).binds (ps := p_rises) fun _ _ _ _ _ _ us hl => match us, hl with | [_], _ => rfl⟩,
    g_rises := PySem.W.mg_of X G a5,
    t_is_rule := ⟨_, _, fun_mk (st := s_is_rule) l6 c6 k6, (fun_mk (st := s_is_rule) l6 c6 k6).binds (ps := p_is_rule) fun _ _ _ _ _ _ us hl => match us, hl with | [_, _], _ => rfl⟩,
    g_is_rule := PySem.W.mg_of X G a6,
    t_is_part := ⟨_, _, fun_mk (st := s_is_part) l7 c7 k7, (fun_mk (st := s_is_part) l7 c7 k7).binds (ps := p_is_part) fun _ _ _ _ _ _ us hl => match us, hl with | [_, _, _], _ => rfl⟩,
    g_is_part := PySem.W.mg_of X G a7,
    t_are_ties := ⟨_, _, fun_mk (st := s_are_ties) l8 c8 k8, (fun_mk (st := s_are_ties) l8 c8 k8).binds (ps := p_are_ties) fun _ _ _ _ _ _ us hl => match us, hl with | [_, _], _ => rfl⟩,
    g_are_ties := PySem.W.mg_of X G a8,
    t_is_tie := ⟨_, _, fun_mk (st := s_is_tie) l9 c9 k9, (fun_mk (st := s_is_tie) l9 c9 k9).binds (ps := p_is_tie) fun _ _ _ _ _ _ us hl => match us, hl with | [_, _], _ => rfl⟩,
    g_is_tie := PySem.W.mg_of X G a9,
    t_seen_by := ⟨_, _, fun_mk (st := s_seen_by) l10 c10 k10, (fun_mk (st := s_seen_by) l10 c10 k10).binds (ps := p_seen_by) fun _ _ _ _ _ _ us hl => match us, hl with | [_], _ => rfl⟩,
    g_seen_by := PySem.W.mg_of X G a10,
    t_Hall_init := ⟨_, _, fun_mk (st := s_Hall_init) l11 c11 k11, (fun_mk (st := s_Hall_init) l11 c11 k11).binds (ps := p_Hall_init) fun _ _ _ _ _ _ us hl => match us, hl with | [_, _], _ => rfl⟩,
    t_Hall_must_have := ⟨_, _, fun_mk (st := s_Hall_must_have) l12 c12 k12, (fun_mk (st := s_Hall_must_have) l12 c12 k12).binds (ps := p_Hall_must_have) fun _ _ _ _ _ _ us hl => match us, hl with | [_, _], _ => rfl⟩,
    t_Hall_rules := ⟨_, _, fun_mk (st := s_Hall_rules) l13 c13 k13, (fun_mk (st := s_Hall_rules) l13 c13 k13).binds (ps := p_Hall_rules) fun _ _ _ _ _ _ us hl => match us, hl with | [_], _ => rfl⟩,
    t_Hall_rule := ⟨_, _, fun_mk (st := s_Hall_rule) l14 c14 k14, (fun_mk (st := s_Hall_rule) l14 c14 k14).binds (ps := p_Hall_rule) fun _ _ _ _ _ _ us hl => match us, hl with | [_, _], _ => rfl⟩,
    t_Hall_sees := ⟨_, _, fun_mk (st := s_Hall_sees) l15 c15 k15, (fun_mk (st := s_Hall_sees) l15 c15 k15).binds (ps := p_Hall_sees) fun _ _ _ _ _ _ us hl => match us, hl with | [_, _], _ => rfl⟩,
    t_Hall_seers := ⟨_, _, fun_mk (st := s_Hall_seers) l16 c16 k16, (fun_mk (st := s_Hall_seers) l16 c16 k16).binds (ps := p_Hall_seers) fun _ _ _ _ _ _ us hl => match us, hl with | [_, _], _ => rfl⟩,
    t_Hall_eq := ⟨_, _, fun_mk (st := s_Hall_eq) l17 c17 k17, (fun_mk (st := s_Hall_eq) l17 c17 k17).binds (ps := p_Hall_eq) fun _ _ _ _ _ _ us hl => match us, hl with | [_, _], _ => rfl⟩,
    t_Hall_len := ⟨_, _, fun_mk (st := s_Hall_len) l18 c18 k18, (fun_mk (st := s_Hall_len) l18 c18 k18).binds (ps := p_Hall_len) fun _ _ _ _ _ _ us hl => match us, hl with | [_], _ => rfl⟩,
    t_Hall_repr := ⟨_, _, fun_mk (st := s_Hall_repr) l19 c19 k19, (fun_mk (st := s_Hall_repr) l19 c19 k19).binds (ps := p_Hall_repr) fun _ _ _ _ _ _ us hl => match us, hl with | [_], _ => rfl⟩,
    t_line_hall := FnKT.mk _ _ ⟨⟨_, _, _, _, _, _, _, _, _, _, rfl, l20, c20, .inl ⟨rfl, rfl⟩, .inr ⟨kD20, rfl, fun q hq => by simp only [List.mem_cons, List.not_mem_nil, or_false] at hq; rcases hq with rfl; exact ⟨_, w20_0, rfl⟩⟩⟩, k20⟩ (FunD.binds0 (kws := [("ring", V.bl false)]) ⟨⟨_, _, _, _, _, _, _, _, _, _, rfl, l20, c20, .inl ⟨rfl, rfl⟩, .inr ⟨kD20, rfl, fun q hq => by simp only [List.mem_cons, List.not_mem_nil, or_false] at hq; rcases hq with rfl; exact ⟨_, w20_0, rfl⟩⟩⟩, k20⟩ 1 (by decide) rfl fun D doc pm an cdv ct us ks h1 h2 => match us, ks, h1, h2 with | [_], [_], _, _ => ⟨_, _, _, _, _, _, rfl, rfl, rfl⟩) ⟨fun s us ws _ h1 h2 => match us, ws, h1, h2 with | [_], [_], _, _ => .of_eq rfl, fun r1 r2 => r1.append r2⟩,
    g_line_hall := PySem.W.mg_of X G a20,
    t_ways_of := ⟨_, _, fun_mk (st := s_ways_of) l21 c21 k21, (fun_mk (st := s_ways_of) l21 c21 k21).binds (ps := p_ways_of) fun _ _ _ _ _ _ us hl => match us, hl with | [_], _ => rfl⟩,
    g_ways_of := PySem.W.mg_of X G a21,
    t_line_counts := FnKT.mk _ _ ⟨⟨_, _, _, _, _, _, _, _, _, _, rfl, l22, c22, .inl ⟨rfl, rfl⟩, .inr ⟨kD22, rfl, fun q hq => by simp only [List.mem_cons, List.not_mem_nil, or_false] at hq; rcases hq with rfl; exact ⟨_, w22_0, rfl⟩⟩⟩, k22⟩ (FunD.binds0 (kws := [("ring", V.bl false)]) ⟨⟨_, _, _, _, _, _, _, _, _, _, rfl, l22, c22, .inl ⟨rfl, rfl⟩, .inr ⟨kD22, rfl, fun q hq => by simp only [List.mem_cons, List.not_mem_nil, or_false] at hq; rcases hq with rfl; exact ⟨_, w22_0, rfl⟩⟩⟩, k22⟩ 1 (by decide) rfl fun D doc pm an cdv ct us ks h1 h2 => match us, ks, h1, h2 with | [_], [_], _, _ => ⟨_, _, _, _, _, _, rfl, rfl, rfl⟩) ⟨fun s us ws _ h1 h2 => match us, ws, h1, h2 with | [_], [_], _, _ => .of_eq rfl, fun r1 r2 => r1.append r2⟩,
    g_line_counts := PySem.W.mg_of X G a22,
    t_ways_behind := ⟨_, _, fun_mk (st := s_ways_behind) l23 c23 k23, (fun_mk (st := s_ways_behind) l23 c23 k23).binds (ps := p_ways_behind) fun _ _ _ _ _ _ us hl => match us, hl with | [_, _, _], _ => rfl⟩,
    g_ways_behind := PySem.W.mg_of X G a23,
    t_line_rest := FnKT.mk _ _ ⟨⟨_, _, _, _, _, _, _, _, _, _, rfl, l24, c24, .inl ⟨rfl, rfl⟩, .inr ⟨kD24, rfl, fun q hq => by simp only [List.mem_cons, List.not_mem_nil, or_false] at hq; rcases hq with rfl; exact ⟨_, w24_0, rfl⟩⟩⟩, k24⟩ (FunD.binds0 (kws := [("ring", V.bl false)]) ⟨⟨_, _, _, _, _, _, _, _, _, _, rfl, l24, c24, .inl ⟨rfl, rfl⟩, .inr ⟨kD24, rfl, fun q hq => by simp only [List.mem_cons, List.not_mem_nil, or_false] at hq; rcases hq with rfl; exact ⟨_, w24_0, rfl⟩⟩⟩, k24⟩ 2 (by decide) rfl fun D doc pm an cdv ct us ks h1 h2 => match us, ks, h1, h2 with | [_, _], [_], _, _ => ⟨_, _, _, _, _, _, rfl, rfl, rfl⟩) ⟨fun s us ws _ h1 h2 => match us, ws, h1, h2 with | [_, _], [_], _, _ => .of_eq rfl, fun r1 r2 => r1.append r2⟩,
    g_line_rest := PySem.W.mg_of X G a24,
    t_line_number := FnKT.mk _ _ ⟨⟨_, _, _, _, _, _, _, _, _, _, rfl, l25, c25, .inl ⟨rfl, rfl⟩, .inr ⟨kD25, rfl, fun q hq => by simp only [List.mem_cons, List.not_mem_nil, or_false] at hq; rcases hq with rfl; exact ⟨_, w25_0, rfl⟩⟩⟩, k25⟩ (FunD.binds0 (kws := [("ring", V.bl false)]) ⟨⟨_, _, _, _, _, _, _, _, _, _, rfl, l25, c25, .inl ⟨rfl, rfl⟩, .inr ⟨kD25, rfl, fun q hq => by simp only [List.mem_cons, List.not_mem_nil, or_false] at hq; rcases hq with rfl; exact ⟨_, w25_0, rfl⟩⟩⟩, k25⟩ 1 (by decide) rfl fun D doc pm an cdv ct us ks h1 h2 => match us, ks, h1, h2 with | [_], [_], _, _ => ⟨_, _, _, _, _, _, rfl, rfl, rfl⟩) ⟨fun s us ws _ h1 h2 => match us, ws, h1, h2 with | [_], [_], _, _ => .of_eq rfl, fun r1 r2 => r1.append r2⟩,
    g_line_number := PySem.W.mg_of X G a25,
    t_dip := ⟨_, _, fun_mk (st := s_dip) l26 c26 k26, (fun_mk (st := s_dip) l26 c26 k26).binds (ps := p_dip) fun _ _ _ _ _ _ us hl => match us, hl with | [_, _], _ => rfl⟩,
    g_dip := PySem.W.mg_of X G a26,
    t_take := ⟨_, _, fun_mk (st := s_take) l27 c27 k27, (fun_mk (st := s_take) l27 c27 k27).binds (ps := p_take) fun _ _ _ _ _ _ us hl => match us, hl with | [_, _], _ => rfl⟩,
    g_take := PySem.W.mg_of X G a27,
    t_folded := ⟨_, _, fun_mk (st := s_folded) l28 c28 k28, (fun_mk (st := s_folded) l28 c28 k28).binds (ps := p_folded) fun _ _ _ _ _ _ us hl => match us, hl with | [_, _], _ => rfl⟩,
    g_folded := PySem.W.mg_of X G a28,
    t_same := ⟨_, _, fun_mk (st := s_same) l29 c29 k29, (fun_mk (st := s_same) l29 c29 k29).binds (ps := p_same) fun _ _ _ _ _ _ us hl => match us, hl with | [_, _], _ => rfl⟩,
    g_same := PySem.W.mg_of X G a29,
    t_seen := ⟨_, _, fun_mk (st := s_seen) l30 c30 k30, (fun_mk (st := s_seen) l30 c30 k30).binds (ps := p_seen) fun _ _ _ _ _ _ us hl => match us, hl with | [_], _ => rfl⟩,
    g_seen := PySem.W.mg_of X G a30,
    t_lot := ⟨_, _, fun_mk (st := s_lot) l31 c31 k31, (fun_mk (st := s_lot) l31 c31 k31).binds (ps := p_lot) fun _ _ _ _ _ _ us hl => match us, hl with | [_, _, _], _ => rfl⟩,
    g_lot := PySem.W.mg_of X G a31,
    t_tells := ⟨_, _, fun_mk (st := s_tells) l32 c32 k32, (fun_mk (st := s_tells) l32 c32 k32).binds (ps := p_tells) fun _ _ _ _ _ _ us hl => match us, hl with | [_, _], _ => rfl⟩,
    g_tells := PySem.W.mg_of X G a32,
    t_turned := ⟨_, _, fun_mk (st := s_turned) l33 c33 k33, (fun_mk (st := s_turned) l33 c33 k33).binds (ps := p_turned) fun _ _ _ _ _ _ us hl => match us, hl with | [_, _, _], _ => rfl⟩,
    g_turned := PySem.W.mg_of X G a33,
    t_restless := ⟨_, _, fun_mk (st := s_restless) l34 c34 k34, (fun_mk (st := s_restless) l34 c34 k34).binds (ps := p_restless) fun _ _ _ _ _ _ us hl => match us, hl with | [_, _], _ => rfl⟩,
    g_restless := PySem.W.mg_of X G a34,
    t_bits := ⟨_, _, fun_mk (st := s_bits) l35 c35 k35, (fun_mk (st := s_bits) l35 c35 k35).binds (ps := p_bits) fun _ _ _ _ _ _ us hl => match us, hl with | [_], _ => rfl⟩,
    g_bits := PySem.W.mg_of X G a35,
    t_next_rules := ⟨_, _, fun_mk (st := s_next_rules) l36 c36 k36, (fun_mk (st := s_next_rules) l36 c36 k36).binds (ps := p_next_rules) fun _ _ _ _ _ _ us hl => match us, hl with | [_, _], _ => rfl⟩,
    g_next_rules := PySem.W.mg_of X G a36,
    t_refused := ⟨_, _, fun_mk (st := s_refused) l37 c37 k37, (fun_mk (st := s_refused) l37 c37 k37).binds (ps := p_refused) fun _ _ _ _ _ _ us hl => match us, hl with | [_, _, _], _ => rfl⟩,
    g_refused := PySem.W.mg_of X G a37,
    t_right := ⟨_, _, fun_mk (st := s_right) l38 c38 k38, (fun_mk (st := s_right) l38 c38 k38).binds (ps := p_right) fun _ _ _ _ _ _ us hl => match us, hl with | [_], _ => rfl⟩,
    g_right := PySem.W.mg_of X G a38,
    t_law := ⟨_, _, fun_mk (st := s_law) l39 c39 k39, (fun_mk (st := s_law) l39 c39 k39).binds (ps := p_law) fun _ _ _ _ _ _ us hl => match us, hl with | [_], _ => rfl⟩,
    g_law := PySem.W.mg_of X G a39,
    C_Hall := CHall,
    g_Hall := PySem.W.mg_of X G aCHall,
    cl_Hall := ⟨pgHall, hdHall, poHall, saHall⟩,
    mk_Hall := ⟨mkHall, a11, i11, kcHall⟩,
    me_Hall_init := ⟨a11, i11, k11⟩,
    me_Hall_must_have := ⟨a12, i12, k12⟩,
    me_Hall_rules := ⟨a13, i13, k13⟩,
    me_Hall_rule := ⟨a14, i14, k14⟩,
    me_Hall_sees := ⟨a15, i15, k15⟩,
    me_Hall_seers := ⟨a16, i16, k16⟩,
    me_Hall_eq := ⟨a17, i17, k17⟩,
    me_Hall_len := ⟨a18, i18, k18⟩,
    me_Hall_repr := ⟨a19, i19, k19⟩,
    na_Hall_kept := nHall_kept,
    C_BadHall := CBadHall,
    g_BadHall := PySem.W.mg_of X G aCBadHall,
    C_NoPerson := CNoPerson,
    g_NoPerson := PySem.W.mg_of X G aCNoPerson,
    C_NoRest := CNoRest,
    g_NoRest := PySem.W.mg_of X G aCNoRest,
    ox_NoRest := ⟨PySem.F.excBase_IndexError, by decide +kernel, ⟨nmNoRest, qqNoRest, NNoRest, bsNoRest, _, snNoRest, sbNoRest, abNoRest, coNoRest, ddNoRest, m0NoRest, m1NoRest, m2NoRest, m3NoRest, m5NoRest, xLNoRest, fun _ => rfl, LhX.over_one PySem.F.store_IndexError.passes⟩, saNoRest, ebNoRest, tyNoRest, kcNoRest⟩,
    me_NoRest_init := ⟨a1, i1, k1⟩,
    ti_NoRest := tiNoRest,
    na_NoRest_number := nNoRest_number,
    xf_NoRest := ⟨gaNoRest, ggNoRest, ebNoRest, hdNoRest⟩,
    xc_NoRest := ⟨gaNoRest, ggNoRest, ebNoRest, hdNoRest, j1NoRest, j2NoRest, j3NoRest, j4NoRest⟩,
    em_NoRest_NoRest := PySem.W.exm_ref ebNoRest hdNoRest tyNoRest sbNoRest_NoRest,
    ki_NoRest_NoPerson := kit_not hdNoPerson tyNoPerson sbNoRest_NoPerson sbNoRest_NoRest,
    ki_NoRest_NoRest := if_pos (beq_self_eq_true _),
    ki_NoRest_IndexError := kit_type (by decide +kernel) suNoRest_IndexError,
    vi_IndexError := viIndexError,
    D_PARTS := DPARTS,
    g_PARTS := PySem.W.mg_of X G aDPARTS,
    es_PARTS := esPARTS,
    en_PARTS := enPARTS,
    kd_PARTS := ⟨lDPARTS, kDPARTS, yDPARTS⟩,
    t_PARTS_held := tPARTS_held,
    dk_PARTS_held := ePARTS_held,
    sq_PARTS_held := fun _ => .inr ⟨_, itPARTS_held, inPARTS_held, ltPARTS_held, rfl, rfl, ztPARTS_held, vtPARTS_held⟩,
    t_PARTS_sum := tPARTS_sum,
    dk_PARTS_sum := ePARTS_sum,
    sq_PARTS_sum := fun _ => .inr ⟨_, itPARTS_sum, inPARTS_sum, ltPARTS_sum, rfl, rfl, ztPARTS_sum, vtPARTS_sum⟩,
    t_PARTS_cap := tPARTS_cap,
    dk_PARTS_cap := ePARTS_cap,
    sq_PARTS_cap := fun _ => .inr ⟨_, itPARTS_cap, inPARTS_cap, ltPARTS_cap, rfl, rfl, ztPARTS_cap, vtPARTS_cap⟩,
    t_PARTS_kinds := tPARTS_kinds,
    dk_PARTS_kinds := ePARTS_kinds,
    sq_PARTS_kinds := fun _ => .inr ⟨_, itPARTS_kinds, inPARTS_kinds, ltPARTS_kinds, rfl, rfl, ztPARTS_kinds, vtPARTS_kinds⟩,
    t_PARTS_next := tPARTS_next,
    dk_PARTS_next := ePARTS_next,
    sq_PARTS_next := fun _ => .inr ⟨_, itPARTS_next, inPARTS_next, ltPARTS_next, rfl, rfl, ztPARTS_next, vtPARTS_next⟩,
    t_PARTS_free := tPARTS_free,
    dk_PARTS_free := ePARTS_free,
    sq_PARTS_free := fun _ => .inr ⟨_, itPARTS_free, inPARTS_free, ltPARTS_free, rfl, rfl, ztPARTS_free, vtPARTS_free⟩,
    m_IndexError := PySem.W.mg_none_of X G z0,
    m_abs := PySem.W.mg_none_of X G z1,
    m_all := PySem.W.mg_none_of X G z2,
    m_bool := PySem.W.mg_none_of X G z3,
    m_dict := PySem.W.mg_none_of X G z4,
    m_enumerate := PySem.W.mg_none_of X G z5,
    m_int := PySem.W.mg_none_of X G z6,
    m_isinstance := PySem.W.mg_none_of X G z7,
    m_len := PySem.W.mg_none_of X G z8,
    m_list := PySem.W.mg_none_of X G z9,
    m_max := PySem.W.mg_none_of X G z10,
    m_min := PySem.W.mg_none_of X G z11,
    m_range := PySem.W.mg_none_of X G z12,
    m_set := PySem.W.mg_none_of X G z13,
    m_sorted := PySem.W.mg_none_of X G z14,
    m_str := PySem.W.mg_none_of X G z15,
    m_sum := PySem.W.mg_none_of X G z16,
    m_tuple := PySem.W.mg_none_of X G z17,
    m_zip := PySem.W.mg_none_of X G z18 }
end Lh
open PySem PySem.W PyProof.Rows
set_option maxHeartbeats 0 in
theorem PySem.Challenge.cw_lesserhall_k37_lines_and_rings_holds : PySem.Challenge.rw_lesserhall_k37_lines_and_rings.Holds := by
  w_on; o_law; k_head; (case hw => w_witness2)
  k_fill
  refine Lh.walk_G (l := PySem.Challenge.rw_lesserhall_k37_lines_and_rings) (n := 63) (k := 12) (x := "_law_script") (sp := fun w => Lh.spLaw _) rfl (by decide) rfl ⟨rfl, by decide, by decide⟩ (fun w h Y => PySem.W.kIn_of Y) ?F (fun _ _ a ns hl _ hS => ⟨a, ns, rfl, hS, hl, fun _ => rfl⟩)
  case F =>
    intro w mg fa h KX G hmg
    refine' Lh.all_mk KX G hmg ?aCHall ?aCBadHall ?aCNoPerson ?aCNoRest ?a0 ?l0 ?c0 ?k0 ?a1 ?i1 ?l1 ?c1 ?k1 ?a2 ?l2 ?c2 ?k2 ?a3 ?l3 ?c3 ?k3 ?a4 ?l4 ?c4 ?k4 ?a5 ?l5 ?c5 ?k5 ?a6 ?l6 ?c6 ?k6 ?a7 ?l7 ?c7 ?k7 ?a8 ?l8 ?c8 ?k8 ?a9 ?l9 ?c9 ?k9 ?a10 ?l10 ?c10 ?k10 ?a11 ?i11 ?l11 ?c11 ?k11 ?a12 ?i12 ?l12 ?c12 ?k12 ?a13 ?i13 ?l13 ?c13 ?k13 ?a14 ?i14 ?l14 ?c14 ?k14 ?a15 ?i15 ?l15 ?c15 ?k15 ?a16 ?i16 ?l16 ?c16 ?k16 ?a17 ?i17 ?l17 ?c17 ?k17 ?a18 ?i18 ?l18 ?c18 ?k18 ?a19 ?i19 ?l19 ?c19 ?k19 ?a20 ?l20 ?c20 ?k20 ?w20_0 ?a21 ?l21 ?c21 ?k21 ?a22 ?l22 ?c22 ?k22 ?w22_0 ?a23 ?l23 ?c23 ?k23 ?a24 ?l24 ?c24 ?k24 ?w24_0 ?a25 ?l25 ?c25 ?k25 ?w25_0 ?a26 ?l26 ?c26 ?k26 ?a27 ?l27 ?c27 ?k27 ?a28 ?l28 ?c28 ?k28 ?a29 ?l29 ?c29 ?k29 ?a30 ?l30 ?c30 ?k30 ?a31 ?l31 ?c31 ?k31 ?a32 ?l32 ?c32 ?k32 ?a33 ?l33 ?c33 ?k33 ?a34 ?l34 ?c34 ?k34 ?a35 ?l35 ?c35 ?k35 ?a36 ?l36 ?c36 ?k36 ?a37 ?l37 ?c37 ?k37 ?a38 ?l38 ?c38 ?k38 ?a39 ?l39 ?c39 ?k39 ?pgHall ?hdHall ?poHall ?saHall ?mkHall ?kcHall ?nHall_kept ?ebBadHall ?hdBadHall ?tyBadHall ?ebNoPerson ?hdNoPerson ?tyNoPerson ?ebNoRest ?hdNoRest ?tyNoRest ?xLNoRest ?saNoRest ?kcNoRest ?tiNoRest ?gaNoRest ?ggNoRest ?j1NoRest ?j2NoRest ?j3NoRest ?j4NoRest ?nNoRest_number ?sbNoRest_NoRest ?sbNoRest_NoPerson ?suNoRest_IndexError ?viIndexError ?aDPARTS ?lDPARTS ?kDPARTS ?yDPARTS ?ePARTS_held ?ltPARTS_held ?ztPARTS_held ?vtPARTS_held ?ePARTS_sum ?ltPARTS_sum ?ztPARTS_sum ?vtPARTS_sum ?ePARTS_cap ?ltPARTS_cap ?ztPARTS_cap ?vtPARTS_cap ?ePARTS_kinds ?ltPARTS_kinds ?ztPARTS_kinds ?vtPARTS_kinds ?ePARTS_next ?ltPARTS_next ?ztPARTS_next ?vtPARTS_next ?ePARTS_free ?ltPARTS_free ?ztPARTS_free ?vtPARTS_free ?z0 ?z1 ?z2 ?z3 ?z4 ?z5 ?z6 ?z7 ?z8 ?z9 ?z10 ?z11 ?z12 ?z13 ?z14 ?z15 ?z16 ?z17 ?z18
    (case aCHall => k_is); (case aCBadHall => k_is); (case aCNoPerson => k_is); (case aCNoRest => k_is); (case a0 => k_is); (case l0 => k_is); (case c0 => k_is); (case k0 => k_is); (case a1 => k_is); (case i1 => k_is); (case l1 => k_is); (case c1 => k_is); (case k1 => k_is); (case a2 => k_is); (case l2 => k_is); (case c2 => k_is); (case k2 => k_is); (case a3 => k_is); (case l3 => k_is); (case c3 => k_is); (case k3 => k_is); (case a4 => k_is); (case l4 => k_is); (case c4 => k_is); (case k4 => k_is); (case a5 => k_is); (case l5 => k_is); (case c5 => k_is); (case k5 => k_is); (case a6 => k_is); (case l6 => k_is); (case c6 => k_is); (case k6 => k_is); (case a7 => k_is); (case l7 => k_is); (case c7 => k_is); (case k7 => k_is); (case a8 => k_is); (case l8 => k_is); (case c8 => k_is); (case k8 => k_is); (case a9 => k_is); (case l9 => k_is); (case c9 => k_is); (case k9 => k_is); (case a10 => k_is); (case l10 => k_is); (case c10 => k_is); (case k10 => k_is); (case a11 => k_is); (case i11 => k_is); (case l11 => k_is); (case c11 => k_is); (case k11 => k_is); (case a12 => k_is); (case i12 => k_is); (case l12 => k_is); (case c12 => k_is); (case k12 => k_is); (case a13 => k_is); (case i13 => k_is); (case l13 => k_is); (case c13 => k_is); (case k13 => k_is); (case a14 => k_is); (case i14 => k_is); (case l14 => k_is); (case c14 => k_is); (case k14 => k_is); (case a15 => k_is); (case i15 => k_is); (case l15 => k_is); (case c15 => k_is); (case k15 => k_is); (case a16 => k_is); (case i16 => k_is); (case l16 => k_is); (case c16 => k_is); (case k16 => k_is); (case a17 => k_is); (case i17 => k_is); (case l17 => k_is); (case c17 => k_is); (case k17 => k_is); (case a18 => k_is); (case i18 => k_is); (case l18 => k_is); (case c18 => k_is); (case k18 => k_is); (case a19 => k_is); (case i19 => k_is); (case l19 => k_is); (case c19 => k_is); (case k19 => k_is); (case a20 => k_is); (case l20 => k_is); (case c20 => k_is); (case k20 => k_is); (case w20_0 => k_is); (case a21 => k_is); (case l21 => k_is); (case c21 => k_is); (case k21 => k_is); (case a22 => k_is); (case l22 => k_is); (case c22 => k_is); (case k22 => k_is); (case w22_0 => k_is); (case a23 => k_is); (case l23 => k_is); (case c23 => k_is); (case k23 => k_is); (case a24 => k_is); (case l24 => k_is); (case c24 => k_is); (case k24 => k_is); (case w24_0 => k_is); (case a25 => k_is); (case l25 => k_is); (case c25 => k_is); (case k25 => k_is); (case w25_0 => k_is); (case a26 => k_is); (case l26 => k_is); (case c26 => k_is); (case k26 => k_is); (case a27 => k_is); (case l27 => k_is); (case c27 => k_is); (case k27 => k_is); (case a28 => k_is); (case l28 => k_is); (case c28 => k_is); (case k28 => k_is); (case a29 => k_is); (case l29 => k_is); (case c29 => k_is); (case k29 => k_is); (case a30 => k_is); (case l30 => k_is); (case c30 => k_is); (case k30 => k_is); (case a31 => k_is); (case l31 => k_is); (case c31 => k_is); (case k31 => k_is); (case a32 => k_is); (case l32 => k_is); (case c32 => k_is); (case k32 => k_is); (case a33 => k_is); (case l33 => k_is); (case c33 => k_is); (case k33 => k_is); (case a34 => k_is); (case l34 => k_is); (case c34 => k_is); (case k34 => k_is); (case a35 => k_is); (case l35 => k_is); (case c35 => k_is); (case k35 => k_is); (case a36 => k_is); (case l36 => k_is); (case c36 => k_is); (case k36 => k_is); (case a37 => k_is); (case l37 => k_is); (case c37 => k_is); (case k37 => k_is); (case a38 => k_is); (case l38 => k_is); (case c38 => k_is); (case k38 => k_is); (case a39 => k_is); (case l39 => k_is); (case c39 => k_is); (case k39 => k_is); (case pgHall => k_is); (case hdHall => k_is); (case poHall => k_is); (case saHall => k_is); (case mkHall => k_is); (case kcHall => k_is); (case nHall_kept => k_is); (case ebBadHall => k_is); (case hdBadHall => k_is); (case tyBadHall => k_is); (case ebNoPerson => k_is); (case hdNoPerson => k_is); (case tyNoPerson => k_is); (case ebNoRest => k_is); (case hdNoRest => k_is); (case tyNoRest => k_is); (case xLNoRest => k_is); (case saNoRest => k_is); (case kcNoRest => k_is); (case tiNoRest => k_is); (case gaNoRest => k_is); (case ggNoRest => k_is); (case j1NoRest => k_is); (case j2NoRest => k_is); (case j3NoRest => k_is); (case j4NoRest => k_is); (case nNoRest_number => k_is); (case sbNoRest_NoRest => first | rfl | k_is); (case sbNoRest_NoPerson => first | rfl | k_is); (case suNoRest_IndexError => k_is); (case viIndexError => k_is); (case aDPARTS => k_is); (case lDPARTS => k_is); (case kDPARTS => exact ⟨⟨_, _, rfl, rfl⟩, ⟨_, _, rfl, rfl⟩, ⟨_, _, rfl, rfl⟩, ⟨_, _, rfl, rfl⟩, ⟨_, _, rfl, rfl⟩, ⟨_, _, rfl, rfl⟩, trivial⟩); (case yDPARTS => decide +kernel); (case ePARTS_held => k_is); (case ltPARTS_held => k_is); (case ztPARTS_held => decide +kernel); (case vtPARTS_held => exact .cons ⟨_, rfl⟩ (.nil)); (case ePARTS_sum => k_is); (case ltPARTS_sum => k_is); (case ztPARTS_sum => decide +kernel); (case vtPARTS_sum => exact .cons ⟨_, rfl⟩ (.cons ⟨_, rfl⟩ (.nil))); (case ePARTS_cap => k_is); (case ltPARTS_cap => k_is); (case ztPARTS_cap => decide +kernel); (case vtPARTS_cap => exact .cons ⟨_, rfl⟩ (.cons ⟨_, rfl⟩ (.cons ⟨_, rfl⟩ (.nil)))); (case ePARTS_kinds => k_is); (case ltPARTS_kinds => k_is); (case ztPARTS_kinds => decide +kernel); (case vtPARTS_kinds => exact .cons ⟨_, rfl⟩ (.cons ⟨_, rfl⟩ (.nil))); (case ePARTS_next => k_is); (case ltPARTS_next => k_is); (case ztPARTS_next => decide +kernel); (case vtPARTS_next => exact .cons ⟨_, rfl⟩ (.nil)); (case ePARTS_free => k_is); (case ltPARTS_free => k_is); (case ztPARTS_free => decide +kernel); (case vtPARTS_free => exact .cons ⟨_, rfl⟩ (.nil)); (case z0 => k_is); (case z1 => k_is); (case z2 => k_is); (case z3 => k_is); (case z4 => k_is); (case z5 => k_is); (case z6 => k_is); (case z7 => k_is); (case z8 => k_is); (case z9 => k_is); (case z10 => k_is); (case z11 => k_is); (case z12 => k_is); (case z13 => k_is); (case z14 => k_is); (case z15 => k_is); (case z16 => k_is); (case z17 => k_is); (case z18 => k_is)
