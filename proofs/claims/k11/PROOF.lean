import PyProof.Rows.All
import Wide.All
import OpenK.AllK
import Wide.FinOn
import HandS.ForMost
import HandS.IsInst
import HandS.Style
import HandS.StrMore
import HandS.Wide
import PyProof.ReprRoads
import PyProof.StrOps2
import PyProof.StrLawsRepr
import PySem.Challenge.RW_farapart_k11_kinds
import HandS.Walk
set_option Elab.async false
set_option linter.all false
set_option maxRecDepth 100000
set_option maxHeartbeats 1000000
/-! what the laws of this program share: defs that are called while no repr is under way -/
namespace Fv
open PySem PySem.Spec PyProof.Rows L2
structure FnG (P : Program) (w : World) (K : PySem.W.Frag) (mg : Str → Option Value) (base : Heap) (k : Nat) (f : Addr) (fd : FuncData) (ps : List Str) (sp : Sp) : Prop where
  wide : ∀ xs H Q E, sp xs H Q E → xs.length = ps.length
  go : ∀ (A : Around) (fr : List Env) (s : Shared) (H : Hp) (us : List Value) (xs : List V) (Q : VK) (E : XK), A.guards = some [] → Room k A → Env0 P w K mg base A fr s H →
    (∀ t : Shared, BindsTo t fd ⟨us, []⟩ (ps.zip us)) → Vals xs us → sp xs H Q E → codeAny (model P w) A (.call (.ref f) ⟨us, []⟩) (CR CX0 fr P w H s Q E) s
def BindG (fd : FuncData) (ps : List Str) : Prop := ∀ us : List Value, us.length = ps.length → ∀ t : Shared, BindsTo t fd ⟨us, []⟩ (ps.zip us)
theorem bindG_of {K : PySem.W.Frag} {x qual : Str} {st : Stmt} {f : Addr} {fd : FuncData} {ps : List Str} (F : Fun K x qual st f fd)
    (h : ∀ (kV doc pm : Value) (an : Option Addr) (cdv ct : Value) (us : List Value), us.length = ps.length → bindArgs (PySem.W.fnOf x qual (defArgs st) (defBody st) (defScope st) .none kV doc pm an cdv ct) ⟨us, []⟩ = pure (ps.zip us)) : BindG fd ps := by
  obtain ⟨oc, od, kV, doc, pm, an, cdv, ct, osl, rfl, lk, hcd⟩ := F.ex
  exact fun us hl t => BindsTo.of_eq (h kV doc pm an cdv ct us hl)
section
variable {P : Program} {w : World} {K : PySem.W.Frag} {mg : Str → Option Value} {base : Heap}
/-- every plain promise holds so, too -/
theorem FnG.of {k : Nat} {f : Addr} {fd : FuncData} {ps : List Str} {sp : Sp} (F : FnOk P w K mg base CX0 k f fd ps sp) : FnG P w K mg base k f fd ps sp :=
  ⟨F.len, fun A fr s H us xs Q E _ hr e0 hb r h => F.run A fr s H ⟨us, []⟩ us xs Q E hr e0 (hb s) r h⟩
theorem okG {x qual : Str} {st : Stmt} {f : Addr} {fd : FuncData} {N ps : List Str} {k : Nat} {sp : Sp} (F : Fun K x qual st f fd) (S : FnScope N ps (defScope st)) (wide : ∀ xs H Q E, sp xs H Q E → xs.length = ps.length)
    (body : ∀ (cdv : Value) (A : Around) (fr : List Env) (s : Shared) (H : Hp) (xs : List V) (Q : VK) (E : XK), A.guards = some [] → Room k (A.deeper (envOfC qual (defScope st) s.heap.objs.size f cdv)) → sp xs H Q E →
      ∃ t, PSs (cxOf CX0 P w K mg base N qual (defScope st) f cdv A fr s H E).nox (defBody st) t ∧ t { nx := fun _ H' => Q .non H', rt := Q } (start N xs) H) : FnG P w K mg base (k + 1) f fd ps sp := by
  obtain ⟨oc, od, kV, doc, pm, an, cdv, ct, osl, rfl, lk, hcd⟩ := F.ex
  refine ⟨wide, fun A fr s H us xs Q E hg hr e0 hb r hs => ?_⟩
  have old : ∀ b o, base.get? b = some o → s.heap.get? b = some o := fun b o e => (e0.bs b o e).1
  have inK : K.In s.heap := e0.mod.kin.keeps old
  have kinds : ∀ y ∈ ps.zip us, (defScope st).names.lookup y.1 = some .local ∨ ((defScope st).names.lookup y.1 = some .cell ∧ ((cellsFrom (s.heap.objs.size + 1) (defScope st).names []).lookup y.1).isSome = true) := by
    rintro ⟨n, v⟩ hy
    rcases S.par n (List.of_mem_zip hy).1 with q | q
    · exact Or.inl q
    · exact Or.inr ⟨q, PySem.W.cellsFrom_some _ _ _ (Or.inl q)⟩
  refine codeAny_call_function hr.depth (inK _ _ lk) rfl S.co S.gen rfl (PySem.W.codeRec_of inK hcd) (hb _ _ _ _ _ ?_)
  refine wpAny_newFunctionEnv_cells S.kind kinds fun env he s1 ic => ?_
  subst he
  refine ⟨(e0.mod.nolimit.keeps old).keeps ic.toInCall.keep, codeAny_func ?_⟩
  obtain ⟨t, ht, hq⟩ := body cdv A fr s H xs Q E hg (hr.deeper _) hs
  have I := inv_start (CX := CX0) (E := E) S hr.hd e0 (wide _ _ _ _ hs) r ic
  refine wpAny_mono (ht.nox.run [] s1 (start N xs) H _ I hq) (fun fl s' z => ?_) fun _ _ z => z
  cases fl with
  | ret u =>
    obtain ⟨v, σ', H', J, rv, q⟩ := z
    exact ⟨v, H', J.os, J.bare, J.base, J.hok, rv, q⟩
  | next =>
    obtain ⟨σ', H', J, q⟩ := z
    exact ⟨V.non, H', J.os, J.bare, J.base, J.hok, rfl, q⟩
  | brk =>
    obtain ⟨_, _, _, q⟩ := z
    exact q.elim
  | cont =>
    obtain ⟨_, _, _, q⟩ := z
    exact q.elim
end
section
variable {X : Cx} {k : Nat} {f : Addr} {fd : FuncData} {ps : List Str} {sp : Sp} {x : Str} {p pos : Pos} {e : Expr} {es : List Expr} {t : TA}
/-- f(e, ..) where no repr is under way -/
theorem pe_callG (F : FnG X.prog X.w X.K X.mg X.base k f fd ps sp) (hgd : X.A.guards = some []) (hr : Room k X.A) (hg : Gl X x) (hm : X.mg x = some (.ref f)) (hk : PySem.W.keepIn X.K (.ref f) = true) (hbs : BindG fd ps)
    (ha : PA X (e :: es) t) (hdb : (x == ("__debug__" : Str)) = false := by decide) (he : starEach (e :: es) X.env = (false, eval e X.env) :: starEach es X.env := by rfl) (hpl : (backTo pos (starEach es X.env)).any (·.1) = false := by rfl) :
    PE X (.Call (.Name x p) (e :: es) [] pos) (fun σ H Q => t σ H fun vs H1 => sp vs H1 Q E0) := by
  refine ⟨fun pins s σ H Q I h => wpAny_Call_Name_kw (ld_glob I hg hm ?_ hdb)⟩
  refine PySem.W.callWith_K (h₀ := X.base) I.ok.mod.kin hk (thn (ha.run pos pins s σ H _ I h) fun us s1 ⟨vs, H1, I1, r, q⟩ => ⟨I1.kIn, ?_⟩) he hpl
  have hl : us.length = ps.length := by rw [← r.length]; exact F.wide _ _ _ _ q
  refine wpAny_call (codeAny_mono (F.go X.A X.stack s1 H1 us vs Q E0 hgd hr I1.env0 (hbs us hl) r q) fun res s' hq => ?_)
  cases res with
  | error e => exact False.elim hq
  | ok fl =>
    cases fl with
    | ret u => exact I1.after hq
    | next => exact False.elim hq
    | brk => exact False.elim hq
    | cont => exact False.elim hq
end
section
variable {P : Program} {w : World} {K : PySem.W.Frag} {mg mb : Str → Option Value} {k : Nat} {fa a : Addr} {fd : FuncData} {x : Str} {sp : Sp} {s1 : Shared} {vs : List Value} {ns : List Int}
/-- the law's call: nothing but the script is tracked at its entry -/
theorem law_callG (KX : K.In s1.heap) (hns : s1.heap.Ns mainGlobals mg) (hb : s1.heap.Ns builtinsNs mb) (hbb : ∀ x : Str, x ≠ "__name__" → mb x = bootBuiltins x) (hlim : s1.heap.NoLimit) (hg : s1.gens = #[])
    (ha : s1.heap.get? a = some { cls := .type "list", data := .seq vs.toArray }) (hi : IntsAre vs ns) (hl : ns.length ≤ sizeLine) (hr : Room k callerA)
    (F : ∀ base : Heap, K.In base → base.Ns mainGlobals mg → FnG P w K mg base k fa fd [x] sp) (hbind : ∀ (s : Shared) (u : Value), BindsTo s fd ⟨[u], []⟩ [(x, u)])
    (hsp : ∀ H : Hp, Only H → SqL K H a (ns.map V.int) → sp [.ref a] H (fun v _ => v = .bl true) E0) :
    codeAny (model P w) callerA (.call (.ref fa) ⟨[.ref a], []⟩) (fun r s' => r = .ok (.ret (.bool true)) ∧ OldK s1.heap s'.heap ∧ s'.os = s1.os ∧ AllBare s'.gens) s1 := by
  have rv := vals_ints hi
  have hlen := hi.length
  have go : ∀ H : Hp, Only H → SqL K H a (ns.map V.int) → HOk P w H s1.heap → (∀ b, H b ≠ none → b = a ∧ K.lookup a = none) →
      codeAny (model P w) callerA (.call (.ref fa) ⟨[.ref a], []⟩) (fun r s' => r = .ok (.ret (.bool true)) ∧ OldK s1.heap s'.heap ∧ s'.os = s1.os ∧ AllBare s'.gens) s1 := by
    intro H only hS hok hA
    have free : ∀ {b : Addr} {o : Obj}, s1.heap.get? b = some o → (∀ z, o.data ≠ .seq vs.toArray z) → H b = none := by
      intro b o e d
      cases q : H b with
      | none => rfl
      | some u =>
        obtain ⟨rfl, _⟩ := hA b (by rw [q]; exact fun z => nomatch z)
        rw [ha] at e
        cases e
        exact (d _ rfl).elim
    have ns : ∀ {b : Addr} {m : Str → Option Value}, s1.heap.Ns b m → (hidT s1.heap H).Ns b m := by
      rintro b m ⟨o, es, ep, e, d, r⟩
      exact ⟨o, es, ep, hidT_get e (free e fun z q => by rw [d] at q; exact nomatch q), d, r⟩
    have inB : K.In (hidT s1.heap H) := by
      intro b o e
      refine hidT_get (KX b o e) ?_
      cases q : H b with
      | none => rfl
      | some u =>
        obtain ⟨rfl, n⟩ := hA b (by rw [q]; exact fun z => nomatch z)
        rw [n] at e
        exact nomatch e
    obtain ⟨mc, c1, c2⟩ := hlim
    have e0 : Env0 P w K mg (hidT s1.heap H) callerA [] s1 H :=
      ⟨rfl, ⟨inB, ns hns, ⟨mb, ns hb, hbb⟩, ⟨mc, ns c1, c2⟩⟩, fun b o e => of_hidT e, Nat.le_of_eq (hidT_size _ _), trivial, fun b z => absurd (show b ∈ ([] : List Addr) from z) List.not_mem_nil, hok, .of_eq hg⟩
    refine codeAny_mono ((F _ inB (ns hns)).go callerA [] s1 H [.ref a] [.ref a] _ _ rfl hr e0 (fun t => hbind t (.ref a)) (.cons rfl .nil) (hsp H only hS)) fun r s' h => ?_
    cases r with
    | error e => exact False.elim h
    | ok fl =>
      cases fl with
      | next => exact False.elim h
      | brk => exact False.elim h
      | cont => exact False.elim h
      | ret u =>
        obtain ⟨v, H', os, bare, un, hok', rr, q⟩ := h
        obtain rfl : v = .bl true := q
        obtain rfl : u = Value.bool true := rr
        refine ⟨rfl, OldK.of_keep fun b o e => ?_, os, bare⟩
        rcases only b with z | ⟨ob, xs, z⟩
        · exact un.keep b o e z (fun z => absurd (show b ∈ ([] : List Addr) from z) List.not_mem_nil) List.not_mem_nil
        · obtain ⟨e1, _⟩ := hok b _ z
          obtain ⟨e2, _⟩ := hok' b _ (un.frzs b ob _ z)
          rw [e] at e1
          cases e1
          exact e2
  cases hk : K.lookup a with
  | some o =>
    have e := KX a o hk
    rw [ha] at e
    cases e
    exact go (fun _ => none) (fun _ => Or.inl rfl) (.inr ⟨_, vs.toArray, _, hk, rfl, rfl, rfl, by rw [List.size_toArray, hlen]; exact hl, by simpa using rv⟩) (fun b u z => nomatch z) fun b z => absurd rfl z
  | none =>
    refine go (fun b => if b = a then some (.frz { cls := .type "list", data := .seq vs.toArray } (.lst (ns.map V.int))) else none) (fun b => ?_) (.inl (.inr ⟨_, if_pos rfl⟩)) (fun b u z => ?_) fun b z => ?_
    · by_cases hb : b = a
      · exact Or.inr ⟨_, _, if_pos hb⟩
      · exact Or.inl (if_neg hb)
    · by_cases hb : b = a
      · subst hb
        simp only [if_true] at z
        cases z
        exact ⟨ha, by rw [List.length_map]; exact hl, vs, _, rv, ha⟩
      · simp only [if_neg hb] at z
        cases z
    · by_cases hb : b = a
      · exact ⟨hb, hk⟩
      · exact absurd (if_neg hb) z
end
theorem walk_G {l : PySem.W.OpenLaw} {n k : Nat} {q : Program} {loose : List Str} {XP : (Str → Option Value) → Heap → Prop} {YP : World → Heap → Prop} {d : DefRec} {K : Params → PySem.W.Frag} {sp : PySem.W.Frag → Sp} {x : Str}
    (hn : l.most = some n) (hn2 : n ≤ sizeLine) (hdf : d.params.defaults = []) (hr : Room k callerA) (hY : ∀ (w : World) (h : Heap), YP w h → (K w.params).In h)
    (F : ∀ (w : World) (mg : Str → Option Value) (fa : Addr) (h : Heap), (K w.params).In h → h.Ns mainGlobals mg → mg d.name = some (.ref fa) →
      ∃ fd : FuncData, (∀ (s : Shared) (u : Value), BindsTo s fd ⟨[u], []⟩ [(x, u)]) ∧ ∀ base : Heap, (K w.params).In base → base.Ns mainGlobals mg → FnG l.prog w (K w.params) mg base k fa fd [x] (sp (K w.params)))
    (hsp : ∀ (K : PySem.W.Frag) (H : Hp) (a : Addr) (ns : List Int), ns.length ≤ n → Only H → SqL K H a (ns.map V.int) → sp K [.ref a] H (fun v _ => v = .bl true) E0) :
    PySem.W.WalkO q loose XP YP l.row.toRowW d [] (fun f vs => PySem.call f vs) := by
  refine Att.attach_call hn hdf fun w s₀ s1 mg mb fa o pm cd doc a vs ns G Y ho hd hcd hmg hobj hints hlen hg => ?_
  obtain ⟨fd, hb, hF⟩ := F w mg fa _ (hY w _ Y) G.T.g hmg
  exact law_callG (hY w _ Y) G.T.g G.T.b G.T.builtins G.T.nolimit hg hobj hints (Nat.le_trans hlen hn2) hr hF hb fun H hO hS => hsp (K w.params) H a ns hlen hO hS
end Fv


set_option Elab.async false
set_option linter.all false
set_option maxRecDepth 100000
set_option maxHeartbeats 1000000
namespace Fv
open PySem PySem.Spec PyProof.Rows L2
/-! ### data at a value: own lists stand away from the bag (b) -/
mutual
inductive Dq (H : Hp) (b : Addr) : V → PyData → Prop
  | non : Dq H b .non .none
  | bl (x : Bool) : Dq H b (.bl x) (.bool x)
  | int (i : Int) : Dq H b (.int i) (.int i)
  | str (x : Str) : Dq H b (.str x) (.str x)
  | lst {a : Addr} {xs : List V} {ds : List PyData} : H a = some (.lst xs) → a ≠ b → a ≠ sysModules → DqAll H b xs ds → Dq H b (.ref a) (.list ds)
  | tup {a : Addr} {xs : List V} {ds : List PyData} : H a = some (.tup xs) → a ≠ b → DqAll H b xs ds → Dq H b (.ref a) (.tuple ds)
  | dct {a : Addr} {kvs : List (Key × V)} {ps : List (PyData × PyData)} : H a = some (.dK kvs) → a ≠ b → DqAll H b (kvs.map fun p => kV p.1) (ps.map (·.1)) → DqAll H b (kvs.map (·.2)) (ps.map (·.2)) → Dq H b (.ref a) (.dict ps)
inductive DqAll (H : Hp) (b : Addr) : List V → List PyData → Prop
  | nil : DqAll H b [] []
  | cons {v : V} {vs : List V} {d : PyData} {ds : List PyData} : Dq H b v d → DqAll H b vs ds → DqAll H b (v :: vs) (d :: ds)
end
mutual
theorem Dq.mono {H H' : Hp} {b : Addr} (k : ∀ a o, a ≠ b → H a = some o → H' a = some o) : ∀ {v : V} {d : PyData}, Dq H b v d → Dq H' b v d
  | _, _, .non => .non
  | _, _, .bl x => .bl x
  | _, _, .int i => .int i
  | _, _, .str x => .str x
  | _, _, .lst e n m h => .lst (k _ _ n e) n m (DqAll.mono k h)
  | _, _, .tup e n h => .tup (k _ _ n e) n (DqAll.mono k h)
  | _, _, .dct e n h h' => .dct (k _ _ n e) n (DqAll.mono k h) (DqAll.mono k h')
theorem DqAll.mono {H H' : Hp} {b : Addr} (k : ∀ a o, a ≠ b → H a = some o → H' a = some o) : ∀ {v : List V} {d : List PyData}, DqAll H b v d → DqAll H' b v d
  | _, _, .nil => .nil
  | _, _, .cons h t => .cons (Dq.mono k h) (DqAll.mono k t)
end
theorem kV_rel {k : Key} {v : Value} (h : keyIs k v = true) : RelV (kV k) v := by
  rcases keyIs_shape h with ⟨i, t, rfl, rfl⟩ | ⟨x, t, rfl, rfl⟩
  · exact ⟨t, rfl⟩
  · exact ⟨t, rfl⟩
theorem pairs_keys {P : Program} {w : World} : ∀ {kvs : List (Key × V)} {vs : List (Key × Value)} {es : List DictEntry}, KV kvs vs → Pairs (mixKind P w) es vs → Vals (kvs.map fun p => kV p.1) (es.map (·.key))
  | _, _, _, .nil, .nil => .nil
  | _, _, _, .cons r t, .cons h _ q => .cons (by
    have e := r.1
    show RelV (kV _) _
    rw [e]
    exact kV_rel h) (pairs_keys t q)
theorem pairs_vals {P : Program} {w : World} : ∀ {kvs : List (Key × V)} {vs : List (Key × Value)} {es : List DictEntry}, KV kvs vs → Pairs (mixKind P w) es vs → Vals (kvs.map (·.2)) (es.map (·.val))
  | _, _, _, .nil, .nil => .nil
  | _, _, _, .cons r t, .cons _ h q => .cons (by
    show RelV _ (DictEntry.val _)
    rw [h]
    exact r.2) (pairs_vals t q)
section
variable {X : Cx} {pins : List (Addr × Obj)} {σ : L2.St} {H : Hp} {s : Shared} {b : Addr}
mutual
theorem Dq.reads (I : Inv X pins σ H s) : ∀ {v : V} {d : PyData} {u : Value}, Dq H b v d → RelV v u → ∃ as, Reads s.heap u d as ∧ sysModules ∉ as
  | _, _, _, .non, r => by
    cases r
    exact ⟨_, .none, List.not_mem_nil⟩
  | _, _, _, .bl x, r => by
    cases r
    exact ⟨_, .bool x, List.not_mem_nil⟩
  | _, _, _, .int i, r => by
    obtain ⟨t, rfl⟩ := r
    exact ⟨_, .int i t, List.not_mem_nil⟩
  | _, _, _, .str x, r => by
    obtain ⟨t, rfl⟩ := r
    exact ⟨_, .str x t, List.not_mem_nil⟩
  | _, _, _, .lst (a := a) e _ m h, r => by
    cases r
    obtain ⟨_, its, n, rv, he⟩ := (show ObjOk X.prog X.w H s.heap a (.lst _) from I.hok a _ e)
    obtain ⟨as, q, z⟩ := DqAll.reads I h rv
    exact ⟨_, .list he rfl rfl (by simpa using q), fun y => (List.mem_cons.mp y).elim (fun w => m w.symm) z⟩
  | _, _, _, .tup (a := a) e _ h, r => by
    cases r
    obtain ⟨_, its, rv, o, he, hc, n, hd⟩ := (show ObjOk X.prog X.w H s.heap a (.tup _) from I.hok a _ e)
    obtain ⟨as, q, z⟩ := DqAll.reads I h rv
    exact ⟨_, .tuple he hc hd (by simpa using q), z⟩
  | _, _, _, .dct (a := a) e _ h h', r => by
    cases r
    obtain ⟨_, m, vs, rel, o, es, ep, he, hx, hd, _, hp, _⟩ := (show ObjOk X.prog X.w H s.heap a (.dK _) from I.hok a _ e)
    have k1 : Vals (_ : List V) (es.toList.map (·.key)) := pairs_keys rel hp
    have k2 : Vals (_ : List V) (es.toList.map (·.val)) := pairs_vals rel hp
    obtain ⟨as, q, z⟩ := DqAll.reads I h k1
    obtain ⟨bs, q', z'⟩ := DqAll.reads I h' k2
    exact ⟨_, .dict he hx.1 hd q q', fun y => by
      rcases List.mem_append.mp y with y | y
      · rcases List.mem_cons.mp y with w | w
        · rw [← w] at m
          simp at m
        · exact z w
      · exact z' y⟩
theorem DqAll.reads (I : Inv X pins σ H s) : ∀ {v : List V} {d : List PyData} {u : List Value}, DqAll H b v d → Vals v u → ∃ as, ReadsAll s.heap u d as ∧ sysModules ∉ as
  | _, _, _, .nil, r => by
    cases r
    exact ⟨_, .nil, List.not_mem_nil⟩
  | _, _, _, .cons h t, r => by
    cases r with
    | cons r1 r2 =>
      obtain ⟨as, q, z⟩ := Dq.reads I h r1
      obtain ⟨bs, q', z'⟩ := DqAll.reads I t r2
      exact ⟨_, .cons q q', fun y => (List.mem_append.mp y).elim z z'⟩
end
end
/-! ### rules -/
/-- repr of data -/
def rRepr : List V → Hp → VK → Prop := fun xs H Q => ∃ (b : Addr) (v : V) (d : PyData), xs = [v] ∧ Dq H b v d ∧ d.showable = true ∧ d.shown.length ≤ sizeLine ∧ d.depth ≤ 20 ∧ Q (.str d.shown) H
section
variable {X : Cx}
theorem call_reprD (hg : X.A.guards = some []) (hu : X.A.units + 64 < cLine) : CallR X (.builtin "repr") rRepr := by
  intro pins s σ H xs us Q I r h
  obtain ⟨b, v, d, rfl, hd, hs, hz, hdp, q⟩ := h
  cases r with
  | cons r rr =>
    cases rr
    rename_i u
    obtain ⟨as, rd, ns⟩ := Dq.reads I hd r
    cases rd with
    | none => exact PySem.P.repr_of_none ⟨.str _, H, I.tok _, ⟨_, rfl⟩, q⟩
    | bool x => exact PySem.P.repr_of_bool ⟨.str _, H, I.tok _, ⟨_, rfl⟩, q⟩
    | int i t => exact PySem.P.repr_of_int (by simpa [PyData.showable] using hs) ⟨.str _, H, I.tok _, ⟨_, rfl⟩, q⟩
    | str x t => exact PySem.P.repr_of_str ⟨.str _, H, I.tok _, ⟨_, rfl⟩, q⟩ (by simpa only [PyData.shown] using hz)
    | list a1 a2 a3 a4 => exact repr_of_reads' (.list a1 a2 a3 a4) hs (fun _ => ns) hg (by omega) (fun _ _ e => e) (fun h' u tk k => ⟨.str _, H, I.kept (h' := h') (t' := tk) k, ⟨_, rfl⟩, q⟩) hz
    | tuple a1 a2 a3 a4 => exact repr_of_reads' (.tuple a1 a2 a3 a4) hs (fun _ => ns) hg (by omega) (fun _ _ e => e) (fun h' u tk k => ⟨.str _, H, I.kept (h' := h') (t' := tk) k, ⟨_, rfl⟩, q⟩) hz
    | dict a1 a2 a3 a4 a5 => exact repr_of_reads' (.dict a1 a2 a3 a4 a5) hs (fun _ => ns) hg (by omega) (fun _ _ e => e) (fun h' u tk k => ⟨.str _, H, I.kept (h' := h') (t' := tk) k, ⟨_, rfl⟩, q⟩) hz
/-- xs[j] at a written or reckoned place, for op= -/
def rGetL (K : PySem.W.Frag) : V → V → Hp → VK → Prop := fun x y H Q => ∃ (p : Addr) (xs : List V) (j : Nat) (v : V), x = .ref p ∧ y = .int j ∧ SqL K H p xs ∧ xs[j]? = some v ∧ Q v H
theorem pget_list : PGet X (rGetL X.K) := by
  intro pins s σ H o i ov iv Q I ro ri h
  obtain ⟨p, xs, j, v, rfl, rfl, hq, he, q⟩ := h
  cases ro
  obtain ⟨t, rfl⟩ := ri
  obtain ⟨its, r, pl, hz⟩ := I.list hq
  obtain ⟨w, ew, rw'⟩ := r.get he
  have h1 : j < xs.length := (List.getElem?_eq_some_iff.mp he).1
  have h2 : sizeLine < 2 ^ 63 := by decide
  exact wpAny_getItem_list pl.isList (by omega) (by omega) (by simpa using ew) ⟨v, H, I, rw', q⟩
/-- '0' * n -/
def zeros (n : Nat) : Str := ⟨(List.replicate n #[48]).foldl (· ++ ·) #[]⟩
def rZeros : R2 := fun x y H Q => ∃ n : Nat, x = .str "0" ∧ y = .int n ∧ n < 64 ∧ Q (.str (zeros n)) H
theorem zeros_len : ∀ n : Nat, n < 64 → (zeros n).length = n := by decide +kernel
theorem op_zeros : OpR X (binaryOp .Mult) rZeros := by
  intro pins s σ H x y v u Q I rx ry h
  obtain ⟨n, rfl, rfl, hn, q⟩ := h
  obtain ⟨t, rfl⟩ := rx
  obtain ⟨t', rfl⟩ := ry
  have fin : EP X pins σ Q (.str (zeros n) s.toks) { s with toks := s.toks + 1 } := ⟨.str _, H, I.tok _, ⟨_, rfl⟩, q⟩
  refine PySem.P.mul_str (by rw [decide_eq_false (by omega), decide_eq_false (by omega)]; rfl) (fun _ _ => ?_) (fun _ _ => ?_) ?_
  · have : ("0" : Str).length = 1 := by decide +kernel
    rw [this]
    have h3 : (1 : Int) ≤ (2 ^ 63 - 1) / (n : Int) := by
      rename_i a b
      exact Int.le_ediv_of_mul_le (by omega) (by omega)
    omega
  · have : ("0" : Str).length = 1 := by decide +kernel
    rw [this]
    have hz := (by decide : 64 < sizeLine)
    simp only [Nat.one_mul, Int.toNat_natCast]
    unfold Builtin.Str.tooLong
    exact decide_eq_false (by omega)
  · by_cases h0 : n = 0
    · subst h0
      exact ⟨by decide, fin⟩
    · rw [if_neg (by omega)]
      by_cases h1 : n = 1
      · subst h1
        exact ⟨.str _, H, I, ⟨t, rfl⟩, q⟩
      · rw [if_neg (by
          have : ((n : Int) == 1) = false := by simpa using (by omega : ¬ ((n : Int) = 1))
          rw [this]
          decide)]
        exact ⟨by show (zeros n).length ≤ _; rw [zeros_len n hn]; have hz := (by decide : 64 < sizeLine); omega, fin⟩
end
/-! ### types of data -/
def tyN : PyData → String
  | .none => "NoneType"
  | .bool _ => "bool"
  | .int _ => "int"
  | .str _ => "str"
  | .list _ => "list"
  | .tuple _ => "tuple"
  | .dict _ => "dict"
theorem Dq.ty {K : PySem.W.Frag} {H : Hp} {b : Addr} {v : V} {d : PyData} (h : Dq H b v d) : TyX K H v (.type (tyN d)) := by
  cases h with
  | non => exact .base .non
  | bl x => exact .base (.bl x)
  | int i => exact .base (.int i)
  | str x => exact .base (.str x)
  | lst e _ _ _ => exact .base (.lst e)
  | tup e _ _ => exact .base (.tup e)
  | dct e _ _ _ => exact .base (.dK e)
def isStrD : PyData → Bool
  | .str _ => true
  | _ => false
def isBoolD : PyData → Bool
  | .bool _ => true
  | _ => false
def isIntD : PyData → Bool
  | .int _ => true
  | .bool _ => true
  | _ => false
theorem kit_str {K : PySem.W.Frag} (d : PyData) : PySem.W.kitOne K (.type (tyN d)) (.type "str") = some (isStrD d) := by
  cases d
  · exact kit_ty (a := "NoneType") (b := "str") (r := false) (by decide +kernel)
  · exact kit_ty (a := "bool") (b := "str") (r := false) (by decide +kernel)
  · exact kit_ty (a := "int") (b := "str") (r := false) (by decide +kernel)
  · exact kit_ty (a := "str") (b := "str") (r := true) (by decide +kernel)
  · exact kit_ty (a := "list") (b := "str") (r := false) (by decide +kernel)
  · exact kit_ty (a := "tuple") (b := "str") (r := false) (by decide +kernel)
  · exact kit_ty (a := "dict") (b := "str") (r := false) (by decide +kernel)
theorem kit_bool {K : PySem.W.Frag} (d : PyData) : PySem.W.kitOne K (.type (tyN d)) (.type "bool") = some (isBoolD d) := by
  cases d
  · exact kit_ty (a := "NoneType") (b := "bool") (r := false) (by decide +kernel)
  · exact kit_ty (a := "bool") (b := "bool") (r := true) (by decide +kernel)
  · exact kit_ty (a := "int") (b := "bool") (r := false) (by decide +kernel)
  · exact kit_ty (a := "str") (b := "bool") (r := false) (by decide +kernel)
  · exact kit_ty (a := "list") (b := "bool") (r := false) (by decide +kernel)
  · exact kit_ty (a := "tuple") (b := "bool") (r := false) (by decide +kernel)
  · exact kit_ty (a := "dict") (b := "bool") (r := false) (by decide +kernel)
theorem kit_int {K : PySem.W.Frag} (d : PyData) : PySem.W.kitOne K (.type (tyN d)) (.type "int") = some (isIntD d) := by
  cases d
  · exact kit_ty (a := "NoneType") (b := "int") (r := false) (by decide +kernel)
  · exact kit_ty (a := "bool") (b := "int") (r := true) (by decide +kernel)
  · exact kit_ty (a := "int") (b := "int") (r := true) (by decide +kernel)
  · exact kit_ty (a := "str") (b := "int") (r := false) (by decide +kernel)
  · exact kit_ty (a := "list") (b := "int") (r := false) (by decide +kernel)
  · exact kit_ty (a := "tuple") (b := "int") (r := false) (by decide +kernel)
  · exact kit_ty (a := "dict") (b := "int") (r := false) (by decide +kernel)
end Fv


set_option Elab.async false
set_option linter.all false
set_option maxRecDepth 100000
set_option maxHeartbeats 1000000
namespace Fv
open PySem PySem.Spec PyProof.Rows L2
section
variable {X : Cx} {es : List Expr} {t : TA} {pos : Pos}
/-- a written list; its place is none of the first ones -/
def tLstB (t : TA) : TE := fun σ H Q => t σ H fun xs H1 => xs.length ≤ sizeLine ∧ ∀ p, H1 p = none → p ≠ sysModules → Q (.ref p) (upd H1 p (.lst xs))
theorem pe_lstB (h : PA X es t) : PE X (.List es pos) (tLstB t) := by
  refine ⟨fun pins s σ H Q I hq => wpAny_List_spliced (thn (h.run pos pins s σ H _ I hq) fun us s1 e => ?_)⟩
  obtain ⟨xs, H1, I1, r, z, q⟩ := e
  have z' : us.length ≤ sizeLine := by rw [← r.length]; exact z
  have J : Inv X pins σ (upd H1 s1.heap.objs.size (.lst xs)) { s1 with heap := s1.heap.push { cls := .type "list", data := .seq us.toArray } } :=
    I1.laid (t' := s1.toks) (fun _ _ e => Heap.get?_push_of_some _ e) (Nat.le_refl _) ⟨z, us, 0, r, Heap.get?_push_size _ rfl⟩
  exact ⟨z', .ref _, _, J, rfl, q _ (I1.hok.fresh (Nat.le_refl _)) (Nat.ne_of_gt I1.big)⟩
end
theorem DqAll.get {H : Hp} {b : Addr} : ∀ {vs : List V} {ds : List PyData} {j : Nat} {v : V}, DqAll H b vs ds → vs[j]? = some v → ∃ d, d ∈ ds ∧ Dq H b v d
  | _, _, _, _, .nil, e => by simp at e
  | _, _, 0, _, .cons h _, e => by
    simp at e
    subst e
    exact ⟨_, List.mem_cons_self, h⟩
  | _, _, j + 1, _, .cons _ t, e => by
    obtain ⟨d, m, h⟩ := DqAll.get t (j := j) (by simpa using e)
    exact ⟨d, List.mem_cons_of_mem _ m, h⟩
/-! ### what is fine to be shown -/
structure Fine (d : PyData) : Prop where
  show_ : d.showable = true
  len : d.shown.length ≤ 100000
  deep : d.depth ≤ 10
def okS (z : Str) : Prop := z.length ≤ 1000 ∧ ∀ c ∈ z.cps.toList, c < 128
theorem okS.repr {z : Str} (h : okS z) : (reprText z).length ≤ 10010 := by
  have := StrLaws.reprText_len z fun c hc => Nat.lt_of_lt_of_le (h.2 c hc) (by decide)
  have := h.1
  omega
theorem Fine.str {z : Str} (h : okS z) : Fine (.str z) := ⟨by simp [PyData.showable], by simp only [PyData.shown]; have := h.repr; omega, by simp [PyData.depth]⟩
theorem Fine.one_tup {z : Str} (h : okS z) : Fine (.tuple [.str z]) := by
  refine ⟨by simp [PyData.showable, PyData.showableAll], ?_, by simp [PyData.depth, PyData.depthAll]⟩
  have e : (PyData.tuple [.str z]).shown = tupleText [reprText z] := by simp [PyData.shown, PyData.shownAll]
  rw [e]
  have hr := h.repr
  have e2 : ∀ x : Str, (tupleText [x]).length = 1 + x.length + 2 := fun x => by
    unfold tupleText
    rw [strLen_append, strLen_append]
    rfl
  rw [e2]
  omega
theorem Fine.one_lst {z : Str} (h : okS z) : Fine (.list [.str z]) := by
  refine ⟨by simp [PyData.showable, PyData.showableAll], ?_, by simp [PyData.depth, PyData.depthAll]⟩
  have e : (PyData.list [.str z]).shown = listText [reprText z] := by simp [PyData.shown, PyData.shownAll]
  rw [e]
  have hr := h.repr
  have e2 : ∀ x : Str, (listText [x]).length = 1 + x.length + 1 := fun x => by
    unfold listText
    rw [strLen_append]
    have e3 : textFrom 0 "[" [x] = ("[" : Str) ++ x := rfl
    rw [e3, strLen_append]
    rfl
  rw [e2]
  omega
theorem Fine.one_dct {z : Str} (h : okS z) : Fine (.dict [(.str z, .int 1)]) := by
  refine ⟨by simp only [PyData.showable, PyData.showableKv]; decide, ?_, by simp [PyData.depth, PyData.depthKv]⟩
  have e : (PyData.dict [(.str z, .int 1)]).shown = dictText [reprText z ++ ": " ++ (toString (1 : Int) : String)] := by simp [PyData.shown, PyData.shownKv]
  rw [e]
  have hr := h.repr
  have e2 : ∀ x : Str, (dictText [x]).length = 1 + x.length + 1 := fun x => by
    unfold dictText
    rw [strLen_append, strLen_append]
    rfl
  have e3 : ((toString (1 : Int) : String) : Str).length = 1 := by decide +kernel
  have e4 : ((": " : String) : Str).length = 2 := by decide +kernel
  rw [e2, strLen_append, strLen_append, e3, e4]
  omega
end Fv


set_option Elab.async false
set_option linter.all false
set_option maxRecDepth 100000
set_option maxHeartbeats 1000000
namespace Fv
open PySem PySem.Spec PyProof.Rows L2
def top (i : Nat) : Stmt := PySem.Challenge.pw_farapart_k11_kinds.main.body.getD i (.Pass ⟨0, 0, 0, 0⟩)
abbrev sBag : Stmt := top 10
abbrev sTake : Stmt := top 11
/-! ### the bag -/
def bagV (p s : Int) (i : Nat) (c : Addr) : HO := .lst [.int p, .int s, .int i, .ref c]
structure BagIs (H : Hp) (b c : Addr) (cs : List Int) (p s : Int) (i : Nat) : Prop where
  at_ : H b = some (bagV p s i c)
  cells : H c = some (.lst (cs.map V.int))
  ne : c ≠ b
  p0 : 0 ≤ p
  s0 : 0 ≤ s
  cs0 : ∀ z ∈ cs, 0 ≤ z
def Bag (H : Hp) (b : Addr) : Prop := ∃ c cs p s i, BagIs H b c cs p s i
def BagAt (H : Hp) (b c : Addr) : Prop := ∃ cs p s i, BagIs H b c cs p s i
theorem BagAt.bag {H : Hp} {b c : Addr} (h : BagAt H b c) : Bag H b := ⟨c, h⟩
theorem BagIs.same {H : Hp} {b c d : Addr} {cs : List Int} {p s : Int} {i : Nat} (B : BagIs H b c cs p s i) (h : BagAt H b d) : d = c := by
  obtain ⟨cs', p', s', i', B'⟩ := h
  have e := B'.at_.symm.trans B.at_
  unfold bagV at e
  simp only [Option.some.injEq, HO.lst.injEq, List.cons.injEq, V.ref.injEq, and_true] at e
  exact e.2.2.2
theorem BagAt.put {H : Hp} {b c D : Addr} {o : HO} (h : BagAt H b c) (nb : D ≠ b) (nc : D ≠ c) : BagAt (upd H D o) b c := by
  obtain ⟨cs, p, s, i, B⟩ := h
  exact ⟨cs, p, s, i, by rw [upd_ne nb.symm]; exact B.at_, by rw [upd_ne nc.symm]; exact B.cells, B.ne, B.p0, B.s0, B.cs0⟩
theorem BagAt.new {H : Hp} {b c D : Addr} {o : HO} (h : BagAt H b c) (n : H D = none) : BagAt (upd H D o) b c ∧ D ≠ b ∧ D ≠ c := by
  obtain ⟨cs, p, s, i, B⟩ := id h
  have n1 := (ne_of_none B.at_ n).symm
  have n2 := (ne_of_none B.cells n).symm
  exact ⟨h.put n1 n2, n1, n2⟩
def Keep (b : Addr) (H H' : Hp) : Prop := ∀ a o, a ≠ b → H a = some o → H' a = some o
theorem Keep.refl {b : Addr} {H : Hp} : Keep b H H := fun _ _ _ e => e
theorem Keep.trans {b : Addr} {H H1 H2 : Hp} (h : Keep b H H1) (k : Keep b H1 H2) : Keep b H H2 := fun a o n e => k a o n (h a o n e)
theorem Keep.upd {b : Addr} {H : Hp} {o : HO} : Keep b H (upd H b o) := fun a u n e => by rw [upd_ne n]; exact e
theorem Keep.new {b p : Addr} {H : Hp} {o : HO} (n : H p = none) : Keep b H (L2.upd H p o) := fun a u _ e => by rw [upd_ne (ne_of_none e n)]; exact e
theorem Bag.new {b p : Addr} {H : Hp} {o : HO} (B : Bag H b) (n : H p = none) : Bag (upd H p o) b := by
  obtain ⟨c, cs, q, s, i, B⟩ := B
  exact ⟨c, cs, q, s, i, by rw [upd_ne (ne_of_none B.at_ n)]; exact B.at_, by rw [upd_ne (ne_of_none B.cells n)]; exact B.cells, B.ne, B.p0, B.s0, B.cs0⟩
theorem BagIs.set {H : Hp} {b c : Addr} {cs : List Int} {p s p' s' : Int} {i i' : Nat} (B : BagIs H b c cs p s i) (hp : 0 ≤ p') (hs : 0 ≤ s') : BagIs (upd H b (bagV p' s' i' c)) b c cs p' s' i' :=
  ⟨upd_same, by rw [upd_ne B.ne]; exact B.cells, B.ne, hp, hs, B.cs0⟩
theorem cutK {t u : TS} {D : Ends} {σ : L2.St} {H : Hp} (P : L2.St → Hp → Prop) (k : ∀ σ' H', P σ' H' → u D σ' H') (h : (∀ σ' H', P σ' H' → u D σ' H') → tSeq t u D σ H) : tSeq t u D σ H := h k
theorem asgC {v : V} {i : Nat} {u : TS} {D : Ends} {σ : L2.St} {H : Hp} (h : u D (σ.set i (some v)) H) : tSeq (tAsg (tC v) (gName i)) u D σ H := h
theorem nz1 : (1000000007 : Int) ≠ 0 := by decide
theorem nz2 : (998244353 : Int) ≠ 0 := by decide
theorem nz3 : (2147483647 : Int) ≠ 0 := by decide
theorem modN {a m : Int} (ha : 0 ≤ a) (hm : 0 < m) : ∃ r : Nat, a.fmod m = (r : Int) ∧ (r : Int) < m := by
  have e : a.fmod m = a % m := Int.fmod_eq_emod_of_nonneg a (by omega)
  have h0 : 0 ≤ a % m := Int.emod_nonneg a (by omega)
  have h1 : a % m < m := Int.emod_lt_of_pos a hm
  exact ⟨(a % m).toNat, by rw [e]; omega, by omega⟩
section
variable {P : Program} {w : World} {K : PySem.W.Frag} {mg : Str → Option Value} {base : Heap}
def spTake : Sp := fun vs H Q _ => ∃ (b : Addr) (m : Int), vs = [.ref b, .int m] ∧ Bag H b ∧ 0 < m ∧ m ≤ 1000000 ∧ ∀ (r : Nat) (H' : Hp), (r : Int) < m → Bag H' b → Keep b H H' → (∀ c, BagAt H b c → BagAt H' b c) → Q (.int r) H'
theorem scT : FnScope ["_law_bag_here", "_law_many", "_law_cell", "_law_mixed", "_law_value", "_law_begin", "_law_second"] ["_law_bag_here", "_law_many"] (defScope sTake) := ⟨rfl, rfl, rfl, by decide +kernel, rfl, by decide +kernel, by decide +kernel⟩
theorem ok_take {f : Addr} {fd : FuncData} (F : Fun K "_law_take" "_law_take" sTake f fd) (mi : mg "int" = none) (ml : mg "len" = none) : FnOk P w K mg base CX0 1 f fd ["_law_bag_here", "_law_many"] spTake := by
  refine F.ok scT (fun vs H Q E h => ?_) (fun cdv A outer s H vs Q E hr h => ?_)
  · obtain ⟨b, m, rfl, _⟩ := h
    rfl
  · obtain ⟨b, m, rfl, B, m0, m1, q⟩ := h
    refine ⟨_, pss_cons (ps_if (pt_cmpR op_eq (pe_ix ix_list (pv 0) pe_int (fun _ _ => rfl)) pe_int (nomark _))
        (pss_cons (ps_set (i := 2) scT.nd rfl (.inl rfl) pe_int)
        (pss_cons (ps_if (pt_cmpR op_lt (pe_ix ix_list (pv 0) pe_int (fun _ _ => rfl)) (pe_callB call_len_seq (by rfl) ml PySem.boot_len (pa_cons (pe_ix ix_list (pv 0) pe_int (fun _ _ => rfl)) pa_nil)) (nomark _))
          (pss_one (ps_set (i := 2) scT.nd rfl (.inl rfl) (pe_ix ix_list (pe_ix ix_list (pv 0) pe_int (fun _ _ => rfl)) (pe_ix ix_list (pv 0) pe_int (fun _ _ => rfl)) (fun _ _ => rfl)))) pss_nil)
        (pss_cons (ps_augS (pv 0) pe_int pget_list pe_int ip_add set_list)
        (pss_cons (ps_if (pt_cmpR op_ge (pv 2) pe_int (nomark _)) (pss_one (ps_asg (pv 2) (pg_sub (pv 0) pe_int set_list))) pss_nil)
        (pss_cons (ps_set (i := 3) scT.nd rfl (.inl rfl) (pe_op op_add (pe_op op_add (pe_op op_mul (pe_ix ix_list (pv 0) pe_int (fun _ _ => rfl)) pe_int) (pe_op op_modN (pe_callTy call_int1 (by rfl) mi (by decide +kernel) (pa_cons (pv 2) pa_nil)) pe_int))
          (pe_op op_mul pe_int (pe_ix ix_list (pv 0) pe_int (fun _ _ => rfl)))))
        (pss_one (ps_asg (pe_op op_modN (pe_callTy call_int1 (by rfl) mi (by decide +kernel) (pa_cons (pv 3) pa_nil)) pe_int) (pg_sub (pv 0) pe_int set_list)))))))) pss_nil)
      (pss_cons (ps_if (pt_cmpR op_gt (pe_ix ix_list (pv 0) pe_int (fun _ _ => rfl)) pe_int (nomark _))
        (pss_cons (ps_set (i := 4) scT.nd rfl (.inl rfl) (pe_op op_modN (pe_callTy call_int1 (by rfl) mi (by decide +kernel) (pa_cons (pe_ix ix_list (pv 0) pe_int (fun _ _ => rfl)) pa_nil)) (pv 1)))
        (pss_cons (ps_asg (pe_op op_fdivN (pe_ix ix_list (pv 0) pe_int (fun _ _ => rfl)) (pv 1)) (pg_sub (pv 0) pe_int set_list))
        (pss_one (ps_ret (pv 4))))) pss_nil)
      (pss_cons (ps_set (i := 5) scT.nd rfl (.inl rfl) (pe_op op_modN (pe_callTy call_int1 (by rfl) mi (by decide +kernel) (pa_cons (pe_op op_mul (pe_op op_add (pe_ix ix_list (pv 0) pe_int (fun _ _ => rfl)) pe_int) pe_int) pa_nil)) pe_int))
      (pss_cons (ps_set (i := 6) scT.nd rfl (.inl rfl) (pe_op op_modN (pe_callTy call_int1 (by rfl) mi (by decide +kernel) (pa_cons (pe_op op_mul (pe_op op_modN (pe_callTy call_int1 (by rfl) mi (by decide +kernel) (pa_cons (pe_op op_mul (pv 5) (pv 5)) pa_nil)) pe_int) pe_int) pa_nil)) pe_int))
      (pss_cons (ps_if (pt_cmpR op_gt (pv 1) pe_int (nomark _)) (pss_one ps_never) pss_nil)
      (pss_one (ps_ret (pe_op op_modN (pe_callTy call_int1 (by rfl) mi (by decide +kernel) (pa_cons (pe_op op_fdivN (pv 6) pe_int) pa_nil)) (pv 1)))))))), ?_⟩
    refine cutK (fun σ' H' => ∃ c x : Option V, σ' = [some (.ref b), some (.int m), c, x, none, none, none] ∧ Bag H' b ∧ Keep b H H' ∧ ∀ c, BagAt H b c → BagAt H' b c) ?_ (fun k => ?_)
    · rintro σ' H' ⟨c, x, rfl, B', kp, st⟩
      obtain ⟨cc, cs, p, s, i, B'⟩ := B'
      have hb : SqL K H' b [.int p, .int s, .int i, .ref cc] := SqL.of B'.at_
      have mne : m ≠ 0 := by omega
      refine ⟨_, rfl, b, _, _, _, rfl, rfl, hb, atI_nat (j := 0) rfl, _, _, rfl, rfl, _, rfl, ite2 (fun e => ?_) (fun e => ?_)⟩
      · obtain ⟨r, er, r1⟩ := modN B'.p0 m0
        refine ⟨_, rfl, b, _, _, _, rfl, rfl, hb, atI_nat (j := 0) rfl, .inl ⟨_, rfl, _, rfl, _, _, rfl, rfl, mne, ?_⟩⟩
        refine ⟨_, rfl, b, _, _, _, rfl, rfl, hb, atI_nat (j := 0) rfl, _, rfl, _, _, rfl, rfl, ⟨mne, by omega⟩, _, rfl, b, _, _, _, rfl, rfl, B'.at_, rfl, ?_⟩
        refine ⟨_, rfl, ?_⟩
        show Q (V.int (p.fmod m)) _
        rw [er]
        have Bd : BagIs (upd H' b (bagV (p.fdiv m) s i cc)) b cc cs (p.fdiv m) s i := B'.set (Int.fdiv_nonneg B'.p0 (by omega)) B'.s0
        refine q r _ r1 ⟨cc, cs, _, _, _, Bd⟩ (kp.trans Keep.upd) fun c hc => ?_
        rw [B'.same (st c hc)]
        exact ⟨cs, _, _, _, Bd⟩
      · obtain ⟨g, eg, g1⟩ := modN (a := (s + 1) * 39373) (m := 1000000007) (by have := B'.s0; omega) (by decide)
        refine ⟨_, rfl, b, _, _, _, rfl, rfl, hb, atI_nat (j := 1) rfl, _, _, rfl, rfl, _, _, rfl, rfl, .inr ⟨by decide, by decide⟩, .inl ⟨_, rfl, _, _, rfl, rfl, nz1, ?_⟩⟩
        dsimp only
        rw [eg]
        obtain ⟨g2, eg2, g3⟩ := modN (a := (g : Int) * g) (m := 998244353) (Int.mul_nonneg (by omega) (by omega)) (by decide)
        refine ⟨_, rfl, _, rfl, _, _, rfl, rfl, .inl ⟨by omega, by omega⟩, .inl ⟨_, rfl, _, _, rfl, rfl, nz2, ?_⟩⟩
        dsimp only
        rw [eg2]
        obtain ⟨g4, eg4, g5⟩ := modN (a := (g2 : Int) * 30011) (m := 998244353) (by omega) (by decide)
        refine ⟨_, _, rfl, rfl, .inr ⟨by decide, by decide⟩, .inl ⟨_, rfl, _, _, rfl, rfl, nz2, ?_⟩⟩
        dsimp only
        rw [eg4]
        refine ⟨_, rfl, _, _, rfl, rfl, _, rfl, ite2 (fun e => ?_) (fun e => ?_)⟩
        · exact absurd (of_decide_eq_true e) (by omega)
        · obtain ⟨r, er, r1⟩ := modN (a := (g4 : Int).fdiv 7) (m := m) (Int.fdiv_nonneg (by omega) (by decide)) m0
          refine ⟨_, rfl, _, _, rfl, rfl, ⟨by decide, by decide⟩, .inl ⟨_, rfl, _, rfl, _, _, rfl, rfl, mne, ?_⟩⟩
          show Q (V.int (((g4 : Int).fdiv 7).fmod m)) _
          rw [er]
          exact q r _ r1 ⟨cc, cs, p, s, i, B'⟩ kp st
    · obtain ⟨cc, cs, p, s, i, B⟩ := B
      have hb : SqL K H b [.int p, .int s, .int i, .ref cc] := SqL.of B.at_
      refine ⟨_, rfl, b, _, _, _, rfl, rfl, hb, atI_nat (j := 0) rfl, rfl, _, rfl, ite2 (fun e => ?_) (fun e => ?_)⟩
      · -- what follows the reading of the cell
        refine asgC ?_
        refine cutK (fun σ' H' => ∃ z : Int, 0 ≤ z ∧ σ' = [some (.ref b), some (.int m), some (.int z), none, none, none, none] ∧ H' = H) ?_ (fun k2 => ?_)
        · rintro σ' H' ⟨z, z0, rfl, rfl⟩
          refine ⟨_, rfl, b, _, 2, _, rfl, rfl, hb, rfl, _, _, rfl, rfl, b, _, _, _, rfl, rfl, B.at_, rfl, ?_⟩
          have B1 : BagIs (upd H' b (bagV p s (i + 1) cc)) b cc cs p s (i + 1) := B.set B.p0 B.s0
          dsimp only
          refine cutK (fun σ1 H1 => σ1 = [some (.ref b), some (.int m), some (.int z), none, none, none, none] ∧ Keep b H' H1 ∧ ∃ p', BagIs H1 b cc cs p' s (i + 1)) ?_ (fun k3 => ?_)
          · rintro σ1 H1 ⟨rfl, kp, p', B2⟩
            have hb2 : SqL K H1 b [.int p', .int s, .int ((i + 1 : Nat) : Int), .ref cc] := SqL.of B2.at_
            refine ⟨_, rfl, b, _, _, _, rfl, rfl, hb2, atI_nat (j := 1) rfl, _, _, rfl, rfl, .inr ⟨by decide, by decide⟩, _, rfl, .inl ⟨_, rfl, _, _, rfl, rfl, nz3, ?_⟩⟩
            obtain ⟨g, eg, g1⟩ := modN (a := z) (m := 2147483647) z0 (by decide)
            dsimp only
            rw [eg]
            refine ⟨_, _, rfl, rfl, _, rfl, b, _, _, _, rfl, rfl, hb2, atI_nat (j := 2) rfl, _, _, rfl, rfl, .inl ⟨by decide, by decide⟩, _, _, rfl, rfl, ?_⟩
            obtain ⟨g2, eg2, g3⟩ := modN (a := s * 48271 + (g : Int) + 7919 * ((i + 1 : Nat) : Int)) (m := 2147483647) (by have := B.s0; omega) (by decide)
            refine ⟨_, rfl, .inl ⟨_, rfl, _, _, rfl, rfl, nz3, ?_⟩⟩
            dsimp only
            rw [eg2]
            refine ⟨_, rfl, b, _, _, _, rfl, rfl, B2.at_, rfl, ?_⟩
            exact k _ _ ⟨_, _, rfl, ⟨cc, cs, p', _, i + 1, B2.set (i' := i + 1) B2.p0 (Int.natCast_nonneg g2)⟩, kp.trans Keep.upd, fun c hc => by
              rw [B.same hc]
              exact ⟨cs, p', _, i + 1, B2.set (i' := i + 1) B2.p0 (Int.natCast_nonneg g2)⟩⟩
          · refine ⟨_, rfl, _, _, rfl, rfl, _, rfl, ite2 (fun e => ?_) (fun e => ?_)⟩
            · exact ⟨_, rfl, _, rfl, b, _, _, _, rfl, rfl, B1.at_, rfl, k3 _ _ ⟨rfl, Keep.upd.trans Keep.upd, z, B1.set (i' := i + 1) z0 B1.s0⟩⟩
            · exact k3 _ _ ⟨rfl, Keep.upd, p, B1⟩
        · refine ⟨_, rfl, b, _, _, _, rfl, rfl, hb, atI_nat (j := 2) rfl, _, rfl, b, _, _, _, rfl, rfl, hb, atI_nat (j := 3) rfl, cc, cs.map V.int, rfl, .inl (SqL.of B.cells), _, _, rfl, rfl, _, rfl, ite2 (fun e => ?_) (fun e => ?_)⟩
          · have hi : i < cs.length := by
              have := of_decide_eq_true e
              rw [List.length_map] at this
              omega
            have gi : (cs.map V.int)[i]? = some (.int cs[i]) := by
              rw [List.getElem?_map, List.getElem?_eq_getElem hi]
              rfl
            refine ⟨_, rfl, b, _, _, _, rfl, rfl, hb, atI_nat (j := 3) rfl, _, rfl, b, _, _, _, rfl, rfl, hb, atI_nat (j := 2) rfl, cc, _, _, _, rfl, rfl, SqL.of B.cells, atI_nat gi, ?_⟩
            exact k2 _ _ ⟨cs[i], B.cs0 _ (List.getElem_mem hi), rfl, rfl⟩
          · exact k2 _ _ ⟨0, by decide, rfl, rfl⟩
      · exact k _ _ ⟨none, none, rfl, ⟨cc, cs, p, s, i, B⟩, Keep.refl, fun _ h => h⟩
end
end Fv


set_option Elab.async false
set_option linter.all false
set_option maxRecDepth 100000
set_option maxHeartbeats 1000000
namespace Fv
open PySem PySem.Spec PyProof.Rows L2
section
variable {P : Program} {w : World} {K : PySem.W.Frag} {mg : Str → Option Value} {base : Heap}
def spBag (K : PySem.W.Frag) : Sp := fun vs H Q _ => ∃ (a : Addr) (ns : List Int), vs = [.ref a] ∧ SqL K H a (ns.map V.int) ∧ ns.length ≤ 63 ∧ ∀ (b : Addr) (H' : Hp), Bag H' b → Same H H' → Q (.ref b) H'
theorem scB : FnScope ["_law_script", "_law_cell"] ["_law_script"] (defScope sBag) := ⟨rfl, rfl, rfl, by decide +kernel, rfl, by decide +kernel, by decide +kernel⟩
theorem ok_bag {f : Addr} {fd : FuncData} (F : Fun K "_law_bag" "_law_bag" sBag f fd) (ma : mg "abs" = none) : FnOk P w K mg base CX0 1 f fd ["_law_script"] (spBag K) := by
  refine F.ok scB (fun vs H Q E h => ?_) (fun cdv A outer s H vs Q E hr h => ?_)
  · obtain ⟨b, m, rfl, _⟩ := h
    rfl
  · obtain ⟨a, ns, rfl, hS, hlen, q⟩ := h
    refine ⟨_, pss_one (ps_ret (pe_lst (pa_cons pe_int (pa_cons pe_int (pa_cons pe_int (pa_cons
      (pe_lc (own := [("_law_cell", 1)]) (g := gName 1) (tt := tYes) rfl scB.nd (pi_list (pe_slice sl_list (pv 0) po_none (po_some pe_int))) (blkOk_by (N := ["_law_script", "_law_cell"]) (sc := defScope sBag) (by decide +kernel))
        (fun _ _ _ _ _ => pg_name (i := 1) scB.nd rfl (Or.inl rfl)) (fun _ _ _ _ _ => pts_nil) (fun _ _ _ _ _ => pe_callB call_abs (by rfl) ma (by decide +kernel) (pa_cons (pv 1) pa_nil))) pa_nil)))))), ?_⟩
    refine ⟨_, rfl, _, rfl, a, ns.map V.int, rfl, hS, fun p np => ?_⟩
    have cut : cutV (ns.map V.int) none (some 63) = ns.map V.int := by
      unfold cutV
      rw [HT.sIx_none, show HT.sIx (ns.map V.int).length (ns.map V.int).length (some 63) = min 63 (ns.map V.int).length from HT.sIx_nat _ _ 63, List.drop_zero, List.length_map, List.take_of_length_le (by rw [List.length_map]; omega)]
    rw [cut]
    refine ⟨p, rfl, ⟨_, SqL.of upd_same⟩, fun D hD => ?_⟩
    have pD : p ≠ D := fun e => by rw [← e, upd_same] at hD; cases hD
    refine lc_list (K := K) (a := p) (xs := ns.map V.int) (fun i H1 => (∀ b o, H b = some o → H1 b = some o) ∧ H1 p = some (.lst (ns.map V.int)) ∧ H1 D = some (.lst ((ns.take i).map fun z => V.int (if z < 0 then -z else z)))) ?_ (fun i H1 _ h => SqL.of h.2.1) ?_ ?_
    · exact ⟨fun b o e => by rw [upd_ne (ne_of_none (by rw [upd_ne (ne_of_none e np)]; exact e) hD), upd_ne (ne_of_none e np)]; exact e, by rw [upd_ne pD]; exact upd_same, upd_same⟩
    · rintro i y H1 hi ⟨s1, e1, e2⟩
      obtain ⟨z, hz, rfl⟩ : ∃ z, ns[i]? = some z ∧ y = V.int z := by
        rw [List.getElem?_map] at hi
        cases e : ns[i]? with
        | none => rw [e] at hi; cases hi
        | some z => rw [e] at hi; exact ⟨z, rfl, (Option.some.inj hi).symm⟩
      have hn : i < ns.length := (List.getElem?_eq_some_iff.mp hz).1
      refine ⟨rfl, _, rfl, z, rfl, _, e2, ?_, ?_⟩
      · rw [List.length_map, List.length_take]
        exact small1000 (by omega)
      · refine ⟨fun b o e => ?_, by rw [upd_ne pD]; exact e1, ?_⟩
        · have : b ≠ D := ne_of_none (H := upd H p (.lst (ns.map V.int))) (by rw [upd_ne (ne_of_none e np)]; exact e) hD
          rw [upd_ne this]
          exact s1 b o e
        · rw [upd_same, List.take_add_one, hz, List.map_append]
          rfl
    · rintro H1 ⟨s1, e1, e2⟩
      refine ⟨by show 4 ≤ sizeLine; decide, fun b nb => ?_⟩
      rw [List.length_map, List.take_length] at e2
      refine q b _ ⟨D, ns.map fun z => if z < 0 then -z else z, 0, 1234567891, 0, ?_⟩ fun c o e => by rw [upd_ne (ne_of_none (s1 c o e) nb)]; exact s1 c o e
      refine ⟨upd_same, ?_, ne_of_none e2 nb, by decide, by decide, fun z hz => ?_⟩
      · rw [upd_ne (ne_of_none e2 nb), e2, List.map_map]
        rfl
      · obtain ⟨x, _, rfl⟩ := List.mem_map.mp hz
        split <;> omega
end
end Fv


set_option Elab.async false
set_option linter.all false
set_option maxRecDepth 100000
set_option maxHeartbeats 1000000
namespace Fv
open PySem PySem.Spec PyProof.Rows L2
abbrev sIsInt : Stmt := top 4
abbrev sIsName : Stmt := top 5
abbrev sIsSource : Stmt := top 6
abbrev sIsKind : Stmt := top 7
abbrev sFits : Stmt := top 8
abbrev sLawName : Stmt := top 15
def abc : Str := "abcdefghijklmnopqrstuvwxyz"
def nameS (z : Str) : Bool := decide (1 ≤ z.length) && decide (z.length ≤ 8) && z.cps.toList.all fun c => decide (c ∈ abc.cps.toList)
def nameD : PyData → Bool
  | .str z => nameS z
  | _ => false
def kinds : List V := [.str "plain", .str "high", .str "low"]
def kindD : PyData → Bool
  | .str z => inV (.str z) kinds
  | _ => false
def emptyD : PyData → Bool
  | .str z => decide (z.length = 0)
  | _ => false
def sourceD (d : PyData) : Bool := nameD d || emptyD d
def intD (d : PyData) : Bool := isIntD d && !isBoolD d
def shortD : PyData → Prop
  | .str z => z.length ≤ 1000 ∧ ∀ c ∈ z.cps.toList, c < 128
  | _ => True
theorem name_not {d : PyData} (h : isStrD d = false) : nameD d = false := by cases d <;> first | rfl | cases h
theorem kind_not {d : PyData} (h : isStrD d = false) : kindD d = false := by cases d <;> first | rfl | cases h
theorem str_of {H : Hp} {b : Addr} {v : V} {d : PyData} (h : Dq H b v d) (e : isStrD d = true) : ∃ z, v = .str z ∧ d = .str z := by
  cases h <;> first | exact ⟨_, rfl, rfl⟩ | cases e
theorem small_line {n : Nat} (h : n ≤ 1000) : n ≤ sizeLine := Nat.le_of_lt (small1000 h)
theorem same_upd {H : Hp} {p : Addr} {o : HO} (h : H p = none) : Same H (upd H p o) := fun b x e => by
  rw [upd_ne (ne_of_none e h)]
  exact e
def spIs (g : PyData → Bool) : Sp := fun vs H Q _ => ∃ (b : Addr) (v : V) (d : PyData), vs = [v] ∧ Dq H b v d ∧ shortD d ∧ ∀ H', Same H H' → Q (.bl (g d)) H'
section
variable {P : Program} {w : World} {K : PySem.W.Frag} {mg : Str → Option Value} {base : Heap}
theorem sc1 : FnScope ["thing"] ["thing"] (defScope sIsInt) := ⟨rfl, rfl, rfl, by decide +kernel, rfl, by decide +kernel, by decide +kernel⟩
theorem ok_isint {f : Addr} {fd : FuncData} (F : Fun K "is_integer" "is_integer" sIsInt f fd) (mq : mg "isinstance" = none) (mi : mg "int" = none) (mb : mg "bool" = none) : FnOk P w K mg base CX0 1 f fd ["thing"] (spIs intD) := by
  refine F.ok sc1 (fun vs H Q E h => ?_) (fun cdv A outer s H vs Q E hr h => ?_)
  · obtain ⟨b, v, d, rfl, _⟩ := h
    rfl
  · obtain ⟨b, v, d, rfl, hd, _, q⟩ := h
    refine ⟨_, pss_one (ps_ret (pe_and (pe_callB call_isi (by rfl) mq (by decide +kernel) (pa_cons (pv 0) (pa_cons (pe_bltn (v := .ty "int") (by rfl) mi boot_int rfl) pa_nil)))
      (pe_one (pe_not (pe_callB call_isi (by rfl) mq (by decide +kernel) (pa_cons (pv 0) (pa_cons (pe_bltn (v := .ty "bool") (by rfl) mb boot_bool rfl) pa_nil))))))), ?_⟩
    refine ⟨_, rfl, _, _, _, _, _, rfl, .ty "int", hd.ty, kit_int d, _, rfl, ?_⟩
    have e : intD d = (isIntD d && !isBoolD d) := rfl
    rw [e] at q
    cases h1 : isIntD d with
    | false =>
      rw [h1] at q
      exact q H fun _ _ e => e
    | true =>
      rw [h1] at q
      exact ⟨_, rfl, _, _, _, _, _, rfl, .ty "bool", hd.ty, kit_bool d, _, rfl, q H fun _ _ e => e⟩
theorem sc2 : FnScope ["thing", "letter"] ["thing"] (defScope sIsName) := ⟨rfl, rfl, rfl, by decide +kernel, rfl, by decide +kernel, by decide +kernel⟩
theorem ok_isname {f : Addr} {fd : FuncData} {t u : Tok} (F : Fun K "is_name" "is_name" sIsName f fd) (mq : mg "isinstance" = none) (ms : mg "str" = none) (ml : mg "len" = none) (ma : mg "all" = none)
    (mL : mg "LETTERS" = some (.str abc t)) (mN : mg "LONGEST_NAME" = some (.int 8 u)) : FnOk P w K mg base CX0 1 f fd ["thing"] (spIs nameD) := by
  refine F.ok sc2 (fun vs H Q E h => ?_) (fun cdv A outer s H vs Q E hr h => ?_)
  · obtain ⟨b, v, d, rfl, _⟩ := h
    rfl
  · obtain ⟨b, v, d, rfl, hd, hs, q⟩ := h
    refine ⟨_, pss_cons (ps_if (PW.pt (pw_or (pt_not (pt_val (pe_callB call_isi (by rfl) mq (by decide +kernel) (pa_cons (pv 0) (pa_cons (pe_bltn (v := .ty "str") (by rfl) ms boot_str rfl) pa_nil)))))
        (pw_or1 (pt_not (pt_chain op_le op_le pe_int (pe_callB call_len_str (by rfl) ml PySem.boot_len (pa_cons (pv 0) pa_nil)) (pe_glob (v := .int 8) (by rfl) mN ⟨_, rfl⟩))))))
        (pss_one (ps_ret pe_bl)) pss_nil)
      (pss_one (ps_ret (pe_callB (cr_all rfl) (by rfl) ma (by decide +kernel) (pa_cons
        (pe_lc (own := [("letter", 1)]) (g := gName 1) (tt := tYes) rfl sc2.nd (pi_str (pv 0)) (blkOk_by (N := ["thing", "letter"]) (sc := defScope sIsName) (by decide +kernel))
        (fun _ _ _ _ _ => pg_name (i := 1) sc2.nd rfl (Or.inl rfl)) (fun _ _ _ _ _ => pts_nil) (fun _ _ _ _ _ => pe_cmpR op_in_sign (pv 1) (pe_glob (v := .str abc) (by rfl) mL ⟨_, rfl⟩) (by rfl))) pa_nil)))), ?_⟩
    refine ⟨_, rfl, _, _, _, _, _, rfl, .ty "str", hd.ty, kit_str d, _, rfl, ?_⟩
    cases h1 : isStrD d with
    | false =>
      rw [name_not h1] at q
      exact q H fun _ _ e => e
    | true =>
      obtain ⟨z, rfl, rfl⟩ := str_of hd h1
      have hz : z.length ≤ sizeLine := small_line hs.1
      have e : nameD (.str z) = (decide (1 ≤ z.length) && decide (z.length ≤ 8) && z.cps.toList.all fun c => decide (c ∈ abc.cps.toList)) := rfl
      rw [e] at q
      refine ⟨_, rfl, z, rfl, hz, _, _, rfl, rfl, _, rfl, ?_⟩
      by_cases a1 : (1 : Int) ≤ (z.length : Int)
      · have b1 : decide (1 ≤ z.length) = true := decide_eq_true (by omega)
        rw [b1] at q
        rw [decide_eq_true a1]
        refine ⟨_, _, rfl, rfl, _, rfl, ?_⟩
        by_cases a2 : (z.length : Int) ≤ 8
        · have b2 : decide (z.length ≤ 8) = true := decide_eq_true (by omega)
          rw [b2] at q
          rw [decide_eq_true a2]
          refine iteF ?_
          refine ⟨_, rfl, z, rfl, fun D hD => ?_⟩
          refine lc_it walk_str (fun i H1 => Same H H1 ∧ H1 D = some (.lst ((z.cps.toList.take i).map fun c => V.bl (decide (c ∈ abc.cps.toList))))) ⟨same_upd hD, upd_same⟩ (fun _ _ _ _ => True.intro) ?_ ?_
          · rintro i x H1 H2 hi ⟨s1, e1⟩ ⟨rfl, c, hc, rfl⟩
            refine ⟨rfl, _, rfl, c, abc, rfl, rfl, _, e1, ?_, fun a o e => ?_, ?_⟩
            · rw [List.length_map, List.length_take]
              have : z.cps.toList.length = z.length := by simp [Str.length]
              exact small1000 (by have : z.length ≤ 1000 := hs.1; omega)
            · have : a ≠ D := ne_of_none e hD
              rw [upd_ne this]
              exact s1 a o e
            · have hc' : z.cps.toList[i]? = some c := by simpa using hc
              rw [upd_same, List.take_add_one, hc', List.map_append]
              rfl
          · rintro H1 ⟨s1, e1⟩
            have ez : z.cps.size = z.cps.toList.length := by simp
            rw [ez, List.take_length] at e1
            refine ⟨D, z.cps.toList.map fun c => decide (c ∈ abc.cps.toList), rfl, SqL.of (by rw [List.map_map]; exact e1), ?_⟩
            rw [List.all_map]
            exact q H1 s1
        · have b2 : decide (z.length ≤ 8) = false := decide_eq_false (by omega)
          rw [b2] at q
          rw [decide_eq_false a2]
          exact q H fun _ _ e => e
      · have b1 : decide (1 ≤ z.length) = false := decide_eq_false (by omega)
        rw [b1] at q
        rw [decide_eq_false a1]
        exact ⟨_, rfl, q H fun _ _ e => e⟩
end
end Fv


set_option Elab.async false
set_option linter.all false
set_option maxRecDepth 100000
set_option maxHeartbeats 1000000
namespace Fv
open PySem PySem.Spec PyProof.Rows L2
theorem isi_str_false {d : PyData} (h : isStrD d = false) : emptyD d = false := by cases d <;> first | rfl | cases h
theorem dp_signs {K : PySem.W.Frag} {H : Hp} : ∀ l : List Nat, DpAll K H (l.map fun c => V.str ⟨#[c]⟩) (l.map fun c => PyData.str ⟨#[c]⟩)
  | [] => .nil
  | c :: l => .cons (.str _) (dp_signs l)
theorem canLay_signs : ∀ l : List Nat, (∀ c ∈ l, c < 128) → PyData.canLayAll0 (l.map fun c => PyData.str ⟨#[c]⟩) = true
  | [], _ => rfl
  | c :: l, h => by
    have h1 : PyData.strOk ⟨#[c]⟩ = true := by
      have := h c List.mem_cons_self
      unfold PyData.strOk
      simp
      omega
    simp only [List.map_cons, PyData.canLayAll0, PyData.canLay0, h1, canLay_signs l fun x hx => h x (List.mem_cons_of_mem _ hx)]
    rfl
theorem depth_signs : ∀ l : List Nat, PyData.depthAll (l.map fun c => PyData.str ⟨#[c]⟩) = 0
  | [] => rfl
  | c :: l => by
    simp only [List.map_cons, PyData.depthAll, depth_signs l]
    rfl
theorem shaped_signs (l : List Nat) (h : ∀ c ∈ l, c < 128) : SeqAt.shaped (.list (l.map fun c => PyData.str ⟨#[c]⟩)) = true := by
  unfold SeqAt.shaped
  simp only [PyData.canLay0, canLay_signs l h, PyData.depth, depth_signs]
  rfl
theorem eqv_signs (l : List Nat) : PyData.eqv (.list ((l.filter fun c => !decide (c ∈ abc.cps.toList)).map fun c => .str ⟨#[c]⟩)) (.list []) = (true && true && l.all fun c => decide (c ∈ abc.cps.toList)) := by
  rw [Bool.true_and, Bool.true_and]
  induction l with
  | nil => rfl
  | cons c l ih =>
    cases hm : decide (c ∈ abc.cps.toList) with
    | true =>
      rw [List.filter_cons]
      simp only [hm, Bool.not_true, Bool.false_eq_true, if_false, List.all_cons, Bool.true_and]
      exact ih
    | false =>
      rw [List.filter_cons]
      simp only [hm, Bool.not_false, if_true, List.all_cons, Bool.false_and, List.map_cons]
      rfl
section
variable {P : Program} {w : World} {K : PySem.W.Frag} {mg : Str → Option Value} {base : Heap}
theorem sc3 : FnScope ["thing"] ["thing"] (defScope sIsSource) := ⟨rfl, rfl, rfl, by decide +kernel, rfl, by decide +kernel, by decide +kernel⟩
theorem ok_issource {f f1 : Addr} {fd fd1 : FuncData} (F : Fun K "is_source" "is_source" sIsSource f fd) (G : FnOk P w K mg base CX0 1 f1 fd1 ["thing"] (spIs nameD)) (b1 : Binds K fd1 ["thing"] []) (m1 : mg "is_name" = some (.ref f1)) (k1 : PySem.W.keepIn K (.ref f1) = true)
    (mq : mg "isinstance" = none) (ms : mg "str" = none) (ml : mg "len" = none) : FnOk P w K mg base CX0 2 f fd ["thing"] (spIs sourceD) := by
  refine F.ok sc3 (fun vs H Q E h => ?_) (fun cdv A outer s H vs Q E hr h => ?_)
  · obtain ⟨b, v, d, rfl, _⟩ := h
    rfl
  · obtain ⟨b, v, d, rfl, hd, hs, q⟩ := h
    refine ⟨_, pss_one (ps_ret (pe_or (pe_call G hr (by rfl) m1 k1 b1 .nil pass0 (pa_cons (pv 0) pa_nil))
      (pe_one (pe_and (pe_callB call_isi (by rfl) mq (by decide +kernel) (pa_cons (pv 0) (pa_cons (pe_bltn (v := .ty "str") (by rfl) ms boot_str rfl) pa_nil)))
        (pe_one (pe_cmpR op_eq (pe_callB call_len_str (by rfl) ml PySem.boot_len (pa_cons (pv 0) pa_nil)) pe_int (nomark _))))))), ?_⟩
    refine ⟨_, rfl, b, v, d, rfl, hd, hs, fun H1 s1 => ⟨_, rfl, ?_⟩⟩
    have e : sourceD d = (nameD d || emptyD d) := rfl
    rw [e] at q
    cases h0 : nameD d with
    | true =>
      rw [h0] at q
      exact q H1 s1
    | false =>
      rw [h0, Bool.false_or] at q
      have hd1 : Dq H1 b v d := hd.mono fun a o _ e => s1 a o e
      refine iteF ⟨_, rfl, _, _, _, _, _, rfl, .ty "str", hd1.ty, kit_str d, _, rfl, ?_⟩
      cases h1 : isStrD d with
      | false =>
        rw [isi_str_false h1] at q
        exact q H1 s1
      | true =>
        obtain ⟨z, rfl, rfl⟩ := str_of hd h1
        refine iteT ⟨_, rfl, z, rfl, small_line hs.1, rfl, ?_⟩
        have e2 : decide (V.int (z.length : Int) = V.int 0) = decide (z.length = 0) := by
          rw [Bool.eq_iff_iff]
          simp
        show Q (V.bl (decide (V.int (z.length : Int) = V.int 0))) H1
        rw [e2]
        exact q H1 s1
theorem sc4 : FnScope ["thing"] ["thing"] (defScope sIsKind) := ⟨rfl, rfl, rfl, by decide +kernel, rfl, by decide +kernel, by decide +kernel⟩
theorem ok_iskind {f aK : Addr} {fd : FuncData} (F : Fun K "is_kind" "is_kind" sIsKind f fd) (mK : mg "KINDS" = some (.ref aK)) (hK : ∀ H, SqT K H aK kinds)
    (mq : mg "isinstance" = none) (ms : mg "str" = none) : FnOk P w K mg base CX0 1 f fd ["thing"] (spIs kindD) := by
  refine F.ok sc4 (fun vs H Q E h => ?_) (fun cdv A outer s H vs Q E hr h => ?_)
  · obtain ⟨b, v, d, rfl, _⟩ := h
    rfl
  · obtain ⟨b, v, d, rfl, hd, hs, q⟩ := h
    refine ⟨_, pss_one (ps_ret (pe_and (pe_callB call_isi (by rfl) mq (by decide +kernel) (pa_cons (pv 0) (pa_cons (pe_bltn (v := .ty "str") (by rfl) ms boot_str rfl) pa_nil)))
        (pe_one (pe_cmpR op_in_seq (pv 0) (pe_glob (v := .ref aK) (by rfl) mK rfl) (by rfl))))), ?_⟩
    refine ⟨_, rfl, _, _, _, _, _, rfl, .ty "str", hd.ty, kit_str d, _, rfl, ?_⟩
    cases h1 : isStrD d with
    | false =>
      rw [kind_not h1] at q
      exact q H fun _ _ e => e
    | true =>
      obtain ⟨z, rfl, rfl⟩ := str_of hd h1
      exact iteT ⟨_, rfl, aK, kinds, rfl, .inr (hK H), rfl, by decide +kernel, q H fun _ _ e => e⟩
theorem sc5 : FnScope ["part", "kind"] ["part", "kind"] (defScope sFits) := ⟨rfl, rfl, rfl, by decide +kernel, rfl, by decide +kernel, by decide +kernel⟩
def fitS (x y : Str) : Bool := decide (V.str x = V.str "plain") || decide (V.str x = V.str y)
def spFits : Sp := fun vs H Q _ => ∃ x y : Str, vs = [.str x, .str y] ∧ Q (.bl (fitS x y)) H
theorem ok_fits {f : Addr} {fd : FuncData} (F : Fun K "fits" "fits" sFits f fd) : FnOk P w K mg base CX0 1 f fd ["part", "kind"] spFits := by
  refine F.ok sc5 (fun vs H Q E h => ?_) (fun cdv A outer s H vs Q E hr h => ?_)
  · obtain ⟨x, y, rfl, _⟩ := h
    rfl
  · obtain ⟨x, y, rfl, q⟩ := h
    refine ⟨_, pss_one (ps_ret (pe_or (pe_cmpR op_eq (pv 0) pe_str (nomark _)) (pe_one (pe_cmpR op_eq (pv 0) (pv 1) (nomark _))))), ?_⟩
    refine ⟨_, rfl, rfl, _, rfl, ?_⟩
    unfold fitS at q
    cases h0 : decide (V.str x = V.str "plain") with
    | true =>
      rw [h0] at q
      exact q
    | false =>
      rw [h0, Bool.false_or] at q
      exact iteF ⟨_, rfl, _, rfl, rfl, q⟩
theorem sc6 : FnScope ["_law_thing", "_law_sign"] ["_law_thing"] (defScope sLawName) := ⟨rfl, rfl, rfl, by decide +kernel, rfl, by decide +kernel, by decide +kernel⟩
theorem ok_lawname {f : Addr} {fd : FuncData} (F : Fun K "_law_is_name" "_law_is_name" sLawName f fd) (mq : mg "isinstance" = none) (ms : mg "str" = none) (ml : mg "len" = none) : FnOk P w K mg base CX0 1 f fd ["_law_thing"] (spIs nameD) := by
  refine F.ok sc6 (fun vs H Q E h => ?_) (fun cdv A outer s H vs Q E hr h => ?_)
  · obtain ⟨b, v, d, rfl, _⟩ := h
    rfl
  · obtain ⟨b, v, d, rfl, hd, hs, q⟩ := h
    refine ⟨_, pss_cons (ps_if (PW.pt (pw_or (pt_not (pt_val (pe_callB call_isi (by rfl) mq (by decide +kernel) (pa_cons (pv 0) (pa_cons (pe_bltn (v := .ty "str") (by rfl) ms boot_str rfl) pa_nil)))))
        (pw_or (pt_cmpR op_lt (pe_callB call_len_str (by rfl) ml PySem.boot_len (pa_cons (pv 0) pa_nil)) pe_int (nomark _)) (pw_or1 (pt_cmpR op_gt (pe_callB call_len_str (by rfl) ml PySem.boot_len (pa_cons (pv 0) pa_nil)) pe_int (nomark _))))))
        (pss_one (ps_ret pe_bl)) pss_nil)
      (pss_one (ps_ret (pe_cmpR (op_eqD hr.units) 
        (pe_lc (own := [("_law_sign", 1)]) (g := gName 1) rfl sc6.nd (pi_str (pv 0)) (blkOk_by (N := ["_law_thing", "_law_sign"]) (sc := defScope sLawName) (by decide +kernel))
        (fun _ _ _ _ _ => pg_name (i := 1) sc6.nd rfl (Or.inl rfl)) (fun _ _ _ _ _ => pts_one (pt_cmpR op_notIn_sign (pv 1) pe_str (by rfl))) (fun _ _ _ _ _ => pv 1)) (pe_lst pa_nil) (nomark _)))), ?_⟩
    refine ⟨_, rfl, _, _, _, _, _, rfl, .ty "str", hd.ty, kit_str d, _, rfl, ?_⟩
    cases h1 : isStrD d with
    | false =>
      rw [name_not h1] at q
      exact q H fun _ _ e => e
    | true =>
      obtain ⟨z, rfl, rfl⟩ := str_of hd h1
      have hz : z.length ≤ sizeLine := small_line hs.1
      have e : nameD (.str z) = (decide (1 ≤ z.length) && decide (z.length ≤ 8) && z.cps.toList.all fun c => decide (c ∈ abc.cps.toList)) := rfl
      rw [e] at q
      refine iteF ⟨_, rfl, z, rfl, hz, _, _, rfl, rfl, _, rfl, ?_⟩
      by_cases a1 : (z.length : Int) < 1
      · have b1 : decide (1 ≤ z.length) = false := decide_eq_false (by omega)
        rw [b1] at q
        rw [decide_eq_true a1]
        exact q H fun _ _ e => e
      · have b1 : decide (1 ≤ z.length) = true := decide_eq_true (by omega)
        rw [b1] at q
        rw [decide_eq_false a1]
        refine iteF ⟨_, rfl, z, rfl, hz, _, _, rfl, rfl, _, rfl, ?_⟩
        by_cases a2 : (8 : Int) < (z.length : Int)
        · have b2 : decide (z.length ≤ 8) = false := decide_eq_false (by omega)
          rw [b2] at q
          rw [decide_eq_true a2]
          exact q H fun _ _ e => e
        · have b2 : decide (z.length ≤ 8) = true := decide_eq_true (by omega)
          rw [b2] at q
          rw [decide_eq_false a2]
          refine iteF ⟨_, rfl, z, rfl, fun D hD => ?_⟩
          refine lc_it walk_str (fun i H1 => Same H H1 ∧ H1 D = some (.lst (((z.cps.toList.take i).filter fun c => !decide (c ∈ abc.cps.toList)).map fun c => V.str ⟨#[c]⟩))) ⟨same_upd hD, upd_same⟩ (fun _ _ _ _ => True.intro) ?_ ?_
          · rintro i x H1 H2 hi ⟨s1, e1⟩ ⟨rfl, c, hc, rfl⟩
            have hc' : z.cps.toList[i]? = some c := by simpa using hc
            refine ⟨rfl, _, rfl, c, abc, rfl, rfl, _, rfl, ?_⟩
            cases hm : decide (c ∈ abc.cps.toList) with
            | true =>
              refine iteF ⟨s1, ?_⟩
              rw [e1, List.take_add_one, hc', List.filter_append]
              simp only [Option.toList, List.filter_cons, hm, Bool.not_true, Bool.false_eq_true, if_false, List.filter_nil, List.append_nil]
            | false =>
              refine iteT ⟨_, rfl, _, e1, ?_, fun a o e => ?_, ?_⟩
              · rw [List.length_map]
                have l1 := List.length_filter_le (fun c => !decide (c ∈ abc.cps.toList)) (z.cps.toList.take i)
                have l2 : (z.cps.toList.take i).length ≤ z.cps.toList.length := by rw [List.length_take]; omega
                have l3 : z.cps.toList.length = z.length := by simp [Str.length]
                have l4 : z.length ≤ 1000 := hs.1
                exact small1000 (by omega)
              · have : a ≠ D := ne_of_none e hD
                rw [upd_ne this]
                exact s1 a o e
              · rw [upd_same, List.take_add_one, hc', List.filter_append, List.map_append]
                simp only [Option.toList, List.filter_cons, hm, Bool.not_false, if_true, List.filter_nil]
                rfl
          · rintro H1 ⟨s1, e1⟩
            have ez : z.cps.size = z.cps.toList.length := by simp
            rw [ez, List.take_length] at e1
            refine ⟨Nat.zero_le _, fun p hp => ?_⟩
            have pD : D ≠ p := ne_of_none e1 hp
            refine ⟨.list ((z.cps.toList.filter fun c => !decide (c ∈ abc.cps.toList)).map fun c => .str ⟨#[c]⟩), .list [], .lst (SqL.of (by rw [upd_ne pD]; exact e1)) (dp_signs _), .lst (SqL.of upd_same) .nil, ?_, by decide +kernel, ?_⟩
            · exact shaped_signs _ fun c hc => hs.2 c (List.mem_filter.mp hc).1
            · rw [eqv_signs]
              exact q _ fun a o e => by rw [upd_ne (ne_of_none (s1 a o e) hp)]; exact s1 a o e
end
end Fv


set_option Elab.async false
set_option linter.all false
set_option maxRecDepth 100000
set_option maxHeartbeats 1000000
namespace Fv
open PySem PySem.Spec PyProof.Rows L2
abbrev sAlike : Stmt := top 12
abbrev sRight : Stmt := top 17
mutual
theorem Dq.dp {K : PySem.W.Frag} {H : Hp} {b : Addr} : ∀ {v : V} {d : PyData}, Dq H b v d → d.canLay0 = true → Dp K H v d
  | _, _, .non, _ => .non
  | _, _, .bl x, _ => .bl x
  | _, _, .int i, _ => .int i
  | _, _, .str x, _ => .str x
  | _, _, .lst e _ _ h, c => .lst (SqL.of e) (DqAll.dp h (by simpa only [PyData.canLay0] using c))
  | _, _, .tup e _ h, c => .tup (SqT.of e) (DqAll.dp h (by simpa only [PyData.canLay0] using c))
  | _, _, .dct _ _ _ _, c => by simp [PyData.canLay0] at c
theorem DqAll.dp {K : PySem.W.Frag} {H : Hp} {b : Addr} : ∀ {v : List V} {d : List PyData}, DqAll H b v d → PyData.canLayAll0 d = true → DpAll K H v d
  | _, _, .nil, _ => .nil
  | _, _, .cons h t, c => by
    simp only [PyData.canLayAll0, Bool.and_eq_true] at c
    exact .cons (Dq.dp h c.1) (DqAll.dp t c.2)
end
theorem Fine.line {d : PyData} (h : Fine d) : d.shown.length ≤ sizeLine := Nat.le_trans h.len (by decide)
theorem Fine.low {d : PyData} (h : Fine d) : d.depth ≤ 20 := Nat.le_trans h.deep (by decide)
structure Flat (d : PyData) : Prop extends Fine d where
  shape : SeqAt.shaped d = true
def spAlike : Sp := fun vs H Q _ => ∃ (b : Addr) (x y : V) (d : PyData), vs = [x, y] ∧ Dq H b x d ∧ Dq H b y d ∧ Flat d ∧ Q (.bl true) H
section
variable {P : Program} {w : World} {K : PySem.W.Frag} {mg : Str → Option Value} {base : Heap}
theorem sc7 : FnScope ["_law_found", "_law_due"] ["_law_found", "_law_due"] (defScope sAlike) := ⟨rfl, rfl, rfl, by decide +kernel, rfl, by decide +kernel, by decide +kernel⟩
theorem ok_alike {f : Addr} {fd : FuncData} (F : Fun K "_law_alike" "_law_alike" sAlike f fd) (mr : mg "repr" = none) : FnG P w K mg base 1 f fd ["_law_found", "_law_due"] spAlike := by
  refine okG F sc7 (fun vs H Q E h => ?_) (fun cdv A outer s H vs Q E hg hr h => ?_)
  · obtain ⟨b, x, y, d, rfl, _⟩ := h
    rfl
  · obtain ⟨b, x, y, d, rfl, hx, hy, fl, q⟩ := h
    refine ⟨_, pss_one (ps_ret (pe_and (pe_cmpR (op_eqD hr.units) (pv 0) (pv 1) (nomark _))
      (pe_one (pe_cmpR op_eq (pe_callB (call_reprD hg hr.units) (by rfl) mr (by decide +kernel) (pa_cons (pv 0) pa_nil)) (pe_callB (call_reprD hg hr.units) (by rfl) mr (by decide +kernel) (pa_cons (pv 1) pa_nil)) (nomark _))))), ?_⟩
    have cl := SeqAt.canLay_of_shaped fl.shape
    refine ⟨_, rfl, _, rfl, d, d, hx.dp cl, hy.dp cl, fl.shape, fl.shape, _, rfl, ?_⟩
    rw [SeqAt.eqv_refl d cl]
    refine iteT ⟨_, rfl, b, _, d, rfl, hx, fl.show_, fl.line, fl.low, _, rfl, b, _, d, rfl, hy, fl.show_, fl.line, fl.low, rfl, ?_⟩
    show Q (V.bl (decide (V.str d.shown = V.str d.shown))) H
    rw [decide_eq_true rfl]
    exact q
theorem sc8 : FnScope ["_law_thing", "_law_whole", "_law_name", "_law_kind", "_law_told"] ["_law_thing"] (defScope sRight) := ⟨rfl, rfl, rfl, by decide +kernel, rfl, by decide +kernel, by decide +kernel⟩
theorem empty_dec (z : Str) : decide (V.str z = V.str "") = decide (z.length = 0) := by
  rw [Bool.eq_iff_iff]
  simp only [decide_eq_true_eq, V.str.injEq]
  constructor
  · intro e
    rw [e]
    decide +kernel
  · intro e
    obtain ⟨c⟩ := z
    have h : c.size = 0 := e
    have : c = #[] := Array.eq_empty_of_size_eq_zero h
    rw [this]
    decide +kernel
def four (a b c d : Bool) : PyData := .tuple [.bool a, .bool b, .bool c, .bool d]
theorem four_flat : ∀ a b c d : Bool, SeqAt.shaped (four a b c d) = true ∧ (four a b c d).showable = true ∧ (four a b c d).shown.length ≤ 100000 ∧ (four a b c d).depth ≤ 10 := by
  intro a b c d
  cases a <;> cases b <;> cases c <;> cases d <;> exact ⟨by decide +kernel, by decide +kernel, by decide +kernel, by decide +kernel⟩
def spRight : Sp := fun vs H Q _ => ∃ (b : Addr) (v : V) (d : PyData) (o : HO), vs = [v] ∧ H b = some o ∧ Dq H b v d ∧ shortD d ∧ ∀ H', Same H H' → Q (.bl true) H'
theorem ok_right {f fA f1 f2 f3 f4 f5 : Addr} {fd fdA fd1 fd2 fd3 fd4 fd5 : FuncData} (F : Fun K "_law_right" "_law_right" sRight f fd)
    (GA : FnG P w K mg base 1 fA fdA ["_law_found", "_law_due"] spAlike) (bA : BindG fdA ["_law_found", "_law_due"]) (mA : mg "_law_alike" = some (.ref fA)) (kA : PySem.W.keepIn K (.ref fA) = true)
    (G1 : FnOk P w K mg base CX0 1 f1 fd1 ["thing"] (spIs intD)) (b1 : Binds K fd1 ["thing"] []) (m1 : mg "is_integer" = some (.ref f1)) (k1 : PySem.W.keepIn K (.ref f1) = true)
    (G2 : FnOk P w K mg base CX0 1 f2 fd2 ["thing"] (spIs nameD)) (b2 : Binds K fd2 ["thing"] []) (m2 : mg "is_name" = some (.ref f2)) (k2 : PySem.W.keepIn K (.ref f2) = true)
    (G3 : FnOk P w K mg base CX0 2 f3 fd3 ["thing"] (spIs sourceD)) (b3 : Binds K fd3 ["thing"] []) (m3 : mg "is_source" = some (.ref f3)) (k3 : PySem.W.keepIn K (.ref f3) = true)
    (G4 : FnOk P w K mg base CX0 1 f4 fd4 ["thing"] (spIs kindD)) (b4 : Binds K fd4 ["thing"] []) (m4 : mg "is_kind" = some (.ref f4)) (k4 : PySem.W.keepIn K (.ref f4) = true)
    (G5 : FnOk P w K mg base CX0 1 f5 fd5 ["_law_thing"] (spIs nameD)) (b5 : Binds K fd5 ["_law_thing"] []) (m5 : mg "_law_is_name" = some (.ref f5)) (k5 : PySem.W.keepIn K (.ref f5) = true)
    (mq : mg "isinstance" = none) (mi : mg "int" = none) (mb : mg "bool" = none) (ms : mg "str" = none) : FnG P w K mg base 3 f fd ["_law_thing"] spRight := by
  refine okG F sc8 (fun vs H Q E h => ?_) (fun cdv A outer s H vs Q E hg hr h => ?_)
  · obtain ⟨b, v, d, o, rfl, _⟩ := h
    rfl
  · obtain ⟨b, v, d, o, rfl, hb, hd, hs, q⟩ := h
    have hr1 : Room 1 _ := hr.mono (by decide)
    refine ⟨_, pss_cons (ps_set (i := 1) sc8.nd rfl (.inl rfl) (pe_and (pe_callB call_isi (by rfl) mq (by decide +kernel) (pa_cons (pv 0) (pa_cons (pe_bltn (v := .ty "int") (by rfl) mi boot_int rfl) pa_nil)))
        (pe_one (pe_not (pe_callB call_isi (by rfl) mq (by decide +kernel) (pa_cons (pv 0) (pa_cons (pe_bltn (v := .ty "bool") (by rfl) mb boot_bool rfl) pa_nil)))))))
      (pss_cons (ps_set (i := 2) sc8.nd rfl (.inl rfl) (pe_call G5 hr1 (by rfl) m5 k5 b5 .nil pass0 (pa_cons (pv 0) pa_nil)))
      (pss_cons (ps_set (i := 3) sc8.nd rfl (.inl rfl) (pe_and (pe_callB call_isi (by rfl) mq (by decide +kernel) (pa_cons (pv 0) (pa_cons (pe_bltn (v := .ty "str") (by rfl) ms boot_str rfl) pa_nil)))
        (pe_one (pe_cmpR op_in_seq (pv 0) (pe_tup (pa_cons pe_str (pa_cons pe_str (pa_cons pe_str pa_nil)))) (by rfl)))))
      (pss_cons (ps_set (i := 4) sc8.nd rfl (.inl rfl) (pe_tup (pa_cons (pe_call G1 hr1 (by rfl) m1 k1 b1 .nil pass0 (pa_cons (pv 0) pa_nil)) (pa_cons (pe_call G2 hr1 (by rfl) m2 k2 b2 .nil pass0 (pa_cons (pv 0) pa_nil))
        (pa_cons (pe_call G3 hr (by rfl) m3 k3 b3 .nil pass0 (pa_cons (pv 0) pa_nil)) (pa_cons (pe_call G4 hr1 (by rfl) m4 k4 b4 .nil pass0 (pa_cons (pv 0) pa_nil)) pa_nil))))))
      (pss_one (ps_ret (pe_callG GA hg hr1 (by rfl) mA kA bA (pa_cons (pv 4) (pa_cons (pe_tup (pa_cons (pv 1) (pa_cons (pv 2) (pa_cons
        (pe_or (pv 2) (pe_one (pe_and (pe_callB call_isi (by rfl) mq (by decide +kernel) (pa_cons (pv 0) (pa_cons (pe_bltn (v := .ty "str") (by rfl) ms boot_str rfl) pa_nil))) (pe_one (pe_cmpR op_eq (pv 0) pe_str (nomark _))))))
        (pa_cons (pv 3) pa_nil))))) pa_nil)))))))), ?_⟩
    refine cutK (fun σ' H' => σ' = [some v, some (.bl (intD d)), none, none, none] ∧ H' = H) ?_ (fun k => ?_)
    · rintro σ' H' ⟨rfl, rfl⟩
      refine ⟨_, rfl, b, v, d, rfl, hd, hs, fun H1 s1 => ?_⟩
      have hd1 : Dq H1 b v d := hd.mono fun a o _ e => s1 a o e
      dsimp only
      refine cutK (fun σ' H2 => σ' = [some v, some (.bl (intD d)), some (.bl (nameD d)), some (.bl (kindD d)), none] ∧ Same H' H2) ?_ (fun k => ?_)
      · rintro σ' H2 ⟨rfl, s2⟩
        have hd2 : Dq H2 b v d := hd.mono fun a o _ e => s2 a o e
        refine ⟨_, rfl, b, v, d, rfl, hd2, hs, fun H3 s3 => ?_⟩
        have hd3 : Dq H3 b v d := hd2.mono fun a o _ e => s3 a o e
        refine ⟨_, rfl, b, v, d, rfl, hd3, hs, fun H4 s4 => ?_⟩
        have hd4 : Dq H4 b v d := hd3.mono fun a o _ e => s4 a o e
        refine ⟨_, rfl, b, v, d, rfl, hd4, hs, fun H5 s5 => ?_⟩
        have hd5 : Dq H5 b v d := hd4.mono fun a o _ e => s5 a o e
        refine ⟨_, rfl, b, v, d, rfl, hd5, hs, fun H6 s6 => ?_⟩
        have hd6 : Dq H6 b v d := hd5.mono fun a o _ e => s6 a o e
        have s06 : Same H' H6 := (((s2.trans s3).trans s4).trans s5).trans s6
        refine ⟨by show 4 ≤ sizeLine; decide, fun t nt => ?_⟩
        have tb : t ≠ b := (ne_of_none (s06 _ _ hb) nt).symm
        obtain ⟨g1, g2, g3, g4⟩ := four_flat (intD d) (nameD d) (sourceD d) (kindD d)
        have fl : Flat (four (intD d) (nameD d) (sourceD d) (kindD d)) := { show_ := g2, len := g3, deep := g4, shape := g1 }
        have fin : ∀ t2 : Addr, (upd H6 t (.tup [.bl (intD d), .bl (nameD d), .bl (sourceD d), .bl (kindD d)])) t2 = none →
            spAlike [.ref t, .ref t2] (upd (upd H6 t (.tup [.bl (intD d), .bl (nameD d), .bl (sourceD d), .bl (kindD d)])) t2 (.tup [.bl (intD d), .bl (nameD d), .bl (sourceD d), .bl (kindD d)])) Q E0 := by
          intro t2 nt2
          have t2b : t2 ≠ b := (ne_of_none (by rw [upd_ne tb.symm]; exact s06 _ _ hb) nt2).symm
          have t12 : t ≠ t2 := ne_of_none upd_same nt2
          refine ⟨b, _, _, _, rfl, .tup (by rw [upd_ne t12]; exact upd_same) tb (.cons (.bl _) (.cons (.bl _) (.cons (.bl _) (.cons (.bl _) .nil)))), .tup upd_same t2b (.cons (.bl _) (.cons (.bl _) (.cons (.bl _) (.cons (.bl _) .nil)))), fl, ?_⟩
          refine q _ fun a o e => ?_
          have z1 : a ≠ t := ne_of_none (s06 _ _ e) nt
          have z2 : a ≠ t2 := ne_of_none (by rw [upd_ne z1]; exact s06 _ _ e) nt2
          rw [upd_ne z2, upd_ne z1]
          exact s06 _ _ e
        refine ⟨_, rfl, _, rfl, _, rfl, _, rfl, _, rfl, ?_⟩
        have es : sourceD d = (nameD d || emptyD d) := rfl
        cases h0 : nameD d with
        | true =>
          rw [h0, Bool.true_or] at es
          rw [h0, es] at fin
          refine iteT ⟨_, rfl, ?_⟩
          rw [es]
          exact ⟨by show 4 ≤ sizeLine; decide, fin⟩
        | false =>
          rw [h0, Bool.false_or] at es
          rw [h0, es] at fin
          have hd7 : Dq (upd H6 t (.tup [.bl (intD d), .bl false, .bl (emptyD d), .bl (kindD d)])) b v d := hd6.mono fun a o _ e => same_upd nt a o e
          rw [es]
          refine iteF ⟨_, rfl, _, _, _, _, _, rfl, .ty "str", hd7.ty, kit_str d, _, rfl, ?_⟩
          cases h1 : isStrD d with
          | false =>
            rw [isi_str_false h1] at fin ⊢
            exact iteF ⟨_, rfl, by show 4 ≤ sizeLine; decide, fin⟩
          | true =>
            obtain ⟨z, rfl, rfl⟩ := str_of hd h1
            refine iteT ⟨_, rfl, rfl, ?_⟩
            have ez : decide (V.str z = V.str "") = emptyD (.str z) := empty_dec z
            refine ⟨_, rfl, ?_⟩
            dsimp only
            rw [ez]
            exact ⟨by show 4 ≤ sizeLine; decide, fin⟩
      · refine ⟨_, rfl, _, _, _, _, _, rfl, .ty "str", hd1.ty, kit_str d, _, rfl, ?_⟩
        cases h1 : isStrD d with
        | false =>
          rw [kind_not h1] at k
          exact iteF (k _ _ ⟨rfl, s1⟩)
        | true =>
          obtain ⟨z, rfl, rfl⟩ := str_of hd h1
          refine iteT ⟨_, rfl, by show 3 ≤ sizeLine; decide, fun t nt => ⟨t, kinds, rfl, .inr (SqT.of upd_same), rfl, by decide +kernel, ?_⟩⟩
          exact k _ _ ⟨rfl, s1.trans (same_upd nt)⟩
    · refine ⟨_, rfl, _, _, _, _, _, rfl, .ty "int", hd.ty, kit_int d, _, rfl, ?_⟩
      have e : intD d = (isIntD d && !isBoolD d) := rfl
      rw [e] at k
      cases h1 : isIntD d with
      | false =>
        rw [h1] at k
        exact iteF (k _ _ ⟨rfl, rfl⟩)
      | true =>
        rw [h1] at k
        exact iteT ⟨_, rfl, _, _, _, _, _, rfl, .ty "bool", hd.ty, kit_bool d, _, rfl, k _ _ ⟨rfl, rfl⟩⟩
end
end Fv


set_option Elab.async false
set_option linter.all false
set_option maxRecDepth 100000
set_option maxHeartbeats 2000000
namespace Fv
open PySem PySem.Spec PyProof.Rows L2
abbrev sOdd : Stmt := top 14
def ten (n : Nat) : Int := 10 ^ n
theorem int_zeros : ∀ n : Nat, n < 40 → PySem.intText? ("1" ++ zeros n) = some (ten n) ∧ (("1" : Str) ++ zeros n).length ≤ 640 := by decide +kernel
def oddD (n : Nat) (nm : Str) : List PyData := [.int 0, .int 1, .int (-1), .int (ten n), .int (-(ten n)), .bool true, .bool false, .none, .str "", .str "a", .str nm, .str (nm ++ "z"), .str "abcdefgh",
  .str "abcdefghi", .str "A", .str "a1", .str "a b",
  .str "plain", .str "high", .str "low", .str "Plain", .list [], .tuple [], .dict [], .list [.int 1], .tuple [.int 0], .tuple [.str nm], .dict [(.str nm, .int 1)], .list [.str nm], .tuple [.str "", .str "", .int 0]]
def NameOk (z : Str) : Prop := z.length ≤ 100 ∧ ∀ c ∈ z.cps.toList, c < 128
theorem NameOk.ok {z : Str} (h : NameOk z) : okS z := ⟨by have := h.1; omega, h.2⟩
theorem NameOk.more {z : Str} (h : NameOk z) : okS (z ++ "z") := by
  refine ⟨?_, ?_⟩
  · have e : ("z" : Str).length = 1 := by decide +kernel
    rw [strLen_append, e]
    have := h.1
    omega
  · intro c hc
    have e : (z ++ "z" : Str).cps.toList = z.cps.toList ++ ("z" : Str).cps.toList := by
      show (z.cps ++ _).toList = _
      simp
    rw [e] at hc
    rcases List.mem_append.mp hc with q | q
    · exact h.2 c q
    · have : ∀ c ∈ ("z" : Str).cps.toList, c < 128 := by decide +kernel
      exact this c q
def okB (z : Str) : Bool := decide (z.length ≤ 1000) && z.cps.toList.all fun c => decide (c < 128)
theorem okS_of {z : Str} (h : okB z = true) : okS z := by
  unfold okB at h
  simp only [Bool.and_eq_true, decide_eq_true_eq, List.all_eq_true] at h
  exact h
theorem fine_ten : ∀ n : Nat, n < 40 → (PyData.int (ten n)).showable = true ∧ (PyData.int (ten n)).shown.length ≤ 100000 ∧ (PyData.int (-(ten n))).showable = true ∧ (PyData.int (-(ten n))).shown.length ≤ 100000 := by decide +kernel
def Nice (d : PyData) : Prop := Fine d ∧ shortD d
theorem nice_str {z : Str} (h : okS z) : Nice (.str z) := ⟨Fine.str h, h⟩
theorem fine_dec {d : PyData} (h : (d.showable && decide (d.shown.length ≤ 100000) && decide (d.depth ≤ 10)) = true) : Fine d := by
  simp only [Bool.and_eq_true, decide_eq_true_eq] at h
  exact ⟨h.1.1, h.1.2, h.2⟩
theorem odd_nice {n : Nat} {nm : Str} (hn : n < 40) (h : NameOk nm) : ∀ d ∈ oddD n nm, Nice d := by
  obtain ⟨t1, t2, t3, t4⟩ := fine_ten n hn
  intro d hd
  unfold oddD at hd
  simp only [List.mem_cons, List.not_mem_nil, or_false] at hd
  rcases hd with rfl | rfl | rfl | rfl | rfl | rfl | rfl | rfl | rfl | rfl | rfl | rfl | rfl | rfl | rfl | rfl | rfl | rfl | rfl | rfl | rfl | rfl | rfl | rfl | rfl | rfl | rfl | rfl | rfl | rfl
  · exact ⟨fine_dec (by decide +kernel), True.intro⟩
  · exact ⟨fine_dec (by decide +kernel), True.intro⟩
  · exact ⟨fine_dec (by decide +kernel), True.intro⟩
  · exact ⟨⟨t1, t2, by simp [PyData.depth]⟩, True.intro⟩
  · exact ⟨⟨t3, t4, by simp [PyData.depth]⟩, True.intro⟩
  · exact ⟨fine_dec (by decide +kernel), True.intro⟩
  · exact ⟨fine_dec (by decide +kernel), True.intro⟩
  · exact ⟨fine_dec (by decide +kernel), True.intro⟩
  · (refine nice_str (okS_of ?_); decide +kernel)
  · (refine nice_str (okS_of ?_); decide +kernel)
  · exact nice_str h.ok
  · exact nice_str h.more
  · (refine nice_str (okS_of ?_); decide +kernel)
  · (refine nice_str (okS_of ?_); decide +kernel)
  · (refine nice_str (okS_of ?_); decide +kernel)
  · (refine nice_str (okS_of ?_); decide +kernel)
  · (refine nice_str (okS_of ?_); decide +kernel)
  · (refine nice_str (okS_of ?_); decide +kernel)
  · (refine nice_str (okS_of ?_); decide +kernel)
  · (refine nice_str (okS_of ?_); decide +kernel)
  · (refine nice_str (okS_of ?_); decide +kernel)
  · exact ⟨fine_dec (by decide +kernel), True.intro⟩
  · exact ⟨fine_dec (by decide +kernel), True.intro⟩
  · exact ⟨fine_dec (by decide +kernel), True.intro⟩
  · exact ⟨fine_dec (by decide +kernel), True.intro⟩
  · exact ⟨fine_dec (by decide +kernel), True.intro⟩
  · exact ⟨Fine.one_tup h.ok, True.intro⟩
  · exact ⟨Fine.one_dct h.ok, True.intro⟩
  · exact ⟨Fine.one_lst h.ok, True.intro⟩
  · exact ⟨fine_dec (by decide +kernel), True.intro⟩
end Fv


set_option Elab.async false
set_option linter.all false
set_option maxRecDepth 100000
set_option maxHeartbeats 4000000
namespace Fv
open PySem PySem.Spec PyProof.Rows L2
def odd17 (n : Nat) (nm : Str) : List V := [.int 0, .int 1, .int (-1), .int (ten n), .int (-ten n), .bl true, .bl false, .non, .str "", .str "a", .str nm, .str (nm ++ "z"), .str "abcdefgh", .str "abcdefghi", .str "A", .str "a1", .str "a b"]
def spOdd : Sp := fun vs H Q _ => ∃ (b : Addr) (nm : Str), vs = [.ref b, .str nm] ∧ Bag H b ∧ NameOk nm ∧ ∀ (v : V) (d : PyData) (H' : Hp), Dq H' b v d → Nice d → Bag H' b → Keep b H H' → Q v H'
theorem item {H Hf : Hp} {p b a : Addr} {o : HO} (n : H a = none) (hp : ∃ u, H p = some u) (hb : ∃ u, H b = some u) (k : Keep p (upd H a o) Hf) : Hf a = some o ∧ a ≠ b := by
  obtain ⟨u, hp⟩ := hp
  obtain ⟨u', hb⟩ := hb
  exact ⟨k a o (ne_of_none hp n).symm upd_same, (ne_of_none hb n).symm⟩
theorem there {H H' : Hp} {a : Addr} (k : Same H H') (h : ∃ u, H a = some u) : ∃ u, H' a = some u := by
  obtain ⟨u, h⟩ := h
  exact ⟨u, k _ _ h⟩
theorem same_twice {H : Hp} {a : Addr} {o u : HO} (n : H a = none) : Same H (upd (upd H a o) a u) := fun c v e => by
  have z := ne_of_none e n
  rw [upd_ne z, upd_ne z]
  exact e
def odd30 (n : Nat) (nm : Str) (a1 a2 a3 a4 a5 a6 a7 a8 a9 : Addr) : List V := [.int 0, .int 1, .int (-1), .int (ten n), .int (-ten n), .bl true, .bl false, .non, .str "", .str "a", .str nm, .str (nm ++ "z"), .str "abcdefgh", .str "abcdefghi", .str "A", .str "a1", .str "a b",
  .str "plain", .str "high", .str "low", .str "Plain", .ref a1, .ref a2, .ref a3, .ref a4, .ref a5, .ref a6, .ref a7, .ref a8, .ref a9]
theorem odd_all {H : Hp} {b : Addr} {n : Nat} {nm : Str} {a1 a2 a3 a4 a5 a6 a7 a8 a9 : Addr} (g1 : H a1 = some (.lst [])) (b1 : a1 ≠ b) (m1 : a1 ≠ sysModules) (g2 : H a2 = some (.tup [])) (b2 : a2 ≠ b) (g3 : H a3 = some (.dK [])) (b3 : a3 ≠ b) (g4 : H a4 = some (.lst [.int 1])) (b4 : a4 ≠ b) (m4 : a4 ≠ sysModules)
    (g5 : H a5 = some (.tup [.int 0])) (b5 : a5 ≠ b) (g6 : H a6 = some (.tup [.str nm])) (b6 : a6 ≠ b) (g7 : H a7 = some (.dK [(Sum.inr nm, .int 1)])) (b7 : a7 ≠ b) (g8 : H a8 = some (.lst [.str nm])) (b8 : a8 ≠ b) (m8 : a8 ≠ sysModules) (g9 : H a9 = some (.tup [.str "", .str "", .int 0])) (b9 : a9 ≠ b) :
    DqAll H b (odd30 n nm a1 a2 a3 a4 a5 a6 a7 a8 a9) (oddD n nm) :=
  .cons (.int _) (.cons (.int _) (.cons (.int _) (.cons (.int _) (.cons (.int _) (.cons (.bl _) (.cons (.bl _) (.cons .non (.cons (.str _) (.cons (.str _) (.cons (.str _) (.cons (.str _) (.cons (.str _)
    (.cons (.str _) (.cons (.str _) (.cons (.str _) (.cons (.str _) (.cons (.str _) (.cons (.str _) (.cons (.str _) (.cons (.str _)
    (.cons (.lst g1 b1 m1 .nil) (.cons (.tup g2 b2 .nil) (.cons (.dct g3 b3 .nil .nil) (.cons (.lst g4 b4 m4 (.cons (.int _) .nil)) (.cons (.tup g5 b5 (.cons (.int _) .nil)) (.cons (.tup g6 b6 (.cons (.str _) .nil))
    (.cons (.dct g7 b7 (.cons (.str _) .nil) (.cons (.int _) .nil)) (.cons (.lst g8 b8 m8 (.cons (.str _) .nil)) (.cons (.tup g9 b9 (.cons (.str _) (.cons (.str _) (.cons (.int _) .nil)))) .nil)))))))))))))))))))))))))))))
theorem Keep.same {p : Addr} {H H' : Hp} (s : Same H H') : Keep p H H' := fun a o _ e => s a o e
theorem Bag.at_b {H : Hp} {b : Addr} (B : Bag H b) : ∃ o, H b = some o := by
  obtain ⟨c, cs, p, s, i, B⟩ := B
  exact ⟨_, B.at_⟩
theorem Bag.same {H H' : Hp} {b : Addr} (B : Bag H b) (k : Same H H') : Bag H' b := by
  obtain ⟨c, cs, p, s, i, B⟩ := B
  exact ⟨c, cs, p, s, i, k _ _ B.at_, k _ _ B.cells, B.ne, B.p0, B.s0, B.cs0⟩
section
variable {P : Program} {w : World} {K : PySem.W.Frag} {mg : Str → Option Value} {base : Heap}
theorem scO : FnScope ["_law_bag_here", "_law_name", "_law_wide", "_law_plain"] ["_law_bag_here", "_law_name"] (defScope sOdd) := ⟨rfl, rfl, rfl, by decide +kernel, rfl, by decide +kernel, by decide +kernel⟩
theorem ok_odd {f fT : Addr} {fd fdT : FuncData} (F : Fun K "_law_odd" "_law_odd" sOdd f fd) (GT : FnOk P w K mg base CX0 1 fT fdT ["_law_bag_here", "_law_many"] spTake) (bT : Binds K fdT ["_law_bag_here", "_law_many"] []) (mT : mg "_law_take" = some (.ref fT)) (kT : PySem.W.keepIn K (.ref fT) = true)
    (mi : mg "int" = none) (ml : mg "len" = none) : FnOk P w K mg base CX0 2 f fd ["_law_bag_here", "_law_name"] spOdd := by
  refine F.ok scO (fun vs H Q E h => ?_) (fun cdv A outer s H vs Q E hr h => ?_)
  · obtain ⟨b, nm, rfl, _⟩ := h
    rfl
  · obtain ⟨b, nm, rfl, B, hnm, q⟩ := h
    refine ⟨_, pss_cons (ps_set (i := 2) scO.nd rfl (.inl rfl) (pe_callTy call_int_str (by rfl) mi (by decide +kernel) (pa_cons (pe_op op_add_str pe_str (pe_op op_zeros pe_str (pe_call GT hr (by rfl) mT kT bT .nil pass0 (pa_cons (pv 0) (pa_cons pe_int pa_nil))))) pa_nil)))
      (pss_cons (ps_set (i := 3) scO.nd rfl (.inl rfl) (pe_lstB (pa_cons pe_int (pa_cons pe_int (pa_cons (pe_un un_neg pe_int) (pa_cons (pv 2) (pa_cons (pe_un un_neg (pv 2)) (pa_cons pe_bl (pa_cons pe_bl (pa_cons pe_non (pa_cons pe_str (pa_cons pe_str (pa_cons (pv 1) (pa_cons (pe_op op_add_str (pv 1) pe_str) (pa_cons pe_str pa_nil)))))))))))))))
      (pss_cons (ps_aug (i := 3) scO.nd rfl (.inl rfl) (pe_lstB (pa_cons pe_str (pa_cons pe_str (pa_cons pe_str (pa_cons pe_str pa_nil))))) iop_ext)
      (pss_cons (ps_aug (i := 3) scO.nd rfl (.inl rfl) (pe_lstB (pa_cons pe_str (pa_cons pe_str (pa_cons pe_str (pa_cons pe_str (pa_cons (pe_lstB pa_nil) (pa_cons (pe_tup pa_nil) (pa_cons pe_dnewK (pa_cons (pe_lstB (pa_cons pe_int pa_nil)) (pa_cons (pe_tup (pa_cons pe_int pa_nil)) (pa_cons (pe_tup (pa_cons (pv 1) pa_nil))
          (pa_cons (pe_disp (pps_cons (pv 1) pe_int pps_nil) (by rfl) (by rfl) (fun z => by cases z) (by decide)) (pa_cons (pe_lstB (pa_cons (pv 1) pa_nil)) (pa_cons (pe_tup (pa_cons pe_str (pa_cons pe_str (pa_cons pe_int pa_nil)))) pa_nil)))))))))))))) iop_ext)
      (pss_one (ps_ret (pe_ix ix_list (pv 3) (pe_call GT hr (by rfl) mT kT bT .nil pass0 (pa_cons (pv 0) (pa_cons (pe_callB call_len_seq (by rfl) ml PySem.boot_len (pa_cons (pv 3) pa_nil)) pa_nil))) (fun _ _ => rfl))))))), ?_⟩
    refine ⟨_, rfl, b, 40, rfl, B, by decide, by decide, fun n H1 hn B1 k1 _ => ?_⟩
    have hn' : n < 40 := by omega
    obtain ⟨it, il⟩ := int_zeros n hn'
    refine ⟨n, rfl, rfl, by omega, _, _, rfl, rfl, Nat.le_trans (by rw [← strLen_append]; exact il) (by decide), _, _, rfl, it, il, ?_⟩
    refine ⟨_, rfl, _, rfl, _, rfl, _, rfl, _, rfl, _, rfl, _, _, rfl, rfl, ?_, by show 13 ≤ sizeLine; decide, fun p np mp => ?_⟩
    · have h1 := hnm.1
      have h2 : ("z" : Str).length = 1 := by decide +kernel
      have h3 : 101 ≤ sizeLine := by decide
      rw [h2]
      omega
    have pb : p ≠ b := by
      obtain ⟨o, e⟩ := B1.at_b
      exact (ne_of_none e np).symm
    dsimp only
    refine cutK (fun σ' H2 => σ' = [some (.ref b), some (.str nm), some (.int (ten n)), some (.ref p)] ∧ Same H1 H2 ∧ H2 p = some (.lst (odd17 n nm))) ?_ (fun k => ?_)
    · rintro σ' H2 ⟨rfl, s2, hp⟩
      have B2 : Bag H2 b := B1.same s2
      obtain ⟨ob, hb⟩ := B2.at_b
      refine ⟨_, rfl, Nat.zero_le _, fun a1 n1 m1 => ?_⟩
      refine ⟨Nat.zero_le _, fun a2 n2 => ?_⟩
      refine fun a3 n3 => ?_
      refine ⟨by show 1 ≤ sizeLine; decide, fun a4 n4 m4 => ?_⟩
      refine ⟨by show 1 ≤ sizeLine; decide, fun a5 n5 => ?_⟩
      refine ⟨_, rfl, by show 1 ≤ sizeLine; decide, fun a6 n6 => ?_⟩
      refine fun a7 n7 => ?_
      refine ⟨_, rfl, upd_same, [(Sum.inr nm, .int 1)], rfl, by show 1 ≤ 15; decide, ?_⟩
      refine ⟨_, rfl, by show 1 ≤ sizeLine; decide, fun a8 n8 m8 => ?_⟩
      refine ⟨by show 3 ≤ sizeLine; decide, fun a9 n9 => ?_⟩
      refine ⟨by show 13 ≤ sizeLine; decide, fun p3 n10 _ => ?_⟩
      have t1 := same_upd (o := .lst []) n1
      have t2 := same_upd (o := .tup []) n2
      have t3 := same_upd (o := .dK []) n3
      have t4 := same_upd (o := .lst [.int 1]) n4
      have t5 := same_upd (o := .tup [.int 0]) n5
      have t6 := same_upd (o := .tup [.str nm]) n6
      have t7 := same_twice (o := .dK []) (u := .dK [(Sum.inr nm, .int 1)]) n7
      have t8 := same_upd (o := .lst [.str nm]) n8
      have t9 := same_upd (o := .tup [.str "", .str "", .int 0]) n9
      have t10 := same_upd (o := .lst [.str "plain", .str "high", .str "low", .str "Plain", .ref a1, .ref a2, .ref a3, .ref a4, .ref a5, .ref a6, .ref a7, .ref a8, .ref a9]) n10
      have p0 : ∃ u, H2 p = some u := ⟨_, hp⟩
      have p1 := there t1 p0
      have p2 := there t2 p1
      have p3' := there t3 p2
      have p4 := there t4 p3'
      have p5 := there t5 p4
      have p6 := there t6 p5
      have p7 := there t7 p6
      have p8 := there t8 p7
      have c0 : ∃ u, H2 b = some u := ⟨_, hb⟩
      have c1 := there t1 c0
      have c2 := there t2 c1
      have c3 := there t3 c2
      have c4 := there t4 c3
      have c5 := there t5 c4
      have c6 := there t6 c5
      have c7 := there t7 c6
      have c8 := there t8 c7
      have hp9 := t9 _ _ (t8 _ _ (t7 _ _ (t6 _ _ (t5 _ _ (t4 _ _ (t3 _ _ (t2 _ _ (t1 _ _ hp))))))))
      have pp3 := ne_of_none hp9 n10
      refine ⟨p, p3, _, _, rfl, rfl, by rw [upd_ne pp3]; exact hp9, upd_same, by show 30 ≤ sizeLine; decide, ?_⟩
      have K9 : Keep p _ (upd _ p (.lst (odd30 n nm a1 a2 a3 a4 a5 a6 a7 a8 a9))) := (Keep.same (p := p) t10).trans Keep.upd
      have K8 := (Keep.same (p := p) t9).trans K9
      have K7 := (Keep.same (p := p) t8).trans K8
      have K6 := (Keep.same (p := p) t7).trans K7
      have K5 := (Keep.same (p := p) t6).trans K6
      have K4 := (Keep.same (p := p) t5).trans K5
      have K3 := (Keep.same (p := p) t4).trans K4
      have K2 := (Keep.same (p := p) t3).trans K3
      have K1 := (Keep.same (p := p) t2).trans K2
      have K0 := (Keep.same (p := p) t1).trans K1
      obtain ⟨g1, b1⟩ := item n1 p0 c0 K1
      obtain ⟨g2, b2⟩ := item n2 p1 c1 K2
      obtain ⟨g3, b3⟩ := item n3 p2 c2 K3
      obtain ⟨g4, b4⟩ := item n4 p3' c3 K4
      obtain ⟨g5, b5⟩ := item n5 p4 c4 K5
      obtain ⟨g6, b6⟩ := item n6 p5 c5 K6
      have b7 : a7 ≠ b := by
        obtain ⟨u, e⟩ := c6
        exact (ne_of_none e n7).symm
      have g7 := K7 a7 _ (by
        obtain ⟨u, e⟩ := p6
        exact (ne_of_none e n7).symm) upd_same
      obtain ⟨g8, b8⟩ := item n8 p7 c7 K8
      obtain ⟨g9, b9⟩ := item n9 p8 c8 K9
      have sf : Same H1 _ := fun a o e => K0 a o (ne_of_none e np) (s2 a o e)
      have Bf := B1.same sf
      refine ⟨_, rfl, _, rfl, _, rfl, p, _, rfl, .inl (SqL.of upd_same), b, 30, rfl, Bf, by decide, by decide, fun r H' r1 B' k' _ => ?_⟩
      have hD := odd_all (n := n) (nm := nm) g1 b1 m1 g2 b2 g3 b3 g4 b4 m4 g5 b5 g6 b6 g7 b7 g8 b8 m8 g9 b9
      have hr30 : r < (odd30 n nm a1 a2 a3 a4 a5 a6 a7 a8 a9).length := by show r < 30; omega
      obtain ⟨d, md, dq⟩ := hD.get (List.getElem?_eq_getElem hr30)
      refine ⟨p, odd30 n nm a1 a2 a3 a4 a5 a6 a7 a8 a9, r, _, rfl, rfl, SqL.of (k' p _ pb upd_same), atI_nat (List.getElem?_eq_getElem hr30), ?_⟩
      refine q _ d H' (dq.mono k') (odd_nice hn' hnm d md) B' ((k1.trans (Keep.same sf)).trans k')
    · refine ⟨_, rfl, by show 4 ≤ sizeLine; decide, fun p2 np2 _ => ?_⟩
      have pp2 : p ≠ p2 := ne_of_none upd_same np2
      refine ⟨p, p2, _, _, rfl, rfl, by rw [upd_ne pp2]; exact upd_same, upd_same, by show 17 ≤ sizeLine; decide, ?_⟩
      refine k _ _ ⟨rfl, fun a o e => ?_, upd_same⟩
      have z1 : a ≠ p := ne_of_none e np
      have z2 : a ≠ p2 := ne_of_none (by rw [upd_ne z1]; exact e) np2
      rw [upd_ne z1, upd_ne z2, upd_ne z1]
      exact e
end
end Fv


set_option Elab.async false
set_option linter.all false
set_option maxRecDepth 100000
set_option maxHeartbeats 2000000
namespace Fv
open PySem PySem.Spec PyProof.Rows L2
abbrev sText : Stmt := top 16
def ABC : Str := "ABCDEFGHIJKLMNOPQRSTUVWXYZ"
def SIG : Str := abc ++ ABC ++ "0123456789 !#$&'()*+,-./:;<=>?\x40[]^_`{|}~\n" ++ "\""
def asc (z : Str) : Prop := ∀ c ∈ z.cps.toList, c < 128
theorem asc_dec {z : Str} (h : (z.cps.toList.all fun c => decide (c < 128)) = true) : asc z := by
  unfold asc
  simpa only [List.all_eq_true, decide_eq_true_eq] using h
theorem toList_add (x y : Str) : (x ++ y).cps.toList = x.cps.toList ++ y.cps.toList := by
  show (x.cps ++ y.cps).toList = _
  simp
theorem asc_add {x y : Str} (h : asc x) (k : asc y) : asc (x ++ y) := by
  intro c hc
  rw [toList_add] at hc
  exact (List.mem_append.mp hc).elim (h c) (k c)
theorem asc_cut {z : Str} (h : asc z) (lo hi : Option Int) : asc (cutS z lo hi) := by
  intro c hc
  unfold cutS at hc
  have h1 := List.mem_of_mem_take (show c ∈ _ from by simpa using hc)
  exact h c (List.mem_of_mem_drop h1)
theorem asc_one {z : Str} (h : asc z) {i : Nat} {c : Nat} (e : z.cps.toList[i]? = some c) : asc ⟨#[c]⟩ := by
  intro x hx
  have : x = c := by simpa using hx
  rw [this]
  exact h c (List.mem_of_getElem? e)
theorem len_list (z : Str) : z.cps.toList.length = z.length := by simp [Str.length]
theorem sig_len : SIG.length ≤ 200 ∧ 0 < SIG.length := by decide +kernel
theorem abc_len : abc.length = 26 := by decide +kernel
theorem sig_asc : asc SIG := asc_dec (by decide +kernel)
theorem abc_asc : asc abc := asc_dec (by decide +kernel)
theorem cut_two (z : Str) (a : Nat) : (cutS z none (some (a : Int))).length + (cutS z (some (a : Int)) none).length ≤ 2 * z.length := by
  have c1 := cutS_length z none (some (a : Int))
  have c2 := cutS_length z (some (a : Int)) none
  omega
theorem line300 {n : Nat} (h : n ≤ 300) : n ≤ sizeLine := Nat.le_trans h (by decide)
def spText : Sp := fun vs H Q _ => ∃ b : Addr, vs = [.ref b] ∧ Bag H b ∧ ∀ (z : Str) (H' : Hp), z.length ≤ 20 → asc z → Bag H' b → Keep b H H' → Q (.str z) H'
section
variable {P : Program} {w : World} {K : PySem.W.Frag} {mg : Str → Option Value} {base : Heap}
theorem scX : FnScope ["_law_bag_here", "_law_small", "_law_great", "_law_signs", "_law_pool", "_law_found", "_law_k", "_law_at"] ["_law_bag_here"] (defScope sText) := ⟨rfl, rfl, rfl, by decide +kernel, rfl, by decide +kernel, by decide +kernel⟩
theorem ok_text {f fT : Addr} {fd fdT : FuncData} (F : Fun K "_law_text" "_law_text" sText f fd) (GT : FnOk P w K mg base CX0 1 fT fdT ["_law_bag_here", "_law_many"] spTake) (bT : Binds K fdT ["_law_bag_here", "_law_many"] []) (mT : mg "_law_take" = some (.ref fT)) (kT : PySem.W.keepIn K (.ref fT) = true)
    (mr : mg "range" = none) (ml : mg "len" = none) : FnOk P w K mg base CX0 2 f fd ["_law_bag_here"] spText := by
  refine F.ok scX (fun vs H Q E h => ?_) (fun cdv A outer s H vs Q E hr h => ?_)
  · obtain ⟨b, rfl, _⟩ := h
    rfl
  · obtain ⟨b, rfl, B, q⟩ := h
    refine ⟨_, pss_cons (ps_asg (pe_tup (pa_cons pe_str (pa_cons pe_str pa_nil))) (pg_tup (by rfl) (pgs_cons (pg_name (i := 1) scX.nd rfl (.inl rfl)) (pgs_cons (pg_name (i := 2) scX.nd rfl (.inl rfl)) pgs_nil))))
      (pss_cons (ps_set (i := 3) scX.nd rfl (.inl rfl) (pe_op op_add_str (pe_op op_add_str (pe_op op_add_str (pv 1) (pv 2)) pe_str) pe_str))
      (pss_cons (ps_par (i := 4) (j := 5) rfl scX.nd rfl rfl (by decide) rfl rfl (pa_cons (pe_ix ix_list (pe_lst (pa_cons (pv 1) (pa_cons (pv 3) pa_nil))) (pe_call GT hr (by rfl) mT kT bT .nil pass0 (pa_cons (pv 0) (pa_cons pe_int pa_nil))) (fun _ _ => rfl)) (pa_cons pe_str pa_nil)) (by rfl))
      (pss_cons (ps_for PassesOwn.never rfl (pi_range1 (by rfl) mr (pa_cons (pe_call GT hr (by rfl) mT kT bT .nil pass0 (pa_cons (pv 0) (pa_cons pe_int pa_nil))) pa_nil)) (pg_name (i := 6) scX.nd rfl (.inl rfl))
        (pss_one (ps_set (i := 5) scX.nd rfl (.inl rfl) (pe_op op_add_str (pv 5) (pe_ix ix_str (pv 4) (pe_call GT hr (by rfl) mT kT bT .nil pass0 (pa_cons (pv 0) (pa_cons (pe_callB call_len_str (by rfl) ml PySem.boot_len (pa_cons (pv 4) pa_nil)) pa_nil))) (fun _ _ => rfl))))))
      (pss_cons (ps_set (i := 7) scX.nd rfl (.inl rfl) (pe_call GT hr (by rfl) mT kT bT .nil pass0 (pa_cons (pv 0) (pa_cons (pe_op op_add (pe_callB call_len_str (by rfl) ml PySem.boot_len (pa_cons (pv 5) pa_nil)) pe_int) pa_nil))))
      (pss_one (ps_ret (pe_ifExp (pt_cmpR op_eq (pe_call GT hr (by rfl) mT kT bT .nil pass0 (pa_cons (pv 0) (pa_cons pe_int pa_nil))) pe_int (nomark _))
        (pe_op op_add_str (pe_op op_add_str (pe_slice sl_str (pv 5) po_none (po_some (pv 7))) (pe_ix ix_str (pv 3) (pe_call GT hr (by rfl) mT kT bT .nil pass0 (pa_cons (pv 0) (pa_cons (pe_callB call_len_str (by rfl) ml PySem.boot_len (pa_cons (pv 3) pa_nil)) pa_nil))) (fun _ _ => rfl)))
          (pe_slice sl_str (pv 5) (po_some (pv 7)) po_none)) (pv 5)))))))), ?_⟩
    refine ⟨by show 2 ≤ sizeLine; decide, fun t nt => ?_⟩
    refine ⟨t, _, rfl, SqT.of upd_same, rfl, _, _, rfl, _, _, rfl, rfl, ?_⟩
    have B0 := B.new (o := .tup [.str abc, .str ABC]) nt
    refine ⟨_, rfl, _, rfl, abc, ABC, rfl, rfl, by decide +kernel, _, _, rfl, rfl, by decide +kernel, _, _, rfl, rfl, by decide +kernel, ?_⟩
    refine ⟨_, rfl, .str SIG, rfl, by show 2 ≤ sizeLine; decide, fun p np => ?_⟩
    refine ⟨_, rfl, b, 2, rfl, B0.new np, by decide, by decide, fun r H1 hr2 B1 k1 _ => ?_⟩
    have pb : p ≠ b := by
      obtain ⟨o, e⟩ := B0.at_b
      exact (ne_of_none e np).symm
    have k01 : Keep b H H1 := ((Keep.new nt).trans (Keep.new np)).trans k1
    have hp1 := k1 p _ pb upd_same
    obtain ⟨pool, epool, pl, pp, pa⟩ : ∃ pool : Str, ([V.str abc, V.str SIG] : List V)[r]? = some (.str pool) ∧ pool.length ≤ 200 ∧ 0 < pool.length ∧ asc pool := by
      match r, hr2 with
      | 0, _ => exact ⟨abc, rfl, by rw [abc_len]; decide, by rw [abc_len]; decide, abc_asc⟩
      | 1, _ => exact ⟨SIG, rfl, sig_len.1, sig_len.2, sig_asc⟩
      | n + 2, h => exact absurd h (by omega)
    refine ⟨p, _, _, _, rfl, rfl, SqL.of hp1, atI_nat epool, ?_⟩
    refine ⟨_, _, rfl, ?_⟩
    refine ⟨_, rfl, b, 10, rfl, B1, by decide, by decide, fun n H2 hn B2 k2 _ => ?_⟩
    refine ⟨n, rfl, by omega, by omega, ?_⟩
    refine for_range (lo := 0) (n := ((n : Int)).toNat) (fun i σ H' => ∃ (z : Str) (y : Option V), σ = [some (.ref b), some (.str abc), some (.str ABC), some (.str SIG), some (.str pool), some (.str z), y, none] ∧ z.length = i ∧ asc z ∧ Bag H' b ∧ Keep b H H')
      ⟨"", none, rfl, by decide +kernel, asc_dec (by decide +kernel), B2, k01.trans k2⟩ ?_ ?_
    · rintro i σ H3 hi ⟨z, y, rfl, zl, za, B3, k3⟩
      refine ⟨_, rfl, _, rfl, _, rfl, _, rfl, pool, rfl, line300 (by omega), b, pool.length, rfl, B3, by omega, by omega, fun r4 H4 h4 B4 k4 _ => ?_⟩
      have hl : r4 < pool.cps.toList.length := by rw [len_list]; omega
      have ec := List.getElem?_eq_getElem hl
      refine ⟨pool, r4, _, rfl, rfl, line300 (by omega), atI_nat ec, _, _, rfl, rfl, ?_, ?_⟩
      · have : (⟨#[pool.cps.toList[r4]]⟩ : Str).length = 1 := rfl
        rw [this]
        exact line300 (by omega)
      · refine ⟨z ++ ⟨#[pool.cps.toList[r4]]⟩, _, rfl, ?_, asc_add za (asc_one pa ec), B4, k3.trans k4⟩
        rw [strLen_append, zl]
        rfl
    · rintro σ H3 ⟨z, y, rfl, zl, za, B3, k3⟩
      have zl9 : z.length ≤ 9 := by omega
      refine ⟨_, rfl, _, rfl, z, rfl, line300 (by omega), _, _, rfl, rfl, b, (z.length : Int) + 1, rfl, B3, by omega, by omega, fun a H4 ha B4 k4 _ => ?_⟩
      refine ⟨_, rfl, b, 3, rfl, B4, by decide, by decide, fun r H5 hr5 B5 k5 _ => ⟨rfl, _, rfl, ite2 (fun e => ?_) (fun e => ?_)⟩⟩
      · have c1 := cutS_length z none (some (a : Int))
        have c2 := cutS_length z (some (a : Int)) none
        refine ⟨_, rfl, _, rfl, _, rfl, z, rfl, line300 (by omega), ?_⟩
        refine ⟨_, rfl, _, rfl, _, rfl, SIG, rfl, line300 (by have := sig_len.1; omega), b, SIG.length, rfl, B5, by have := sig_len.2; omega, by have := sig_len.1; omega, fun r6 H6 h6 B6 k6 _ => ?_⟩
        have hl : r6 < SIG.cps.toList.length := by rw [len_list]; omega
        have ec := List.getElem?_eq_getElem hl
        have l1 : (⟨#[SIG.cps.toList[r6]]⟩ : Str).length = 1 := rfl
        refine ⟨SIG, r6, _, rfl, rfl, line300 (by have := sig_len.1; omega), atI_nat ec, _, _, rfl, rfl, line300 (by rw [l1]; omega), _, rfl, _, rfl, _, rfl, z, rfl, line300 (by omega), _, _, rfl, rfl, line300 (by rw [strLen_append, l1]; omega), ?_⟩
        refine q _ H6 ?_ (asc_add (asc_add (asc_cut za _ _) (asc_one sig_asc ec)) (asc_cut za _ _)) B6 (((k3.trans k4).trans k5).trans k6)
        rw [strLen_append, strLen_append, l1]
        have c3 := cut_two z a
        omega
      · exact ⟨_, rfl, q z H5 (by omega) za B5 ((k3.trans k4).trans k5)⟩
end
end Fv


set_option Elab.async false
set_option linter.all false
set_option maxRecDepth 100000
set_option maxHeartbeats 2000000
namespace Fv
open PySem PySem.Spec PyProof.Rows L2
abbrev sNames : Stmt := top 13
theorem nz26 : (26 : Int) ≠ 0 := by decide
def one (c : Nat) : Str := ⟨#[c]⟩
theorem join_ones : ∀ cs : List Nat, Str.join "" (cs.map one) = ⟨cs.toArray⟩
  | [] => by decide +kernel
  | [c] => rfl
  | c :: d :: r => by
    have ih := join_ones (d :: r)
    show one c ++ "" ++ Str.join "" ((d :: r).map one) = _
    rw [ih]
    have e : ∀ x y : Str, x.cps.toList = y.cps.toList → x = y := by
      rintro ⟨x⟩ ⟨y⟩ h
      have : x = y := by simpa using h
      rw [this]
    apply e
    rw [toList_add, toList_add]
    have e0 : ("" : Str).cps.toList = [] := by decide +kernel
    rw [e0]
    simp [one]
theorem sum_ones : ∀ cs : List Nat, ((cs.map one).map (·.length)).sum = cs.length
  | [] => rfl
  | c :: r => by
    rw [List.map_cons, List.map_cons, List.sum_cons, sum_ones r]
    show 1 + r.length = r.length + 1
    omega
theorem cut_map {α : Type} (f : α → V) (xs : List α) (lo hi : Option Int) : cutV (xs.map f) lo hi = ((xs.drop (HT.sIx xs.length 0 lo)).take (HT.sIx xs.length xs.length hi - HT.sIx xs.length 0 lo)).map f := by
  unfold cutV
  rw [List.length_map, ← List.map_drop, ← List.map_take]
theorem tops (WS : List Str) (t m : Nat) (hm : m ≤ WS.length) : ∃ zs : List Str, cutV (cutV (WS.map V.str) (some (t : Int)) none ++ cutV (WS.map V.str) none (some (t : Int))) none (some (m : Int)) = zs.map V.str ∧ zs.length = m ∧ ∀ z ∈ zs, z ∈ WS := by
  rw [cut_map, cut_map, ← List.map_append, cut_map]
  refine ⟨_, rfl, ?_, ?_⟩
  · simp only [HT.sIx_none, HT.sIx_nat, List.length_take, List.length_drop, List.length_append, List.drop_zero, Nat.sub_zero]
    omega
  · intro z hz
    have h1 := List.mem_of_mem_drop (List.mem_of_mem_take hz)
    rcases List.mem_append.mp h1 with q | q
    · exact List.mem_of_mem_drop (List.mem_of_mem_take q)
    · exact List.mem_of_mem_drop (List.mem_of_mem_take q)
def nameB (z : Str) : Bool := decide (z.length ≤ 100) && z.cps.toList.all fun c => decide (c < 128)
theorem names_of {WS : List Str} (h : (WS.all nameB) = true) : ∀ z ∈ WS, NameOk z := by
  intro z hz
  have := List.all_eq_true.mp h z hz
  unfold nameB at this
  simp only [Bool.and_eq_true, decide_eq_true_eq, List.all_eq_true] at this
  exact this
def spNames : Sp := fun vs H Q _ => ∃ (b : Addr) (m : Nat), vs = [.ref b, .int m] ∧ Bag H b ∧ 1 ≤ m ∧ m ≤ 20 ∧ ∀ (p : Addr) (zs : List Str) (H' : Hp), H' p = some (.lst (zs.map V.str)) → zs.length = m → p ≠ b → (∀ z ∈ zs, NameOk z) → Bag H' b → Keep b H H' → Q (.ref p) H'
section
variable {P : Program} {w : World} {K : PySem.W.Frag} {mg : Str → Option Value} {base : Heap}
abbrev nN : List Str := ["_law_bag_here", "_law_many", "_law_letters", "_law_words", "_law_style", "_law_turn", "_law_base", "_law_at", "_law_k"]
theorem scN : FnScope nN ["_law_bag_here", "_law_many"] (defScope sNames) := ⟨rfl, rfl, rfl, by decide +kernel, rfl, by decide +kernel, by decide +kernel⟩
theorem ok_names {f fT : Addr} {fd fdT : FuncData} (F : Fun K "_law_names" "_law_names" sNames f fd) (GT : FnOk P w K mg base CX0 1 fT fdT ["_law_bag_here", "_law_many"] spTake) (bT : Binds K fdT ["_law_bag_here", "_law_many"] []) (mT : mg "_law_take" = some (.ref fT)) (kT : PySem.W.keepIn K (.ref fT) = true)
    (mr : mg "range" = none) (ml : mg "len" = none) (mi : mg "int" = none) : FnOk P w K mg base CX0 3 f fd ["_law_bag_here", "_law_many"] spNames := by
  refine F.ok scN (fun vs H Q E h => ?_) (fun cdv A outer s H vs Q E hr h => ?_)
  · obtain ⟨b, m, rfl, _⟩ := h
    rfl
  · obtain ⟨b, m, rfl, B, m1, m2, q⟩ := h
    have hr1 : Room 1 _ := hr.mono (by decide)
    refine ⟨_, pss_cons (ps_set (i := 2) scN.nd rfl (.inr rfl) pe_str)
      (pss_cons (ps_set (i := 3) scN.nd rfl (.inl rfl) pe_str)
      (pss_cons (ps_set (i := 3) scN.nd rfl (.inl rfl) (pe_split (pe_op op_add_str (pv 3) pe_str) pe_str))
      (pss_cons (ps_asg (pe_tup (pa_cons (pe_call GT hr1 (by rfl) mT kT bT .nil pass0 (pa_cons (pv 0) (pa_cons pe_int pa_nil))) (pa_cons (pe_call GT hr1 (by rfl) mT kT bT .nil pass0 (pa_cons (pv 0) (pa_cons pe_int pa_nil))) pa_nil)))
          (pg_tup (by rfl) (pgs_cons (pg_name (i := 4) scN.nd rfl (.inl rfl)) (pgs_cons (pg_name (i := 5) scN.nd rfl (.inr rfl)) pgs_nil))))
      (pss_cons (ps_set (i := 6) scN.nd rfl (.inr rfl) (pe_join pe_str
          (pe_lc (own := [("_law_k", 8)]) (g := gName 8) (tt := tYes) rfl scN.nd (pi_range1 (by rfl) mr (pa_cons (pe_op op_add pe_int (pe_call GT hr1 (by rfl) mT kT bT .nil pass0 (pa_cons (pv 0) (pa_cons pe_int pa_nil)))) pa_nil)) (blkOk_by (N := nN) (sc := defScope sNames) (by decide +kernel))
            (fun _ _ _ _ _ => pg_name (i := 8) scN.nd rfl (Or.inl rfl)) (fun _ _ _ _ _ => pts_nil) (fun _ _ _ _ _ => pe_ix ix_str (pv 2) (pe_call GT hr1 (by rfl) mT kT bT .nil pass0 (pa_cons (pv 0) (pa_cons pe_int pa_nil))) (fun _ _ => rfl)))))
      (pss_cons (ps_set (i := 7) scN.nd rfl (.inr rfl) (pe_call GT hr1 (by rfl) mT kT bT .nil pass0 (pa_cons (pv 0) (pa_cons (pe_op op_add (pe_callB call_len_str (by rfl) ml PySem.boot_len (pa_cons (pv 6) pa_nil)) pe_int) pa_nil))))
      (pss_cons (ps_if (pt_cmpR op_eq (pv 4) pe_int (nomark _))
        (pss_one (ps_ret (pe_slice sl_list (pe_op op_cat (pe_slice sl_list (pv 3) (po_some (pv 5)) po_none) (pe_slice sl_list (pv 3) po_none (po_some (pv 5)))) po_none (po_some (pv 1))))) pss_nil)
      (pss_cons (ps_if (pt_cmpR op_eq (pv 4) pe_int (nomark _))
        (pss_one (ps_ret (pe_lc (own := [("_law_k", 8)]) (g := gName 8) (tt := tYes) rfl scN.nd (pi_range1 (by rfl) mr (pa_cons (pv 1) pa_nil)) (blkOk_by (N := nN) (sc := defScope sNames) (by decide +kernel))
            (fun _ _ _ _ _ => pg_name (i := 8) scN.nd rfl (Or.inl rfl)) (fun _ _ _ _ _ => pts_nil) (fun _ _ _ _ _ => pe_ix ix_str (pv 2) (pe_op op_modN (pe_callTy call_int1 (by rfl) mi (by decide +kernel) (pa_cons (pe_op op_add (pv 5) (pe_op op_mul pe_int (pv 8))) pa_nil)) pe_int) (fun _ _ => rfl))))) pss_nil)
      (pss_one (ps_ret (pe_lc (own := [("_law_k", 8)]) (g := gName 8) (tt := tYes) rfl scN.nd (pi_range1 (by rfl) mr (pa_cons (pv 1) pa_nil)) (blkOk_by (N := nN) (sc := defScope sNames) (by decide +kernel))
            (fun _ _ _ _ _ => pg_name (i := 8) scN.nd rfl (Or.inl rfl)) (fun _ _ _ _ _ => pts_nil) (fun _ _ _ _ _ => pe_op op_add_str (pe_op op_add_str (pe_slice sl_str (pv 6) po_none (po_some (pv 7))) (pe_ix ix_str (pv 2) (pe_op op_modN (pe_callTy call_int1 (by rfl) mi (by decide +kernel) (pa_cons (pe_op op_add (pv 5) (pe_op op_mul pe_int (pv 8))) pa_nil)) pe_int) (fun _ _ => rfl)))
              (pe_slice sl_str (pv 6) (po_some (pv 7)) po_none)))))))))))), ?_⟩
    refine asgC (asgC ?_)
    refine ⟨_, rfl, _, _, rfl, rfl, by decide +kernel, ⟨_, rfl⟩, _, _, rfl, rfl, by decide +kernel, by decide +kernel, fun pw npw => ?_⟩
    dsimp only
    generalize eW : Txt.split _ _ = WS
    have lW : WS.length = 25 := by
      rw [← eW]
      decide +kernel
    have nW : ∀ z ∈ WS, NameOk z := by
      rw [← eW]
      exact names_of (by decide +kernel)
    have B1 := B.new (o := .lst (WS.map V.str)) npw
    have pwb : pw ≠ b := by
      obtain ⟨o, e⟩ := B.at_b
      exact (ne_of_none e npw).symm
    refine ⟨_, rfl, b, 4, rfl, B1, by decide, by decide, fun st H2 h2 B2 k2 _ => ?_⟩
    refine ⟨_, rfl, b, 20, rfl, B2, by decide, by decide, fun tu H3 h3 B3 k3 _ => ?_⟩
    refine ⟨by show 2 ≤ sizeLine; decide, fun t nt => ⟨t, _, rfl, SqT.of upd_same, rfl, _, _, rfl, _, _, rfl, rfl, ?_⟩⟩
    have B4 := B3.new (o := .tup [.int st, .int tu]) nt
    have k04 : Keep b H (upd H3 t (.tup [.int st, .int tu])) := (((Keep.new npw).trans k2).trans k3).trans (Keep.new nt)
    have ew4 : (upd H3 t (.tup [.int st, .int tu])) pw = some (.lst (WS.map V.str)) := by
      have e := k3 _ _ pwb (k2 _ _ pwb upd_same)
      rw [upd_ne (ne_of_none e nt)]
      exact e
    refine ⟨⟨_, rfl⟩, _, rfl, b, 7, rfl, B4, by decide, by decide, fun n7 H5 h5 B5 k5 _ => ?_⟩
    have k05 := k04.trans k5
    have ew5 := k5 _ _ pwb ew4
    refine ⟨_, _, rfl, rfl, 1 + (n7 : Int), rfl, by omega, by omega, fun D hD => ?_⟩
    obtain ⟨c0, B5c⟩ := B5
    obtain ⟨B5n, Db, Dc⟩ := BagAt.new (o := .lst []) B5c hD
    have Dw : D ≠ pw := (ne_of_none ew5 hD).symm
    have free : ∀ a o, H a = some o → a ≠ b → a ≠ D := fun a o e n => ne_of_none (k05 a o n e) hD
    refine lc_range (lo := 0) (n := (1 + (n7 : Int)).toNat) (fun i H' => BagAt H' b c0 ∧ Keep b H H' ∧ H' pw = some (.lst (WS.map V.str)) ∧ ∃ cs : List Nat, cs.length = i ∧ (∀ c ∈ cs, c < 128) ∧ H' D = some (.lst ((cs.map one).map V.str)))
      ⟨B5n, k05.trans (Keep.new hD), by rw [upd_ne Dw.symm]; exact ew5, [], rfl, fun _ h => absurd h List.not_mem_nil, upd_same⟩ ?_ ?_
    · rintro i H' hi ⟨B', k', ew', cs, cl, ca, eD⟩
      refine ⟨rfl, _, rfl, _, rfl, b, 26, rfl, B'.bag, by decide, by decide, fun r H6 h6 B6 k6 g6 => ?_⟩
      have hl : r < abc.cps.toList.length := by rw [len_list, abc_len]; omega
      have ec := List.getElem?_eq_getElem hl
      refine ⟨abc, r, _, rfl, rfl, line300 (by rw [abc_len]; decide), atI_nat ec, _, k6 _ _ Db eD, ?_, (g6 _ B').put Db Dc, fun a o n e => ?_, ?_, cs ++ [abc.cps.toList[r]], by simp [cl], ?_, ?_⟩
      · rw [List.length_map, List.length_map]
        exact small1000 (by omega)
      · rw [upd_ne (free a o e n)]
        exact k6 a o n (k' a o n e)
      · rw [upd_ne Dw.symm]
        exact k6 _ _ pwb ew'
      · intro c hc
        rcases List.mem_append.mp hc with z | z
        · exact ca c z
        · rw [List.mem_singleton.mp z]
          exact abc_asc _ (List.getElem_mem hl)
      · rw [upd_same, List.map_append, List.map_append]
        rfl
    · rintro H6 ⟨B6, k6, ew6, cs, cl, ca, eD⟩
      have cl8 : cs.length ≤ 7 := by omega
      refine ⟨_, D, cs.map one, rfl, rfl, .inl (SqL.of eD), ?_, ?_⟩
      · rw [sum_ones, List.length_map]
        have e0 : ("" : Str).length = 0 := by decide +kernel
        rw [e0]
        omega
      rw [TL.join_eq, join_ones]
      obtain ⟨bs, ebs⟩ : ∃ bs : Str, bs = ⟨cs.toArray⟩ := ⟨_, rfl⟩
      have bl : bs.length = cs.length := by rw [ebs]; simp [Str.length]
      have ba : asc bs := by
        rw [ebs]
        intro c hc
        exact ca c (by simpa using hc)
      rw [← ebs]
      refine ⟨_, rfl, _, rfl, bs, rfl, line300 (by omega), _, _, rfl, rfl, b, (bs.length : Int) + 1, rfl, B6.bag, by omega, by omega, fun at_ H7 h7 B7 k7 g7 => ?_⟩
      have k07 := k6.trans k7
      have ew7 := k7 _ _ pwb ew6
      have B7c := g7 _ B6
      refine ⟨_, rfl, rfl, _, rfl, ite2 (fun e => ?_) (fun e => ?_)⟩
      · refine ⟨_, rfl, _, rfl, _, rfl, pw, _, rfl, SqL.of ew7, fun x1 n1 => ?_⟩
        have x1w : pw ≠ x1 := ne_of_none ew7 n1
        refine ⟨_, rfl, _, rfl, _, rfl, pw, _, rfl, SqL.of (by rw [upd_ne x1w]; exact ew7), fun x2 n2 => ?_⟩
        have x12 : x1 ≠ x2 := ne_of_none upd_same n2
        refine ⟨x1, x2, _, _, rfl, rfl, by rw [upd_ne x12]; exact upd_same, upd_same, ?_, fun x3 n3 => ?_⟩
        · rw [cut_map, cut_map, List.length_map, List.length_map, List.length_take, List.length_take, List.length_drop, List.length_drop]
          simp only [HT.sIx_none, HT.sIx_nat]
          exact line300 (by omega)
        refine ⟨_, rfl, _, rfl, x3, _, rfl, SqL.of upd_same, fun x4 n4 => ?_⟩
        obtain ⟨zs, ez, zl, zm⟩ := tops WS tu m (by omega)
        rw [ez]
        have K3 := (((Keep.new (b := b) (o := .lst (cutV (WS.map V.str) (some (tu : Int)) none)) n1).trans (Keep.new n2)).trans (Keep.new n3)).trans (Keep.new (o := .lst (zs.map V.str)) n4)
        obtain ⟨C1, _⟩ := B7c.new n1
        obtain ⟨C2, _⟩ := C1.new n2
        obtain ⟨C3, _⟩ := C2.new n3
        obtain ⟨C4, y1, _⟩ := C3.new (o := .lst (zs.map V.str)) n4
        exact q x4 zs _ upd_same zl y1 (fun z h => nW z (zm z h)) C4.bag (k07.trans K3)
      · refine ⟨_, rfl, rfl, _, rfl, ite2 (fun e => ?_) (fun e => ?_)⟩
        · refine ⟨_, rfl, _, rfl, by omega, by omega, fun G hG => ?_⟩
          obtain ⟨C7, Gb, Gc⟩ := BagAt.new (o := .lst []) B7c hG
          have free2 : ∀ a o, H a = some o → a ≠ b → a ≠ G := fun a o e n => ne_of_none (k07 a o n e) hG
          refine lc_range (lo := 0) (n := ((m : Int)).toNat) (fun i H' => BagAt H' b c0 ∧ Keep b H H' ∧ ∃ zs : List Str, zs.length = i ∧ (∀ z ∈ zs, NameOk z) ∧ H' G = some (.lst (zs.map V.str)))
            ⟨C7, k07.trans (Keep.new hG), [], rfl, fun _ h => absurd h List.not_mem_nil, upd_same⟩ ?_ ?_
          · rintro i H' hi ⟨B', k', zs, zl, zo, eG⟩
            obtain ⟨r, er, r1⟩ := modN (a := (tu : Int) + 3 * (0 + (i : Int))) (m := 26) (by omega) (by decide)
            have hl : r < abc.cps.toList.length := by rw [len_list, abc_len]; omega
            have ec := List.getElem?_eq_getElem hl
            refine ⟨rfl, _, rfl, _, rfl, _, rfl, _, _, rfl, rfl, .inl ⟨by decide, by decide⟩, _, _, rfl, rfl, .inl ⟨_, rfl, _, _, rfl, rfl, nz26, abc, _, _, rfl, rfl, line300 (by rw [abc_len]; decide), by rw [er]; exact atI_nat ec, ?_⟩⟩
            refine ⟨_, eG, ?_, B'.put Gb Gc, fun a o n e => ?_, zs ++ [one (abc.cps.toList[r])], by simp [zl], ?_, ?_⟩
            · rw [List.length_map]
              exact small1000 (by omega)
            · rw [upd_ne (free2 a o e n)]
              exact k' a o n e
            · intro z hz
              rcases List.mem_append.mp hz with y | y
              · exact zo z y
              · rw [List.mem_singleton.mp y]
                exact ⟨by show 1 ≤ 100; decide, asc_one abc_asc ec⟩
            · rw [upd_same, List.map_append]
              rfl
          · rintro H8 ⟨B8, k8, zs, zl, zo, eG⟩
            exact q G zs H8 eG (by omega) Gb zo B8.bag k8
        · refine ⟨_, rfl, _, rfl, by omega, by omega, fun G hG => ?_⟩
          obtain ⟨C7, Gb, Gc⟩ := BagAt.new (o := .lst []) B7c hG
          have free2 : ∀ a o, H a = some o → a ≠ b → a ≠ G := fun a o e n => ne_of_none (k07 a o n e) hG
          refine lc_range (lo := 0) (n := ((m : Int)).toNat) (fun i H' => BagAt H' b c0 ∧ Keep b H H' ∧ ∃ zs : List Str, zs.length = i ∧ (∀ z ∈ zs, NameOk z) ∧ H' G = some (.lst (zs.map V.str)))
            ⟨C7, k07.trans (Keep.new hG), [], rfl, fun _ h => absurd h List.not_mem_nil, upd_same⟩ ?_ ?_
          · rintro i H' hi ⟨B', k', zs, zl, zo, eG⟩
            obtain ⟨r, er, r1⟩ := modN (a := (tu : Int) + 3 * (0 + (i : Int))) (m := 26) (by omega) (by decide)
            have hl : r < abc.cps.toList.length := by rw [len_list, abc_len]; omega
            have ec := List.getElem?_eq_getElem hl
            have l1 : (⟨#[abc.cps.toList[r]]⟩ : Str).length = 1 := rfl
            have c1 := cutS_length bs none (some (at_ : Int))
            have c2 := cutS_length bs (some (at_ : Int)) none
            refine ⟨rfl, _, rfl, _, rfl, _, rfl, bs, rfl, line300 (by omega), ?_⟩
            refine ⟨_, rfl, _, rfl, _, rfl, _, _, rfl, rfl, .inl ⟨by decide, by decide⟩, _, _, rfl, rfl, .inl ⟨_, rfl, _, _, rfl, rfl, nz26, abc, _, _, rfl, rfl, line300 (by rw [abc_len]; decide), by rw [er]; exact atI_nat ec, ?_⟩⟩
            refine ⟨_, _, rfl, rfl, line300 (by rw [l1]; omega), _, rfl, _, rfl, _, rfl, bs, rfl, line300 (by omega), _, _, rfl, rfl, line300 (by rw [strLen_append, l1]; omega), ?_⟩
            refine ⟨_, eG, ?_, B'.put Gb Gc, fun a o n e => ?_, zs ++ [cutS bs none (some (at_ : Int)) ++ ⟨#[abc.cps.toList[r]]⟩ ++ cutS bs (some (at_ : Int)) none], by simp [zl], ?_, ?_⟩
            · rw [List.length_map]
              exact small1000 (by omega)
            · rw [upd_ne (free2 a o e n)]
              exact k' a o n e
            · intro z hz
              rcases List.mem_append.mp hz with y | y
              · exact zo z y
              · rw [List.mem_singleton.mp y]
                exact ⟨by rw [strLen_append, strLen_append, l1]; omega, asc_add (asc_add (asc_cut ba _ _) (asc_one abc_asc ec)) (asc_cut ba _ _)⟩
            · rw [upd_same, List.map_append]
              rfl
          · rintro H8 ⟨B8, k8, zs, zl, zo, eG⟩
            exact q G zs H8 eG (by omega) Gb zo B8.bag k8
end
end Fv


set_option Elab.async false
set_option linter.all false
set_option maxRecDepth 100000
set_option maxHeartbeats 2000000
namespace Fv
open PySem PySem.Spec PyProof.Rows L2
abbrev sLaw : Stmt := top 18
def spLaw (K : PySem.W.Frag) : Sp := fun vs H Q _ => ∃ (a : Addr) (ns : List Int), vs = [.ref a] ∧ SqL K H a (ns.map V.int) ∧ ns.length ≤ 63 ∧ ∀ H', Q (.bl true) H'
theorem Keep.dq {b : Addr} {H H' : Hp} {v : V} {d : PyData} (k : Keep b H H') (h : Dq H b v d) : Dq H' b v d := h.mono k
theorem okS.of20 {z : Str} (h : z.length ≤ 20) (a : asc z) : okS z := ⟨by omega, a⟩
theorem bool_flat : ∀ x : Bool, SeqAt.shaped (.bool x) = true ∧ (PyData.bool x).showable = true ∧ (PyData.bool x).shown.length ≤ 100000 ∧ (PyData.bool x).depth ≤ 10 := by
  intro x
  cases x <;> exact ⟨by decide +kernel, by decide +kernel, by decide +kernel, by decide +kernel⟩
theorem kinds_str {r : Nat} (h : r < 3) : ∃ z : Str, kinds[r]? = some (.str z) := by
  match r, h with
  | 0, _ => exact ⟨_, rfl⟩
  | 1, _ => exact ⟨_, rfl⟩
  | 2, _ => exact ⟨_, rfl⟩
section
variable {P : Program} {w : World} {K : PySem.W.Frag} {mg : Str → Option Value} {base : Heap}
theorem scLw : FnScope ["_law_script", "_law_bag_here", "_law_kinds", "_law_turn", "_law_name", "_law_thing", "_law_looked", "_law_part", "_law_kind"] ["_law_script"] (defScope sLaw) := ⟨rfl, rfl, rfl, by decide +kernel, rfl, by decide +kernel, by decide +kernel⟩
theorem ok_law {f fB fT fN fO fX fR fF fA : Addr} {fd fdB fdT fdN fdO fdX fdR fdF fdA : FuncData} (F : Fun K "law" "law" sLaw f fd)
    (GB : FnOk P w K mg base CX0 1 fB fdB ["_law_script"] (spBag K)) (bB : Binds K fdB ["_law_script"] []) (mB : mg "_law_bag" = some (.ref fB)) (kB : PySem.W.keepIn K (.ref fB) = true)
    (GT : FnOk P w K mg base CX0 1 fT fdT ["_law_bag_here", "_law_many"] spTake) (bT : Binds K fdT ["_law_bag_here", "_law_many"] []) (mT : mg "_law_take" = some (.ref fT)) (kT : PySem.W.keepIn K (.ref fT) = true)
    (GN : FnOk P w K mg base CX0 3 fN fdN ["_law_bag_here", "_law_many"] spNames) (bN : Binds K fdN ["_law_bag_here", "_law_many"] []) (mN : mg "_law_names" = some (.ref fN)) (kN : PySem.W.keepIn K (.ref fN) = true)
    (GO : FnOk P w K mg base CX0 2 fO fdO ["_law_bag_here", "_law_name"] spOdd) (bO : Binds K fdO ["_law_bag_here", "_law_name"] []) (mO : mg "_law_odd" = some (.ref fO)) (kO : PySem.W.keepIn K (.ref fO) = true)
    (GX : FnOk P w K mg base CX0 2 fX fdX ["_law_bag_here"] spText) (bX : Binds K fdX ["_law_bag_here"] []) (mX : mg "_law_text" = some (.ref fX)) (kX : PySem.W.keepIn K (.ref fX) = true)
    (GR : FnG P w K mg base 3 fR fdR ["_law_thing"] spRight) (bR : BindG fdR ["_law_thing"]) (mR : mg "_law_right" = some (.ref fR)) (kR : PySem.W.keepIn K (.ref fR) = true)
    (GF : FnOk P w K mg base CX0 1 fF fdF ["part", "kind"] spFits) (bF : Binds K fdF ["part", "kind"] []) (mF : mg "fits" = some (.ref fF)) (kF : PySem.W.keepIn K (.ref fF) = true)
    (GA : FnG P w K mg base 1 fA fdA ["_law_found", "_law_due"] spAlike) (bA : BindG fdA ["_law_found", "_law_due"]) (mA : mg "_law_alike" = some (.ref fA)) (kA : PySem.W.keepIn K (.ref fA) = true)
    (mr : mg "range" = none) (mp : mg "repr" = none) : FnG P w K mg base 4 f fd ["_law_script"] (spLaw K) := by
  refine okG F scLw (fun vs H Q E h => ?_) (fun cdv A outer s H vs Q E hg hr h => ?_)
  · obtain ⟨a, ns, rfl, _⟩ := h
    rfl
  · obtain ⟨a, ns, rfl, hS, hlen, q⟩ := h
    have hr1 : Room 1 _ := hr.mono (by decide)
    have hr2 : Room 2 _ := hr.mono (by decide)
    refine ⟨_, pss_cons (ps_set (i := 1) scLw.nd rfl (.inl rfl) (pe_call GB hr1 (by rfl) mB kB bB .nil pass0 (pa_cons (pv 0) pa_nil)))
      (pss_cons (ps_set (i := 2) scLw.nd rfl (.inl rfl) (pe_lst (pa_cons pe_str (pa_cons pe_str (pa_cons pe_str pa_nil)))))
      (pss_cons (ps_for PassesOwn.never rfl (pi_range1 (by rfl) mr (pa_cons pe_int pa_nil)) (pg_name (i := 3) scLw.nd rfl (.inl rfl))
        (pss_cons (ps_set (i := 4) scLw.nd rfl (.inl rfl) (pe_ix ix_list (pe_call GN hr (by rfl) mN kN bN .nil pass0 (pa_cons (pv 1) (pa_cons pe_int pa_nil))) pe_int (fun _ _ => rfl)))
        (pss_cons (ps_set (i := 5) scLw.nd rfl (.inl rfl) (pe_ix ix_list (pe_lst (pa_cons (pe_call GO hr2 (by rfl) mO kO bO .nil pass0 (pa_cons (pv 1) (pa_cons (pv 4) pa_nil))) (pa_cons (pe_call GX hr2 (by rfl) mX kX bX .nil pass0 (pa_cons (pv 1) pa_nil))
            (pa_cons (pe_slice sl_str (pe_call GX hr2 (by rfl) mX kX bX .nil pass0 (pa_cons (pv 1) pa_nil)) po_none (po_some pe_int)) (pa_cons (pv 4) pa_nil))))) (pe_call GT hr1 (by rfl) mT kT bT .nil pass0 (pa_cons (pv 1) (pa_cons pe_int pa_nil))) (fun _ _ => rfl)))
        (pss_cons (ps_set (i := 6) scLw.nd rfl (.inl rfl) (pe_callB (call_reprD hg hr.units) (by rfl) mp (by decide +kernel) (pa_cons (pv 5) pa_nil)))
        (pss_cons (ps_if (PW.pt (pw_or (pt_not (pt_val (pe_callG GR hg hr (by rfl) mR kR bR (pa_cons (pv 5) pa_nil)))) (pw_or (pt_not (pt_val (pe_callG GR hg hr (by rfl) mR kR bR (pa_cons (pe_lstB (pa_cons (pv 5) pa_nil)) pa_nil))))
            (pw_or (pt_not (pt_val (pe_callG GR hg hr (by rfl) mR kR bR (pa_cons (pv 5) pa_nil)))) (pw_or1 (pt_cmpR op_ne (pe_callB (call_reprD hg hr.units) (by rfl) mp (by decide +kernel) (pa_cons (pv 5) pa_nil)) (pv 6) (nomark _)))))))
            (pss_one (ps_ret pe_bl)) pss_nil)
        (pss_cons (ps_par (i := 7) (j := 8) rfl scLw.nd rfl rfl (by decide) rfl rfl (pa_cons (pe_ix ix_list (pv 2) (pe_call GT hr1 (by rfl) mT kT bT .nil pass0 (pa_cons (pv 1) (pa_cons pe_int pa_nil))) (fun _ _ => rfl)) (pa_cons (pe_ix ix_list (pv 2) (pe_call GT hr1 (by rfl) mT kT bT .nil pass0 (pa_cons (pv 1) (pa_cons pe_int pa_nil))) (fun _ _ => rfl)) pa_nil)) (by rfl))
        (pss_one (ps_if (pt_not (pt_val (pe_callG GA hg hr1 (by rfl) mA kA bA (pa_cons (pe_call GF hr1 (by rfl) mF kF bF .nil pass0 (pa_cons (pv 7) (pa_cons (pv 8) pa_nil)))
            (pa_cons (pe_or (pe_cmpR op_eq (pv 7) pe_str (nomark _)) (pe_one (pe_cmpR op_eq (pv 7) (pv 8) (nomark _)))) pa_nil))))) (pss_one (ps_ret pe_bl)) pss_nil))))))))
      (pss_one (ps_ret pe_bl)))), ?_⟩
    refine ⟨_, rfl, a, ns, rfl, hS, hlen, fun b H1 B1 s1 => ?_⟩
    refine ⟨by show 3 ≤ sizeLine; decide, fun pk nk => ?_⟩
    refine ⟨40, rfl, by decide, by decide, ?_⟩
    have B2 := B1.new (o := .lst kinds) nk
    have pkb : pk ≠ b := by
      obtain ⟨o, e⟩ := B1.at_b
      exact (ne_of_none e nk).symm
    refine for_range (lo := 0) (n := (40 : Int).toNat) (fun i σ H' => ∃ y3 y4 y5 y6 y7 y8 : Option V, σ = [some (.ref a), some (.ref b), some (.ref pk), y3, y4, y5, y6, y7, y8] ∧ Bag H' b ∧ H' pk = some (.lst kinds))
      ⟨none, none, none, none, none, none, rfl, B2, upd_same⟩ ?_ ?_
    · rintro i σ H3 hi ⟨y3, y4, y5, y6, y7, y8, rfl, B3, ek3⟩
      refine ⟨_, rfl, b, 1, rfl, B3, by decide, by decide, fun p zs H4 ep zl pb zo B4 k4 => ?_⟩
      obtain ⟨nm, rfl⟩ : ∃ nm, zs = [nm] := by
        match zs, zl with
        | [nm], _ => exact ⟨nm, rfl⟩
      have hnm : NameOk nm := zo nm List.mem_cons_self
      refine ⟨p, _, _, .str nm, rfl, rfl, SqL.of ep, atI_nat (j := 0) rfl, ?_⟩
      refine ⟨_, rfl, _, rfl, b, nm, rfl, B4, hnm, fun v d H5 hd nice B5 k5 => ?_⟩
      refine ⟨_, rfl, b, rfl, B5, fun t1 H6 l1 a1 B6 k6 => ?_⟩
      refine ⟨_, rfl, b, rfl, B6, fun t2 H7 l2 a2 B7 k7 => ?_⟩
      refine ⟨_, rfl, t2, rfl, line300 (by omega), ?_⟩
      refine ⟨_, rfl, by show 4 ≤ sizeLine; decide, fun p4 n4 => ?_⟩
      have B8 := B7.new (o := .lst [v, .str t1, .str (cutS t2 none (some 2)), .str nm]) n4
      have p4b : p4 ≠ b := by
        obtain ⟨o, e⟩ := B7.at_b
        exact (ne_of_none e n4).symm
      refine ⟨_, rfl, b, 4, rfl, B8, by decide, by decide, fun r H9 hr9 B9 k9 _ => ?_⟩
      have k59 : Keep b H5 H9 := ((k6.trans k7).trans (Keep.new n4)).trans k9
      have ek9 : H9 pk = some (.lst kinds) := k59 _ _ pkb (k5 _ _ pkb (k4 _ _ pkb ek3))
      have c2 := cutS_length t2 none (some 2)
      obtain ⟨x, dx, ex, hx, nx⟩ : ∃ (x : V) (dx : PyData), ([v, .str t1, .str (cutS t2 none (some 2)), .str nm] : List V)[r]? = some x ∧ Dq H9 b x dx ∧ Nice dx := by
        have : r < 4 := by omega
        match r, this with
        | 0, _ => exact ⟨v, d, rfl, k59.dq hd, nice⟩
        | 1, _ => exact ⟨_, _, rfl, .str _, nice_str (okS.of20 l1 a1)⟩
        | 2, _ => exact ⟨_, _, rfl, .str _, nice_str (okS.of20 (by omega) (asc_cut a2 _ _))⟩
        | 3, _ => exact ⟨_, _, rfl, .str _, nice_str hnm.ok⟩
      refine ⟨p4, _, r, x, rfl, rfl, SqL.of (k9 _ _ p4b upd_same), atI_nat ex, ?_⟩
      obtain ⟨fine, short⟩ := nx
      refine ⟨_, rfl, b, x, dx, rfl, hx, fine.show_, fine.line, fine.low, ?_⟩
      obtain ⟨ob, hb⟩ := B9.at_b
      refine ⟨_, rfl, b, x, dx, ob, rfl, hb, hx, short, fun H10 s10 => ⟨_, rfl, iteF ?_⟩⟩
      have hx10 := (Keep.same (p := b) s10).dq hx
      refine ⟨_, rfl, by show 1 ≤ sizeLine; decide, fun q1 m1 w1 => ?_⟩
      have q1b : q1 ≠ b := (ne_of_none (s10 _ _ hb) m1).symm
      have s11 : Same H10 (upd H10 q1 (.lst [x])) := same_upd m1
      have hx11 := (Keep.same (p := b) s11).dq hx10
      refine ⟨b, .ref q1, .list [dx], ob, rfl, s11 _ _ (s10 _ _ hb), .lst upd_same q1b w1 (.cons hx11 .nil), True.intro, fun H12 s12 => ⟨_, rfl, iteF ?_⟩⟩
      have hx12 := (Keep.same (p := b) s12).dq hx11
      refine ⟨_, rfl, b, x, dx, ob, rfl, s12 _ _ (s11 _ _ (s10 _ _ hb)), hx12, short, fun H13 s13 => ⟨_, rfl, iteF ?_⟩⟩
      have hx13 := (Keep.same (p := b) s13).dq hx12
      have s9 : Same H9 H13 := ((s10.trans s11).trans s12).trans s13
      refine ⟨_, rfl, b, x, dx, rfl, hx13, fine.show_, fine.line, fine.low, _, rfl, rfl, _, rfl, ?_⟩
      have en : (!decide (V.str dx.shown = V.str dx.shown)) = false := by rw [decide_eq_true rfl]; rfl
      rw [en]
      refine iteF ?_
      have B13 := B9.same s9
      have ek13 := s9 _ _ ek9
      refine ⟨_, rfl, _, rfl, b, 3, rfl, B13, by decide, by decide, fun r1 H14 h14 B14 k14 _ => ?_⟩
      obtain ⟨z1, e1⟩ := kinds_str (r := r1) (by omega)
      have ek14 := k14 _ _ pkb ek13
      refine ⟨pk, kinds, r1, _, rfl, rfl, SqL.of ek14, atI_nat e1, ?_⟩
      refine ⟨_, rfl, _, rfl, b, 3, rfl, B14, by decide, by decide, fun r2 H15 h15 B15 k15 _ => ?_⟩
      obtain ⟨z2, e2⟩ := kinds_str (r := r2) (by omega)
      have ek15 := k15 _ _ pkb ek14
      refine ⟨pk, kinds, r2, _, rfl, rfl, SqL.of ek15, atI_nat e2, ?_⟩
      refine ⟨_, _, rfl, ?_⟩
      refine ⟨_, rfl, _, rfl, z1, z2, rfl, ?_⟩
      obtain ⟨f1, f2, f3, f4⟩ := bool_flat (fitS z1 z2)
      have fl : Flat (.bool (fitS z1 z2)) := { show_ := f2, len := f3, deep := f4, shape := f1 }
      have ef : fitS z1 z2 = (decide (V.str z1 = V.str "plain") || decide (V.str z1 = V.str z2)) := rfl
      refine ⟨_, rfl, rfl, _, rfl, ?_⟩
      cases h0 : decide (V.str z1 = V.str "plain") with
      | true =>
        rw [h0, Bool.true_or] at ef
        refine iteT ⟨b, _, _, .bool (fitS z1 z2), rfl, .bl _, by rw [ef]; exact .bl _, fl, _, rfl, iteF ?_⟩
        exact ⟨_, _, _, _, _, _, rfl, B15, ek15⟩
      | false =>
        rw [h0, Bool.false_or] at ef
        refine iteF ⟨_, rfl, _, rfl, rfl, b, _, _, .bool (fitS z1 z2), rfl, .bl _, ?_, fl, _, rfl, iteF ?_⟩
        · rw [← ef]
          exact .bl _
        · exact ⟨_, _, _, _, _, _, rfl, B15, ek15⟩
    · rintro σ H3 ⟨y3, y4, y5, y6, y7, y8, rfl, B3, ek3⟩
      exact q H3
end
end Fv


set_option Elab.async false
set_option linter.all false
set_option maxRecDepth 100000
set_option maxHeartbeats 4000000
namespace Fv
open PySem PySem.Spec PyProof.Rows L2
theorem kinds_at {K : PySem.W.Frag} {a : Addr} {o : Obj} (h : K.lookup a = some o) (hc : o.cls = .type "tuple") (hd : ∃ (t u v : Tok) (n : Nat), o.data = .seq #[.str "plain" t, .str "high" u, .str "low" v] n) : ∀ H, SqT K H a kinds := by
  intro H
  obtain ⟨t, u, v, n, hd⟩ := hd
  exact .inr ⟨o, _, n, h, hc, hd, by show 3 ≤ sizeLine; decide, .cons ⟨_, rfl⟩ (.cons ⟨_, rfl⟩ (.cons ⟨_, rfl⟩ .nil))⟩
theorem all_mk {l : PySem.W.OpenLaw} {w : World} {K : PySem.W.Frag} {h : Heap} {mg : Str → Option Value} {fa aK : Addr} (X : K.In h) (G : h.Ns mainGlobals mg) (hfa : mg "law" = some (.ref fa))
    {f0 f1 f2 f3 f4 f5 f6 f7 f8 f9 f10 f11 f12 f13 : Addr} {od0 an0 od1 an1 od2 an2 od3 an3 od4 an4 od5 an5 od6 an6 od7 an7 od8 an8 od9 an9 od10 an10 od11 an11 od12 an12 od13 an13 : Option Addr} {sl0 sl1 sl2 sl3 sl4 sl5 sl6 sl7 sl8 sl9 sl10 sl11 sl12 sl13 : Array (Option Value)} {oc0 kV0 dc0 pm0 cd0 ct0 oc1 kV1 dc1 pm1 cd1 ct1 oc2 kV2 dc2 pm2 cd2 ct2 oc3 kV3 dc3 pm3 cd3 ct3 oc4 kV4 dc4 pm4 cd4 ct4 oc5 kV5 dc5 pm5 cd5 ct5 oc6 kV6 dc6 pm6 cd6 ct6 oc7 kV7 dc7 pm7 cd7 ct7 oc8 kV8 dc8 pm8 cd8 ct8 oc9 kV9 dc9 pm9 cd9 ct9 oc10 kV10 dc10 pm10 cd10 ct10 oc11 kV11 dc11 pm11 cd11 ct11 oc12 kV12 dc12 pm12 cd12 ct12 oc13 kV13 dc13 pm13 cd13 ct13 : Value}
    (a0 : PySem.W.nsIn K mainGlobals "is_integer" = some (some (.ref f0))) (l0 : K.lookup f0 = some ⟨oc0, od0, .func (PySem.W.fnOf "is_integer" "is_integer" (defArgs sIsInt) (defBody sIsInt) (defScope sIsInt) .none kV0 dc0 pm0 an0 cd0 ct0), sl0⟩) (c0 : PySem.W.codeIn K cd0 "is_integer" = true) (k0 : PySem.W.keepIn K (.ref f0) = true)
    (a1 : PySem.W.nsIn K mainGlobals "is_name" = some (some (.ref f1))) (l1 : K.lookup f1 = some ⟨oc1, od1, .func (PySem.W.fnOf "is_name" "is_name" (defArgs sIsName) (defBody sIsName) (defScope sIsName) .none kV1 dc1 pm1 an1 cd1 ct1), sl1⟩) (c1 : PySem.W.codeIn K cd1 "is_name" = true) (k1 : PySem.W.keepIn K (.ref f1) = true)
    (a2 : PySem.W.nsIn K mainGlobals "is_source" = some (some (.ref f2))) (l2 : K.lookup f2 = some ⟨oc2, od2, .func (PySem.W.fnOf "is_source" "is_source" (defArgs sIsSource) (defBody sIsSource) (defScope sIsSource) .none kV2 dc2 pm2 an2 cd2 ct2), sl2⟩) (c2 : PySem.W.codeIn K cd2 "is_source" = true) (k2 : PySem.W.keepIn K (.ref f2) = true)
    (a3 : PySem.W.nsIn K mainGlobals "is_kind" = some (some (.ref f3))) (l3 : K.lookup f3 = some ⟨oc3, od3, .func (PySem.W.fnOf "is_kind" "is_kind" (defArgs sIsKind) (defBody sIsKind) (defScope sIsKind) .none kV3 dc3 pm3 an3 cd3 ct3), sl3⟩) (c3 : PySem.W.codeIn K cd3 "is_kind" = true) (k3 : PySem.W.keepIn K (.ref f3) = true)
    (a4 : PySem.W.nsIn K mainGlobals "fits" = some (some (.ref f4))) (l4 : K.lookup f4 = some ⟨oc4, od4, .func (PySem.W.fnOf "fits" "fits" (defArgs sFits) (defBody sFits) (defScope sFits) .none kV4 dc4 pm4 an4 cd4 ct4), sl4⟩) (c4 : PySem.W.codeIn K cd4 "fits" = true) (k4 : PySem.W.keepIn K (.ref f4) = true)
    (a5 : PySem.W.nsIn K mainGlobals "_law_bag" = some (some (.ref f5))) (l5 : K.lookup f5 = some ⟨oc5, od5, .func (PySem.W.fnOf "_law_bag" "_law_bag" (defArgs sBag) (defBody sBag) (defScope sBag) .none kV5 dc5 pm5 an5 cd5 ct5), sl5⟩) (c5 : PySem.W.codeIn K cd5 "_law_bag" = true) (k5 : PySem.W.keepIn K (.ref f5) = true)
    (a6 : PySem.W.nsIn K mainGlobals "_law_take" = some (some (.ref f6))) (l6 : K.lookup f6 = some ⟨oc6, od6, .func (PySem.W.fnOf "_law_take" "_law_take" (defArgs sTake) (defBody sTake) (defScope sTake) .none kV6 dc6 pm6 an6 cd6 ct6), sl6⟩) (c6 : PySem.W.codeIn K cd6 "_law_take" = true) (k6 : PySem.W.keepIn K (.ref f6) = true)
    (a7 : PySem.W.nsIn K mainGlobals "_law_alike" = some (some (.ref f7))) (l7 : K.lookup f7 = some ⟨oc7, od7, .func (PySem.W.fnOf "_law_alike" "_law_alike" (defArgs sAlike) (defBody sAlike) (defScope sAlike) .none kV7 dc7 pm7 an7 cd7 ct7), sl7⟩) (c7 : PySem.W.codeIn K cd7 "_law_alike" = true) (k7 : PySem.W.keepIn K (.ref f7) = true)
    (a8 : PySem.W.nsIn K mainGlobals "_law_names" = some (some (.ref f8))) (l8 : K.lookup f8 = some ⟨oc8, od8, .func (PySem.W.fnOf "_law_names" "_law_names" (defArgs sNames) (defBody sNames) (defScope sNames) .none kV8 dc8 pm8 an8 cd8 ct8), sl8⟩) (c8 : PySem.W.codeIn K cd8 "_law_names" = true) (k8 : PySem.W.keepIn K (.ref f8) = true)
    (a9 : PySem.W.nsIn K mainGlobals "_law_odd" = some (some (.ref f9))) (l9 : K.lookup f9 = some ⟨oc9, od9, .func (PySem.W.fnOf "_law_odd" "_law_odd" (defArgs sOdd) (defBody sOdd) (defScope sOdd) .none kV9 dc9 pm9 an9 cd9 ct9), sl9⟩) (c9 : PySem.W.codeIn K cd9 "_law_odd" = true) (k9 : PySem.W.keepIn K (.ref f9) = true)
    (a10 : PySem.W.nsIn K mainGlobals "_law_is_name" = some (some (.ref f10))) (l10 : K.lookup f10 = some ⟨oc10, od10, .func (PySem.W.fnOf "_law_is_name" "_law_is_name" (defArgs sLawName) (defBody sLawName) (defScope sLawName) .none kV10 dc10 pm10 an10 cd10 ct10), sl10⟩) (c10 : PySem.W.codeIn K cd10 "_law_is_name" = true) (k10 : PySem.W.keepIn K (.ref f10) = true)
    (a11 : PySem.W.nsIn K mainGlobals "_law_text" = some (some (.ref f11))) (l11 : K.lookup f11 = some ⟨oc11, od11, .func (PySem.W.fnOf "_law_text" "_law_text" (defArgs sText) (defBody sText) (defScope sText) .none kV11 dc11 pm11 an11 cd11 ct11), sl11⟩) (c11 : PySem.W.codeIn K cd11 "_law_text" = true) (k11 : PySem.W.keepIn K (.ref f11) = true)
    (a12 : PySem.W.nsIn K mainGlobals "_law_right" = some (some (.ref f12))) (l12 : K.lookup f12 = some ⟨oc12, od12, .func (PySem.W.fnOf "_law_right" "_law_right" (defArgs sRight) (defBody sRight) (defScope sRight) .none kV12 dc12 pm12 an12 cd12 ct12), sl12⟩) (c12 : PySem.W.codeIn K cd12 "_law_right" = true) (k12 : PySem.W.keepIn K (.ref f12) = true)
    (a13 : PySem.W.nsIn K mainGlobals "law" = some (some (.ref f13))) (l13 : K.lookup f13 = some ⟨oc13, od13, .func (PySem.W.fnOf "law" "law" (defArgs sLaw) (defBody sLaw) (defScope sLaw) .none kV13 dc13 pm13 an13 cd13 ct13), sl13⟩) (c13 : PySem.W.codeIn K cd13 "law" = true) (k13 : PySem.W.keepIn K (.ref f13) = true)
    (z0 : PySem.W.nsIn K mainGlobals "abs" = some none)
    (z1 : PySem.W.nsIn K mainGlobals "int" = some none)
    (z2 : PySem.W.nsIn K mainGlobals "len" = some none)
    (z3 : PySem.W.nsIn K mainGlobals "isinstance" = some none)
    (z4 : PySem.W.nsIn K mainGlobals "bool" = some none)
    (z5 : PySem.W.nsIn K mainGlobals "str" = some none)
    (z6 : PySem.W.nsIn K mainGlobals "all" = some none)
    (z7 : PySem.W.nsIn K mainGlobals "range" = some none)
    (z8 : PySem.W.nsIn K mainGlobals "repr" = some none)
    {tL tN : Tok} {oK : Obj} (cL : PySem.W.nsIn K mainGlobals "LETTERS" = some (some (.str abc tL))) (cN : PySem.W.nsIn K mainGlobals "LONGEST_NAME" = some (some (.int 8 tN))) (cK : PySem.W.nsIn K mainGlobals "KINDS" = some (some (.ref aK))) (lK : K.lookup aK = some oK) (tK : oK.cls = .type "tuple") (dK : ∃ (t u v : Tok) (n : Nat), oK.data = .seq #[.str "plain" t, .str "high" u, .str "low" v] n) :
    ∃ fd : FuncData, (∀ (s : Shared) (v : Value), BindsTo s fd ⟨[v], []⟩ [("_law_script", v)]) ∧ ∀ base : Heap, K.In base → base.Ns mainGlobals mg → FnG l.prog w K mg base 4 fa fd ["_law_script"] (spLaw K) := by
  have e := hfa.symm.trans (PySem.W.mg_of X G a13)
  cases e
  have F0 := fun_mk (st := sIsInt) l0 c0 k0
  have b0 := F0.binds (ps := ["thing"]) fun _ _ _ _ _ _ us hl => match us, hl with | [_], _ => rfl
  have F1 := fun_mk (st := sIsName) l1 c1 k1
  have b1 := F1.binds (ps := ["thing"]) fun _ _ _ _ _ _ us hl => match us, hl with | [_], _ => rfl
  have F2 := fun_mk (st := sIsSource) l2 c2 k2
  have b2 := F2.binds (ps := ["thing"]) fun _ _ _ _ _ _ us hl => match us, hl with | [_], _ => rfl
  have F3 := fun_mk (st := sIsKind) l3 c3 k3
  have b3 := F3.binds (ps := ["thing"]) fun _ _ _ _ _ _ us hl => match us, hl with | [_], _ => rfl
  have F4 := fun_mk (st := sFits) l4 c4 k4
  have b4 := F4.binds (ps := ["part", "kind"]) fun _ _ _ _ _ _ us hl => match us, hl with | [_, _], _ => rfl
  have F5 := fun_mk (st := sBag) l5 c5 k5
  have b5 := F5.binds (ps := ["_law_script"]) fun _ _ _ _ _ _ us hl => match us, hl with | [_], _ => rfl
  have F6 := fun_mk (st := sTake) l6 c6 k6
  have b6 := F6.binds (ps := ["_law_bag_here", "_law_many"]) fun _ _ _ _ _ _ us hl => match us, hl with | [_, _], _ => rfl
  have F7 := fun_mk (st := sAlike) l7 c7 k7
  have b7 := bindG_of F7 (ps := ["_law_found", "_law_due"]) fun _ _ _ _ _ _ us hl => match us, hl with | [_, _], _ => rfl
  have F8 := fun_mk (st := sNames) l8 c8 k8
  have b8 := F8.binds (ps := ["_law_bag_here", "_law_many"]) fun _ _ _ _ _ _ us hl => match us, hl with | [_, _], _ => rfl
  have F9 := fun_mk (st := sOdd) l9 c9 k9
  have b9 := F9.binds (ps := ["_law_bag_here", "_law_name"]) fun _ _ _ _ _ _ us hl => match us, hl with | [_, _], _ => rfl
  have F10 := fun_mk (st := sLawName) l10 c10 k10
  have b10 := F10.binds (ps := ["_law_thing"]) fun _ _ _ _ _ _ us hl => match us, hl with | [_], _ => rfl
  have F11 := fun_mk (st := sText) l11 c11 k11
  have b11 := F11.binds (ps := ["_law_bag_here"]) fun _ _ _ _ _ _ us hl => match us, hl with | [_], _ => rfl
  have F12 := fun_mk (st := sRight) l12 c12 k12
  have b12 := bindG_of F12 (ps := ["_law_thing"]) fun _ _ _ _ _ _ us hl => match us, hl with | [_], _ => rfl
  have F13 := fun_mk (st := sLaw) l13 c13 k13
  refine ⟨PySem.W.fnOf "law" "law" (defArgs sLaw) (defBody sLaw) (defScope sLaw) .none kV13 dc13 pm13 an13 cd13 ct13, fun s v => .of_eq rfl, fun base _ _ => ?_⟩
  have G0 := ok_isint (P := l.prog) (w := w) (base := base) F0 (PySem.W.mg_none_of X G z3) (PySem.W.mg_none_of X G z1) (PySem.W.mg_none_of X G z4)
  have G1 := ok_isname (P := l.prog) (w := w) (base := base) F1 (PySem.W.mg_none_of X G z3) (PySem.W.mg_none_of X G z5) (PySem.W.mg_none_of X G z2) (PySem.W.mg_none_of X G z6) (PySem.W.mg_of X G cL) (PySem.W.mg_of X G cN)
  have G2 := ok_issource (P := l.prog) (w := w) (base := base) F2 G1 b1 (PySem.W.mg_of X G a1) k1 (PySem.W.mg_none_of X G z3) (PySem.W.mg_none_of X G z5) (PySem.W.mg_none_of X G z2)
  have G3 := ok_iskind (P := l.prog) (w := w) (base := base) F3 (PySem.W.mg_of X G cK) (kinds_at lK tK dK) (PySem.W.mg_none_of X G z3) (PySem.W.mg_none_of X G z5)
  have G4 := ok_fits (P := l.prog) (w := w) (mg := mg) (base := base) F4
  have G5 := ok_bag (P := l.prog) (w := w) (base := base) F5 (PySem.W.mg_none_of X G z0)
  have G6 := ok_take (P := l.prog) (w := w) (base := base) F6 (PySem.W.mg_none_of X G z1) (PySem.W.mg_none_of X G z2)
  have G7 := ok_alike (P := l.prog) (w := w) (base := base) F7 (PySem.W.mg_none_of X G z8)
  have G8 := ok_names (P := l.prog) (w := w) (base := base) F8 G6 b6 (PySem.W.mg_of X G a6) k6 (PySem.W.mg_none_of X G z7) (PySem.W.mg_none_of X G z2) (PySem.W.mg_none_of X G z1)
  have G9 := ok_odd (P := l.prog) (w := w) (base := base) F9 G6 b6 (PySem.W.mg_of X G a6) k6 (PySem.W.mg_none_of X G z1) (PySem.W.mg_none_of X G z2)
  have G10 := ok_lawname (P := l.prog) (w := w) (base := base) F10 (PySem.W.mg_none_of X G z3) (PySem.W.mg_none_of X G z5) (PySem.W.mg_none_of X G z2)
  have G11 := ok_text (P := l.prog) (w := w) (base := base) F11 G6 b6 (PySem.W.mg_of X G a6) k6 (PySem.W.mg_none_of X G z7) (PySem.W.mg_none_of X G z2)
  have G12 := ok_right (P := l.prog) (w := w) (base := base) F12 G7 b7 (PySem.W.mg_of X G a7) k7 G0 b0 (PySem.W.mg_of X G a0) k0 G1 b1 (PySem.W.mg_of X G a1) k1 G2 b2 (PySem.W.mg_of X G a2) k2 G3 b3 (PySem.W.mg_of X G a3) k3 G10 b10 (PySem.W.mg_of X G a10) k10 (PySem.W.mg_none_of X G z3) (PySem.W.mg_none_of X G z1) (PySem.W.mg_none_of X G z4) (PySem.W.mg_none_of X G z5)
  exact ok_law F13 G5 b5 (PySem.W.mg_of X G a5) k5 G6 b6 (PySem.W.mg_of X G a6) k6 G8 b8 (PySem.W.mg_of X G a8) k8 G9 b9 (PySem.W.mg_of X G a9) k9 G11 b11 (PySem.W.mg_of X G a11) k11 G12 b12 (PySem.W.mg_of X G a12) k12 G4 b4 (PySem.W.mg_of X G a4) k4 G7 b7 (PySem.W.mg_of X G a7) k7 (PySem.W.mg_none_of X G z7) (PySem.W.mg_none_of X G z8)
end Fv
open PySem PySem.W PyProof.Rows
set_option maxRecDepth 100000 in
set_option maxHeartbeats 0 in
theorem PySem.Challenge.cw_farapart_k11_kinds_holds : PySem.Challenge.rw_farapart_k11_kinds.Holds := by
  w_on; o_law; k_head; (case hw => w_witness2)
  k_fill
  refine Fv.walk_G (l := PySem.Challenge.rw_farapart_k11_kinds) (n := 63) (k := 4) (x := "_law_script") (sp := Fv.spLaw) rfl (by decide) rfl ⟨rfl, by decide, by decide⟩ (fun w h Y => PySem.W.kIn_of Y) ?F (fun K H a ns hl _ hS => ⟨a, ns, rfl, hS, hl, fun _ => rfl⟩)
  case F =>
    intro w mg fa h KX G hmg
    refine' Fv.all_mk KX G hmg ?a0 ?l0 ?c0 ?k0 ?a1 ?l1 ?c1 ?k1 ?a2 ?l2 ?c2 ?k2 ?a3 ?l3 ?c3 ?k3 ?a4 ?l4 ?c4 ?k4 ?a5 ?l5 ?c5 ?k5 ?a6 ?l6 ?c6 ?k6 ?a7 ?l7 ?c7 ?k7 ?a8 ?l8 ?c8 ?k8 ?a9 ?l9 ?c9 ?k9 ?a10 ?l10 ?c10 ?k10 ?a11 ?l11 ?c11 ?k11 ?a12 ?l12 ?c12 ?k12 ?a13 ?l13 ?c13 ?k13 ?z0 ?z1 ?z2 ?z3 ?z4 ?z5 ?z6 ?z7 ?z8 ?cL ?cN ?cK ?lK ?tK ?dK
    (case a0 => k_is)
    (case l0 => k_is)
    (case c0 => k_is)
    (case k0 => k_is)
    (case a1 => k_is)
    (case l1 => k_is)
    (case c1 => k_is)
    (case k1 => k_is)
    (case a2 => k_is)
    (case l2 => k_is)
    (case c2 => k_is)
    (case k2 => k_is)
    (case a3 => k_is)
    (case l3 => k_is)
    (case c3 => k_is)
    (case k3 => k_is)
    (case a4 => k_is)
    (case l4 => k_is)
    (case c4 => k_is)
    (case k4 => k_is)
    (case a5 => k_is)
    (case l5 => k_is)
    (case c5 => k_is)
    (case k5 => k_is)
    (case a6 => k_is)
    (case l6 => k_is)
    (case c6 => k_is)
    (case k6 => k_is)
    (case a7 => k_is)
    (case l7 => k_is)
    (case c7 => k_is)
    (case k7 => k_is)
    (case a8 => k_is)
    (case l8 => k_is)
    (case c8 => k_is)
    (case k8 => k_is)
    (case a9 => k_is)
    (case l9 => k_is)
    (case c9 => k_is)
    (case k9 => k_is)
    (case a10 => k_is)
    (case l10 => k_is)
    (case c10 => k_is)
    (case k10 => k_is)
    (case a11 => k_is)
    (case l11 => k_is)
    (case c11 => k_is)
    (case k11 => k_is)
    (case a12 => k_is)
    (case l12 => k_is)
    (case c12 => k_is)
    (case k12 => k_is)
    (case a13 => k_is)
    (case l13 => k_is)
    (case c13 => k_is)
    (case k13 => k_is)
    (case z0 => k_is)
    (case z1 => k_is)
    (case z2 => k_is)
    (case z3 => k_is)
    (case z4 => k_is)
    (case z5 => k_is)
    (case z6 => k_is)
    (case z7 => k_is)
    (case z8 => k_is)
    (case cL => k_is)
    (case cN => k_is)
    (case cK => k_is)
    (case lK => k_is)
    (case tK => rfl)
    (case dK => exact ⟨_, _, _, _, rfl⟩)

