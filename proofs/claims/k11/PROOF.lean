import PyProof.Rows.All
import Wide.All
import OpenK.AllK
import Wide.FinOn
import PyProof.ReprRoads
import HandS.ForMost
import HandS.Exc
import HandS.ExcOwn
import HandS.ExcInit
import HandS.ExcIs
import HandS.ExcField
import HandS.IsInst
import HandS.Defaults
import HandS.WordsExc
import KE.KExcIs
import HandS.TryOnly
import HandS.HeadHook4
import HandS.ExcValue
import HandS.TupSets
import HandS.Strs
import KE.SortData
import HandS.MakeKw
import HandS.Ends
import HandS.HeadEnd
import PyProof.FitsInt
import PyProof.ReprLen
import HandS.Wide
import HandS.WideBits
import Lean
import HandS.More
import HandS.Head0
import HandS.Head1
import HandS.Head2
import HandS.HeadHook1
import HandS.HeadHook2
import PySem.Challenge.RW_hearunlike_k11_what_watchers_hear
set_option Elab.async false
set_option linter.all false
set_option maxRecDepth 100000
set_option maxHeartbeats 0
/-! Own ground, part A: defs that know that no repr is under way; repr of data. -/
namespace Xa
open PySem PySem.Spec PyProof.Rows L2

/-! ### no repr is under way -/
def NoRep (A : Around) : Prop := A.guards = some []
theorem NoRep.deeper {A : Around} (n : NoRep A) (en : Env) : NoRep (A.deeper en) := n

/-- a def's promise where no repr is under way and nothing leaves it -/
structure FnG (P : Program) (w : World) (K : PySem.W.Frag) (mg : Str → Option Value) (base : Heap) (lev : Nat) (at_ : Addr) (fd : FuncData) (ps : List Str) (pr : Sp) : Prop where
  size : ∀ xs H Q E, pr xs H Q E → xs.length = ps.length
  go : ∀ (A : Around) (out : List Env) (st : Shared) (H : Hp) (ar : Args) (us : List Value) (xs : List V) (Q : VK) (E : XK), Room lev A → NoRep A →
    Env0 P w K mg base A out st H → BindsTo st fd ar (ps.zip us) → Vals xs us → pr xs H Q E → codeAny (model P w) A (.call (.ref at_) ar) (CR CX0 out P w H st Q E) st

section
variable {P : Program} {w : World} {K : PySem.W.Frag} {mg : Str → Option Value} {base : Heap} {x qual : Str} {params : Arguments} {body : List Stmt} {scope : Scope} {dvs : List V} {kws : List (Str × V)} {at_ : Addr} {fd : FuncData}
theorem okG {N ps : List Str} {lev : Nat} {pr : Sp} (F : FunD K x qual params body scope dvs kws at_ fd) (S : FnScope N ps scope) (size : ∀ xs H Q E, pr xs H Q E → xs.length = ps.length)
    (hb : ∀ (cdv : Value) (A : Around) (out : List Env) (st : Shared) (H : Hp) (xs : List V) (Q : VK) (E : XK), Room lev (A.deeper (envOfC qual scope st.heap.objs.size at_ cdv)) → NoRep (A.deeper (envOfC qual scope st.heap.objs.size at_ cdv)) → pr xs H Q E →
      ∃ t, PSs (cxOf CX0 P w K mg base N qual scope at_ cdv A out st H E).nox body t ∧ t { nx := fun _ H' => Q .non H', rt := Q } (start N xs) H) : FnG P w K mg base (lev + 1) at_ fd ps pr := by
  obtain ⟨oc, od, dV, kV, doc, pm, an, cdv, ct, osl, rfl, lk, hcd, _, _⟩ := F.ex
  refine ⟨size, fun A out st H ar us xs Q E hr hn e0 bnd rel hp => ?_⟩
  have sz := size _ _ _ _ hp
  have inK : K.In st.heap := e0.mod.kin.keeps fun b o z => (e0.bs b o z).1
  have noLim : st.heap.NoLimit := e0.mod.nolimit.keeps fun b o z => (e0.bs b o z).1
  refine codeAny_call_function hr.depth (inK _ _ lk) rfl S.co S.gen rfl (PySem.W.codeRec_of inK hcd) (bnd _ _ _ _ ?_)
  refine wpAny_newFunctionEnv_cells S.kind (fun ⟨n, v⟩ hy => ?_) fun env he s1 ic => ?_
  · exact (S.par n (List.of_mem_zip hy).1).elim .inl fun z => .inr ⟨z, PySem.W.cellsFrom_some _ _ _ (.inl z)⟩
  subst he
  refine ⟨noLim.keeps ic.toInCall.keep, codeAny_func ?_⟩
  obtain ⟨t, ht, hq⟩ := hb cdv A out st H xs Q E (hr.deeper _) (hn.deeper _) hp
  have I : Inv (cxOf CX0 P w K mg base N qual scope at_ cdv A out st H E) [] (start N xs) H s1 := inv_start S hr.hd e0 sz rel ic
  refine wpAny_mono (ht.nox.run [] s1 (start N xs) H _ I hq) (fun fl s2 hs => ?_) fun e s2 hs => hs
  cases fl with
  | ret u => exact let ⟨v, _, H', J, rv, q⟩ := hs; ⟨v, H', J.os, J.bare, J.base, J.hok, rv, q⟩
  | next => exact let ⟨_, H', J, q⟩ := hs; ⟨V.non, H', J.os, J.bare, J.base, J.hok, rfl, q⟩
  | brk => exact let ⟨_, _, _, q⟩ := hs; False.elim q
  | cont => exact let ⟨_, _, _, q⟩ := hs; False.elim q
theorem FnG.up {ps : List Str} {i j : Nat} {pr : Sp} (G : FnG P w K mg base i at_ fd ps pr) (h : i ≤ j) : FnG P w K mg base j at_ fd ps pr :=
  ⟨G.size, fun A out st H ar us xs Q E hr => G.go A out st H ar us xs Q E (hr.mono h)⟩
end

section
variable {X : Cx} {lev : Nat} {at_ : Addr} {fd : FuncData} {ps : List Str} {pr : Sp} {x : Str} {p pos : Pos} {e : Expr} {es : List Expr} {ta : TA}
theorem run_G {pins : List (Addr × Obj)} {σ : L2.St} {H : Hp} {st : Shared} {Q : VK} {us : List Value} {xs : List V} (G : FnG X.prog X.w X.K X.mg X.base lev at_ fd ps pr) (hr : Room lev X.A) (hn : NoRep X.A) (hb : Binds X.K fd ps [])
    (I : Inv X pins σ H st) (rel : Vals xs us) (hp : pr xs H Q E0) : wpAny (model X.prog X.w) X.A (call (.ref at_) us) (EP X pins σ Q) X.xe st := by
  have sz : us.length = ps.length := by rw [← rel.length]; exact G.size _ _ _ _ hp
  have bnd := hb st us I.kIn (by rw [List.append_nil]; exact sz)
  rw [List.append_nil] at bnd
  refine wpAny_call (codeAny_mono (G.go X.A X.stack st H ⟨us, []⟩ us xs Q E0 hr hn I.env0 bnd rel hp) fun r s2 hq => ?_)
  cases r with
  | error er => exact False.elim hq
  | ok fl =>
    cases fl with
    | ret u => exact I.after hq
    | next => exact False.elim hq
    | brk => exact False.elim hq
    | cont => exact False.elim hq
/-- f(e, ..) of such a def -/
theorem pe_callG (G : FnG X.prog X.w X.K X.mg X.base lev at_ fd ps pr) (hr : Room lev X.A) (hn : NoRep X.A) (hg : Gl X x) (hm : X.mg x = some (.ref at_)) (kp : PySem.W.keepIn X.K (.ref at_) = true) (hb : Binds X.K fd ps [])
    (ha : PA X (e :: es) ta) (hdb : (x == ("__debug__" : Str)) = false := by decide) (he : starEach (e :: es) X.env = (false, eval e X.env) :: starEach es X.env := by rfl)
    (hpl : (backTo pos (starEach es X.env)).any (·.1) = false := by rfl) : PE X (.Call (.Name x p) (e :: es) [] pos) (tCall pr [] E0 ta) := by
  refine ⟨fun pins st σ H Q I h => wpAny_Call_Name_kw (ld_glob I hg hm ?_ hdb)⟩
  refine PySem.W.callWith_K (h₀ := X.base) I.ok.mod.kin kp (thn (ha.run pos pins st σ H _ I h) fun us s1 ⟨xs, H1, I1, rel, q⟩ => ⟨I1.kIn, ?_⟩) he hpl
  exact run_G G hr hn hb I1 rel (by rw [← List.append_nil xs]; exact q)
theorem pe_callG0 (G : FnG X.prog X.w X.K X.mg X.base lev at_ fd ps pr) (hr : Room lev X.A) (hn : NoRep X.A) (hg : Gl X x) (hm : X.mg x = some (.ref at_)) (kp : PySem.W.keepIn X.K (.ref at_) = true) (hb : Binds X.K fd ps [])
    (hdb : (x == ("__debug__" : Str)) = false := by decide) : PE X (.Call (.Name x p) [] [] pos) (tCall pr [] E0 tNil) := by
  refine ⟨fun pins st σ H Q I h => wpAny_Call_Name_kw (ld_glob I hg hm ?_ hdb)⟩
  exact PySem.W.callWith_K0 I.kIn kp (run_G (us := []) (xs := []) G hr hn hb I .nil h)
end

/-! ### repr of data -/
mutual
/-- v is the datum d, met through the lists at ls: as Dp, and dicts with int and text keys -/
inductive Dq (K : PySem.W.Frag) (H : Hp) : V → PyData → List Addr → Prop
  | non : Dq K H .non .none []
  | bl (b : Bool) : Dq K H (.bl b) (.bool b) []
  | int (i : Int) : Dq K H (.int i) (.int i) []
  | str (z : Str) : Dq K H (.str z) (.str z) []
  | lst {a : Addr} {xs : List V} {ds : List PyData} {ls : List Addr} : SqL K H a xs → Dqs K H xs ds ls → Dq K H (.ref a) (.list ds) (a :: ls)
  | tup {a : Addr} {xs : List V} {ds : List PyData} {ls : List Addr} : SqT K H a xs → Dqs K H xs ds ls → Dq K H (.ref a) (.tuple ds) ls
  | dic {a : Addr} {kvs : List (Key × V)} {ds : List (PyData × PyData)} {l1 l2 : List Addr} : H a = some (.dK kvs) → Dqs K H (kvs.map fun p => kV p.1) (ds.map (·.1)) l1 → Dqs K H (kvs.map (·.2)) (ds.map (·.2)) l2 → Dq K H (.ref a) (.dict ds) (l1 ++ l2)
inductive Dqs (K : PySem.W.Frag) (H : Hp) : List V → List PyData → List Addr → Prop
  | nil : Dqs K H [] [] []
  | cons {v : V} {vs : List V} {d : PyData} {ds : List PyData} {l1 l2 : List Addr} : Dq K H v d l1 → Dqs K H vs ds l2 → Dqs K H (v :: vs) (d :: ds) (l1 ++ l2)
end
theorem kv_vals : ∀ {kvs : List (Key × V)} {us : List (Key × Value)} {P : Program} {w : World} {es : List DictEntry}, KV kvs us → Pairs (mixKind P w) es us → Vals (kvs.map (·.2)) (es.map (·.val)) ∧ Vals (kvs.map fun p => kV p.1) (es.map (·.key))
  | [], _, _, _, _, .nil, .nil => ⟨.nil, .nil⟩
  | (k, v) :: r, _, _, _, _, .cons (b := (k', u)) h t, .cons (e := e) he hv q => by
    obtain ⟨r1, r2⟩ := kv_vals t q
    obtain ⟨e1, e2⟩ := h
    have e1' : k = k' := e1
    subst e1'
    refine ⟨.cons (show RelV v e.val from by rw [hv]; exact e2) r1, .cons ?_ r2⟩
    rcases keyIs_shape (show keyIs k e.key = true from he) with ⟨i, t, rfl, z⟩ | ⟨x, t, rfl, z⟩
    · exact ⟨t, z⟩
    · exact ⟨t, z⟩
section
variable {X : Cx} {pins : List (Addr × Obj)} {σ : L2.St} {H : Hp} {st : Shared}
/-- what stands behind such a datum, as the library reads it -/
def Sees (h : Heap) (u : Value) (d : PyData) (ls : List Addr) : Prop := ∃ as, Reads h u d as ∧ ∀ a ∈ as, a ∈ ls ∨ (a == sysModules) = false
def SeesAll (h : Heap) (us : List Value) (ds : List PyData) (ls : List Addr) : Prop := ∃ as, ReadsAll h us ds as ∧ ∀ a ∈ as, a ∈ ls ∨ (a == sysModules) = false
mutual
theorem Dq.sees (I : Inv X pins σ H st) : ∀ (v : V) (d : PyData) (ls : List Addr) (u : Value), Dq X.K H v d ls → RelV v u → Sees st.heap u d ls
  | _, _, _, _, .non, r => by
    cases r
    exact ⟨_, .none, fun _ z => nomatch z⟩
  | _, _, _, _, .bl b, r => by
    cases r
    exact ⟨_, .bool b, fun _ z => nomatch z⟩
  | _, _, _, _, .int i, r => by
    obtain ⟨t, rfl⟩ := r
    exact ⟨_, .int i t, fun _ z => nomatch z⟩
  | _, _, _, _, .str z, r => by
    obtain ⟨t, rfl⟩ := r
    exact ⟨_, .str z t, fun _ z => nomatch z⟩
  | _, _, _, _, .lst (a := a) hq hs, r => by
    obtain rfl := (show _ = Value.ref a from r)
    obtain ⟨its, rv, ⟨o, n, ho, hc, _, hd⟩, _⟩ := I.list hq
    obtain ⟨as, ra, ha⟩ := Dqs.sees I _ _ _ _ hs rv
    exact ⟨_, .list ho hc hd ra, fun b hb => (List.mem_cons.mp hb).elim (fun z => .inl (z ▸ List.mem_cons_self)) fun z => (ha b z).imp (List.mem_cons_of_mem _) id⟩
  | _, _, _, _, .tup (a := a) hq hs, r => by
    obtain rfl := (show _ = Value.ref a from r)
    obtain ⟨its, rv, ⟨o, ho, hc, n, hd⟩, _⟩ := I.tuple hq
    obtain ⟨as, ra, ha⟩ := Dqs.sees I _ _ _ _ hs rv
    exact ⟨_, .tuple ho hc hd ra, ha⟩
  | _, _, _, _, .dic (a := a) (kvs := kvs) ha hk hv, r => by
    obtain rfl := (show _ = Value.ref a from r)
    obtain ⟨_, hm, us, kv, o, es, ep, ho, hx, hd, _, hp, _⟩ := (show ObjOk X.prog X.w H st.heap a (.dK kvs) from I.hok a _ ha)
    obtain ⟨rv, rk⟩ := kv_vals kv hp
    obtain ⟨as, r1, h1⟩ := Dqs.sees I _ _ _ _ hk rk
    obtain ⟨bs, r2, h2⟩ := Dqs.sees I _ _ _ _ hv rv
    refine ⟨_, .dict ho hx.1 hd r1 r2, fun b hb => ?_⟩
    rcases List.mem_append.mp hb with hb | hb
    · rcases List.mem_cons.mp hb with rfl | hb
      · exact .inr hm
      · exact (h1 b hb).imp (List.mem_append_left _) id
    · exact (h2 b hb).imp (List.mem_append_right _) id
theorem Dqs.sees (I : Inv X pins σ H st) : ∀ (vs : List V) (ds : List PyData) (ls : List Addr) (us : List Value), Dqs X.K H vs ds ls → Vals vs us → SeesAll st.heap us ds ls
  | _, _, _, _, .nil, .nil => ⟨_, .nil, fun _ z => nomatch z⟩
  | _, _, _, _, .cons h t, .cons r rs => by
    obtain ⟨as, r1, h1⟩ := Dq.sees I _ _ _ _ h r
    obtain ⟨bs, r2, h2⟩ := Dqs.sees I _ _ _ _ t rs
    refine ⟨_, .cons r1 r2, fun b hb => ?_⟩
    rcases List.mem_append.mp hb with hb | hb
    · exact (h1 b hb).imp (List.mem_append_left _) id
    · exact (h2 b hb).imp (List.mem_append_right _) id
end
end
section
variable {X : Cx}
/-- repr(v), v a datum -/
def rRepr (K : PySem.W.Frag) : List V → Hp → VK → Prop := fun xs H Q => ∃ (v : V) (d : PyData) (ls : List Addr), xs = [v] ∧ Dq K H v d ls ∧ (d.hasDict = true → sysModules ∉ ls) ∧ d.showable = true ∧ d.depth ≤ 60 ∧ d.shown.length ≤ sizeLine ∧ Q (.str d.shown) H
theorem call_repr (hn : NoRep X.A) (hu : X.A.units + 64 < cLine) : CallR X (.builtin "repr") (rRepr X.K) := by
  intro pins st σ H xs us Q I r h
  obtain ⟨v, d, ls, rfl, hd, hs, sh, dp, sz, q⟩ := h
  obtain ⟨u, rfl, ru⟩ := vals1 r
  obtain ⟨as, rd, ha⟩ := Dq.sees I v d ls u hd ru
  have no : d.hasDict = true → sysModules ∉ as := fun z hm => by
    rcases ha _ hm with k | k
    · exact hs z k
    · exact absurd (beq_self_eq_true sysModules) (by rw [k]; exact Bool.false_ne_true)
  have fin : ∀ {tk tk2 : Nat} {h' : Heap}, (∀ b o, st.heap.get? b = some o → h'.get? b = some o) → EP X pins σ Q (.str d.shown tk) { st with heap := h', toks := tk2 } := fun k => ⟨.str _, H, I.kept k, ⟨_, rfl⟩, q⟩
  cases hd with
  | non =>
    obtain rfl := (show u = Value.none from ru)
    exact PySem.P.repr_of_none (fin (h' := st.heap) fun _ _ z => z)
  | bl b =>
    obtain rfl := (show u = Value.bool b from ru)
    exact PySem.P.repr_of_bool (fin (h' := st.heap) fun _ _ z => z)
  | int i =>
    obtain ⟨t, rfl⟩ := (show ∃ t, u = Value.int i t from ru)
    exact PySem.P.repr_of_int (of_decide_eq_true sh) (fin (h' := st.heap) fun _ _ z => z)
  | str z =>
    obtain ⟨t, rfl⟩ := (show ∃ t, u = Value.str z t from ru)
    exact PySem.P.repr_of_str (fin (h' := st.heap) fun _ _ z => z) sz
  | lst hq hx =>
    obtain rfl := (show u = Value.ref _ from ru)
    exact repr_of_reads' rd sh no hn (by omega) (fun _ _ z => z) (fun h' _ _ k => fin k) sz
  | tup hq hx =>
    obtain rfl := (show u = Value.ref _ from ru)
    exact repr_of_reads' rd sh no hn (by omega) (fun _ _ z => z) (fun h' _ _ k => fin k) sz
  | dic hq hk hv =>
    obtain rfl := (show u = Value.ref _ from ru)
    exact repr_of_reads' rd sh no hn (by omega) (fun _ _ z => z) (fun h' _ _ k => fin k) sz
end
end Xa
/-! Own ground, part B: exceptions of own classes over an own WatchError: made, raised, caught and kept, their field, isinstance. -/
namespace Xb
open PySem PySem.Spec PyProof.Rows L2 Xa

/-! ### what the text says of a class -/
/-- C is such a class: its instances' field is called f -/
structure XCls (K : PySem.W.Frag) (C : Addr) (f : Str) : Prop where
  oex : OexC K C
  xf : XfC K C
  isx : ExcC K C
  nof : PySem.W.findIn K (.ref C) f = some none
def ocB (K : PySem.W.Frag) (C : Addr) : Bool := match K.lookup C with
  | some ⟨.type "type", _, .cls ⟨_, _, .ref C2 :: bm, _, _, true, _, _, _, _, false⟩, ⟨[_, _, _, _, some (.builtin n), _]⟩⟩ => C2 == C && (n == "ValueError.__new__" && HandSPX.refsVE bm)
  | _ => false
theorem ocB_ok {K : PySem.W.Frag} {C : Addr} (h : ocB K C = true) : ∃ nm q N bs bm sn sub ab col dd k0 k1 k2 k3 k5, K.lookup C = some (excClassObj nm q C N bs bm true sn sub ab col dd k0 k1 k2 k3 k5 "ValueError.__new__") ∧ HandSPX.refsVE bm = true := by
  unfold ocB at h
  split at h
  · rename_i e
    obtain ⟨h1, h2⟩ := He.ba h
    obtain ⟨h3, h4⟩ := He.ba h2
    have e1 := beq_iff_eq.mp h1
    have e2 := beq_iff_eq.mp h3
    subst e1 e2
    exact ⟨_, _, _, _, _, _, _, _, _, _, _, _, _, _, _, e, h4⟩
  · cases h
def vEq (a b : Option (Option Value)) : Bool := decide (a = b)
def xclsB (K : PySem.W.Frag) (C : Addr) (f : Str) : Bool := ocB K C && (He.eqO (PySem.W.findIn K (.ref C) "__setattr__") (some (some (.builtin "object.__setattr__"))) && (decide (PySem.W.subIn K (.ref C) (.type "BaseException") = some true) &&
  (decide (PySem.W.typeIn K (.ref C) = some (.type "type")) && (PySem.W.keepIn K (.ref C) && (xfB K C && (He.eqO (PySem.W.findIn K (.ref C) "__class__") (some (some (.builtin "object.__class__"))) &&
  (He.eqO (PySem.W.specialIn K (.builtin "object.__class__") "__get__") (some (some (.builtin "getset_descriptor.__get__"))) && (decide (PySem.W.takesIn K (.builtin "object.__class__") = some true) && (decide (PySem.W.mroIn K C (.type "object") = some true) &&
  He.eqO (PySem.W.findIn K (.ref C) f) (some none))))))))))
theorem xcls_ok {K : PySem.W.Frag} {C : Addr} {f : Str} (h : xclsB K C f = true) : XCls K C f := by
  obtain ⟨h1, h⟩ := He.ba h
  obtain ⟨h2, h⟩ := He.ba h
  obtain ⟨h3, h⟩ := He.ba h
  obtain ⟨h4, h⟩ := He.ba h
  obtain ⟨h5, h⟩ := He.ba h
  obtain ⟨h6, h⟩ := He.ba h
  obtain ⟨h7, h⟩ := He.ba h
  obtain ⟨h8, h⟩ := He.ba h
  obtain ⟨h9, h⟩ := He.ba h
  obtain ⟨h10, h11⟩ := He.ba h
  have x := xfB_ok h6
  exact ⟨⟨ocB_ok h1, He.eqO_ok h2, of_decide_eq_true h3, of_decide_eq_true h4, h5⟩, x, ⟨x.ga, x.gg, x.exC, x.hdC, He.eqO_ok h7, He.eqO_ok h8, of_decide_eq_true h9, of_decide_eq_true h10⟩, He.eqO_ok h11⟩

/-! ### an exception as a tracked thing -/
/-- at a: an exception of the class at C, its own dict at d -/
def xob (a C d : Addr) : HO := .ext fun h => ∃ (oe : Obj) (vs : Array Value), h.get? a = some oe ∧ oe.cls = .ref C ∧ oe.dict = some d ∧ oe.data = .fields vs
theorem xob_ok {P : Program} {w : World} {H : Hp} {h : Heap} {a C d : Addr} {oe : Obj} (e : h.get? a = some oe) (c : oe.cls = .ref C) (hd : oe.dict = some d) (hf : ∃ vs, oe.data = .fields vs) : ObjOk P w H h a (xob a C d) := by
  obtain ⟨vs, hf⟩ := hf
  exact ⟨⟨oe, vs, e, c, hd, hf⟩, ⟨oe, e⟩, fun _ _ z k => let ⟨o, v, q, r⟩ := z; ⟨o, v, k o q, r⟩⟩
section
variable {X : Cx} {pins : List (Addr × Obj)} {σ : L2.St} {H : Hp} {st : Shared}
theorem xob_inst {a C d : Addr} {fs : List (Str × V)} (I : Inv X pins σ H st) (ha : H a = some (xob a C d)) (hd : H d = some (.xd fs)) :
    ∃ (ox od : Obj) (mA : Str → Option Value), PySem.W.InstAt st.heap a ox C (some od) ∧ (∀ n, PySem.W.lookIn n od = some (mA n)) ∧ ∀ n, RelO (fs.lookup n) (mA n) := by
  obtain ⟨⟨oe, vs, e, c, ed, ef⟩, _⟩ := (show ObjOk X.prog X.w H st.heap a (xob a C d) from I.hok a _ ha)
  obtain ⟨mA, hns, hr⟩ := (show ObjOk X.prog X.w H st.heap d (.xd fs) from I.hok d _ hd)
  obtain ⟨od, ho, hl⟩ := lookIn_ns hns
  exact ⟨oe, od, mA, ⟨e, c, by unfold PySem.W.notCls; rw [ef] <;> rfl, by rw [ed]; exact ho⟩, hl, hr⟩
end
/-- e.f, an exception's field -/
def tXv (K : PySem.W.Frag) (f : Str) (te : TE) : TE := fun σ H Q => te σ H fun x H1 => ∃ (a C d : Addr) (fs : List (Str × V)) (v : V), x = .ref a ∧ H1 a = some (xob a C d) ∧ H1 d = some (.xd fs) ∧ XCls K C f ∧ fs.lookup f = some v ∧ Q v H1
/-- isinstance(e, c), e such an exception -/
def rIsx (K : PySem.W.Frag) : List V → Hp → VK → Prop := fun xs H Q => ∃ (a C d : Addr) (fs : List (Str × V)) (c : V) (cv : Value) (b : Bool), xs = [.ref a, c] ∧ H a = some (xob a C d) ∧ H d = some (.xd fs) ∧ ExcC K C ∧ ClsV c cv ∧ PySem.W.kitOne K (.ref C) cv = some b ∧ Q (.bl b) H
section
variable {X : Cx} {e : Expr} {te : TE} {pos : Pos} {f : Str}
theorem pe_xv (he : PE X e te) (hb : attributeBase e f X.env (eval e X.env) = eval e X.env := by rfl) : PE X (.Attribute e f pos) (tXv X.K f te) := by
  refine ⟨fun pins st σ H Q I h => attr_of hb (thn (he.run pins st σ H _ I h) fun u s1 ⟨x, H1, I1, rx, a, C, d, fs, v, ex, ea, ed, T, l, q⟩ => ?_)⟩
  subst ex
  obtain rfl : u = Value.ref a := rx
  obtain ⟨ox, od, mA, J, hl, hr⟩ := xob_inst I1 ea ed
  obtain ⟨u, hu, ru⟩ := RelO.some_of (v := v) (o := mA f) (by rw [← l]; exact hr f)
  exact HandSPX.exc_get I1.kIn J T.xf.ga T.xf.gg T.xf.exC (PySem.W.findObj_own T.xf.hdC T.nof rfl (by rw [hl, hu])) (handed_of ru) ⟨v, H1, I1.tok _, ru, q⟩
theorem call_isx : CallR X (.builtin "isinstance") (rIsx X.K) := by
  intro pins st σ H xs us Q I r h
  obtain ⟨a, C, d, fs, c, cv, b, rfl, ha, hd, T, k, e, q⟩ := h
  obtain ⟨u1, u2, rfl, r1, r2⟩ := vals2 r
  have e2 := k.eq r2
  subst e2
  obtain rfl := (show u1 = Value.ref a from r1)
  obtain ⟨ox, od, mA, J, _, _⟩ := xob_inst I ha hd
  have hc : (PySem.W.clsIn X.K C).isSome = true := by
    obtain ⟨cd, hcd, _⟩ := PySem.W.any_some T.hd
    rw [hcd]
    rfl
  exact PySem.W.kia_one (PySem.W.kitx_exc hc T.hg T.hk T.hs T.ha T.hn T.ht T.hm) I.kIn J e (fun z => nomatch z) fun tk => ⟨.bl b, H, I.tok tk, rfl, q⟩
end

/-! ### WatchError.__init__(self, ..), within the __init__ of a class over it -/
structure WBase (K : PySem.W.Frag) (mg : Str → Option Value) (wn : Str) : Prop where
  ex : ∃ (W : Addr) (mc : Value), mg wn = some (.ref W) ∧ PySem.W.readsIn K W mc = true ∧ PySem.W.specialIn K (.ref W) "__getattribute__" = some (some (.builtin "type.__getattribute__")) ∧
    PySem.W.findCls K (.ref W) mc "__init__" = some (.val (.builtin "ValueError.__init__"))
section
variable {X : Cx} {e : Expr} {es : List Expr} {ta : TA} {wn : Str} {p1 p2 pos : Pos}
theorem pe_winit {pl : Sem Bool} (hg : Gl X wn) (T : WBase X.K X.mg wn) (ha : PA X (e :: es) ta) (hdb : (wn == ("__debug__" : Str)) = false := by decide)
    (hc : eval (.Call (.Attribute (.Name wn p1) "__init__" p2) (e :: es) [] pos) X.env = (do
      let ov ← eval (.Name wn p1) X.env
      standAt p2.atName
      let (g, fst) ← holding [ov] (getMethod ov "__init__" pl)
      callWith pos g fst (backTo pos (starEach (e :: es) X.env)) (backToKw pos (keywordEach [] X.env))) := by rfl)
    (he : starEach (e :: es) X.env = (false, eval e X.env) :: starEach es X.env := by rfl) (hpl : (backTo pos (starEach es X.env)).any (·.1) = false := by rfl) :
    PE X (.Call (.Attribute (.Name wn p1) "__init__" p2) (e :: es) [] pos) (tVeI X.K ta) := by
  obtain ⟨W, mc, gW, rd, ga, fc⟩ := T.ex
  refine ⟨fun pins st σ H Q I h => PySem.W.methodCall_KW (ld_glob I hg gW ?_ hdb) hc⟩
  refine PySem.W.method_cls I.kIn ga (PySem.W.cls_value I.kIn rd fc rfl ?_)
  show wpAny _ _ (callWith pos (Value.builtin "ValueError.__init__") [] (backTo pos (starEach (e :: es) X.env)) []) _ _ _
  refine PyProof.Rows.callWith_method1 (thn (ha.run pos pins _ σ H _ (I.tok _) h) fun us s1 ⟨xs, H1, I1, rel, a, C, ws, ev, hl, Tc, ea, q⟩ => ?_) he hpl
  subst ev
  cases rel with
  | @cons _ u0 _ ur ra rw' =>
    obtain rfl : u0 = Value.ref a := ra
    have hlen : ur.length ≤ sizeLine := by
      rw [← Paired.length rw', sizeLine_eq]
      omega
    exact oinit_ok Tc I1 ea hlen fun s2 J => ⟨.non, H1, J, rfl, q⟩
end
end Xb
/-! Own ground, part C: such exceptions raised, caught and kept. -/
namespace Xc
open PySem PySem.Spec PyProof.Rows L2 Xa Xb

/-- a reading closed under weaker wishes -/
def tUp (te : TE) : TE := fun σ H Q => ∃ Q0 : VK, te σ H Q0 ∧ ∀ v H1, Q0 v H1 → Q v H1
theorem pe_up {X : Cx} {e : Expr} {te : TE} (he : PE X e te) : PE X e (tUp te) :=
  ⟨fun pins st σ H Q I ⟨Q0, h, k⟩ => thn (he.run pins st σ H Q0 I h) fun _ _ ⟨v, H1, I1, r, q⟩ => ⟨v, H1, I1, r, k v H1 q⟩⟩

/-! ### __init__ -/
/-- what __init__ of such a class promises -/
def spXi (C : Addr) (f : Str) : Sp := fun xs H Q _ => ∃ (a : Addr) (v : V), xs = [.ref a, v] ∧ H a = some (exo a C none) ∧ ∀ dx, H dx = none → dx ≠ a → Q .non (upd (upd H dx (exd dx [(f, v)])) a (exo a C (some dx)))
def xiBody (msg f : Str) (k : Nat) (p1 p2 p3 p4 p5 p6 p7 p8 p9 p10 : Pos) : List Stmt :=
  [.Expr (.Call (.Attribute (.Name "WatchError" p1) "__init__" p2) [.Name "self" p3, .Constant (.str msg) k p4] [] p5) p6, .Assign [.Attribute (.Name "self" p7) f p8] (.Name f p9) p10]
/-- how the call of WatchError.__init__ is run there (rfl at each class) -/
def XiRun (qual : Str) (scope : Scope) (msg : Str) (k : Nat) (p1 p2 p3 p4 p5 : Pos) : Prop := ∀ (n g : Addr) (cdv : Value), ∃ pl : Sem Bool,
  eval (.Call (.Attribute (.Name "WatchError" p1) "__init__" p2) [.Name "self" p3, .Constant (.str msg) k p4] [] p5) (envOfC qual scope n g cdv) = (do
    let ov ← eval (.Name "WatchError" p1) (envOfC qual scope n g cdv)
    standAt p2.atName
    let (m, fst) ← holding [ov] (getMethod ov "__init__" pl)
    callWith p5 m fst (backTo p5 (starEach [.Name "self" p3, .Constant (.str msg) k p4] (envOfC qual scope n g cdv))) (backToKw p5 (keywordEach [] (envOfC qual scope n g cdv))))
theorem ok_xi {P : Program} {w : World} {K : PySem.W.Frag} {mg : Str → Option Value} {base : Heap} {C fI : Addr} {fd : FuncData} {qual msg f : Str} {params : Arguments} {scope : Scope} {dvs : List V} {k : Nat} {p1 p2 p3 p4 p5 p6 p7 p8 p9 p10 : Pos}
    (F : FunD K "__init__" qual params (xiBody msg f k p1 p2 p3 p4 p5 p6 p7 p8 p9 p10) scope dvs [] fI fd) (S : FnScope ["self", f] ["self", f] scope) (T : XCls K C f) (B : WBase K mg "WatchError")
    (hs : scope.names.lookup ("self" : Str) = some .local) (hf : scope.names.lookup f = some .local) (hw : scope.names.lookup ("WatchError" : Str) = some .globalImplicit) (run : XiRun qual scope msg k p1 p2 p3 p4 p5) (f1 : (f == ("__debug__" : Str)) = false) (f2 : (f == ("__classdict__" : Str)) = false) :
    FnOk P w K mg base CX0 1 fI fd ["self", f] (spXi C f) := by
  refine F.ok S (fun xs H Q E h => ?_) (fun cdv A outer s H vs Q E hr h => ?_)
  · obtain ⟨a, v, rfl, _⟩ := h
    rfl
  · obtain ⟨a, v, rfl, ha, q⟩ := h
    obtain ⟨pl, hc⟩ := run s.heap.objs.size fI cdv
    refine ⟨_, PSs.nox (pss_cons (ps_expr (pe_winit (pl := pl) hw B (pa_cons (pe_var (i := 0) rfl (.inl hs)) (pa_cons pe_str pa_nil)) (by decide) hc)) (pss_one (ps_ost (pe_var (i := 0) rfl (.inl hs)) (pe_var (i := 1) rfl (.inl hf) f1 f2)))), ?_⟩
    refine ⟨_, rfl, a, C, [.str msg], rfl, (by show 1 ≤ 1000; decide), T.oex, ha, ?_⟩
    exact ⟨_, rfl, _, rfl, a, C, rfl, T.oex, T.nof, .inl ⟨ha, fun dx n ne => q dx n ne⟩⟩

/-! ### raise C(e) -/
/-- the class is known by the name x, its __init__ stands at fI -/
structure XMake (P : Program) (w : World) (K : PySem.W.Frag) (mg : Str → Option Value) (base : Heap) (x : Str) (C : Addr) (f : Str) : Prop where
  cls : XCls K C f
  glo : mg x = some (.ref C)
  ini : ∃ (fI : Addr) (fd : FuncData), PySem.W.findIn K (.ref C) "__init__" = some (some (.ref fI)) ∧ PySem.W.typeIn K (.ref fI) = some (.type "function") ∧ FnOk P w K mg base CX0 1 fI fd ["self", f] (spXi C f) ∧ Binds K fd ["self", f] []
def tRz (C : Addr) (f : Str) (W : WX) (te : TE) : TS := fun _ σ H => te σ H fun v H1 => ∀ d, H1 d = none → W (.ref C) (some d) σ (upd H1 d (.xd [(f, v)]))
theorem new_heap {H : Hp} {a C d : Addr} {f : Str} {v : V} (ha : H a = none) (hd : d ≠ a) :
    upd (del (upd (upd (upd H a (exo a C none)) d (exd d [(f, v)])) a (exo a C (some d))) a) d (.xd [(f, v)]) = upd H d (.xd [(f, v)]) := by
  funext b
  by_cases h1 : b = d
  · rw [h1, upd_same, upd_same]
  · rw [upd_ne h1, upd_ne h1]
    by_cases h2 : b = a
    · rw [h2, del_same, ha]
    · rw [del_ne h2, upd_ne h2, upd_ne h1, upd_ne h2]
theorem ps_rz {X : Cx} {x f : Str} {C : Addr} {W : WX} {e : Expr} {te : TE} {p pos pos2 : Pos} (hc : X.calm = true) (M : XMake X.prog X.w X.K X.mg X.base x C f) (hr : Room 2 X.A) (tk : Takes X W) (hg : Gl X x) (he : PE X e te)
    (hdb : (x == ("__debug__" : Str)) = false := by decide) (hst : starEach [e] X.env = (false, eval e X.env) :: starEach [] X.env := by rfl) (hpl : (backTo pos (starEach [] X.env)).any (·.1) = false := by rfl) :
    PS X (.Raise (some (.Call (.Name x p) [e] [] pos)) none pos2) (tRz C f W te) := by
  obtain ⟨fI, fd, i1, i2, F, b⟩ := M.ini
  have R := ps_raise (pos := pos2) hc tk (pmk_oex (p := p) (pos := pos) (k := 1) M.cls.oex i1 i2 F hr b .nil pass0 hg M.glo (pa_cons (pe_up he) pa_nil hst) hdb hst hpl)
  refine ⟨fun pins st σ H D I h => R.run pins st σ H D I ⟨_, h, fun v H1 q => ⟨(by show 1 ≤ 1000; decide), fun a na => ⟨a, v, rfl, upd_same, fun dx ndx ne => ⟨rfl, dx, [(f, v)], upd_same, ?_, ?_, ?_⟩⟩⟩⟩⟩
  · rw [upd_ne ne, upd_same]
  · rw [upd_ne ne] at ndx
    exact ndx
  · rw [new_heap na ne]
    rw [upd_ne ne] at ndx
    exact q dx ndx
end Xc
/-! Own ground, part D: try: body / except X as n: c = n, the exception kept and tracked. -/
namespace Xd
open PySem PySem.Spec PyProof.Rows L2 Xa Xb Xc

section
variable {X : Cx} {pins : List (Addr × Obj)} {σ : L2.St} {H : Hp} {st : Shared} {a C d : Addr} {oe : Obj}
/-- a pinned exception, new since the entry, is tracked from here on -/
theorem track (I : Inv X ((a, oe) :: pins) σ H st) (n0 : X.s_0.heap.get? a = none) (np : ∀ p ∈ X.pn ++ pins, p.1 ≠ a) (hc : oe.cls = .ref C) (hd : oe.dict = some d) (hf : ∃ vs, oe.data = .fields vs) : Inv X pins σ (upd H a (xob a C d)) st := by
  obtain ⟨ha, hn, hL, hF, hcell⟩ := I.pin (a, oe) (List.mem_append_right _ List.mem_cons_self)
  have n1 : ∀ b o, X.s_0.heap.get? b = some o → b ≠ a := fun b o z q => by rw [q, n0] at z; cases z
  refine ⟨I.ok, I.os, I.bare, ⟨I.base.keep, I.base.slot, fun b o z n hx => ?_, I.base.there, fun b xs z => ?_, fun b o u z => ?_, fun b ps z => ?_⟩, I.loc, I.cell, ?_, fun x c z => ?_, fun p hp => ?_, ?_, I.len⟩
  · rw [upd_ne (n1 b o z)]
    exact I.base.free b o z n hx
  · have q := I.base.tups b xs z
    rw [upd_ne (ne_of_none q hn)]
    exact q
  · have q := I.base.frzs b o u z
    rw [upd_ne (ne_of_none q hn)]
    exact q
  · obtain ⟨m, q⟩ := I.base.tbls b ps z
    exact ⟨m, by rw [upd_ne (ne_of_none q hn)]; exact q⟩
  · rw [upd_ne (Ne.symm hL)]
    exact I.free
  · have q : c ≠ a := fun e => by
      obtain ⟨v, o, ho, hv⟩ := I.cell x c z
      rw [e, ha] at ho
      exact hcell v (by rw [Option.some.inj ho]; exact hv)
    rw [upd_ne q]
    exact I.freeC x c z
  · have q : p ∈ X.pn ++ (a, oe) :: pins := by
      rcases List.mem_append.mp hp with z | z
      · exact List.mem_append_left _ z
      · exact List.mem_append_right _ (List.mem_cons_of_mem _ z)
    obtain ⟨k1, k2, k3⟩ := I.pin p q
    exact ⟨k1, by rw [upd_ne (np p hp)]; exact k2, k3⟩
  · exact I.hok.laidN (fun _ _ z => z) hn (xob_ok ha hc hd hf)
end

/-- what the clause wishes of an exception of the body: n stands in slot i, c in slot j -/
def wKeep (K : PySem.W.Frag) (cv : Value) (i j : Nat) (D : Ends) : WX := fun cls d σ H => ∃ C dx : Addr, cls = .ref C ∧ d = some dx ∧ PySem.W.exmOne K cls cv = some true ∧ ∀ a, H a = none → D.nx (((σ.set i (some (.ref a))).set j (some (.ref a))).set i none) (upd H a (xob a C dx))
section
variable {X : Cx} {x n : Str} {cv : Value} {i j : Nat} {body : List Stmt} {keep : Stmt} {np hp pos : Pos} {tb : WX → TS}
theorem ps_keep (hs : X.stack = X.env :: X.outer) (hf : X.env.frame = some X.env.locals) (hex : X.ex = []) (nd : X.N.Nodup) (hi : X.N[i]? = some n) (hln : X.env.kindOf n = some .local) (hlen : i < X.N.length) (hc : Names X x cv)
    (hb : ∀ (W : WX) (pn : List (Addr × Obj)) (xe : Value → Shared → Prop), Takes (X.tr pn xe) W → PassesOwn (model X.prog X.w) X.A X.env xe → PSs (X.tr pn xe) body (tb W))
    (hk : ∀ (a : Addr) (pn : List (Addr × Obj)), PSs (X.suite a pn) [keep] (tAsg (tVar i) (gName j))) :
    PS X (.Try body [.ExceptHandler (some (.Name x np)) (some n) [keep] hp] [] [] pos) (fun D σ H => tb (wKeep X.K cv i j D) D σ H) := by
  refine ⟨fun pins st σ H D I h => ?_⟩
  have ok := I.ok
  have frm : X.A.frames = some (X.env :: X.outer) := by rw [ok.frames, hs]
  refine wpAny_Try_except ?_
  refine wpAny_mono ((hb (wKeep X.K cv i j D) (X.pn ++ pins) (fun u t1 => wpAny (model X.prog X.w) X.A (noteFrame u X.env) (fun _ t2 => wpAny (model X.prog X.w) X.A (setFlight u none) (fun _ t3 =>
    wpAny (model X.prog X.w) X.A (handleBy u X.env [.ExceptHandler (some (.Name x np)) (some n) [keep] hp]) (SP X pins D) X.xe t3) X.xe t2) X.xe t1) (fun u s2 air => ?_) PassesOwn.looking).run [] st σ H D (I.toTry _) h) (fun fl s1 sp => ?_) (fun _ _ z => z)
  · obtain ⟨a, B, sI, pins2, σ2, H2, cls, d, rfl, J0, nb, up, sky, na, os, ag, C, dx, ec, ed, em, go⟩ := air
    subst ec ed
    have J : Inv X pins σ2 H2 sI := J0.ofTry ok
    have sky2 : Sky B (X.env :: X.outer) a (Zc (.ref C) (some dx)) X.env.locals s2.heap := by rw [← hs]; exact sky
    show wpAny (model X.prog X.w) X.A (noteFrame (.ref a) X.env) _ _ _
    refine Sky.land Zc.steady frm hf sky2 fun h3 fl3 up3 => ?_
    have J3 : Inv X pins σ2 H2 { s2 with heap := h3 } := J.landed nb fl3.1 (up.trans up3) os ag
    obtain ⟨o3, v3, g3, z3, d3⟩ := fl3.there
    have off : a ∉ frs (X.env :: X.outer) := fun hm => by
      obtain ⟨_, o', e', hnf⟩ := fl3.2.2.1.mem hm
      rw [g3] at e'
      cases e'
      exact hnf _ d3
    have nL : a ≠ X.env.locals := fun z => off (List.mem_filterMap.mpr ⟨X.env, List.mem_cons_self, by rw [hf, z]⟩)
    have nF : a ∉ X.fs := fun hm => by
      obtain ⟨e, he, q⟩ := List.mem_filterMap.mp hm
      exact off (List.mem_filterMap.mpr ⟨e, List.mem_cons_of_mem _ he, q⟩)
    have offS : ∀ b, b ≠ X.env.locals → b ∉ X.fs → b ∉ frs X.stack := fun b h1 h2 hm => (List.mem_cons.mp (J.stkSub b hm)).elim h1 h2
    have inB : ∀ b o, b ≠ X.env.locals → b ∉ X.fs → sI.heap.get? b = some o → b ≠ a := fun b o h1 h2 z q => by
      have y := nb b o z (offS b h1 h2)
      rw [q, fl3.2.1] at y
      cases y
    have n0 : X.s_0.heap.get? a = none := by
      cases z : X.s_0.heap.get? a with
      | none => rfl
      | some o =>
        obtain ⟨o', y⟩ := J.base.there a o z (by rw [hex]; exact fun k => nomatch k)
        exact absurd rfl (inB a o' nL nF y)
    have npin : ∀ p ∈ X.pn ++ pins, p.1 ≠ a := fun p hp => by
      obtain ⟨k1, _, k3, k4, _⟩ := J.pin p hp
      exact inB p.1 p.2 k3 k4 k1
    have S3 := J3.suite g3 d3 na nL nF
    refine wpAny_handleBy_cons (codeAny_handlers_test ?_) (by intro q; cases q)
    have LT : PySem.W.Looks (model X.prog X.w) h3 (typeOf (.ref a)) (.ref C) := fun _ _ _ _ k q => wpAny_typeOf_ref (k _ _ g3) (by rw [z3.1]; exact q)
    have LM := PySem.W.exm_one (M := model X.prog X.w) (J3.kIn) LT em
    have named : ∀ {Q : Value → Shared → Prop} {E : Value → Shared → Prop}, Q cv { s2 with heap := h3 } → wpAny (model X.prog X.w) (X.A.mark (some (.ref a))) (eval (.Name x np) X.env) Q E { s2 with heap := h3 } := fun {Q E} q => by
      obtain ⟨hg, hdbg, hm | ⟨hm, hv, hnn⟩⟩ := hc
      · exact ld_glob (X := X.suite a ((a, o3) :: (X.pn ++ pins))) S3 hg hm q hdbg
      · exact ld_blt (X := X.suite a ((a, o3) :: (X.pn ++ pins))) S3 hg hm hv q hnn hdbg
    refine named (LM.here ?_)
    refine codeAny_handlers_suite_as ?_
    refine HandSPX.lands_againZ fl3 fun h4 fl4 up4 => ?_
    have J4 : Inv X pins σ2 H2 { s2 with heap := h4 } := J.landed nb fl4.1 ((up.trans up3).trans up4) os ag
    obtain ⟨o4, v4, g4, z4, d4⟩ := fl4.there
    have S4 := J4.suite g4 d4 na nL nF
    refine store_ok (X := X.suite a ((a, o4) :: (X.pn ++ pins))) (v := .ref a) S4 nd hi (.inl hln) rfl (fun s5 S5 => ?_) (.inr hln)
    have hl5 : i < σ2.length := by rw [J.len]; exact hlen
    refine wpAny_mono ((hk a ((a, o4) :: (X.pn ++ pins))).run [] s5 _ H2 { nx := fun σ6 H6 => σ6 = (σ2.set i (some (.ref a))).set j (some (.ref a)) ∧ H6 = H2, rt := fun _ _ => False } S5
      ⟨.ref a, by rw [List.getElem?_set_self hl5], rfl, rfl⟩) (fun fl s6 sp6 => ?_) (fun _ _ z => False.elim z)
    cases fl with
    | next =>
      obtain ⟨σ6, H6, S6, e1, e2⟩ := sp6
      subst e1 e2
      have P6 : Inv X ((a, o4) :: pins) _ H6 s6 := ⟨ok, S6.os, S6.bare, S6.base, S6.loc, S6.cell, S6.free, S6.freeC, fun p hp => S6.pin p (by
        rw [List.append_nil]
        rcases List.mem_append.mp hp with z | z
        · exact List.mem_cons_of_mem _ (List.mem_append_left _ z)
        · rcases List.mem_cons.mp z with z | z
          · rw [z]
            exact List.mem_cons_self
          · exact List.mem_cons_of_mem _ (List.mem_append_right _ z)), S6.hok, S6.len⟩
      exact gone_ok P6 nd hi hln fun s7 J7 => ⟨_, _, track J7 n0 npin z4.1 z4.2 ⟨_, d4⟩, go a na⟩
    | brk => exact let ⟨_, _, _, q⟩ := sp6; False.elim q
    | cont => exact let ⟨_, _, _, q⟩ := sp6; False.elim q
    | ret u => exact let ⟨_, _, _, _, _, q⟩ := sp6; False.elim q
  · cases fl with
    | next => exact let ⟨σ2, H2, J2, q⟩ := sp; wpAny_execs_nil ⟨σ2, H2, J2.ofTry ok, q⟩
    | brk => exact let ⟨σ2, H2, J2, q⟩ := sp; ⟨σ2, H2, J2.ofTry ok, q⟩
    | cont => exact let ⟨σ2, H2, J2, q⟩ := sp; ⟨σ2, H2, J2.ofTry ok, q⟩
    | ret u => exact let ⟨v, σ2, H2, J2, r, q⟩ := sp; ⟨v, σ2, H2, J2.ofTry ok, r, q⟩
end
end Xd
/-! Own ground, part S: sets of tuples of ints that grow: set(), add, in. -/
namespace Xs
open PySem PySem.Spec PyProof.Rows L2 Xa Xb Xc

section
variable {P : Program} {w : World} {A : Around} {E : Value → Shared → Prop} {s : Shared} {a : Addr} {L : List (Addr × List Int)} {es : Array (Int × Value)} {ep : Nat} {t : SetTable}
/-- the c-th place that is looked at -/
abbrev prb (t : SetTable) (h : Int) (c : Nat) : SetTable.Probe := nth t.mask (runAt t.mask (SetTable.bits h % (t.mask + 1)) (SetTable.bits h)) c
theorem prb_clean (t : SetTable) (h : Int) (c : Nat) : (prb t h c).dummy = none := by
  have go : ∀ (n : Nat) (p : SetTable.Probe), p.dummy = none → (nth t.mask p n).dummy = none := fun n => by
    induction n with
    | zero => exact fun _ z => z
    | succ n ih =>
      refine fun p z => ih (adv t.mask p) ?_
      unfold adv
      split <;> exact z
  exact go c _ rfl
theorem prb_on (t : SetTable) (h : Int) (c q : Nat) : nth t.mask (prb t h c) q = prb t h (c + q) := (nth_add t.mask c _ q).symm
/-- what is looked for stands (or doesn't) among the tuples of L: the search of in -/
theorem seek (R : SetTR P w s.heap a L es ep t) {x : Addr} {k : List Int} (hx : IsT P w s.heap k x) (hu : A.units < cLine) {z : Nat} (z1 : z < 10 * SetTable.turns t.mask) (z2 : way t.mask (thash P w k) z ∉ t.place.toList)
    (z3 : ∀ c, c < z → way t.mask (thash P w k) c ∈ t.place.toList) {Q : SetFound → Shared → Prop} (yes : ∀ i, k ∈ L.map (·.2) → Q (.there (some i)) s) (no : k ∉ L.map (·.2) → Q (.free (way t.mask (thash P w k) z) false) s) :
    ∀ (f c : Nat) (at_ : Option SetTable.Probe), at_.getD (t.probeStart (thash P w k)) = prb t (thash P w k) c → c ≤ z → z - c < f →
      (∀ (i : Nat) p, L[i]? = some p → p.2 = k → ∃ c', c ≤ c' ∧ c' < z ∧ t.place.toList[i]? = some (way t.mask (thash P w k) c')) →
      wpAny (model P w) A (setSearchFrom a (.ref x) (thash P w k) false f at_) Q E s := by
  obtain ⟨o, ho, _, hd⟩ := R.ob
  intro f
  induction f with
  | zero => exact fun c _ _ _ hf => absurd hf (Nat.not_lt_zero _)
  | succ f ih =>
    intro c at_ hat hc hf ahead
    rw [setSearchFrom_succ]
    refine wpAny_bind (wpAny_setState_of ho hd R.fits ?_)
    dsimp only
    refine wp_if_neg R.gw ?_
    try refine wpAny_bind (wpAny_pure ?_)
    have go := go_spec t R.tab.ris R.tab.dm (fun i => (es[i]?.map (·.1)).getD 0) (thash P w k) (10 * SetTable.turns t.mask) (z - c) _ (prb_clean t (thash P w k) c) (by omega)
      (fun q hq => by rw [prb_on]; exact z3 (c + q) (by omega)) (by rw [prb_on, show c + (z - c) = z by omega]; exact z2)
    have hash_of : ∀ (i : Nat) p, L[i]? = some p → (es[i]?.map (·.1)).getD 0 = thash P w p.2 := fun i p hp => by rw [R.entry hp] <;> rfl
    rcases go with ⟨q, i, hq, hi, hh, before, met⟩ | ⟨before, met⟩
    · rw [hat, show t.probe _ (thash P w k) (prb t (thash P w k) c) = _ from met]
      dsimp only
      rw [prb_on] at hi
      have hil : i < L.length := by
        have y1 := (List.getElem?_eq_some_iff.mp hi).1
        have y2 := R.tab.sz
        rw [List.length_map] at y2
        rw [Array.length_toList] at y1
        omega
      obtain ⟨p, hp⟩ : ∃ p, L[i]? = some p := ⟨_, List.getElem?_eq_getElem hil⟩
      have pin := List.mem_of_getElem? hp
      have live : t.slot (way t.mask (thash P w k) (c + q)) = .live i := slot_live R.tab.ris hi
      have behind : wpAny (model P w) A (searchRest a (.ref x) (thash P w k) false f es t (way t.mask (thash P w k) (c + q)) i (prb t (thash P w k) (c + (q + 1)))) Q E s := by
        unfold searchRest
        rw [R.entry hp]
        dsimp only
        refine wpAny_bind (wpAny_holding (wpAny_eqBool_tuple hu (R.tup p pin) hx ?_))
        refine wpAny_bind (wpAny_setState_of ho hd R.fits ?_)
        dsimp only
        refine wp_if_neg (by simp) ?_
        try refine wpAny_bind (wpAny_pure ?_)
        rw [sameMem]
        dsimp only
        simp only [if_true, live, R.entry hp]
        refine wpAny_bind (wpAny_isSame_ref_self (wpAny_bind (wpAny_pure ?_)))
        simp only [if_true]
        by_cases e : p.2 = k
        · refine wp_if_pos (by simp [e]) (wpAny_pure (yes i (List.mem_map.mpr ⟨p, pin, e⟩)))
        · refine wp_if_neg (by simp [e]) (ih (c + (q + 1)) _ rfl (by omega) (by omega) fun j r hj hr => ?_)
          obtain ⟨c', y1, y2, y3⟩ := ahead j r hj hr
          refine ⟨c', ?_, y2, y3⟩
          rcases Nat.lt_trichotomy c' (c + q) with y | y | y
          · exact absurd ((hash_of j r hj).trans (congrArg (thash P w) hr)) (before (c' - c) j (by omega) (by rw [prb_on, show c + (c' - c) = c' by omega]; exact y3))
          · rw [y] at y3
            have l2 := slot_live R.tab.ris y3
            rw [live] at l2
            injection l2 with l2
            rw [← l2, hp] at hj
            exact absurd ((congrArg Prod.snd (Option.some.inj hj)).trans hr) e
          · omega
      have nxt : nth t.mask (prb t (thash P w k) c) (q + 1) = prb t (thash P w k) (c + (q + 1)) := prb_on ..
      have plc : (nth t.mask (prb t (thash P w k) c) q).j = way t.mask (thash P w k) (c + q) := congrArg SetTable.Probe.j (prb_on t (thash P w k) c q)
      rw [nxt, plc]
      by_cases led : t.led = true
      · refine wp_if_neg (by simp [led]) ?_
        try refine wpAny_bind (wpAny_pure ?_)
        exact behind
      · refine wp_if_pos (by simp [led]) (wpAny_bind (seen_tup hx (fun y hy => ?_) (wp_if_neg (by decide) ?_)))
        · obtain ⟨e, he, rfl⟩ := List.mem_map.mp hy
          have e1 : e ∈ es.toList := by
            have e2 : e ∈ es ∧ e.1 = thash P w k := by simpa using he
            simpa using e2.1
          rw [R.rows] at e1
          obtain ⟨p2, hp2, rfl⟩ := List.mem_map.mp e1
          exact ⟨p2.2, p2.1, rfl, R.tup p2 hp2⟩
        · try refine wpAny_bind (wpAny_pure ?_)
          exact behind
    · have plc : (nth t.mask (prb t (thash P w k) c) (z - c)).j = way t.mask (thash P w k) z := by
        rw [prb_on, show c + (z - c) = z by omega]
      rw [hat, show t.probe _ (thash P w k) (prb t (thash P w k) c) = _ from met]
      dsimp only
      rw [plc]
      refine wpAny_pure (no fun hm => ?_)
      obtain ⟨p, hp, hk⟩ := List.mem_map.mp hm
      obtain ⟨i, hi, rfl⟩ := List.getElem_of_mem hp
      have hi2 := List.getElem?_eq_getElem hi
      obtain ⟨c', y1, y2, y3⟩ := ahead i _ hi2 hk
      exact before (c' - c) i (by omega) (by rw [prb_on, show c + (c' - c) = c' by omega]; exact y3) ((hash_of i _ hi2).trans (congrArg (thash P w) hk))
theorem seek_all (R : SetTR P w s.heap a L es ep t) {x : Addr} {k : List Int} (hx : IsT P w s.heap k x) (hu : A.units < cLine) {Q : Option Nat → Shared → Prop} (h : ∀ r, r.isSome = decide (k ∈ L.map (·.2)) → Q r s) :
    wpAny (model P w) A (setFind a (.ref x) (thash P w k)) Q E s := by
  obtain ⟨o, ho, _, hd⟩ := R.ob
  have room := R.room
  obtain ⟨z, z1, z2, z3⟩ := R.tab.first (by rw [List.length_map]; omega) (thash P w k)
  have zb : z < 100000 := by
    have : 10 * SetTable.turns t.mask ≤ 1420 := by
      unfold SetTable.turns
      rcases R.tab.mok with e | e | e <;> omega
    omega
  unfold setFind
  rw [show (100000 : Nat) = 99999 + 1 from rfl]
  unfold setFindIn
  refine wpAny_bind (wpAny_setState_of ho hd R.fits ?_)
  dsimp only
  refine wp_if_neg (by simp [byScan, Value.scannable]) ?_
  try refine wpAny_bind (wpAny_pure ?_)
  unfold setSearch
  refine wpAny_bind (seek R hx hu z1 z2 z3 (fun i m => ?_) (fun m => ?_) 100000 0 none rfl (Nat.zero_le _) (by omega) fun i p hp hk => ?_)
  · dsimp only
    exact wpAny_pure (h (some i) (by rw [decide_eq_true m] <;> rfl))
  · dsimp only
    exact wpAny_pure (h none (by rw [decide_eq_false m] <;> rfl))
  · have y1 : (L.map fun p => thash P w p.2)[i]? = some (thash P w k) := by rw [List.getElem?_map, hp, ← hk] <;> rfl
    have y2 : i < t.place.toList.length := by
      have e1 := (List.getElem?_eq_some_iff.mp hp).1
      have e2 := R.tab.sz
      rw [List.length_map] at e2
      rw [Array.length_toList]
      omega
    have y3 := List.getElem?_eq_getElem y2
    obtain ⟨c, hc, e⟩ := R.tab.before z2 y1 y3
    exact ⟨c, Nat.zero_le _, hc, by rw [y3, e]⟩
/-- x in a -/
theorem in_tups (R : SetTR P w s.heap a L es ep t) {x : Addr} {k : List Int} (hx : IsT P w s.heap k x) (hu : A.units + 8 < cLine) {Q : Value → Shared → Prop} (h : ∀ tk, Q (.bool (decide (k ∈ L.map (·.2)))) { s with toks := tk }) :
    wpAny (model P w) A (compareOp .In (.ref x) (.ref a)) Q E s := by
  obtain ⟨o, ho, hex, hd⟩ := R.ob
  have hT : s.TypeIs (.ref a) "set" := ⟨o, ho, hex.1⟩
  show wpAny _ _ (contains (.ref a) (.ref x) >>= fun b => pure (.bool b)) Q E s
  refine wpAny_bind ?_
  unfold contains
  try with_reducible refine wpAny_holding ?_
  refine wpAny_bind (wpAny_specialOf hT F.slot_set_contains.lookup ?_)
  show wpAny _ _ (if (some (Value.builtin "set.__contains__") == some Value.none) = true then _ else _) _ E s
  rw [if_neg (by rw [beq_builtin_none]; exact Bool.false_ne_true)]
  refine wpAny_bind (wpAny_callSpecialUnlessNone?_slot (name := Str.ofString "__contains__") hT F.slot_set_contains (wpAny_call_entry F.slot_set_contains hT entry_set_contains ?_ (F.args_set_contains_2 _ _)))
  unfold Builtin.«frozenset.__contains__» Builtin.Frozenset.oneOther
  simp only [List.isEmpty_nil, bind_assoc]
  unfold Builtin.Frozenset.addrOf Builtin.Frozenset.withSetAsKey setContains
  refine wpAny_bind (wpAny_pure ?_)
  try dsimp only
  refine wpAny_bind (wpAny_pure ?_)
  try dsimp only
  refine wpAny_bind (wpAny_tryCatch ?_)
  refine wpAny_holding ?_
  refine wpAny_bind (wpAny_pyHash_tuple ?_ hx ?_)
  · show A.units + 1 < cLine
    omega
  refine wpAny_bind ?_
  refine seek_all (s := { s with toks := s.toks + (k.length + 1) }) R hx ?_ fun r hr => ?_
  · show A.units + 1 < cLine
    omega
  refine wpAny_pure ?_
  show wpAny _ _ (ret (Value.bool r.isSome)) _ _ _
  rw [hr]
  exact wpAny_pure ⟨_, rfl, wpAny_truthy_bool (wpAny_pure (h _))⟩
/-- a.add(x) -/
theorem add_tups (R : SetTR P w s.heap a L es ep t) {x : Addr} {k : List Int} (hx : IsT P w s.heap k x) (hu : A.units + 8 < cLine) (few : L.length + 1 < 64) {Q : Value → Shared → Prop}
    (h : ∀ h' tk L' es' ep' t', Heap.SameBut a s.heap h' → SetTR P w h' a L' es' ep' t' → (k ∈ L.map (·.2) → L' = L) → (k ∉ L.map (·.2) → L'.Perm ((x, k) :: L)) → Q .none { s with heap := h', toks := tk }) :
    wpAny (model P w) A (call (.builtin "set.add") [.ref a, .ref x]) Q E s := by
  obtain ⟨o, ho, hex, hd⟩ := R.ob
  have hT : s.TypeIs (.ref a) "set" := ⟨o, ho, hex.1⟩
  refine wpAny_call_entry F.slot_set_add hT F.entry_set_add ?_ (F.args_set_add_2 _ _)
  unfold Builtin.«set.add» Builtin.Frozenset.oneOther
  simp only [List.isEmpty_nil, bind_assoc]
  unfold Builtin.Frozenset.addrOf setAdd
  refine wpAny_bind (wpAny_pure ?_)
  try dsimp only
  refine wpAny_bind (wpAny_pure ?_)
  try dsimp only
  refine wpAny_bind (wpAny_holding ?_)
  refine wpAny_bind (wpAny_pyHash_tuple ?_ hx ?_)
  · show A.units + 1 < cLine
    omega
  refine add_at (s := { s with toks := s.toks + (k.length + 1) }) R hx ?_ few fun b h' L' es' ep' t' sb R' i1 i2 => ?_
  · show A.units + 1 < cLine
    omega
  show wpAny _ _ (ret Value.none) _ _ _
  exact wpAny_pure ⟨_, rfl, h h' _ L' es' ep' t' sb R' i1 i2⟩
end

/-! ### rules -/
section
variable {X : Cx}
theorem setTO_full {pins : List (Addr × Obj)} {σ : L2.St} {H : Hp} {s : Shared} {a : Addr} {L : List (Addr × List Int)} (I : Inv X pins σ H s) (ha : H a = some (SetTO X.prog X.w a L)) (hl : ∀ p ∈ L, SqT X.K H p.1 (p.2.map V.int)) :
    ∃ es ep t, SetTR X.prog X.w s.heap a L es ep t := ((show ObjOk X.prog X.w H s.heap a (SetTO X.prog X.w a L) from I.hok a _ ha).1).full fun p hp => I.isT (hl p hp)
/-- set() -/
def rSetT0 (P : Program) (w : World) : List V → Hp → VK → Prop := fun xs H Q => xs = [] ∧ ∀ p, H p = none → Q (.ref p) (upd H p (SetTO P w p []))
theorem cr_setT0 : CallR X (.type "set") (rSetT0 X.prog X.w) := by
  intro pins s σ H xs us Q I r h
  obtain ⟨rfl, q⟩ := h
  cases r
  refine setR_new fun _ => ?_
  refine ⟨.ref _, upd H s.heap.objs.size (SetTO X.prog X.w s.heap.objs.size []), I.laid (t' := s.toks) (fun b u e => Heap.get?_push_of_some _ e) (Nat.le_refl _) (setTO_new ?_), rfl, q _ (I.hok.fresh (Nat.le_refl _))⟩
  exact (setTR_fresh (w := X.w) (P := X.prog) (Heap.get?_push_size _ rfl)).t0
/-- x in a, x not in a -/
def rInT (K : PySem.W.Frag) (P : Program) (w : World) (neg : Bool) : R2 := fun x y H Q => ∃ (p a : Addr) (k : List Int) (L : List (Addr × List Int)), x = .ref p ∧ y = .ref a ∧ SqT K H p (k.map V.int) ∧ H a = some (SetTO P w a L) ∧ (∀ q ∈ L, SqT K H q.1 (q.2.map V.int)) ∧
  Q (.bl (if neg then !decide (k ∈ L.map (·.2)) else decide (k ∈ L.map (·.2)))) H
theorem op_inT (hu : X.A.units + 64 < cLine) : OpR X (compareOp .In) (rInT X.K X.prog X.w false) := by
  rintro pins s σ H x y v u Q I rx ry ⟨p, a, k, L, rfl, rfl, hp, ha, hl, q⟩
  obtain rfl := (show v = Value.ref p from rx)
  obtain rfl := (show u = Value.ref a from ry)
  obtain ⟨es, ep, t, R⟩ := setTO_full I ha hl
  exact in_tups R (I.isT hp) (by omega) fun tk => ⟨.bl _, H, I.tok tk, rfl, q⟩
/-- a.add(x) -/
def tAddT (K : PySem.W.Frag) (P : Program) (w : World) (to te : TE) : TE := fun σ H Q => to σ H fun x H1 => (∃ a L, x = V.ref a ∧ H1 a = some (SetTO P w a L) ∧ ∀ q ∈ L, SqT K H1 q.1 (q.2.map V.int)) ∧ tCons te tNil σ H1 fun ys H2 => ∃ (a p : Addr) (k : List Int) (L : List (Addr × List Int)),
  x = V.ref a ∧ ys = [V.ref p] ∧ H2 a = some (SetTO P w a L) ∧ (∀ q ∈ L, SqT K H2 q.1 (q.2.map V.int)) ∧ SqT K H2 p (k.map V.int) ∧ L.length + 1 < 64 ∧
  ∀ L', (k ∈ L.map (·.2) → L' = L) → (k ∉ L.map (·.2) → L'.Perm ((p, k) :: L)) → Q .non (upd H2 a (SetTO P w a L'))
theorem pe_addT {o e : Expr} {to te : TE} {apos cpos : Pos} (hu : X.A.units + 64 < cLine) (ho : PE X o to) (he : PE X e te)
    (hbase : attributeBase o "add" X.env (eval o X.env) = eval o X.env := by rfl)
    (hfew : ((backTo cpos (starEach [e] X.env)).all (fun x => !x.1) && (backToKw cpos (keywordEach [] X.env)).all (fun x => x.1.isSome)
      && decide ([e].length + ([] : List Keyword).length + (if ([] : List Keyword).isEmpty then 0 else 1) < 30)) = true := by rfl)
    (hline : (apos.endLine == cpos.line) = true := by rfl) (hs : starEach [e] X.env = (false, eval e X.env) :: starEach [] X.env := by rfl) (hpl : (backTo cpos (starEach [] X.env)).any (·.1) = false := by rfl) :
    PE X (.Call (.Attribute o "add" apos) [e] [] cpos) (tAddT X.K X.prog X.w to te) := by
  refine ⟨fun pins s σ H Q I h => ?_⟩
  refine wpAny_Call_method_late hbase hfew hline rfl (thn (ho.run pins s σ H _ I h) fun v s1 ⟨x, H1, I1, r1, ⟨a0, L0, e0, ha0, hl0⟩, q1⟩ => ?_)
  subst e0
  obtain rfl := (show v = Value.ref a0 from r1)
  obtain ⟨es, ep, t, R0⟩ := setTO_full I1 ha0 hl0
  obtain ⟨o0, ho0, hex0, _⟩ := R0.ob
  refine ⟨"set", "set.add", F.plainAttrs_set, F.slot_set_add, F.type_set_add, ⟨o0, ho0, hex0.1⟩, ?_, ?_⟩
  · intro b eb
    cases eb
    exact ⟨o0, ho0, hex0.2.1⟩
  · have hA := (pa_cons he pa_nil hs).run cpos pins s1 σ H1 _ I1 q1
    rw [hs] at hA ⊢
    refine Calls.callWith_builtin (by show (false || (backTo cpos (starEach [] X.env)).any (·.1)) = false; rw [hpl] <;> rfl) (Calls.evalArgs_plain ?_)
    refine thn hA fun us s2 ⟨ys, H2, I2, r2, a, p, k, L, ea, ep2, ha, hl, hp, few, q⟩ => ?_
    subst ep2
    cases ea
    rw [Vals.ref1 r2]
    obtain ⟨es, ep, t, R⟩ := setTO_full I2 ha hl
    refine add_tups R (I2.isT hp) (by omega) few fun h' tk L' es' ep' t' sb R' i1 i2 => ?_
    have old : ∃ u, h'.get? a0 = some u := by
      obtain ⟨o1, g1, _⟩ := R'.ob
      exact ⟨o1, g1⟩
    exact ⟨.non, _, I2.write (e := a0) (t' := tk) (by rw [ha]; trivial) (.inl rfl) (fun b u hb z => (sb.2 b hb).trans z) old (setTO_new R'.t0), rfl, q L' i1 i2⟩
end
end Xs

namespace Xs
open PySem PySem.Spec PyProof.Rows L2 Xa Xb Xc
/-! ### sorted(xs), xs a list of tuples of ints of one length -/
def encT (p : Addr × List Int) : PyData := .tuple (p.2.map .int)
/-- the list in order -/
def srt (ks : List (Addr × List Int)) : List (Addr × List Int) := ks.mergeSort (PySem.W.dataLe false encT)
theorem srt_perm (ks : List (Addr × List Int)) : (srt ks).Perm ks := List.mergeSort_perm _ _
/-- sorted(xs) -/
def rSortL (K : PySem.W.Frag) : List V → Hp → VK → Prop := fun vs H Q => ∃ (a : Addr) (ks : List (Addr × List Int)) (d : Nat), vs = [V.ref a] ∧ SqL K H a (ks.map fun p => V.ref p.1) ∧ (∀ p ∈ ks, SqT K H p.1 (p.2.map V.int)) ∧ (∀ p ∈ ks, p.2.length = d + 1) ∧
  ∀ p, H p = none → Q (.ref p) (upd H p (.lst ((srt ks).map fun q => V.ref q.1)))
theorem alike_ints : ∀ (xs ys : List Int), PySem.W.alikeAll (xs.map .int) (ys.map .int) = true
  | [], [] => by simp [PySem.W.alikeAll]
  | [], _ :: _ => by simp [PySem.W.alikeAll]
  | _ :: _, [] => by simp [PySem.W.alikeAll]
  | x :: xs, y :: ys => by
    have := alike_ints xs ys
    simp [PySem.W.alikeAll, PySem.W.alike, this]
theorem depth_ints : ∀ xs : List Int, PyData.depthAll (xs.map .int) ≤ 1
  | [] => by simp [PyData.depthAll]
  | x :: xs => by
    have := depth_ints xs
    simp only [List.map_cons, PyData.depthAll, PyData.depth]
    omega
theorem each_refs {R : Value → (Addr × List Int) → Prop} : ∀ {ks : List (Addr × List Int)}, (∀ p ∈ ks, R (.ref p.1) p) → PySem.W.EachIs R (ks.map fun p => Value.ref p.1) ks
  | [], _ => .nil
  | p :: ks, h => .cons (h p List.mem_cons_self) (each_refs fun q hq => h q (List.mem_cons_of_mem _ hq))
theorem refs_each : ∀ {ks : List (Addr × List Int)} {vs : List Value}, PySem.W.EachIs (fun v (p : Addr × List Int) => v = .ref p.1) vs ks → Vals (ks.map fun p => V.ref p.1) vs
  | _, _, .nil => .nil
  | _, _, .cons e t => .cons e (refs_each t)
section
variable {X : Cx}
theorem isT_reads {P : Program} {w : World} {h : Heap} {b : Addr} {k : List Int} (x : IsT P w h k b) : ∃ as, Reads h (.ref b) (.tuple (k.map .int)) as := by
  obtain ⟨o, its, n, ho, hc, hd, hi⟩ := x
  have all : ∀ {k : List Int} {us : List Value}, IntsAre us k → ∃ as, ReadsAll h us (k.map .int) as := by
    intro k us r
    induction r with
    | nil => exact ⟨_, .nil⟩
    | cons n t _ ih =>
      obtain ⟨as, q⟩ := ih
      exact ⟨_, .cons (.int n t) q⟩
  obtain ⟨as, q⟩ := all (ints_of_items hi)
  exact ⟨as, .tuple ho hc hd q⟩
theorem cr_sortL (hc : X.calm = true) (hu : X.A.units + 64 < cLine) : CallR X (.builtin "sorted") (rSortL X.K) := by
  intro pins s σ H vs us Q I r h
  obtain ⟨a, ks, d, rfl, hl, ht, hd, q⟩ := h
  rw [Vals.ref1 r]
  obtain ⟨its, rv, pl, hz⟩ := I.list hl
  have e0 : its = ks.map fun p => Value.ref p.1 := refs_of_vals rv
  subst e0
  have hn : H (s.heap.objs.size + 1) = none := I.hok.fresh (Nat.le_succ _)
  rw [List.length_map] at hz
  refine PySem.W.sorted_data (bs := ks) (enc := encT) (R := fun v (p : Addr × List Int) => v = .ref p.1) pl.isList (each_refs fun p _ => rfl) (each_refs fun p hp => isT_reads (P := X.prog) (w := X.w) (I.isT (ht p hp))) ?_ (.inl fun e he => ?_) hz (fun p hp => ?_) fun out lo eo => ?_
  · intro e he e' he'
    obtain ⟨p, hp, rfl⟩ := List.mem_map.mp he
    obtain ⟨p', hp', rfl⟩ := List.mem_map.mp he'
    simp only [encT, PySem.W.alike, alike_ints]
  · obtain ⟨p, hp, rfl⟩ := List.mem_map.mp he
    have := hd p hp
    obtain ⟨b, l⟩ := p
    cases l with
    | nil => simp at this
    | cons x l => exact ⟨.int x, l.map .int, rfl⟩
  · have := depth_ints p.2
    show X.A.units + 2 + (PyData.tuple (p.2.map .int)).depth < cLine
    simp only [PyData.depth]
    omega
  · obtain ⟨c, hc2⟩ := PyProof.Rows.sortedAll_at s.heap (ks.map fun p => Value.ref p.1) out.toArray
    have hv := refs_each eo
    have hlen : ((srt ks).map fun q => V.ref q.1).length ≤ sizeLine := by rw [List.length_map, (srt_perm ks).length_eq]; exact hz
    refine ⟨.ref (s.heap.objs.size + 1), upd H (s.heap.objs.size + 1) (.lst ((srt ks).map fun q => V.ref q.1)), I.laid (a := s.heap.objs.size + 1) (o := .lst ((srt ks).map fun q => V.ref q.1)) (t' := s.toks) (fun b u e => PyProof.Rows.sortedAll_old e) (Nat.le_succ _) ⟨hlen, out, c, hv, hc2⟩, rfl, q _ hn⟩
end
end Xs
/-! Own ground, part P: defs that can be called by name; what kind a value is. -/
namespace Xp
open PySem PySem.Spec PyProof.Rows L2 Xa Xb Xc

/-! ### defs that can be called by their names -/
def Can (P : Program) (w : World) (K : PySem.W.Frag) (mg : Str → Option Value) (base : Heap) (C : CXT) (lev : Nat) (x : Str) (ps : List Str) (pr : Sp) : Prop :=
  ∃ (f : Addr) (fd : FuncData), FnOk P w K mg base C lev f fd ps pr ∧ mg x = some (.ref f) ∧ PySem.W.keepIn K (.ref f) = true ∧ Binds K fd ps []
def CanG (P : Program) (w : World) (K : PySem.W.Frag) (mg : Str → Option Value) (base : Heap) (lev : Nat) (x : Str) (ps : List Str) (pr : Sp) : Prop :=
  ∃ (f : Addr) (fd : FuncData), FnG P w K mg base lev f fd ps pr ∧ mg x = some (.ref f) ∧ PySem.W.keepIn K (.ref f) = true ∧ Binds K fd ps []
section
variable {X : Cx} {C : CXT} {lev : Nat} {x : Str} {ps : List Str} {pr : Sp} {E : XK} {p pos : Pos} {e : Expr} {es : List Expr} {t : TA}
theorem pe_can (c : Can X.prog X.w X.K X.mg X.base C lev x ps pr) (hr : Room lev X.A) (hx : Passes C X E) (ha : PA X (e :: es) t) (hg : Gl X x := by rfl) (hdb : (x == ("__debug__" : Str)) = false := by decide)
    (he : starEach (e :: es) X.env = (false, eval e X.env) :: starEach es X.env := by rfl) (hpl : (backTo pos (starEach es X.env)).any (·.1) = false := by rfl) : PE X (.Call (.Name x p) (e :: es) [] pos) (tCall pr [] E t) := by
  obtain ⟨f, fd, F, g, k, b⟩ := c
  exact pe_call F hr hg g k b .nil hx ha hdb he hpl
theorem pe_canG (c : CanG X.prog X.w X.K X.mg X.base lev x ps pr) (hr : Room lev X.A) (hn : NoRep X.A) (ha : PA X (e :: es) t) (hg : Gl X x := by rfl) (hdb : (x == ("__debug__" : Str)) = false := by decide)
    (he : starEach (e :: es) X.env = (false, eval e X.env) :: starEach es X.env := by rfl) (hpl : (backTo pos (starEach es X.env)).any (·.1) = false := by rfl) : PE X (.Call (.Name x p) (e :: es) [] pos) (tCall pr [] E0 t) := by
  obtain ⟨f, fd, F, g, k, b⟩ := c
  exact pe_callG F hr hn hg g k b ha hdb he hpl
theorem pe_canG0 (c : CanG X.prog X.w X.K X.mg X.base lev x ps pr) (hr : Room lev X.A) (hn : NoRep X.A) (hg : Gl X x := by rfl) (hdb : (x == ("__debug__" : Str)) = false := by decide) : PE X (.Call (.Name x p) [] [] pos) (tCall pr [] E0 tNil) := by
  obtain ⟨f, fd, F, g, k, b⟩ := c
  exact pe_callG0 F hr hn hg g k b hdb
theorem pa1 (he : PE X e te) (hs : starEach (e :: []) X.env = (false, eval e X.env) :: starEach [] X.env := by rfl) : PA X [e] (tCons te tNil) := pa_cons he pa_nil hs
/-- a built-in function by its name -/
theorem pe_bi {id : String} {r : List V → Hp → VK → Prop} (hc : CallR X (.builtin id) r) (hm : X.mg x = none) (ha : PA X (e :: es) t) (hg : Gl X x := by rfl) (hv : bootBuiltins x = some (.builtin id) := by decide +kernel) (hn : x ≠ "__name__" := by decide)
    (hdb : (x == ("__debug__" : Str)) = false := by decide) (he : starEach (e :: es) X.env = (false, eval e X.env) :: starEach es X.env := by rfl) (hpl : (backTo pos (starEach es X.env)).any (·.1) = false := by rfl) : PE X (.Call (.Name x p) (e :: es) [] pos) (tCB r t) :=
  pe_callB hc hg hm hv ha hn hdb he hpl
/-- a built-in type, called -/
theorem pe_ty {T : String} {r : List V → Hp → VK → Prop} (hc : CallR X (.type T) r) (hm : X.mg x = none) (ha : PA X (e :: es) t) (hg : Gl X x := by rfl) (hv : bootBuiltins x = some (.type T) := by decide +kernel) (hn : x ≠ "__name__" := by decide)
    (hdb : (x == ("__debug__" : Str)) = false := by decide) (he : starEach (e :: es) X.env = (false, eval e X.env) :: starEach es X.env := by rfl) (hpl : (backTo pos (starEach es X.env)).any (·.1) = false := by rfl) : PE X (.Call (.Name x p) (e :: es) [] pos) (tCB r t) :=
  pe_callTy hc hg hm hv ha hn hdb he hpl
/-- a built-in type as a value -/
theorem pe_tyv (T : String) (hm : X.mg x = none) (hg : Gl X x := by rfl) (hv : bootBuiltins x = some (.type T) := by decide +kernel) (hn : x ≠ "__name__" := by decide) (hdb : (x == ("__debug__" : Str)) = false := by decide) : PE X (.Name x p) (tC (.ty T)) :=
  pe_bltn hg hm hv rfl hn hdb
end
section
variable {K : PySem.W.Frag} {x qual : Str} {params : Arguments} {body : List Stmt} {scope : Scope} {f : Addr} {fd : FuncData} {P : Program} {w : World} {mg : Str → Option Value} {base : Heap} {C : CXT} {lev : Nat} {ps : List Str} {pr : Sp}
theorem FnOk.can (F : FnOk P w K mg base C lev f fd ps pr) (D : FunD K x qual params body scope [] [] f fd) (g : mg x = some (.ref f))
    (b : ∀ (kV doc pm : Value) (an : Option Addr) (cdv ct : Value) (us : List Value), us.length = ps.length → bindArgs (PySem.W.fnOf x qual params body scope .none kV doc pm an cdv ct) ⟨us, []⟩ = pure (ps.zip us)) : Can P w K mg base C lev x ps pr := ⟨f, fd, F, g, D.kp, D.bindsN b⟩
theorem FnG.can (F : FnG P w K mg base lev f fd ps pr) (D : FunD K x qual params body scope [] [] f fd) (g : mg x = some (.ref f))
    (b : ∀ (kV doc pm : Value) (an : Option Addr) (cdv ct : Value) (us : List Value), us.length = ps.length → bindArgs (PySem.W.fnOf x qual params body scope .none kV doc pm an cdv ct) ⟨us, []⟩ = pure (ps.zip us)) : CanG P w K mg base lev x ps pr := ⟨f, fd, F, g, D.kp, D.bindsN b⟩
end

/-! ### what kind a value is -/
/-- v's built-in type -/
def Kd (K : PySem.W.Frag) (H : Hp) (v : V) (T : String) : Prop := TyX K H v (.type T)
/-- whether v is a whole number -/
def Whl (K : PySem.W.Frag) (H : Hp) (v : V) (b : Bool) : Prop := ∃ (T : String) (b1 b2 : Bool), Kd K H v T ∧ kitB T "int" = some b1 ∧ kitB T "bool" = some b2 ∧ b = (b1 && !b2)
section
variable {K : PySem.W.Frag} {H : Hp}
theorem whl_int (i : Int) : Whl K H (.int i) true := ⟨"int", true, false, .base (.int i), by decide +kernel, by decide +kernel, rfl⟩
theorem whl_non : Whl K H .non false := ⟨"NoneType", false, false, .base .non, by decide +kernel, by decide +kernel, rfl⟩
theorem whl_bl (b : Bool) : Whl K H (.bl b) false := ⟨"bool", true, true, .base (.bl b), by decide +kernel, by decide +kernel, rfl⟩
theorem whl_str (z : Str) : Whl K H (.str z) false := ⟨"str", false, false, .base (.str z), by decide +kernel, by decide +kernel, rfl⟩
theorem whl_lst {a : Addr} {xs : List V} (e : H a = some (.lst xs)) : Whl K H (.ref a) false := ⟨"list", false, false, .base (.lst e), by decide +kernel, by decide +kernel, rfl⟩
theorem whl_tup {a : Addr} {xs : List V} (e : H a = some (.tup xs)) : Whl K H (.ref a) false := ⟨"tuple", false, false, .base (.tup e), by decide +kernel, by decide +kernel, rfl⟩
theorem whl_dic {a : Addr} {kvs : List (Key × V)} (e : H a = some (.dK kvs)) : Whl K H (.ref a) false := ⟨"dict", false, false, .base (.dK e), by decide +kernel, by decide +kernel, rfl⟩
end
/-- v as a number, if it is one -/
inductive Num (K : PySem.W.Frag) (H : Hp) : V → Option Int → Prop
  | is (i : Int) : Num K H (.int i) (some i)
  | no {v : V} (h : Whl K H v false) : Num K H v none
theorem Num.whl {K : PySem.W.Frag} {H : Hp} {v : V} {o : Option Int} : Num K H v o → Whl K H v o.isSome
  | .is i => whl_int i
  | .no h => h
def inR (o : Option Int) (lo hi : Int) : Bool := match o with
  | some i => decide (lo ≤ i) && decide (i ≤ hi)
  | none => false
/-- v is of a kind, T2 is asked -/
def IsK (K : PySem.W.Frag) (H : Hp) (v : V) (T2 : String) (b : Bool) : Prop := ∃ T, Kd K H v T ∧ kitB T T2 = some b
section
variable {K : PySem.W.Frag} {H : Hp}
theorem isk_non (T : String) {b : Bool} (h : kitB "NoneType" T = some b) : IsK K H .non T b := ⟨_, .base .non, h⟩
theorem isk_bl (x : Bool) (T : String) {b : Bool} (h : kitB "bool" T = some b) : IsK K H (.bl x) T b := ⟨_, .base (.bl x), h⟩
theorem isk_int (i : Int) (T : String) {b : Bool} (h : kitB "int" T = some b) : IsK K H (.int i) T b := ⟨_, .base (.int i), h⟩
theorem isk_str (z : Str) (T : String) {b : Bool} (h : kitB "str" T = some b) : IsK K H (.str z) T b := ⟨_, .base (.str z), h⟩
theorem isk_lst {a : Addr} {xs : List V} (e : H a = some (.lst xs)) (T : String) {b : Bool} (h : kitB "list" T = some b) : IsK K H (.ref a) T b := ⟨_, .base (.lst e), h⟩
theorem isk_tup {a : Addr} {xs : List V} (e : H a = some (.tup xs)) (T : String) {b : Bool} (h : kitB "tuple" T = some b) : IsK K H (.ref a) T b := ⟨_, .base (.tup e), h⟩
theorem isk_dic {a : Addr} {kvs : List (Key × V)} (e : H a = some (.dK kvs)) (T : String) {b : Bool} (h : kitB "dict" T = some b) : IsK K H (.ref a) T b := ⟨_, .base (.dK e), h⟩
end
/-- isinstance(v, T), v of a built-in kind -/
def rKd (K : PySem.W.Frag) : List V → Hp → VK → Prop := fun xs H Q => ∃ (v : V) (T : String) (b : Bool), xs = [v, .ty T] ∧ IsK K H v T b ∧ Q (.bl b) H
theorem call_kd {X : Cx} : CallR X (.builtin "isinstance") (rKd X.K) := by
  intro pins s σ H xs us Q I r h
  obtain ⟨v, T, b, rfl, ⟨T1, k, e⟩, q⟩ := h
  exact call_isi pins s σ H [v, .ty T] us Q I r ⟨v, .ty T, .type T1, .type T, b, rfl, .ty T, k, kit_ty e, q⟩
end Xp

namespace Xp
open PySem PySem.Spec PyProof.Rows L2 Xa Xb Xc
/-! ### FARTHEST[places]: a written dict of two ints -/
def farB (K : PySem.W.Frag) (F : Addr) : Bool := match K.lookup F with
  | some ⟨.type "dict", none, .dict ⟨[⟨h1, .int a _, .int b _⟩, ⟨h2, .int c _, .int d _⟩]⟩ _, ⟨[]⟩⟩ => decide (h1 = hashInt 1) && (decide (h2 = hashInt 2) && (decide (a = 1) && (decide (b = 2) && (decide (c = 2) && decide (d = 1)))))
  | _ => false
def rFar (K : PySem.W.Frag) : R2 := fun x y H Q => ∃ F, x = .ref F ∧ farB K F = true ∧ ((y = .int 1 ∧ Q (.int 2) H) ∨ (y = .int 2 ∧ Q (.int 1) H))
theorem far_ok {K : PySem.W.Frag} {F : Addr} (h : farB K F = true) : ∃ n t1 t2 t3 t4, K.lookup F = some ⟨.type "dict", none, .dict #[⟨hashInt 1, .int 1 t1, .int 2 t2⟩, ⟨hashInt 2, .int 2 t3, .int 1 t4⟩] n, #[]⟩ := by
  unfold farB at h
  split at h
  · rename_i e
    obtain ⟨e1, h⟩ := He.ba h
    obtain ⟨e2, h⟩ := He.ba h
    obtain ⟨e3, h⟩ := He.ba h
    obtain ⟨e4, h⟩ := He.ba h
    obtain ⟨e5, e6⟩ := He.ba h
    have e1 := of_decide_eq_true e1
    have e2 := of_decide_eq_true e2
    have e3 := of_decide_eq_true e3
    have e4 := of_decide_eq_true e4
    have e5 := of_decide_eq_true e5
    have e6 := of_decide_eq_true e6
    subst e1 e2 e3 e4 e5 e6
    exact ⟨_, _, _, _, _, e⟩
  · cases h
theorem ix_far {X : Cx} : IxR X (rFar X.K) := by
  intro value slice pins s σ H x y v u Q I rx ry h hs
  obtain ⟨F, rfl, hf, q⟩ := h
  obtain rfl : v = Value.ref F := rx
  obtain ⟨n, t1, t2, t3, t4, lk⟩ := far_ok hf
  have ho := I.kIn _ _ lk
  have hm : s.heap.MapOf (PySem.intKind X.prog X.w) F (findBy (PySem.intKind X.prog X.w).is #[⟨hashInt 1, .int 1 t1, .int 2 t2⟩, ⟨hashInt 2, .int 2 t3, .int 1 t4⟩]) := by
    refine ⟨_, _, _, ho, ⟨rfl, rfl, rfl⟩, rfl, fun e he => ?_, fun k => rfl⟩
    have he : e = ⟨hashInt 1, .int 1 t1, .int 2 t2⟩ ∨ e = ⟨hashInt 2, .int 2 t3, .int 1 t4⟩ := by simpa using he
    rcases he with rfl | rfl
    · exact ⟨1, PySem.intKind_is _ _ _ _, rfl⟩
    · exact ⟨2, PySem.intKind_is _ _ _ _, rfl⟩
  have is_ : ∀ (a b : Int) (t : Tok), (PySem.intKind X.prog X.w).is a (.int b t) = decide (a = b) := fun a b t => by
    show Value.isInt a (.int b t) = _
    unfold Value.isInt
    by_cases e : a = b
    · subst e
      simp
    · rw [decide_eq_false e]
      first | exact beq_false_of_ne (Ne.symm e) | exact beq_false_of_ne e
  rcases q with ⟨rfl, q⟩ | ⟨rfl, q⟩
  · obtain ⟨t, rfl⟩ := ry
    exact tail_any hm.typeIs slot_dict_getitem.lookup (wpAny_getItem_of (PySem.intKind_is X.prog X.w 1 t) hm (v := .int 2 t2) (by simp [findBy, is_]) ⟨.int 2, H, I.tok _, ⟨_, rfl⟩, q⟩) hs
  · obtain ⟨t, rfl⟩ := ry
    exact tail_any hm.typeIs slot_dict_getitem.lookup (wpAny_getItem_of (PySem.intKind_is X.prog X.w 2 t) hm (v := .int 1 t4) (by simp [findBy, is_]) ⟨.int 1, H, I.tok _, ⟨_, rfl⟩, q⟩) hs
end Xp
/-! Own ground, part H: the law called from outside, for defs that know that no repr is under way. -/
namespace Xh
open PySem PySem.Spec PyProof.Rows L2 Xa
/-- what can be tracked at the law's call: at most the script, and that as it stands -/
structure Track (P : Program) (w : World) (K : PySem.W.Frag) (h : Heap) (a : Addr) (ns : List Int) (H : Hp) : Prop where
  only : Only H
  seq : SqL K H a (ns.map V.int)
  hok : HOk P w H h
  just : ∀ b, H b ≠ none → b = a
  notK : H a ≠ none → K.lookup a = none
theorem track_ex {P : Program} {w : World} {K : PySem.W.Frag} {h : Heap} {a : Addr} {vs : List Value} {ns : List Int} (KX : K.In h) (ha : h.get? a = some { cls := .type "list", data := .seq vs.toArray }) (hi : IntsAre vs ns) (hl : ns.length ≤ sizeLine) : ∃ H, Track P w K h a ns H := by
  have rv := vals_ints hi
  have hlen : (ns.map V.int).length ≤ sizeLine := by rw [List.length_map] <;> exact hl
  by_cases hk : K.lookup a = none
  · refine ⟨upd (fun _ => none) a (.frz { cls := .type "list", data := .seq vs.toArray } (.lst (ns.map V.int))), fun b => ?_, .inl (.inr ⟨_, upd_same⟩), fun b u e => ?_, fun b nb => ?_, fun _ => hk⟩
    · by_cases e : b = a
      · rw [e, upd_same]
        exact .inr ⟨_, _, rfl⟩
      · rw [upd_ne e]
        exact .inl rfl
    · by_cases q : b = a
      · rw [q, upd_same] at e
        rw [← Option.some.inj e, q]
        exact ⟨ha, hlen, vs, _, rv, ha⟩
      · rw [upd_ne q] at e
        cases e
    · by_cases e : b = a
      · exact e
      · rw [upd_ne e] at nb
        exact absurd rfl nb
  · obtain ⟨o, ho⟩ := Option.ne_none_iff_exists'.mp hk
    have e := KX a o ho
    rw [ha] at e
    have eo := Option.some.inj e
    subst eo
    exact ⟨fun _ => none, fun _ => .inl rfl, .inr ⟨_, vs.toArray, _, ho, rfl, rfl, rfl, by rw [List.size_toArray, hi.length]; exact hl, by simpa using rv⟩, fun b u z => (nomatch z), fun b z => absurd rfl z, fun z => absurd rfl z⟩
/-- the call -/
theorem lawG {P : Program} {w : World} {K : PySem.W.Frag} {mg mb : Str → Option Value} {k : Nat} {fa a : Addr} {fd : FuncData} {x : Str} {sp : Sp} {s : Shared} {vs : List Value} {ns : List Int} (KX : K.In s.heap) (hns : s.heap.Ns mainGlobals mg) (hb : s.heap.Ns builtinsNs mb)
    (hbb : ∀ x : Str, x ≠ "__name__" → mb x = bootBuiltins x) (hlim : s.heap.NoLimit) (hg : s.gens = #[]) (ha : s.heap.get? a = some { cls := .type "list", data := .seq vs.toArray }) (hi : IntsAre vs ns) (hl : ns.length ≤ sizeLine) (hr : Room k callerA) (hn : NoRep callerA)
    (F : ∀ base : Heap, FnG P w K mg base k fa fd [x] sp) (hbind : ∀ (s : Shared) (u : Value), BindsTo s fd ⟨[u], []⟩ [(x, u)]) (hsp : ∀ H : Hp, SqL K H a (ns.map V.int) → sp [.ref a] H (fun v _ => v = .bl true) E0) :
    codeAny (model P w) callerA (.call (.ref fa) ⟨[.ref a], []⟩) (fun r s' => r = .ok (.ret (.bool true)) ∧ OldK s.heap s'.heap ∧ s'.os = s.os ∧ AllBare s'.gens) s := by
  obtain ⟨H, T⟩ := track_ex (P := P) (w := w) KX ha hi hl
  have free : ∀ {b : Addr} {o : Obj}, s.heap.get? b = some o → (∀ vs n, o.data ≠ .seq vs n) → H b = none := fun {b o} e ne => by
    cases q : H b with
    | none => rfl
    | some u =>
      have eb := T.just b (by rw [q]; simp)
      rw [eb, ha] at e
      have eo := Option.some.inj e
      subst eo
      exact absurd rfl (ne _ _)
  have names : ∀ {b : Addr} {m : Str → Option Value}, s.heap.Ns b m → (hidT s.heap H).Ns b m := fun ⟨o, es, ep, e, d, r⟩ => ⟨o, es, ep, hidT_get e (free e fun vs n z => by rw [d] at z; cases z), d, r⟩
  have kin : K.In (hidT s.heap H) := fun b o e => hidT_get (KX b o e) (by
    cases q : H b with
    | none => rfl
    | some u =>
      have eb := T.just b (by rw [q]; simp)
      have nk := T.notK (by rw [← eb, q]; simp)
      rw [eb, nk] at e
      cases e)
  have md : Mod K mg (hidT s.heap H) := ⟨kin, names hns, ⟨mb, names hb, hbb⟩, let ⟨mc, h1, h2⟩ := hlim; ⟨mc, names h1, h2⟩⟩
  have e0 : Env0 P w K mg (hidT s.heap H) callerA [] s H := ⟨rfl, md, fun b o e => of_hidT e, Nat.le_of_eq (hidT_size _ _), trivial, fun b z => absurd (show b ∈ ([] : List Addr) from z) List.not_mem_nil, T.hok, .of_eq hg⟩
  refine codeAny_mono ((F (hidT s.heap H)).go callerA [] s H ⟨[.ref a], []⟩ [.ref a] [.ref a] _ _ hr hn e0 (hbind s (.ref a)) (.cons rfl .nil) (hsp H T.seq)) fun r s' h => ?_
  cases r with
  | error e => exact False.elim h
  | ok fl =>
    cases fl with
    | next => exact False.elim h
    | brk => exact False.elim h
    | cont => exact False.elim h
    | ret u =>
      obtain ⟨v, H', os, bare, un, hok', r', q⟩ := h
      obtain rfl : v = .bl true := q
      obtain rfl : u = Value.bool true := r'
      refine ⟨rfl, OldK.of_keep fun b o e => ?_, os, bare⟩
      rcases T.only b with z | ⟨ob, xs, z⟩
      · exact un.keep b o e z (fun q => absurd (show b ∈ ([] : List Addr) from q) List.not_mem_nil) List.not_mem_nil
      · obtain ⟨e1, _⟩ := T.hok b _ z
        obtain ⟨e2, _⟩ := hok' b _ (un.frzs b ob _ z)
        rw [← Option.some.inj (e1.symm.trans e)]
        exact e2
/-- the walk behind the head -/
theorem walkG {l : PySem.W.OpenLaw} {n k : Nat} {q : Program} {loose : List Str} {XP : (Str → Option Value) → Heap → Prop} {YP : World → Heap → Prop} {d : DefRec} {x : Str} (hm : l.most = some n) (hn2 : n ≤ sizeLine) (hdf : d.params.defaults = []) (hr : Room k callerA) (hn : NoRep callerA)
    (F : ∀ (w : World) (mg : Str → Option Value) (fa : Addr) (h : Heap), YP w h → h.Ns mainGlobals mg → mg d.name = some (.ref fa) →
      ∃ (K : PySem.W.Frag) (fd : FuncData) (sp : Sp), K.In h ∧ (∀ (s : Shared) (u : Value), BindsTo s fd ⟨[u], []⟩ [(x, u)]) ∧ (∀ (H : Hp) (a : Addr) (ns : List Int), SqL K H a (ns.map V.int) → sp [.ref a] H (fun v _ => v = .bl true) E0) ∧ ∀ base : Heap, FnG l.prog w K mg base k fa fd [x] sp) :
    PySem.W.WalkO q loose XP YP l.row.toRowW d [] (fun f vs => PySem.call f vs) := by
  refine Att.attach_call hm hdf fun w s₀ s₁ mg mb fa o pm cd doc a vs ns G Y ho hd hcd hmg hobj hints hlen hg => ?_
  obtain ⟨K, fd, sp, KX, hb, hsp, hF⟩ := F w mg fa _ Y G.T.g hmg
  exact lawG KX G.T.g G.T.b G.T.builtins G.T.nolimit hg hobj hints (Nat.le_trans hlen hn2) hr hn hF hb fun H hS => hsp H a ns hS
end Xh
/-! Own ground, part M: methods called with keywords; what leaves them may be taken by a try. -/
namespace Xm
open PySem PySem.Spec PyProof.Rows L2 Xa Xb Xc Xp
/-- keywords for keyword-only parameters, no defaults ahead of these -/
theorem kb0 {K : PySem.W.Frag} {x qual : Str} {params : Arguments} {body : List Stmt} {scope : Scope} {kws : List (Str × V)} {f : Addr} {fd : FuncData} {ps : List Str} (F : FunD K x qual params body scope [] kws f fd) (n : Nat) (ks : List Str)
    (h : ∀ (kV doc pm : Value) (an : Option Addr) (cdv ct : Value) (us ws : List Value), us.length = n → ws.length = ks.length → bindArgs (PySem.W.fnOf x qual params body scope .none kV doc pm an cdv ct) ⟨us, ks.zip ws⟩ = pure (ps.zip (us ++ ws))) :
    KBn K fd ps n ks (fun us ws => us ++ ws) (fun vs zs => vs ++ zs) := by
  obtain ⟨oc, od, dV, kV, doc, pm, an, cdv, ct, osl, rfl, lk, hcd, hD, hK⟩ := F.ex
  rcases hD with ⟨_, rfl⟩ | ⟨e, _⟩
  · exact ⟨fun s us ws _ l1 l2 => .of_eq (h kV doc pm an cdv ct us ws l1 l2), fun r1 r2 => r1.append r2⟩
  · exact absurd rfl e
/-- nothing leaves -/
theorem passAt0 {X : Cx} (σ : L2.St) : PassesAt (L2.CX X.prog X.w) X σ E0 := fun _ _ _ _ _ _ ⟨_, _, _, _, _, _, _, _, _, _, _, _, q⟩ => False.elim q
/-- o.m(e, .., k = v, ..) -/
def tMethN (C : Addr) (m : Str) (n j : Nat) (sp : Sp) (gV : List V → List V → List V) (E : L2.St → XK) (ta : TE) (t tk : TA) : TE := fun σ H Q => ta σ H fun x H1 => ∃ a dx fs, x = .ref a ∧ H1 a = some (.ins C dx fs) ∧ fs.lookup m = none ∧
  t σ H1 fun vs H2 => tk σ H2 fun zs H3 => (x :: vs).length = n ∧ zs.length = j ∧ sp (gV (x :: vs) zs) H3 Q (E σ)
/-- o.m(e, ..) -/
def tMethD (C : Addr) (m : Str) (sp : Sp) (dvs : List V) (E : L2.St → XK) (ta : TE) (t : TA) : TE := fun σ H Q => ta σ H fun x H1 => ∃ a dx fs, x = .ref a ∧ H1 a = some (.ins C dx fs) ∧ fs.lookup m = none ∧ t σ H1 fun vs H2 => sp (x :: (vs ++ dvs)) H2 Q (E σ)
section
variable {X : Cx} {CX : CXT} {k n : Nat} {f C : Addr} {fd : FuncData} {ps ks : List Str} {sp : Sp} {E : L2.St → XK} {m : Str} {p pos apos : Pos} {o e : Expr} {es : List Expr} {kws : List Keyword} {ta : TE} {t tk : TA} {g : List Value → List Value → List Value} {gV : List V → List V → List V} {ds : List Value} {dvs : List V}
theorem fin_call {pins : List (Addr × Obj)} {σ : L2.St} {H : Hp} {s : Shared} {Q : VK} {ar : Args} {us : List Value} {vs : List V} (F : FnOk X.prog X.w X.K X.mg X.base CX k f fd ps sp) (hr : Room k X.A) (hx : PassesAt CX X σ (E σ)) (I : Inv X pins σ H s)
    (hb : BindsTo s fd ar (ps.zip us)) (r : Vals vs us) (h : sp vs H Q (E σ)) : wpAny (model X.prog X.w) X.A (call (.ref f) ar.pos ar.kw) (EP X pins σ Q) X.xe s := by
  refine wpAny_call (codeAny_mono (F.run X.A X.stack s H ar us vs Q (E σ) hr I.env0 hb r h) fun r s' hq => ?_)
  cases r with
  | error e => exact hx pins H s e s' I hq
  | ok fl =>
    cases fl with
    | ret u => exact I.after hq
    | next => exact False.elim hq
    | brk => exact False.elim hq
    | cont => exact False.elim hq
theorem pe_methN {pl : Sem Bool} (he : PE X o ta) (c : Cls X.K C) (hm : Meth X.K C m f) (F : FnOk X.prog X.w X.K X.mg X.base CX k f fd ps sp) (hr : Room k X.A) (hb : KBn X.K fd ps n ks g gV) (hx : ∀ σ, PassesAt CX X σ (E σ)) (ha : PA X (e :: es) t) (hkw : PK X kws tk)
    (hall : (backToKw pos (keywordEach kws X.env)).all (·.1.isSome) = true := by rfl) (hks : (backToKw pos (keywordEach kws X.env)).filterMap (·.1) = ks := by rfl)
    (hst : starEach (e :: es) X.env = (false, eval e X.env) :: starEach es X.env := by rfl) (hpl : ((backTo pos (starEach (e :: es) X.env)).any (·.1) || (backToKw pos (keywordEach kws X.env)).any (·.1.isNone)) = false := by rfl)
    (ht : eval (.Call (.Attribute o m apos) (e :: es) kws pos) X.env = (do
      let ov ← eval o X.env
      standAt apos.atName
      let (f, first) ← holding [ov] (getMethod ov m pl)
      callWith pos f first (backTo pos (starEach (e :: es) X.env)) (backToKw pos (keywordEach kws X.env))) := by rfl) :
    PE X (.Call (.Attribute o m apos) (e :: es) kws pos) (tMethN C m n ks.length sp gV E ta t tk) := by
  refine ⟨fun pins s σ H Q I h => ?_⟩
  refine PySem.W.methodCall_KW (pl := pl) (thn (he.run pins s σ H _ I h) fun u s1 ⟨x, H1, I1, rx, a, dx, fs, ex, ea, l, q⟩ => ?_) ht
  subst ex
  obtain rfl : u = Value.ref a := rx
  refine getmeth_ok I1 ea c hm l ?_
  refine PySem.W.callWith_KW (first := [.ref a]) (h₀ := X.base) I.ok.mod.kin hm.kp hall (thn (ha.run pos pins s1 σ H1 _ I1 q) fun us s2 ⟨vs, H2, I2, r, q2⟩ => ?_) hpl hst
  refine thn (hkw.run pos pins s2 σ H2 _ I2 q2) fun ws s3 ⟨zs, H3, I3, rz, l1, l2, q3⟩ => ⟨I3.kIn, ?_⟩
  rw [hks]
  have r1 : Vals (V.ref a :: vs) (Value.ref a :: us) := .cons rfl r
  exact fin_call (ar := ⟨.ref a :: us, ks.zip ws⟩) F hr (hx σ) I3 (hb.to s3 (.ref a :: us) ws I3.kIn (r1.length.symm.trans l1) (rz.length.symm.trans l2)) (hb.rel r1 rz) q3
theorem pe_methD {pl : Sem Bool} (he : PE X o ta) (c : Cls X.K C) (hm : Meth X.K C m f) (F : FnOk X.prog X.w X.K X.mg X.base CX k f fd ps sp) (hr : Room k X.A) (hb : Binds X.K fd ps ds) (hd : Vals dvs ds) (hx : ∀ σ, PassesAt CX X σ (E σ)) (ha : PA X (e :: es) t)
    (hst : starEach (e :: es) X.env = (false, eval e X.env) :: starEach es X.env := by rfl) (hpl : (backTo pos (starEach es X.env)).any (·.1) = false := by rfl)
    (ht : eval (.Call (.Attribute o m apos) (e :: es) [] pos) X.env = (do
      let ov ← eval o X.env
      standAt apos.atName
      let (f, first) ← holding [ov] (getMethod ov m pl)
      callWith pos f first (backTo pos (starEach (e :: es) X.env)) (backToKw pos (keywordEach [] X.env))) := by rfl) :
    PE X (.Call (.Attribute o m apos) (e :: es) [] pos) (tMethD C m sp dvs E ta t) := by
  refine ⟨fun pins s σ H Q I h => ?_⟩
  refine PySem.W.methodCall_KW (pl := pl) (thn (he.run pins s σ H _ I h) fun u s1 ⟨x, H1, I1, rx, a, dx, fs, ex, ea, l, q⟩ => ?_) ht
  subst ex
  obtain rfl : u = Value.ref a := rx
  refine getmeth_ok I1 ea c hm l ?_
  refine PySem.W.callWith_K (first := [.ref a]) (h₀ := X.base) I.ok.mod.kin hm.kp (thn (ha.run pos pins s1 σ H1 _ I1 q) fun us s2 ⟨vs, H2, I2, r, q2⟩ => ⟨I2.kIn, ?_⟩) hst hpl
  have r2 : Vals (V.ref a :: (vs ++ dvs)) (Value.ref a :: (us ++ ds)) := .cons rfl (r.append hd)
  have hl : (Value.ref a :: (us ++ ds)).length = ps.length := by rw [← r2.length]; exact F.len _ _ _ _ q2
  exact fin_call (ar := ⟨.ref a :: us, []⟩) F hr (hx σ) I2 (hb s2 (.ref a :: us) I2.kIn hl) r2 q2
end
end Xm
/-! Own ground, part R: what can be told by repr; kinds, under growth. -/
namespace Xr
open PySem PySem.Spec PyProof.Rows L2 Xa Xb Xc Xp
section
variable {K : PySem.W.Frag} {H H' : Hp}
theorem sqt_same (e : Same H H') {a : Addr} {xs : List V} (h : SqT K H a xs) : SqT K H' a xs := by
  rcases h with (h | ⟨o, h⟩) | h
  · exact .inl (.inl (e _ _ h))
  · exact .inl (.inr ⟨o, e _ _ h⟩)
  · exact .inr h
mutual
theorem dq_same (e : Same H H') : ∀ {v : V} {d : PyData} {ls : List Addr}, Dq K H v d ls → Dq K H' v d ls
  | _, _, _, .non => .non
  | _, _, _, .bl b => .bl b
  | _, _, _, .int i => .int i
  | _, _, _, .str z => .str z
  | _, _, _, .lst h t => .lst (e.seq h) (dqs_same e t)
  | _, _, _, .tup h t => .tup (sqt_same e h) (dqs_same e t)
  | _, _, _, .dic h t1 t2 => .dic (e _ _ h) (dqs_same e t1) (dqs_same e t2)
theorem dqs_same (e : Same H H') : ∀ {v : List V} {d : List PyData} {ls : List Addr}, Dqs K H v d ls → Dqs K H' v d ls
  | _, _, _, .nil => .nil
  | _, _, _, .cons h t => .cons (dq_same e h) (dqs_same e t)
end
theorem ty_same (e : Same H H') {v : V} {t : Value} (h : TyX K H v t) : TyX K H' v t := by
  cases h with
  | base h =>
    cases h with
    | non => exact .base .non
    | bl x => exact .base (.bl x)
    | int x => exact .base (.int x)
    | str x => exact .base (.str x)
    | flt x => exact .base (.flt x)
    | lst h => exact .base (.lst (e _ _ h))
    | frz h => exact .base (.frz (e _ _ h))
    | tup h => exact .base (.tup (e _ _ h))
    | dK h => exact .base (.dK (e _ _ h))
    | dT h => exact .base (.dT (e _ _ h))
    | ins h a b c d k => exact .base (.ins (e _ _ h) a b c d k)
  | byt b => exact .byt b
  | set h => exact .set (e _ _ h)
  | kList h c => exact .kList h c
  | kTuple h c => exact .kTuple h c
  | kDict h c => exact .kDict h c
  | fTuple h => exact .fTuple (e _ _ h)
  | fDict h => exact .fDict (e _ _ h)
theorem isk_same (e : Same H H') {v : V} {T : String} {b : Bool} (h : IsK K H v T b) : IsK K H' v T b :=
  let ⟨t, k, q⟩ := h
  ⟨t, ty_same e k, q⟩
end
/-- v is told as txt -/
def Rep (K : PySem.W.Frag) (H : Hp) (v : V) (txt : Str) : Prop := ∃ (d : PyData) (ls : List Addr), Dq K H v d ls ∧ (d.hasDict = true → sysModules ∉ ls) ∧ d.showable = true ∧ d.depth ≤ 60 ∧ d.shown.length ≤ sizeLine ∧ PyData.strOk d.shown = true ∧ txt = d.shown
theorem rep_same {K : PySem.W.Frag} {H H' : Hp} (e : Same H H') {v : V} {t : Str} : Rep K H v t → Rep K H' v t := fun ⟨d, ls, h, r⟩ => ⟨d, ls, dq_same e h, r⟩
theorem Rep.ok {K : PySem.W.Frag} {H : Hp} {v : V} {t : Str} : Rep K H v t → PyData.strOk t = true := fun ⟨_, _, _, _, _, _, _, h, e⟩ => by rw [e] <;> exact h
/-- the reading of repr, by Rep -/
theorem rep_r {K : PySem.W.Frag} {H : Hp} {v : V} {t : Str} {Q : VK} (r : Rep K H v t) (q : Q (.str t) H) : rRepr K [v] H Q := by
  obtain ⟨d, ls, h, h1, h2, h3, h4, h5, rfl⟩ := r
  exact ⟨v, d, ls, rfl, h, h1, h2, h3, h4, q⟩
/-- v is told as txt by one who lengthens lists; behind that the heap is the last -/
inductive Res (K : PySem.W.Frag) (H : Hp) : V → Str → Hp → Prop
  | other {v : V} {t : Str} (k : IsK K H v "list" false) (r : Rep K H v t) : Res K H v t H
  | list {a : Addr} {xs : List V} {t : Str} (e : H a = some (.lst xs)) (z : xs.length < 900) (r : Rep K (upd H a (.lst (xs ++ [.str "more"]))) (.ref a) t) : Res K H (.ref a) t (upd H a (.lst (xs ++ [.str "more"])))
theorem Res.rep {K : PySem.W.Frag} {H H2 : Hp} {v : V} {t : Str} : Res K H v t H2 → Rep K H2 v t
  | .other _ r => r
  | .list _ _ r => r
end Xr
/-! Own ground, part L: written data, laid anew. -/
namespace Xl
open PySem PySem.Spec PyProof.Rows L2 Xa Xb Xc Xp Xr
mutual
inductive Lt (H : Hp) : V → PyData → List Addr → Prop
  | non : Lt H .non .none []
  | bl (b : Bool) : Lt H (.bl b) (.bool b) []
  | int (i : Int) : Lt H (.int i) (.int i) []
  | str (z : Str) : Lt H (.str z) (.str z) []
  | lst {a : Addr} {xs : List V} {ds : List PyData} {ls : List Addr} : H a = some (.lst xs) → Lts H xs ds ls → Lt H (.ref a) (.list ds) (a :: ls)
  | tup {a : Addr} {xs : List V} {ds : List PyData} {ls : List Addr} : H a = some (.tup xs) → Lts H xs ds ls → Lt H (.ref a) (.tuple ds) ls
  | dic {a : Addr} : H a = some (.dK []) → Lt H (.ref a) (.dict []) []
inductive Lts (H : Hp) : List V → List PyData → List Addr → Prop
  | nil : Lts H [] [] []
  | cons {v : V} {vs : List V} {d : PyData} {ds : List PyData} {l1 l2 : List Addr} : Lt H v d l1 → Lts H vs ds l2 → Lts H (v :: vs) (d :: ds) (l1 ++ l2)
end
section
variable {H H' : Hp} {K : PySem.W.Frag}
mutual
theorem lt_dq : ∀ {v : V} {d : PyData} {ls : List Addr}, Lt H v d ls → Dq K H v d ls
  | _, _, _, .non => .non
  | _, _, _, .bl b => .bl b
  | _, _, _, .int i => .int i
  | _, _, _, .str z => .str z
  | _, _, _, .lst h t => .lst (SqL.of h) (lts_dq t)
  | _, _, _, .tup h t => .tup (SqT.of h) (lts_dq t)
  | _, _, _, .dic h => .dic (kvs := []) (ds := []) h .nil .nil
theorem lts_dq : ∀ {v : List V} {d : List PyData} {ls : List Addr}, Lts H v d ls → Dqs K H v d ls
  | _, _, _, .nil => .nil
  | _, _, _, .cons h t => .cons (lt_dq h) (lts_dq t)
end
mutual
theorem lt_but {a : Addr} (e : ∀ c o, H c = some o → c ≠ a → H' c = some o) (ha : ∃ xs, H a = some (.lst xs)) : ∀ {v : V} {d : PyData} {ls : List Addr}, Lt H v d ls → a ∉ ls → Lt H' v d ls
  | _, _, _, .non, _ => .non
  | _, _, _, .bl b, _ => .bl b
  | _, _, _, .int i, _ => .int i
  | _, _, _, .str z, _ => .str z
  | _, _, _, .lst h t, n => .lst (e _ _ h fun z => n (by rw [z] <;> exact List.mem_cons_self)) (lts_but e ha t fun z => n (List.mem_cons_of_mem _ z))
  | _, _, _, .tup h t, n => .tup (e _ _ h fun z => by obtain ⟨xs, q⟩ := ha; rw [z, q] at h; cases h) (lts_but e ha t n)
  | _, _, _, .dic h, _ => .dic (e _ _ h fun z => by obtain ⟨xs, q⟩ := ha; rw [z, q] at h; cases h)
theorem lts_but {a : Addr} (e : ∀ c o, H c = some o → c ≠ a → H' c = some o) (ha : ∃ xs, H a = some (.lst xs)) : ∀ {v : List V} {d : List PyData} {ls : List Addr}, Lts H v d ls → a ∉ ls → Lts H' v d ls
  | _, _, _, .nil, _ => .nil
  | _, _, _, .cons h t, n => .cons (lt_but e ha h fun z => n (List.mem_append_left _ z)) (lts_but e ha t fun z => n (List.mem_append_right _ z))
end
mutual
theorem lt_same (e : Same H H') : ∀ {v : V} {d : PyData} {ls : List Addr}, Lt H v d ls → Lt H' v d ls
  | _, _, _, .non => .non
  | _, _, _, .bl b => .bl b
  | _, _, _, .int i => .int i
  | _, _, _, .str z => .str z
  | _, _, _, .lst h t => .lst (e _ _ h) (lts_same e t)
  | _, _, _, .tup h t => .tup (e _ _ h) (lts_same e t)
  | _, _, _, .dic h => .dic (e _ _ h)
theorem lts_same (e : Same H H') : ∀ {v : List V} {d : List PyData} {ls : List Addr}, Lts H v d ls → Lts H' v d ls
  | _, _, _, .nil => .nil
  | _, _, _, .cons h t => .cons (lt_same e h) (lts_same e t)
end
mutual
theorem lt_at : ∀ {v : V} {d : PyData} {ls : List Addr}, Lt H v d ls → ∀ a ∈ ls, ∃ xs, H a = some (.lst xs)
  | _, _, _, .non, _, z => nomatch z
  | _, _, _, .bl b, _, z => nomatch z
  | _, _, _, .int i, _, z => nomatch z
  | _, _, _, .str s, _, z => nomatch z
  | _, _, _, .lst h t, b, z => (List.mem_cons.mp z).elim (fun q => ⟨_, (congrArg H q).trans h⟩) fun q => lts_at t b q
  | _, _, _, .tup h t, b, z => lts_at t b z
  | _, _, _, .dic h, _, z => nomatch z
theorem lts_at : ∀ {v : List V} {d : List PyData} {ls : List Addr}, Lts H v d ls → ∀ a ∈ ls, ∃ xs, H a = some (.lst xs)
  | _, _, _, .nil, _, z => nomatch z
  | _, _, _, .cons h t, b, z => (List.mem_append.mp z).elim (lt_at h b) (lts_at t b)
end
theorem lts_app : ∀ {vs vs' : List V} {ds ds' : List PyData} {ls ls' : List Addr}, Lts H vs ds ls → Lts H vs' ds' ls' → Lts H (vs ++ vs') (ds ++ ds') (ls ++ ls')
  | _, _, _, _, _, _, .nil, t => t
  | _, _, _, _, _, _, .cons (l1 := l1) (l2 := l2) h t, t' => by
    rw [List.append_assoc]
    exact .cons h (lts_app t t')
theorem lts_len : ∀ {vs : List V} {ds : List PyData} {ls : List Addr}, Lts H vs ds ls → vs.length = ds.length
  | _, _, _, .nil => rfl
  | _, _, _, .cons _ t => congrArg Nat.succ (lts_len t)
theorem lts_get : ∀ {vs : List V} {ds : List PyData} {ls : List Addr}, Lts H vs ds ls → ∀ (i : Nat) (v : V), vs[i]? = some v → ∃ d l, ds[i]? = some d ∧ Lt H v d l ∧ ∀ a ∈ l, a ∈ ls
  | _, _, _, .nil, i, v, h => by simp at h
  | _, _, _, .cons (d := d) (l1 := l1) h t, 0, v, e => by
    obtain rfl := Option.some.inj e
    exact ⟨d, l1, rfl, h, fun a z => List.mem_append_left _ z⟩
  | _, _, _, .cons h t, i + 1, v, e => by
    obtain ⟨d, l, e1, e2, e3⟩ := lts_get t i v e
    exact ⟨d, l, e1, e2, fun a z => List.mem_append_right _ (e3 a z)⟩
/-- a list of the data at the top: it is met in no other one -/
theorem lts_sep : ∀ {vs : List V} {ds : List PyData} {ls : List Addr}, Lts H vs ds ls → ls.Nodup → ∀ (j : Nat) (v : V), vs[j]? = some v → ∃ d l, ds[j]? = some d ∧ Lt H v d l ∧ (∀ a ∈ l, a ∈ ls) ∧
    ∀ (i : Nat) (x : V), i ≠ j → vs[i]? = some x → ∃ d' l', ds[i]? = some d' ∧ Lt H x d' l' ∧ ∀ a ∈ l, a ∉ l'
  | _, _, _, .nil, _, i, v, h => by simp at h
  | _, _, _, .cons (d := d) (l1 := l1) (l2 := l2) h t, nd, 0, v, e => by
    obtain rfl := Option.some.inj e
    refine ⟨d, l1, rfl, h, fun a z => List.mem_append_left _ z, fun i x ne ex => ?_⟩
    cases i with
    | zero => exact absurd rfl ne
    | succ i =>
      obtain ⟨d', l', e1, e2, e3⟩ := lts_get t i x ex
      exact ⟨d', l', e1, e2, fun a z z' => (List.nodup_append.mp nd).2.2 a z a (e3 a z') rfl⟩
  | _, _, _, .cons (d := d) (l1 := l1) (l2 := l2) h t, nd, j + 1, v, e => by
    obtain ⟨d1, l, e1, e2, e3, e4⟩ := lts_sep t (List.nodup_append.mp nd).2.1 j v e
    refine ⟨d1, l, e1, e2, fun a z => List.mem_append_right _ (e3 a z), fun i x ne ex => ?_⟩
    cases i with
    | zero =>
      obtain rfl := Option.some.inj ex
      exact ⟨d, l1, rfl, h, fun a z z' => (List.nodup_append.mp nd).2.2 a z' a (e3 a z) rfl⟩
    | succ i => exact e4 i x (fun z => ne (by rw [z])) ex
end
/-! ### kinds of data -/
def numD : PyData → Option Int
  | .int i => some i
  | _ => none
def kindD : PyData → String
  | .none => "NoneType"
  | .bool _ => "bool"
  | .int _ => "int"
  | .str _ => "str"
  | .list _ => "list"
  | .tuple _ => "tuple"
  | .dict _ => "dict"
mutual
def nol : PyData → Bool
  | .list _ => false
  | .tuple ds => nols ds
  | .dict _ => true
  | _ => true
def nols : List PyData → Bool
  | [] => true
  | d :: ds => nol d && nols ds
end
section
variable {H : Hp} {K : PySem.W.Frag}
theorem lt_num {v : V} {d : PyData} {ls : List Addr} (h : Lt H v d ls) : Num K H v (numD d) := by
  cases h with
  | non => exact .no whl_non
  | bl b => exact .no (whl_bl b)
  | int i => exact .is i
  | str z => exact .no (whl_str z)
  | lst h t => exact .no (whl_lst h)
  | tup h t => exact .no (whl_tup h)
  | dic h => exact .no (whl_dic h)
theorem lt_isk {v : V} {d : PyData} {ls : List Addr} {T : String} {b : Bool} (h : Lt H v d ls) (e : kitB (kindD d) T = some b) : IsK K H v T b := by
  cases h with
  | non => exact isk_non _ e
  | bl b => exact isk_bl b _ e
  | int i => exact isk_int i _ e
  | str z => exact isk_str z _ e
  | lst h t => exact isk_lst h _ e
  | tup h t => exact isk_tup h _ e
  | dic h => exact isk_dic h _ e
mutual
theorem lt_nol : ∀ {v : V} {d : PyData} {ls : List Addr}, Lt H v d ls → nol d = true → ls = []
  | _, _, _, .non, _ => rfl
  | _, _, _, .bl b, _ => rfl
  | _, _, _, .int i, _ => rfl
  | _, _, _, .str z, _ => rfl
  | _, _, _, .lst h t, e => by simp [nol] at e
  | _, _, _, .tup h t, e => lts_nol t (by simpa [nol] using e)
  | _, _, _, .dic h, _ => rfl
theorem lts_nol : ∀ {v : List V} {d : List PyData} {ls : List Addr}, Lts H v d ls → nols d = true → ls = []
  | _, _, _, .nil, _ => rfl
  | _, _, _, .cons h t, e => by
    have e2 := Bool.and_eq_true_iff.mp (by simpa [nols] using e)
    rw [lt_nol h e2.1, lts_nol t e2.2] <;> rfl
end
end
/-- such a datum is told by repr -/
def okD (d : PyData) : Bool := (nol d || !d.hasDict) && (d.showable && (decide (d.depth ≤ 60) && (decide (d.shown.length ≤ sizeLine) && PyData.strOk d.shown)))
theorem lt_rep {H : Hp} {K : PySem.W.Frag} {v : V} {d : PyData} {ls : List Addr} (h : Lt H v d ls) (e : okD d = true) : Rep K H v d.shown := by
  obtain ⟨e1, e⟩ := He.ba e
  obtain ⟨e2, e⟩ := He.ba e
  obtain ⟨e3, e⟩ := He.ba e
  obtain ⟨e4, e5⟩ := He.ba e
  refine ⟨d, ls, lt_dq h, fun z => ?_, e2, of_decide_eq_true e3, of_decide_eq_true e4, e5, rfl⟩
  rw [z] at e1
  rw [lt_nol h (by simpa using e1)]
  exact List.not_mem_nil
/-! ### displays -/
def tLit (S : L2.St → Prop) (d : PyData) : TE := fun σ H Q => S σ ∧ ∀ v H' ls, Same H H' → Lt H' v d ls → ls.Nodup → (∀ a ∈ ls, H a = none) → Q v H'
def tLits (S : L2.St → Prop) (ds : List PyData) : TA := fun σ H Q => S σ ∧ ∀ vs H' ls, Same H H' → Lts H' vs ds ls → ls.Nodup → (∀ a ∈ ls, H a = none) → Q vs H'
theorem upd_same_as {H : Hp} {p : Addr} {o : HO} (n : H p = none) : Same H (upd H p o) := fun c q e => by rw [upd_ne (ne_of_none e n)] <;> exact e
section
variable {X : Cx} {S : L2.St → Prop} {d : PyData} {ds : List PyData} {e : Expr} {es : List Expr} {pos : Pos}
theorem pe_of {te te' : TE} (h : ∀ σ H Q, te' σ H Q → te σ H Q) (p : PE X e te) : PE X e te' := ⟨fun pins s σ H Q I q => p.run pins s σ H Q I (h _ _ _ q)⟩
theorem pa_of {te te' : TA} (h : ∀ σ H Q, te' σ H Q → te σ H Q) (p : PA X es te) : PA X es te' := ⟨fun ps pins s σ H Q I q => p.run ps pins s σ H Q I (h _ _ _ q)⟩
theorem li_non {j : Nat} : PE X (.Constant .none j pos) (tLit S .none) := pe_of (fun σ H Q h => h.2 .non H [] (Same.refl H) .non List.nodup_nil fun _ z => nomatch z) pe_non
theorem li_bl {b : Bool} {j : Nat} : PE X (.Constant (.bool b) j pos) (tLit S (.bool b)) := pe_of (fun σ H Q h => h.2 (.bl b) H [] (Same.refl H) (.bl b) List.nodup_nil fun _ z => nomatch z) pe_bl
theorem li_str {x : Str} {j : Nat} : PE X (.Constant (.str x) j pos) (tLit S (.str x)) := pe_of (fun σ H Q h => h.2 (.str x) H [] (Same.refl H) (.str x) List.nodup_nil fun _ z => nomatch z) pe_str
theorem li_of {te : TE} (i : Int) (h : ∀ σ H Q, S σ → Q (.int i) H → te σ H Q) (p : PE X e te) : PE X e (tLit S (.int i)) := pe_of (fun σ H Q q => h σ H Q q.1 (q.2 (.int i) H [] (Same.refl H) (.int i) List.nodup_nil fun _ z => nomatch z)) p
theorem li_int {i : Int} {j : Nat} : PE X (.Constant (.int i) j pos) (tLit S (.int i)) := li_of i (fun _ _ _ _ q => q) pe_int
theorem li_neg {i : Int} {j : Nat} {pos2 : Pos} : PE X (.UnaryOp .USub (.Constant (.int i) j pos) pos2) (tLit S (.int (-i))) := li_of (-i) (fun _ _ _ _ q => ⟨_, rfl, q⟩) (pe_un un_neg pe_int)
theorem li_dic : PE X (.Dict [] [] pos) (tLit S (.dict [])) := pe_of (fun σ H Q h p np => h.2 (.ref p) _ [] (upd_same_as np) (.dic upd_same) List.nodup_nil fun _ z => nomatch z) pe_dnewK
theorem lis_nil : PA X [] (tLits S []) := pa_of (fun σ H Q h => h.2 [] H [] (Same.refl H) .nil List.nodup_nil fun _ z => nomatch z) pa_nil
theorem lis_cons (h : PE X e (tLit S d)) (t : PA X es (tLits S ds)) (hs : starEach (e :: es) X.env = (false, eval e X.env) :: starEach es X.env := by rfl) : PA X (e :: es) (tLits S (d :: ds)) := by
  refine pa_of (fun σ H Q q => ?_) (pa_cons h t hs)
  refine ⟨q.1, fun v H1 l1 s1 t1 n1 f1 => ⟨q.1, fun vs H2 l2 s2 t2 n2 f2 => q.2 (v :: vs) H2 (l1 ++ l2) (s1.trans s2) (.cons (lt_same s2 t1) t2) ?_ fun a z => ?_⟩⟩
  · refine List.nodup_append.mpr ⟨n1, n2, fun a z b z2 e => ?_⟩
    obtain ⟨xs, y⟩ := lt_at t1 a z
    rw [e, f2 b z2] at y
    cases y
  · rcases List.mem_append.mp z with z | z
    · exact f1 a z
    · exact s1.free (f2 a z)
theorem li_tup {x : Nat} (h : PA X es (tLits S ds)) (z : ds.length ≤ 1000) : PE X (.Tuple es x pos) (tLit S (.tuple ds)) := by
  refine pe_of (fun σ H Q q => ?_) (pe_tup h)
  refine ⟨q.1, fun vs H1 ls s1 t1 n1 f1 => ⟨?_, fun p np => q.2 (.ref p) _ ls (s1.trans (upd_same_as np)) (.tup upd_same (lts_same (upd_same_as np) t1)) n1 f1⟩⟩
  rw [lts_len t1, sizeLine_eq]
  omega
theorem li_lst (h : PA X es (tLits S ds)) (z : ds.length ≤ 1000) : PE X (.List es pos) (tLit S (.list ds)) := by
  refine pe_of (fun σ H Q q => ?_) (pe_lst h)
  refine ⟨q.1, fun vs H1 ls s1 t1 n1 f1 => ⟨?_, fun p np => q.2 (.ref p) _ (p :: ls) (s1.trans (upd_same_as np)) (.lst upd_same (lts_same (upd_same_as np) t1)) (List.nodup_cons.mpr ⟨fun z => ?_, n1⟩) fun a z => ?_⟩⟩
  · rw [lts_len t1, sizeLine_eq]
    omega
  · obtain ⟨xs, y⟩ := lts_at t1 p z
    rw [np] at y
    cases y
  · rcases List.mem_cons.mp z with z | z
    · rw [z]
      exact s1.free np
    · exact f1 a z
end
end Xl
/-! Own ground, part K: written lists gone through, one of whose elements is a list that is lengthened. -/
namespace Xk
open PySem PySem.Spec PyProof.Rows L2 Xa Xb Xc Xp Xr Xl
/-- all but a is as it was -/
def Evo (a : Addr) (H H' : Hp) : Prop := ∀ c o, H c = some o → c ≠ a → H' c = some o
theorem Evo.same {a : Addr} {H H' H2 : Hp} (e : Evo a H H') (s : Same H' H2) : Evo a H H2 := fun c o h n => s c o (e c o h n)
theorem Evo.trans {a : Addr} {H H' H2 : Hp} (e : Evo a H H') (s : Evo a H' H2) : Evo a H H2 := fun c o h n => s c o (e c o h n) n
theorem Evo.of {a : Addr} {H H' : Hp} (s : Same H H') : Evo a H H' := fun c o h _ => s c o h
theorem Evo.all {a : Addr} {H0 H H' : Hp} (s : Same H0 H) (n : H0 a = none) (e : Evo a H H') : Same H0 H' := fun c o h => e c o (s c o h) (ne_of_none h n)
def mores (k : Nat) : List V := List.replicate k (.str "more")
def mored (base : List PyData) (k : Nat) : PyData := .list (base ++ List.replicate k (.str "more"))
structure Pk (H : Hp) (vs : List V) (ds : List PyData) (j : Nat) (base : List PyData) (a : Addr) (xs : List V) : Prop where
  pos : vs[j]? = some (.ref a)
  lst : H a = some (.lst xs)
  els : Lts H xs base []
  oth : ∀ (i : Nat) (x : V), i ≠ j → vs[i]? = some x → ∃ d l, ds[i]? = some d ∧ Lt H x d l ∧ a ∉ l
theorem pick {H : Hp} {vs : List V} {ds : List PyData} {ls : List Addr} {j : Nat} {base : List PyData} (t : Lts H vs ds ls) (nd : ls.Nodup) (hj : ds[j]? = some (.list base)) (nb : nols base = true) : ∃ a xs, Pk H vs ds j base a xs ∧ a ∈ ls := by
  have hl : j < vs.length := by
    rw [lts_len t]
    exact (List.getElem?_eq_some_iff.mp hj).1
  obtain ⟨d, l, e1, e2, e3, e4⟩ := lts_sep t nd j vs[j] (List.getElem?_eq_getElem hl)
  rw [hj] at e1
  obtain rfl := Option.some.inj e1
  generalize hv : vs[j] = v at e2
  cases e2 with
  | lst h t2 =>
    have z := lts_nol t2 nb
    subst z
    exact ⟨_, _, ⟨by rw [List.getElem?_eq_getElem hl, hv], h, t2, fun i x ne ex => let ⟨d', l', q1, q2, q3⟩ := e4 i x ne ex; ⟨d', l', q1, q2, q3 _ List.mem_cons_self⟩⟩, e3 _ List.mem_cons_self⟩
section
variable {H H' : Hp} {vs : List V} {ds : List PyData} {j : Nat} {base : List PyData} {a : Addr} {xs : List V} {i : Nat} {x : V} {K : PySem.W.Frag}
theorem lts_more (k : Nat) : Lts H (mores k) (List.replicate k (.str "more")) [] := by
  induction k with
  | zero => exact .nil
  | succ k ih => exact .cons (.str _) ih
theorem Pk.elem (p : Pk H vs ds j base a xs) (k : Nat) (e : Evo a H H') (hk : i = j → H' a = some (.lst (xs ++ mores k))) (hx : vs[i]? = some x) : ∃ d l, Lt H' x d l ∧ (i ≠ j → ds[i]? = some d) ∧ (i = j → d = mored base k ∧ x = .ref a) := by
  by_cases ij : i = j
  · subst ij
    rw [p.pos] at hx
    obtain rfl := Option.some.inj hx
    have q : Lts H' (xs ++ mores k) (base ++ List.replicate k (.str "more")) ([] ++ []) := lts_app (lts_but e ⟨_, p.lst⟩ p.els (by simp)) (lts_more k)
    exact ⟨_, _, .lst (hk rfl) q, fun z => absurd rfl z, fun _ => ⟨rfl, rfl⟩⟩
  · obtain ⟨d, l, q1, q2, q3⟩ := p.oth i x ij hx
    exact ⟨d, l, lt_but e ⟨_, p.lst⟩ q2 q3, fun _ => q1, fun z => absurd z ij⟩
theorem Pk.res (p : Pk H vs ds j base a xs) (k : Nat) (kz : k < 100) (e : Evo a H H') (hk : i = j → H' a = some (.lst (xs ++ mores k))) (hx : vs[i]? = some x) (bz : base.length < 100)
    (ok : ∀ d, i ≠ j → ds[i]? = some d → okD d = true ∧ kitB (kindD d) "list" = some false) (okm : i = j → okD (mored base (k + 1)) = true) :
    ∃ t H2, Res K H' x t H2 ∧ Evo a H' H2 ∧ (i ≠ j → H2 = H') ∧ (i = j → H2 a = some (.lst (xs ++ mores (k + 1)))) := by
  by_cases ij : i = j
  · have hk2 := hk ij
    have okm2 := okm ij
    subst ij
    rw [p.pos] at hx
    obtain rfl := Option.some.inj hx
    have em : (xs ++ mores k) ++ [V.str "more"] = xs ++ mores (k + 1) := by
      unfold mores
      rw [List.append_assoc, List.replicate_succ']
    have hs : (upd H' a (.lst (xs ++ mores (k + 1)))) a = some (.lst (xs ++ mores (k + 1))) := upd_same
    have ev : Evo a H' (upd H' a (.lst (xs ++ mores (k + 1)))) := fun c o h n => by rw [upd_ne n] <;> exact h
    have q : Lts (upd H' a (.lst (xs ++ mores (k + 1)))) (xs ++ mores (k + 1)) (base ++ List.replicate (k + 1) (.str "more")) ([] ++ []) := lts_app (lts_but (e.trans ev) ⟨_, p.lst⟩ p.els (by simp)) (lts_more (k + 1))
    have r : Rep K (upd H' a (.lst ((xs ++ mores k) ++ [V.str "more"]))) (.ref a) (mored base (k + 1)).shown := by
      rw [em]
      exact lt_rep (.lst hs q) okm2
    have len := lts_len p.els
    have R : Res K H' (.ref a) (mored base (k + 1)).shown (upd H' a (.lst ((xs ++ mores k) ++ [V.str "more"]))) := Res.list hk2 (by rw [List.length_append]; unfold mores; rw [List.length_replicate]; omega) r
    refine ⟨_, _, R, by rw [em] <;> exact ev, fun z => absurd rfl z, fun _ => ?_⟩
    rw [em] <;> exact hs
  · obtain ⟨d, l, q1, q2, q3⟩ := p.oth i x ij hx
    obtain ⟨o1, o2⟩ := ok d ij q1
    have q4 := lt_but e ⟨_, p.lst⟩ q2 q3
    exact ⟨_, H', .other (lt_isk q4 o2) (lt_rep q4 o1), Evo.of (Same.refl _), fun _ => rfl, fun z => absurd z ij⟩
end
/-! ### the told triple -/
def triple (b1 b2 : Bool) (t : Str) : PyData := .list [.bool b1, .bool b2, .str t]
theorem triple_shaped (b1 b2 : Bool) {t : Str} (h : PyData.strOk t = true) : SeqAt.shaped (triple b1 b2 t) = true := by
  simp [h, SeqAt.shaped, triple, PyData.canLay0, PyData.canLayAll0, PyData.depth, PyData.depthAll]
theorem triple_eqv (b1 b2 : Bool) (t : Str) : PyData.eqv (triple b1 b2 t) (triple b1 b2 t) = true := by
  simp [triple, PyData.eqv, PyData.eqvAll]
theorem triple_at {K : PySem.W.Frag} {H : Hp} {r : Addr} {b1 b2 : Bool} {t : Str} (h : H r = some (.lst [.bl b1, .bl b2, .str t])) : Dp K H (.ref r) (triple b1 b2 t) :=
  .lst (SqL.of h) (.cons (.bl _) (.cons (.bl _) (.cons (.str _) .nil)))
end Xk
/-! Own ground, part T: lists of tuples of ints as data. -/
namespace Xt
open PySem PySem.Spec PyProof.Rows L2 Xa Xb Xc Xp Xr Xl Xk
def tupD (l : List Int) : PyData := .tuple (l.map .int)
def lisD (ls : List (List Int)) : PyData := .list (ls.map tupD)
section
theorem ints_lay : ∀ l : List Int, PyData.canLayAll0 (l.map .int) = true
  | [] => by simp [PyData.canLayAll0]
  | x :: l => by simp [PyData.canLayAll0, PyData.canLay0, ints_lay l]
theorem tups_lay : ∀ ls : List (List Int), PyData.canLayAll0 (ls.map tupD) = true
  | [] => by simp [PyData.canLayAll0]
  | x :: l => by simp [PyData.canLayAll0, PyData.canLay0, tupD, ints_lay x, tups_lay l]
theorem ints_depth : ∀ l : List Int, PyData.depthAll (l.map .int) = 0
  | [] => by simp [PyData.depthAll]
  | x :: l => by simp [PyData.depthAll, PyData.depth, ints_depth l]
theorem tups_depth : ∀ ls : List (List Int), PyData.depthAll (ls.map tupD) ≤ 1
  | [] => by simp [PyData.depthAll]
  | x :: l => by
    have := tups_depth l
    simp only [List.map_cons, PyData.depthAll, PyData.depth, tupD, ints_depth]
    omega
theorem lis_depth (ls : List (List Int)) : (lisD ls).depth ≤ 2 := by
  have := tups_depth ls
  simp only [lisD, PyData.depth]
  omega
theorem ints_nodict : ∀ l : List Int, PyData.hasDictAll (l.map .int) = false
  | [] => by simp [PyData.hasDictAll]
  | x :: l => by simp [PyData.hasDictAll, PyData.hasDict, ints_nodict l]
theorem tups_nodict : ∀ ls : List (List Int), PyData.hasDictAll (ls.map tupD) = false
  | [] => by simp [PyData.hasDictAll]
  | x :: l => by simp [PyData.hasDictAll, PyData.hasDict, tupD, ints_nodict x, tups_nodict l]
theorem lis_shaped (ls : List (List Int)) : SeqAt.shaped (lisD ls) = true := by
  have h1 : (lisD ls).canLay0 = true := by simp [lisD, PyData.canLay0, tups_lay]
  have h2 := lis_depth ls
  have h3 : (lisD ls).depth ≤ 64 := by omega
  simp [SeqAt.shaped, h1, h3]
theorem lis_eqv (ls : List (List Int)) : PyData.eqv (lisD ls) (lisD ls) = true := SeqAt.eqv_refl _ (by simp [lisD, PyData.canLay0, tups_lay])
/-- short ones of bounded ints -/
def Short (ls : List (List Int)) : Prop := ls.length < 64 ∧ ∀ l ∈ ls, l.length ≤ 3 ∧ ∀ z ∈ l, z.natAbs < 10 ^ 30
theorem log_lt {z : Int} (h : z.natAbs < 10 ^ 30) : z.natAbs.log2 < 100 := by
  have h1 : z.natAbs < 2 ^ 100 := Nat.lt_of_lt_of_le h (by decide)
  exact PySem.Flt.log2_lt_of (k := 100) (by decide) h1
theorem ints_showable : ∀ l : List Int, (∀ z ∈ l, z.natAbs < 10 ^ 30) → PyData.showableAll (l.map .int) = true
  | [], _ => by simp [PyData.showableAll]
  | x :: l, h => by
    have h1 := log_lt (h x List.mem_cons_self)
    have h2 : x.natAbs.log2 < 1920 := by omega
    simp [PyData.showableAll, PyData.showable, h2, ints_showable l fun z hz => h z (List.mem_cons_of_mem _ hz)]
theorem tups_showable : ∀ ls : List (List Int), (∀ l ∈ ls, ∀ z ∈ l, z.natAbs < 10 ^ 30) → PyData.showableAll (ls.map tupD) = true
  | [], _ => by simp [PyData.showableAll]
  | x :: l, h => by simp [PyData.showableAll, PyData.showable, tupD, ints_showable x (h x List.mem_cons_self), tups_showable l fun z hz => h z (List.mem_cons_of_mem _ hz)]
theorem int_short {z : Int} (h : z.natAbs < 10 ^ 30) : (PyData.int z).shown.length ≤ 32 := by
  have e := int_text_length_le10 (k := 30) (by decide) h
  show (Str.ofString (toString z)).length ≤ 32
  rw [PySem.ofString_length]
  omega
theorem ints_short : ∀ l : List Int, (∀ z ∈ l, z.natAbs < 10 ^ 30) → PyData.leavesShortAll 32 (l.map .int) = true
  | [], _ => by simp [PyData.leavesShortAll]
  | x :: l, h => by simp [PyData.leavesShortAll, PyData.leavesShort, int_short (h x List.mem_cons_self), ints_short l fun z hz => h z (List.mem_cons_of_mem _ hz)]
theorem tups_short : ∀ ls : List (List Int), (∀ l ∈ ls, ∀ z ∈ l, z.natAbs < 10 ^ 30) → PyData.leavesShortAll 32 (ls.map tupD) = true
  | [], _ => by simp [PyData.leavesShortAll]
  | x :: l, h => by simp [PyData.leavesShortAll, PyData.leavesShort, tupD, ints_short x (h x List.mem_cons_self), tups_short l fun z hz => h z (List.mem_cons_of_mem _ hz)]
theorem ints_weight : ∀ l : List Int, (∀ z ∈ l, z.natAbs < 10 ^ 30) → PyData.weightAll (l.map .int) ≤ 101 * l.length
  | [], _ => by simp [PyData.weightAll]
  | x :: l, h => by
    have h1 := log_lt (h x List.mem_cons_self)
    have h2 := ints_weight l fun z hz => h z (List.mem_cons_of_mem _ hz)
    have h3 : PyData.weight (.int x) ≤ 100 := by
      simp only [PyData.weight]
      split <;> omega
    simp only [List.map_cons, PyData.weightAll, List.length_cons]
    omega
theorem tups_weight : ∀ ls : List (List Int), (∀ l ∈ ls, l.length ≤ 3 ∧ ∀ z ∈ l, z.natAbs < 10 ^ 30) → PyData.weightAll (ls.map tupD) ≤ 304 * ls.length
  | [], _ => by simp [PyData.weightAll]
  | x :: l, h => by
    obtain ⟨h1, h4⟩ := h x List.mem_cons_self
    have h2 := tups_weight l fun z hz => h z (List.mem_cons_of_mem _ hz)
    have h3 := ints_weight x h4
    simp only [List.map_cons, PyData.weightAll, List.length_cons, tupD, PyData.weight]
    omega
theorem lis_len {ls : List (List Int)} (h : Short ls) : (lisD ls).shown.length ≤ sizeLine := by
  obtain ⟨h1, h2⟩ := h
  have h3 := tups_short ls fun l hl => (h2 l hl).2
  have h4 := tups_weight ls h2
  have h5 := PyData.shown_le 32 (by decide) (lisD ls) (by simpa [lisD, PyData.leavesShort] using h3)
  have h6 : (lisD ls).weight ≤ 304 * 64 := by
    simp only [lisD, PyData.weight]
    omega
  have h7 : (32 + 2) * (lisD ls).weight ≤ 34 * (304 * 64) := Nat.mul_le_mul (Nat.le_refl _) h6
  rw [sizeLine_eq]
  omega
end
section
variable {K : PySem.W.Frag} {H : Hp}
theorem dqs_ints : ∀ l : List Int, Dqs K H (l.map V.int) (l.map .int) []
  | [] => .nil
  | x :: l => .cons (l1 := []) (.int x) (dqs_ints l)
theorem dqs_tups : ∀ ks : List (Addr × List Int), (∀ q ∈ ks, H q.1 = some (.tup (q.2.map V.int))) → Dqs K H (ks.map fun q => V.ref q.1) ((ks.map (·.2)).map tupD) []
  | [], _ => .nil
  | q :: ks, h => .cons (l1 := []) (.tup (SqT.of (h q List.mem_cons_self)) (dqs_ints q.2)) (dqs_tups ks fun z hz => h z (List.mem_cons_of_mem _ hz))
/-- the reading of repr of such a list -/
theorem rr_lis {u : Addr} {ks : List (Addr × List Int)} {Q : VK} (h : H u = some (.lst (ks.map fun q => V.ref q.1))) (t : ∀ q ∈ ks, H q.1 = some (.tup (q.2.map V.int))) (s : Short (ks.map (·.2))) (q : Q (.str (lisD (ks.map (·.2))).shown) H) : rRepr K [V.ref u] H Q := by
  refine ⟨.ref u, lisD (ks.map (·.2)), [u], rfl, .lst (SqL.of h) (dqs_tups ks t), fun z => ?_, ?_, ?_, lis_len s, q⟩
  · have := tups_nodict (ks.map (·.2))
    simp only [lisD, PyData.hasDict] at z
    rw [this] at z
    cases z
  · simp only [lisD, PyData.showable]
    exact tups_showable _ fun l hl => (s.2 l hl).2
  · have := lis_depth (ks.map (·.2))
    omega
/-- what the reading of repr of such a list asks -/
theorem lis_in {u : Addr} {ks : List (Addr × List Int)} (h : H u = some (.lst (ks.map fun q => V.ref q.1))) (t : ∀ q ∈ ks, H q.1 = some (.tup (q.2.map V.int))) (s : Short (ks.map (·.2))) :
    Dq K H (.ref u) (lisD (ks.map (·.2))) [u] ∧ ((lisD (ks.map (·.2))).hasDict = true → sysModules ∉ [u]) ∧ (lisD (ks.map (·.2))).showable = true ∧ (lisD (ks.map (·.2))).depth ≤ 60 ∧ (lisD (ks.map (·.2))).shown.length ≤ sizeLine := by
  refine ⟨.lst (SqL.of h) (dqs_tups ks t), fun z => ?_, ?_, ?_, lis_len s⟩
  · have := tups_nodict (ks.map (·.2))
    simp only [lisD, PyData.hasDict] at z
    rw [this] at z
    cases z
  · simp only [lisD, PyData.showable]
    exact tups_showable _ fun l hl => (s.2 l hl).2
  · have := lis_depth (ks.map (·.2))
    omega
theorem dp_ints : ∀ l : List Int, DpAll K H (l.map V.int) (l.map .int)
  | [] => .nil
  | x :: l => .cons (.int x) (dp_ints l)
theorem dp_tups : ∀ ks : List (Addr × List Int), (∀ q ∈ ks, H q.1 = some (.tup (q.2.map V.int))) → DpAll K H (ks.map fun q => V.ref q.1) ((ks.map (·.2)).map tupD)
  | [], _ => .nil
  | q :: ks, h => .cons (.tup (SqT.of (h q List.mem_cons_self)) (dp_ints q.2)) (dp_tups ks fun z hz => h z (List.mem_cons_of_mem _ hz))
theorem dp_lis {u : Addr} {ks : List (Addr × List Int)} (h : H u = some (.lst (ks.map fun q => V.ref q.1))) (t : ∀ q ∈ ks, H q.1 = some (.tup (q.2.map V.int))) : Dp K H (.ref u) (lisD (ks.map (·.2))) := .lst (SqL.of h) (dp_tups ks t)
end
end Xt
/-! The draws: cell, hash, generator, random. -/
namespace Kx
open PySem PySem.Spec PyProof.Rows L2 Xa Xb Xc Xd
def top (i : Nat) : Stmt := PySem.Challenge.pw_hearunlike_k11_what_watchers_hear.main.body.getD i (.Pass ⟨0, 0, 0, 0⟩)
abbrev FnP (K : PySem.W.Frag) (x : Str) (st : Stmt) (f : Addr) (fd : FuncData) : Prop := FunD K x x (defArgs st) (defBody st) (defScope st) [] [] f fd
abbrev sCell : Stmt := top 21
abbrev sHash : Stmt := top 22
abbrev sGener : Stmt := top 23
abbrev sRandom : Stmt := top 24
/-- the built-ins that the text has not taken -/
structure Bi (mg : Str → Option Value) : Prop where
  len : mg "len" = none
  int : mg "int" = none
  max : mg "max" = none
  range : mg "range" = none
theorem pa1 {X : Cx} {e : Expr} {te : TE} (he : PE X e te) (hs : starEach (e :: []) X.env = (false, eval e X.env) :: starEach [] X.env := by rfl) : PA X [e] (tCons te tNil) := pa_cons he pa_nil hs
section
variable {P : Program} {w : World} {K : PySem.W.Frag} {mg : Str → Option Value} {base : Heap} {f : Addr} {fd : FuncData}

/-! ### cell -/
def spCell (K : PySem.W.Frag) : Sp := fun xs H Q _ => ∃ (a : Addr) (ns : List Int) (i : Nat), xs = [.ref a, .int (i : Int)] ∧ SqL K H a (ns.map V.int) ∧ ∀ z, Q (.int z) H
theorem scCell : FnScope ["script", "index"] ["script", "index"] (defScope sCell) := ⟨rfl, rfl, rfl, by decide +kernel, rfl, by decide +kernel, by decide +kernel⟩
theorem ok_cell (F : FnP K "_law_cell" sCell f fd) (B : Bi mg) : FnG P w K mg base 1 f fd ["script", "index"] (spCell K) := by
  refine okG F scCell (fun xs H Q E h => ?_) (fun cdv A outer s H vs Q E hr hn h => ?_)
  · obtain ⟨a, ns, i, rfl, _⟩ := h
    rfl
  · obtain ⟨a, ns, i, rfl, hS, q⟩ := h
    refine ⟨_, pss_cons (ps_if (pt_cmpR op_lt (pv 1) (pe_callB call_len_seq (by rfl) B.len PySem.boot_len (pa_cons (pv 0) pa_nil)) (nomark _)) (pss_one (ps_ret (pe_ix ix_list (pv 0) (pv 1) (fun _ _ => rfl)))) pss_nil)
      (pss_one (ps_ret pe_int)), ?_⟩
    refine ⟨_, rfl, _, rfl, a, _, rfl, .inl hS, _, _, rfl, rfl, _, rfl, ite2 (fun c => ?_) (fun _ => q 0)⟩
    have hlt : i < (ns.map V.int).length := by
      have c2 := of_decide_eq_true c
      omega
    rw [List.length_map] at hlt
    exact ⟨_, rfl, _, rfl, a, _, _, .int ns[i], rfl, rfl, hS, atI_nat (by rw [List.getElem?_map, List.getElem?_eq_getElem hlt]; rfl), q _⟩

/-! ### hash -/
def spHash : Sp := fun xs H Q _ => ∃ (z i : Int), xs = [.int z, .int i] ∧ 0 ≤ z ∧ z < 2147483647 ∧ 0 ≤ i ∧ i < 2 ^ 50 ∧ ∀ r : Int, 0 ≤ r → r < 2147483587 → Q (.int r) H
theorem scHash : FnScope ["seed", "index", "mixed"] ["seed", "index"] (defScope sHash) := ⟨rfl, rfl, rfl, by decide +kernel, rfl, by decide +kernel, by decide +kernel⟩
theorem ok_hash (F : FnP K "_law_hash" sHash f fd) (B : Bi mg) : FnG P w K mg base 1 f fd ["seed", "index"] spHash := by
  refine okG F scHash (fun xs H Q E h => ?_) (fun cdv A outer s H vs Q E hr hn h => ?_)
  · obtain ⟨z, i, rfl, _⟩ := h
    rfl
  · obtain ⟨z, i, rfl, z0, z1, i0, i1, q⟩ := h
    refine ⟨_, pss_cons (ps_set (i := 2) scHash.nd rfl (Or.inl rfl) (pe_op op_modN (pe_callTy call_int1 (by rfl) B.int (by decide +kernel) (pa1 (pe_op op_add (pe_op op_add (pe_op op_add (pe_op op_mul (pv 0) pe_int) (pe_op op_mul (pe_op op_mul pe_int (pv 1)) (pv 1))) (pv 1)) pe_int))) pe_int))
      (pss_cons (ps_set (i := 2) scHash.nd rfl (Or.inl rfl) (pe_op op_modN (pe_callTy call_int1 (by rfl) B.int (by decide +kernel) (pa1 (pe_op op_add (pe_op op_mul (pv 2) (pv 2)) pe_int))) pe_int))
      (pss_one (ps_ret (pe_op op_modN (pe_callTy call_int1 (by rfl) B.int (by decide +kernel) (pa1 (pe_op op_mul (pv 2) pe_int))) pe_int)))), ?_⟩
    have m1 : ∀ x y : Int, 0 < y → 0 ≤ x.fmod y ∧ x.fmod y < y := fun x y hy => ⟨Int.fmod_nonneg_of_pos _ hy, Int.fmod_lt_of_pos _ hy⟩
    refine ⟨_, rfl, _, _, rfl, rfl, .inr ⟨by decide, by decide⟩, _, rfl, _, _, rfl, rfl, .inl ⟨by decide, by decide⟩, _, rfl, _, _, rfl, rfl, .inr ⟨by omega, by omega⟩, _, _, rfl, rfl, _, rfl, _, _, rfl, rfl, _, _, rfl, rfl, .inl ⟨_, rfl, ?_⟩⟩
    refine ⟨_, _, rfl, rfl, (by show (2147483647 : Int) ≠ 0; decide), ?_⟩
    obtain ⟨a0, a1⟩ := m1 (z * 1103515245 + 7919 * i * i + i + 1) 2147483647 (by decide)
    refine ⟨_, rfl, _, rfl, _, _, rfl, rfl, .inl ⟨by omega, by omega⟩, _, _, rfl, rfl, .inl ⟨_, rfl, ?_⟩⟩
    refine ⟨_, _, rfl, rfl, (by show (2147483629 : Int) ≠ 0; decide), ?_⟩
    refine ⟨_, rfl, _, _, rfl, rfl, .inr ⟨by decide, by decide⟩, .inl ⟨_, rfl, ?_⟩⟩
    refine ⟨_, _, rfl, rfl, (by show (2147483587 : Int) ≠ 0; decide), ?_⟩
    exact q _ (m1 _ _ (by decide)).1 (m1 _ _ (by decide)).2

/-! ### generator, random -/
/-- a generator's list stands at g, its counter at most n -/
def Gen (H : Hp) (g : Addr) (n : Nat) : Prop := ∃ g0 g1 g2 : Int, H g = some (.lst [.int g0, .int g1, .int g2]) ∧ 0 ≤ g0 ∧ g0 < 2 ^ 2000 ∧ 0 ≤ g1 ∧ g1 < 2147483647 ∧ 0 ≤ g2 ∧ g2 ≤ n
theorem op_powW {X : Cx} : OpR X (binaryOp .Pow) (rI (fun i j => 0 ≤ j ∧ (Builtin.Int.intBits i : Int) * j ≤ 2 ^ 27) fun i j => .int (i ^ j.toNat)) := by
  rintro pins st σ H x y v u Q I rx ry ⟨i, j, rfl, rfl, ⟨h1, h2⟩, q⟩
  obtain ⟨t, rfl⟩ := rx
  obtain ⟨t2, rfl⟩ := ry
  exact pow_int h1 h2 ⟨.int _, H, I.tok _, ⟨_, rfl⟩, q⟩
def spGener (K : PySem.W.Frag) : Sp := fun xs H Q _ => ∃ (a : Addr) (ns : List Int) (i : Nat), xs = [.ref a, .int (i : Int)] ∧ i ≤ 1000 ∧ SqL K H a (ns.map V.int) ∧ ∀ p H', H p = none → Same H H' → Gen H' p (1000 * i) → Q (.ref p) H'
theorem scGener : FnScope ["script", "index", "seed"] ["script", "index"] (defScope sGener) := ⟨rfl, rfl, rfl, by decide +kernel, rfl, by decide +kernel, by decide +kernel⟩
theorem ok_gener {fC : Addr} {fdC : FuncData} (F : FnP K "_law_generator" sGener f fd) (B : Bi mg) (FC : FnP K "_law_cell" sCell fC fdC) (gC : mg "_law_cell" = some (.ref fC)) : FnG P w K mg base 2 f fd ["script", "index"] (spGener K) := by
  have GC : FnG P w K mg base 1 fC fdC ["script", "index"] (spCell K) := ok_cell FC B
  have bC : Binds K fdC ["script", "index"] [] := FC.bindsN fun _ _ _ _ _ _ us hl => match us, hl with | [_, _], _ => rfl
  refine okG F scGener (fun xs H Q E h => ?_) (fun cdv A outer s H vs Q E hr hn h => ?_)
  · obtain ⟨a, ns, i, rfl, _⟩ := h
    rfl
  · obtain ⟨a, ns, i, rfl, hi, hS, q⟩ := h
    refine ⟨_, pss_cons (ps_set (i := 2) scGener.nd rfl (Or.inl rfl) (pe_callG GC hr hn rfl gC FC.kp bC (pa_cons (pv 0) (pa_cons (pv 1) pa_nil))))
      (pss_one (ps_ret (pe_lst (pa_cons (pe_op op_modN (pe_callTy call_int1 (by rfl) B.int (by decide +kernel) (pa1 (pe_callB (call_max2 rfl) (by rfl) B.max (by decide +kernel) (pa_cons (pe_op op_sub (pv 2) (pe_op op_pow pe_int pe_int)) (pa_cons pe_int pa_nil))))) (pe_op op_powW (pe_op op_pow pe_int pe_int) pe_int))
        (pa_cons (pe_op op_modN (pe_callTy call_int1 (by rfl) B.int (by decide +kernel) (pa1 (pv 2))) pe_int) (pa_cons (pe_op op_mul pe_int (pv 1)) pa_nil)))))), ?_⟩
    refine ⟨_, rfl, _, rfl, a, ns, i, rfl, hS, fun z => ?_⟩
    refine ⟨_, rfl, _, _, rfl, rfl, ⟨by decide, by decide, by decide⟩, _, _, rfl, rfl, _, _, rfl, .inl ⟨_, rfl, _, _, rfl, rfl, ⟨by decide, by decide, by decide⟩, _, _, rfl, rfl, ⟨by decide, by decide +kernel⟩, ?_⟩⟩
    have big : (0 : Int) < (10 ^ (60 : Int).toNat) ^ (10 : Int).toNat := by decide
    have big2 : ((10 : Int) ^ (60 : Int).toNat) ^ (10 : Int).toNat < 2 ^ 2000 := by decide
    refine ⟨_, _, rfl, rfl, Int.ne_of_gt big, _, rfl, .inl ⟨_, rfl, _, _, rfl, rfl, (by show (2147483647 : Int) ≠ 0; decide), _, rfl, _, _, rfl, rfl, .inl ⟨by decide, by decide⟩, (by show 3 ≤ sizeLine; decide), fun p np => ?_⟩⟩
    refine q p _ np (fun b o e => by rw [upd_ne (ne_of_none e np)]; exact e) ⟨_, _, _, upd_same, Int.fmod_nonneg_of_pos _ big, Int.lt_trans (Int.fmod_lt_of_pos _ big) big2, Int.fmod_nonneg_of_pos _ (by decide), Int.fmod_lt_of_pos _ (by decide), by omega, by omega⟩

def spRandom : Sp := fun xs H Q _ => ∃ (g : Addr) (b : Int) (n : Nat), xs = [.ref g, .int b] ∧ 0 < b ∧ b < 2 ^ 90 ∧ Gen H g n ∧ n ≤ 2 ^ 40 ∧ ∀ (r : Int) (H' : Hp), 0 ≤ r → r < b → Gen H' g (n + 4) → (∀ c, c ≠ g → H' c = H c) → Q (.int r) H'
theorem scRandom : FnScope ["generator", "bound", "drawn", "turn"] ["generator", "bound"] (defScope sRandom) := ⟨rfl, rfl, rfl, by decide +kernel, rfl, by decide +kernel, by decide +kernel⟩
theorem ok_random {fC : Addr} {fdC : FuncData} (F : FnP K "_law_random" sRandom f fd) (B : Bi mg) (FC : FnP K "_law_hash" sHash fC fdC) (gC : mg "_law_hash" = some (.ref fC)) : FnG P w K mg base 2 f fd ["generator", "bound"] spRandom := by
  have GC : FnG P w K mg base 1 fC fdC ["seed", "index"] spHash := ok_hash FC B
  have bC : Binds K fdC ["seed", "index"] [] := FC.bindsN fun _ _ _ _ _ _ us hl => match us, hl with | [_, _], _ => rfl
  refine okG F scRandom (fun xs H Q E h => ?_) (fun cdv A outer s H vs Q E hr hn h => ?_)
  · obtain ⟨g, b, n, rfl, _⟩ := h
    rfl
  · obtain ⟨g, b, n, rfl, b0, b1, ⟨g0, g1, g2, hg, g00, g01, g10, g11, g20, g21⟩, hn1, q⟩ := h
    refine ⟨_, pss_cons (ps_if (pt_cmpR op_gt (pe_ix ix_list (pv 0) pe_int (fun _ _ => rfl)) pe_int (nomark _))
        (pss_cons (ps_set (i := 2) scRandom.nd rfl (Or.inl rfl) (pe_op op_modN (pe_callTy call_int1 (by rfl) B.int (by decide +kernel) (pa1 (pe_ix ix_list (pv 0) pe_int (fun _ _ => rfl)))) (pv 1)))
        (pss_cons (ps_asg (pe_op op_fdivW (pe_ix ix_list (pv 0) pe_int (fun _ _ => rfl)) (pv 1)) (pg_sub (pv 0) pe_int set_list))
        (pss_one (ps_ret (pv 2))))) pss_nil)
      (pss_cons (ps_set (i := 2) scRandom.nd rfl (Or.inl rfl) pe_int)
      (pss_cons (ps_for PassesOwn.never rfl (pi_range1 (by rfl) B.range (pa1 (pe_op op_add pe_int (pe_op op_fdivW (pe_bits (pv 1)) pe_int)))) (pg_name (i := 3) scRandom.nd rfl (Or.inl rfl))
        (pss_cons (ps_asg (pe_op op_add (pe_ix ix_list (pv 0) pe_int (fun _ _ => rfl)) pe_int) (pg_sub (pv 0) pe_int set_list))
        (pss_one (ps_set (i := 2) scRandom.nd rfl (Or.inl rfl) (pe_op op_add (pe_op op_mul (pv 2) pe_int) (pe_callG GC hr hn rfl gC FC.kp bC (pa_cons (pe_ix ix_list (pv 0) pe_int (fun _ _ => rfl)) (pa_cons (pe_ix ix_list (pv 0) pe_int (fun _ _ => rfl)) pa_nil))))))))
      (pss_one (ps_ret (pe_op op_modN (pe_callTy call_int1 (by rfl) B.int (by decide +kernel) (pa1 (pv 2))) (pv 1)))))), ?_⟩
    have at0 : ∀ (z : Int) (r : List V), atI (V.int z :: r) 0 = some (V.int z) := fun z r => atI_nat (j := 0) rfl
    refine ⟨_, rfl, g, _, 0, .int g0, rfl, rfl, SqL.of hg, at0 _ _, _, _, rfl, rfl, _, rfl, ite2 (fun c => ?_) (fun c => ?_)⟩
    · have g0p : 0 < g0 := of_decide_eq_true c
      have bn : b.natAbs < 2 ^ 90 := by omega
      refine ⟨_, rfl, g, _, 0, .int g0, rfl, rfl, SqL.of hg, at0 _ _, .inl ⟨_, rfl, _, rfl, _, _, rfl, rfl, Int.ne_of_gt b0, ?_⟩⟩
      refine ⟨_, rfl, g, _, 0, .int g0, rfl, rfl, SqL.of hg, at0 _ _, _, rfl, _, _, rfl, rfl, wide_div b0 bn (by decide) (by decide), ?_⟩
      refine ⟨_, rfl, g, _, 0, 0, rfl, rfl, hg, rfl, _, rfl, ?_⟩
      refine q _ _ (Int.fmod_nonneg_of_pos _ b0) (Int.fmod_lt_of_pos _ b0) ⟨_, g1, g2, upd_same, Int.ediv_nonneg g00 (Int.le_of_lt b0), ?_, g10, g11, g20, by omega⟩ fun c hc => upd_ne hc
      exact Int.lt_of_le_of_lt (Int.ediv_le_self _ g00) g01
    · have bits : Builtin.Int.intBits b ≤ 90 := by
        have h1 : b.natAbs < 2 ^ 90 := by omega
        have h2 := PySem.Flt.log2_lt_of (k := 90) (by decide) h1
        unfold Builtin.Int.intBits
        split <;> omega
      have at1 : ∀ (x z : Int) (r : List V), atI (V.int x :: V.int z :: r) 1 = some (V.int z) := fun x z r => atI_nat (j := 1) rfl
      have at2 : ∀ (x y z : Int) (r : List V), atI (V.int x :: V.int y :: V.int z :: r) 2 = some (V.int z) := fun x y z r => atI_nat (j := 2) rfl
      refine ⟨_, rfl, b, rfl, _, _, rfl, rfl, ⟨by decide, by decide⟩, _, _, rfl, rfl, _, rfl, by omega, by omega, ?_⟩
      have e30 : (1 + ((Builtin.Int.intBits b : Nat) : Int) / 30).toNat ≤ 4 := by omega
      generalize (1 + ((Builtin.Int.intBits b : Nat) : Int) / 30).toNat = m at e30
      refine for_range (lo := 0) (n := m) (fun i σ H' => ∃ (dr : Int) (tv : Option V), σ = [some (.ref g), some (.int b), some (.int dr), tv] ∧ 0 ≤ dr ∧ H' = upd H g (.lst [.int g0, .int g1, .int (g2 + i)])) ⟨0, none, rfl, by decide, ?_⟩ ?_ ?_
      · funext c
        by_cases hc : c = g
        · rw [hc, upd_same, hg]
          simp
        · rw [upd_ne hc]
      · rintro i σ H' hi ⟨dr, tv, rfl, d0, rfl⟩
        refine ⟨_, rfl, g, _, 2, .int (g2 + i), rfl, rfl, SqL.of upd_same, at2 _ _ _ _, _, _, rfl, rfl, _, rfl, g, _, 2, 2, rfl, rfl, upd_same, rfl, ?_⟩
        refine ⟨_, rfl, _, _, rfl, rfl, .inr ⟨by decide, by decide⟩, _, rfl, g, _, 1, .int g1, rfl, rfl, SqL.of upd_same, at1 _ _ _, _, rfl, g, _, 2, .int (g2 + i + 1), rfl, rfl, SqL.of upd_same, at2 _ _ _ _, g1, g2 + i + 1, rfl, g10, g11, by omega, by omega, fun r r0 r1 => ?_⟩
        refine ⟨_, _, rfl, rfl, _, _, rfl, ?_, ?_⟩
        · have : 0 ≤ dr * 2147483587 := Int.mul_nonneg d0 (by decide)
          omega
        · rw [upd_upd]
          have e : g2 + (i : Int) + 1 = g2 + ((i + 1 : Nat) : Int) := by omega
          rw [← e]
          rfl
      · rintro σ H' ⟨dr, tv, rfl, d0, rfl⟩
        refine ⟨_, rfl, .inl ⟨_, rfl, _, rfl, _, _, rfl, rfl, Int.ne_of_gt b0, ?_⟩⟩
        exact q _ _ (Int.fmod_nonneg_of_pos _ b0) (Int.fmod_lt_of_pos _ b0) ⟨g0, g1, g2 + m, upd_same, g00, g01, g10, g11, by omega, by omega⟩ fun c hc => upd_ne hc
end
end Kx
/-! web_parts -/
namespace Kx
open PySem PySem.Spec PyProof.Rows L2 Xa Xb Xc Xd
abbrev sParts : Stmt := top 25
/-! ### the mathematics: lists of tuples (i, j, d) -/
/-- one tuple of a web with so many places -/
def Lnk (pl : Int) (l : List Int) : Prop := ∃ i j d : Int, l = [i, j, d] ∧ 0 ≤ i ∧ i < pl ∧ 0 ≤ j ∧ j < pl ∧ pl - 3 ≤ d ∧ d ≤ 3 - pl
def lkey : List Int → Int
  | [i, j, d] => d * 4 + i * 2 + j
  | _ => 0
/-- a web's tuples as they are drawn -/
structure Lnks (pl : Int) (ls : List (List Int)) : Prop where
  one : ∀ l ∈ ls, Lnk pl l
  nd : ls.Nodup
  few : ls.length ≤ 20
/-- the tuples stand at ps -/
def TupsAt (H : Hp) (ps : List (Addr × List Int)) : Prop := ∀ p ∈ ps, H p.1 = some (.tup (p.2.map V.int))
structure Drawn (pl k : Int) (m : Nat) (ps : List (Addr × List Int)) : Prop where
  one : ∀ p ∈ ps, Lnk pl p.2
  below : ∀ p ∈ ps, lkey p.2 < k
  rise : (ps.map fun p => lkey p.2).Pairwise (· < ·)
  few : ps.length ≤ m
theorem Drawn.more {pl k : Int} {m : Nat} {ps : List (Addr × List Int)} (D : Drawn pl k m ps) {t : Addr} {l : List Int} (hl : Lnk pl l) (hk : lkey l = k) : Drawn pl (k + 1) (m + 1) (ps ++ [(t, l)]) := by
  refine ⟨fun p hp => ?_, fun p hp => ?_, ?_, ?_⟩
  · rcases List.mem_append.mp hp with h | h
    · exact D.one p h
    · rw [List.mem_singleton.mp h]
      exact hl
  · rcases List.mem_append.mp hp with h | h
    · have := D.below p h
      omega
    · rw [List.mem_singleton.mp h]
      show lkey l < k + 1
      omega
  · rw [List.map_append, List.pairwise_append]
    refine ⟨D.rise, List.pairwise_singleton _ _, fun x hx y hy => ?_⟩
    obtain ⟨p, hp, rfl⟩ := List.mem_map.mp hx
    have e : y = lkey l := by simpa using hy
    rw [e, hk]
    exact D.below p hp
  · rw [List.length_append]
    have := D.few
    show ps.length + 1 ≤ m + 1
    omega
theorem Drawn.up {pl k k' : Int} {m m' : Nat} {ps : List (Addr × List Int)} (D : Drawn pl k m ps) (h : k ≤ k') (hm : m ≤ m') : Drawn pl k' m' ps :=
  ⟨D.one, fun p hp => Int.lt_of_lt_of_le (D.below p hp) h, D.rise, Nat.le_trans D.few hm⟩
theorem Drawn.lnks {pl k : Int} {m : Nat} {ps : List (Addr × List Int)} (D : Drawn pl k m ps) (hm : m ≤ 20) : Lnks pl (ps.map (·.2)) := by
  refine ⟨fun l hl => ?_, ?_, by rw [List.length_map]; exact Nat.le_trans D.few hm⟩
  · obtain ⟨p, hp, rfl⟩ := List.mem_map.mp hl
    exact D.one p hp
  · have h := D.rise
    rw [show (ps.map fun p => lkey p.2) = (ps.map (·.2)).map lkey from by rw [List.map_map] <;> rfl] at h
    exact (List.Pairwise.of_map lkey (fun a b (h : lkey a < lkey b) e => by rw [e] at h; exact Int.lt_irrefl _ h) h)
/-- all that was tracked stands, but at g -/
def But (g : Addr) (H H' : Hp) : Prop := ∀ c o, H c = some o → c ≠ g → H' c = some o
section
variable {P : Program} {w : World} {K : PySem.W.Frag} {mg : Str → Option Value} {base : Heap} {f : Addr} {fd : FuncData}
def spParts : Sp := fun xs H Q _ => ∃ (g : Addr) (n : Nat), xs = [.ref g] ∧ Gen H g n ∧ n ≤ 2 ^ 39 ∧ ∀ (pl : Int) (ps : List (Addr × List Int)) (t a : Addr) (H' : Hp), 1 ≤ pl → pl ≤ 2 → Lnks pl (ps.map (·.2)) → But g H H' → Gen H' g (n + 200) →
  H t = none → H a = none → t ≠ a → H' t = some (.tup [.int pl, .ref a]) → H' a = some (.lst (ps.map fun p => V.ref p.1)) → TupsAt H' ps → (∀ p ∈ ps, H p.1 = none) → Q (.ref t) H'
theorem scParts : FnScope ["generator", "places", "far", "found", "few", "distance", "one", "other"] ["generator"] (defScope sParts) := ⟨rfl, rfl, rfl, by decide +kernel, rfl, by decide +kernel, by decide +kernel⟩
/-- between the turns -/
def Mid (H : Hp) (g a : Addr) (pl : Int) (n : Nat) (k : Int) (m : Nat) (H' : Hp) : Prop := ∃ ps, Gen H' g n ∧ H' a = some (.lst (ps.map fun p => V.ref p.1)) ∧ TupsAt H' ps ∧ Drawn pl k m ps ∧ But g H H' ∧ ∀ p ∈ ps, H p.1 = none
theorem Mid.up {H : Hp} {g a : Addr} {pl k k' : Int} {n n' m m' : Nat} {H' : Hp} (M : Mid H g a pl n k m H') (hn : n ≤ n') (hk : k ≤ k') (hm : m ≤ m') : Mid H g a pl n' k' m' H' := by
  obtain ⟨ps, ⟨g0, g1, g2, h1, h2, h3, h4, h5, h6, h7⟩, la, ta, D, b, nw⟩ := M
  exact ⟨ps, ⟨g0, g1, g2, h1, h2, h3, h4, h5, h6, by omega⟩, la, ta, D.up hk hm, b, nw⟩
theorem ok_parts {fR : Addr} {fdR fdC : FuncData} {fC : Addr} (F : FnP K "_law_web_parts" sParts f fd) (B : Bi mg) (FR : FnP K "_law_random" sRandom fR fdR) (gR : mg "_law_random" = some (.ref fR)) (FC : FnP K "_law_hash" sHash fC fdC) (gC : mg "_law_hash" = some (.ref fC)) :
    FnG P w K mg base 3 f fd ["generator"] spParts := by
  have GR : FnG P w K mg base 2 fR fdR ["generator", "bound"] spRandom := ok_random FR B FC gC
  have bR : Binds K fdR ["generator", "bound"] [] := FR.bindsN fun _ _ _ _ _ _ us hl => match us, hl with | [_, _], _ => rfl
  refine okG F scParts (fun xs H Q E h => ?_) (fun cdv A outer s H vs Q E hr hn h => ?_)
  · obtain ⟨g, n, rfl, _⟩ := h
    rfl
  · obtain ⟨g, n, rfl, hG, hn1, q⟩ := h
    refine ⟨_, pss_cons (ps_set (i := 1) scParts.nd rfl (Or.inl rfl) (pe_op op_add pe_int (pe_callG GR hr hn rfl gR FR.kp bR (pa_cons (pv 0) (pa1 pe_int)))))
      (pss_cons (ps_par (i := 2) (j := 3) (by rfl) scParts.nd rfl rfl (by decide) rfl rfl (pa_cons (pe_op op_sub pe_int (pv 1)) (pa1 (pe_lst pa_nil))) (by rfl))
      (pss_cons (ps_set (i := 4) scParts.nd rfl (Or.inl rfl) (pe_op op_add pe_int (pe_callG GR hr hn rfl gR FR.kp bR (pa_cons (pv 0) (pa1 pe_int)))))
      (pss_cons (ps_for PassesOwn.never rfl (pi_range2 (by rfl) B.range (pa_cons (pe_op op_sub pe_int (pv 2)) (pa1 (pe_op op_add (pv 2) pe_int)))) (pg_name (i := 5) scParts.nd rfl (Or.inl rfl))
        (pss_one (ps_for PassesOwn.never rfl (pi_range1 (by rfl) B.range (pa1 (pv 1))) (pg_name (i := 6) scParts.nd rfl (Or.inl rfl))
          (pss_one (ps_for PassesOwn.never rfl (pi_range1 (by rfl) B.range (pa1 (pv 1))) (pg_name (i := 7) scParts.nd rfl (Or.inl rfl))
            (pss_one (ps_if (pt_cmpR op_gt (pe_callG GR hr hn rfl gR FR.kp bR (pa_cons (pv 0) (pa1 (pv 4)))) pe_int (nomark _))
              (pss_one (ps_expr (pe_bm PySem.F.plainAttrs_list PySem.F.slot_list_append PySem.F.type_list_append mt_append (pv 3) (pa1 (pe_tup (pa_cons (pv 6) (pa_cons (pv 7) (pa1 (pv 5)))))))))
              pss_nil)))))))
      (pss_one (ps_ret (pe_tup (pa_cons (pv 1) (pa1 (pv 3))))))))), ?_⟩
    refine ⟨_, rfl, g, 2, n, rfl, by decide, by decide, hG, by omega, fun r H1 r0 r1 G1 k1 => ?_⟩
    refine ⟨_, _, rfl, rfl, _, rfl, _, _, rfl, rfl, by decide, fun a na => ?_⟩
    refine ⟨_, _, rfl, ?_⟩
    have aG : a ≠ g := fun e => by
      obtain ⟨_, _, _, z, _⟩ := G1
      rw [e, z] at na
      cases na
    have Gup : ∀ {X : Hp} {m : Nat} {b : Addr} {o : HO}, Gen X g m → b ≠ g → Gen (upd X b o) g m := fun ⟨g0, g1, g2, z, r⟩ hb => ⟨g0, g1, g2, by rw [upd_ne (Ne.symm hb)]; exact z, r⟩
    refine ⟨_, rfl, g, 3, n + 4, rfl, by decide, by decide, Gup G1 aG, by omega, fun r2 H3 r20 r21 G3 k3 => ?_⟩
    refine ⟨_, _, rfl, rfl, ?_⟩
    have p1 : (1 : Int) ≤ 1 + r := by omega
    have p2 : 1 + r ≤ 2 := by omega
    have hnone : H a = none := by rw [← k1 a aG]; exact na
    have nz : ∀ t : Addr, ∀ {X : Hp}, But g H X → X t = none → H t = none ∨ t = g := fun t X b z => by
      by_cases ht : t = g
      · exact .inr ht
      · refine .inl ?_
        cases e : H t with
        | none => rfl
        | some o =>
          rw [b t o e ht] at z
          cases z
    refine ⟨_, rfl, _, _, rfl, rfl, _, rfl, _, _, rfl, rfl, _, _, rfl, ⟨by omega, by omega, by omega, by omega⟩, ?_⟩
    refine for_range (fun i σ H' => ∃ dv ov tv : Option V, σ = [some (.ref g), some (.int (1 + r)), some (.int (3 - (1 + r))), some (.ref a), some (.int (2 + r2)), dv, ov, tv] ∧ Mid H g a (1 + r) (n + 8 + 16 * i) ((0 - (3 - (1 + r)) + i) * 4) (4 * i) H')
      ⟨none, none, none, rfl, [], G3, ?_, fun p hp => (by cases hp), ⟨fun p hp => (by cases hp), fun p hp => (by cases hp), List.Pairwise.nil, Nat.zero_le _⟩, ?_, fun p hp => (by cases hp)⟩ ?_ ?_
    · rw [k3 a aG, upd_same]
      rfl
    · intro c o e hc
      rw [k3 c hc, upd_ne (ne_of_none (by rw [k1 c hc]; exact e) na), k1 c hc]
      exact e
    · rintro i σ H' hi ⟨dv, ov, tv, rfl, M⟩
      have hi5 : i < 5 := by omega
      refine ⟨_, rfl, _, rfl, by omega, by omega, for_range (lo := 0) (fun j σ H' => ∃ ov tv : Option V, σ = [some (.ref g), some (.int (1 + r)), some (.int (3 - (1 + r))), some (.ref a), some (.int (2 + r2)), some (.int (0 - (3 - (1 + r)) + i)), ov, tv] ∧ Mid H g a (1 + r) (n + 8 + 16 * i + 8 * j) ((0 - (3 - (1 + r)) + i) * 4 + 2 * j) (4 * i + 2 * j) H')
        ⟨ov, tv, rfl, by simpa using M⟩ ?_ ?_⟩
      · rintro j σ H' hj ⟨ov, tv, rfl, M⟩
        refine ⟨_, rfl, _, rfl, by omega, by omega, for_range (lo := 0) (fun k σ H' => ∃ tv : Option V, σ = [some (.ref g), some (.int (1 + r)), some (.int (3 - (1 + r))), some (.ref a), some (.int (2 + r2)), some (.int (0 - (3 - (1 + r)) + i)), some (.int (0 + j)), tv] ∧ Mid H g a (1 + r) (n + 8 + 16 * i + 8 * j + 4 * k) ((0 - (3 - (1 + r)) + i) * 4 + 2 * j + k) (4 * i + 2 * j + k) H')
          ⟨tv, rfl, by simpa using M⟩ ?_ ?_⟩
        · rintro k σ H' hk ⟨tv, rfl, ps, G, la, ta, D, b, nw⟩
          refine ⟨_, rfl, _, rfl, g, (2 + r2), _, rfl, by omega, by omega, G, by omega, fun rr H4 rr0 rr1 G4 k4 => ?_⟩
          have la4 : H4 a = some (.lst (ps.map fun p => V.ref p.1)) := by rw [k4 a aG]; exact la
          have ng : ∀ p ∈ ps, p.1 ≠ g := fun p hp e => by
            obtain ⟨_, _, _, z, _⟩ := G
            have y := ta p hp
            rw [e, z] at y
            cases y
          have ta4 : TupsAt H4 ps := fun p hp => by rw [k4 p.1 (ng p hp)]; exact ta p hp
          have b4 : But g H H4 := fun c o e hc => by rw [k4 c hc]; exact b c o e hc
          refine ⟨_, _, rfl, rfl, _, rfl, ite2 (fun c => ?_) (fun c => ?_)⟩
          · refine ⟨_, rfl, .inl ⟨rfl, _, SqL.of la4⟩, _, rfl, _, rfl, _, rfl, (by show 3 ≤ sizeLine; decide), fun t nt => ?_⟩
            have tg : t ≠ g := fun e => by
              obtain ⟨_, _, _, z, _⟩ := G4
              rw [e, z] at nt
              cases nt
            have tA : a ≠ t := ne_of_none la4 nt
            refine ⟨a, _, _, rfl, rfl, by rw [upd_ne tA]; exact la4, ?_, ?_⟩
            · rw [List.length_map]
              exact small1000 (by have := D.few; omega)
            · refine ⟨some (.int (0 + k)), rfl, ps ++ [(t, [(0 + j : Int), 0 + k, 0 - (3 - (1 + r)) + i])], ?_, ?_, ?_, ?_, ?_, ?_⟩
              · exact Gup (Gup (by simpa [Nat.add_assoc, Nat.mul_add] using G4) tg) aG
              · rw [upd_same, List.map_append]
                rfl
              · intro p hp
                rcases List.mem_append.mp hp with hp | hp
                · have y := ta4 p hp
                  rw [upd_ne (fun e => by rw [e, la4] at y; cases y), upd_ne (ne_of_none y nt)]
                  exact y
                · rw [List.mem_singleton.mp hp]
                  show (upd (upd H4 t _) a _) t = _
                  rw [upd_ne (Ne.symm tA), upd_same]
                  rfl
              · refine (D.more (t := t) ⟨0 + j, 0 + k, 0 - (3 - (1 + r)) + i, rfl, by omega, by omega, by omega, by omega, by omega, by omega⟩ ?_).up (by omega) (by omega)
                show (0 - (3 - (1 + r)) + i) * 4 + (0 + (j : Int)) * 2 + (0 + k) = _
                omega
              · intro c o e hc
                rw [upd_ne (ne_of_none e hnone), upd_ne (ne_of_none (b4 c o e hc) nt)]
                exact b4 c o e hc
              · intro p hp
                rcases List.mem_append.mp hp with hp | hp
                · exact nw p hp
                · rw [List.mem_singleton.mp hp]
                  exact (nz t b4 nt).resolve_right tg
          · exact ⟨some (.int (0 + k)), rfl, Mid.up ⟨ps, G4, la4, ta4, D, b4, nw⟩ (by omega) (by omega) (by omega)⟩
        · rintro σ H' ⟨tv, rfl, M⟩
          exact ⟨_, tv, rfl, M.up (by omega) (by omega) (by omega)⟩
      · rintro σ H' ⟨ov, tv, rfl, M⟩
        exact ⟨_, ov, tv, rfl, M.up (by omega) (by omega) (by omega)⟩
    · rintro σ H' ⟨dv, ov, tv, rfl, ps, G, la, ta, D, b, nw⟩
      refine ⟨_, rfl, _, rfl, (by show 2 ≤ sizeLine; decide), fun t nt => ?_⟩
      have tA : a ≠ t := ne_of_none la nt
      have tg : t ≠ g := fun e => by
        obtain ⟨_, _, _, z, _⟩ := G
        rw [e, z] at nt
        cases nt
      refine q (1 + r) ps t a _ p1 p2 (D.lnks (by omega)) (fun c o e hc => ?_) (Gup ?_ tg) ((nz t b nt).resolve_right tg) hnone (Ne.symm tA) upd_same ?_ (fun p hp => ?_) nw
      · rw [upd_ne (ne_of_none (b c o e hc) nt)]
        exact b c o e hc
      · obtain ⟨g0, g1, g2, h1, h2, h3, h4, h5, h6, h7⟩ := G
        exact ⟨g0, g1, g2, h1, h2, h3, h4, h5, h6, by omega⟩
      · rw [upd_ne tA]
        exact la
      · rw [upd_ne (ne_of_none (ta p hp) nt)]
        exact ta p hp
end
end Kx
/-! The program's checks. -/
namespace Kx
open PySem PySem.Spec PyProof.Rows L2 Xa Xb Xc Xd Xs Xp
abbrev sWhole : Stmt := top 8
abbrev sBetween : Stmt := top 9
abbrev sIsSpot : Stmt := top 10
abbrev sCkCount : Stmt := top 12
abbrev sCkSpot : Stmt := top 13
abbrev sCkRing : Stmt := top 14
structure Bi2 (mg : Str → Option Value) : Prop extends Bi mg where
  isi : mg "isinstance" = none
  bool : mg "bool" = none
  tuple : mg "tuple" = none
  list : mg "list" = none
  set : mg "set" = none
  sorted : mg "sorted" = none
  abs : mg "abs" = none
  repr : mg "repr" = none
/-- how a def of the text stands -/
structure Dfn (K : PySem.W.Frag) (mg : Str → Option Value) (x : Str) (st : Stmt) : Prop where
  at_ : ∃ (f : Addr) (fd : FuncData), FnP K x st f fd ∧ mg x = some (.ref f)
section
variable {P : Program} {w : World} {K : PySem.W.Frag} {mg : Str → Option Value} {base : Heap} {f : Addr} {fd : FuncData}
def spWhole (K : PySem.W.Frag) : Sp := fun xs H Q _ => ∃ v b, xs = [v] ∧ Whl K H v b ∧ Q (.bl b) H
theorem scWhole : FnScope ["value"] ["value"] (defScope sWhole) := ⟨rfl, rfl, rfl, by decide +kernel, rfl, by decide +kernel, by decide +kernel⟩
theorem can_whole (D : Dfn K mg "is_whole" sWhole) (B : Bi2 mg) : Can P w K mg base CX0 1 "is_whole" ["value"] (spWhole K) := by
  obtain ⟨f, fd, F, g⟩ := D.at_
  refine FnOk.can (F.ok scWhole (fun xs H Q E h => ?_) (fun cdv A outer s H vs Q E hr h => ?_)) F g fun _ _ _ _ _ _ us hl => match us, hl with | [_], _ => rfl
  · obtain ⟨v, b, rfl, _⟩ := h
    rfl
  · obtain ⟨v, b, rfl, ⟨T, b1, b2, kd, e1, e2, rfl⟩, q⟩ := h
    refine ⟨_, PSs.nox (pss_one (ps_ret (pe_and (pe_bi call_kd B.isi (pa_cons (pv 0) (pa1 (pe_tyv "int" B.int)))) (pe_one (pe_not (pe_bi call_kd B.isi (pa_cons (pv 0) (pa1 (pe_tyv "bool" B.bool))))))))), ?_⟩
    refine ⟨_, rfl, v, "int", b1, rfl, ⟨T, kd, e1⟩, b1, rfl, ?_⟩
    cases b1 with
    | true => exact iteT ⟨_, rfl, v, "bool", b2, rfl, ⟨T, kd, e2⟩, b2, rfl, q⟩
    | false => exact iteF q
def spBetween (K : PySem.W.Frag) : Sp := fun xs H Q _ => ∃ v o lo hi, xs = [v, .int lo, .int hi] ∧ Num K H v o ∧ Q (.bl (inR o lo hi)) H
theorem scBetween : FnScope ["value", "low", "high"] ["value", "low", "high"] (defScope sBetween) := ⟨rfl, rfl, rfl, by decide +kernel, rfl, by decide +kernel, by decide +kernel⟩
theorem can_between (D : Dfn K mg "is_between" sBetween) (cW : Can P w K mg base CX0 1 "is_whole" ["value"] (spWhole K)) : Can P w K mg base CX0 2 "is_between" ["value", "low", "high"] (spBetween K) := by
  obtain ⟨f, fd, F, g⟩ := D.at_
  refine FnOk.can (F.ok scBetween (fun xs H Q E h => ?_) (fun cdv A outer s H vs Q E hr h => ?_)) F g fun _ _ _ _ _ _ us hl => match us, hl with | [_, _, _], _ => rfl
  · obtain ⟨v, o, lo, hi, rfl, _⟩ := h
    rfl
  · obtain ⟨v, o, lo, hi, rfl, N, q⟩ := h
    refine ⟨_, PSs.nox (pss_one (ps_ret (pe_and (pe_can cW hr pass0 (pa1 (pv 0))) (pe_one (pe_chain op_le op_le (pv 1) (pv 0) (pv 2)))))), ?_⟩
    refine ⟨_, rfl, v, o.isSome, rfl, N.whl, _, rfl, ?_⟩
    cases N with
    | is i =>
      refine iteT ⟨_, rfl, _, rfl, lo, i, rfl, rfl, _, rfl, ?_⟩
      by_cases c : lo ≤ i
      · rw [decide_eq_true c]
        refine iteT ⟨_, rfl, i, hi, rfl, rfl, ?_⟩
        have e : inR (some i) lo hi = decide (i ≤ hi) := by
          show (decide (lo ≤ i) && decide (i ≤ hi)) = _
          rw [decide_eq_true c, Bool.true_and]
        rw [e] at q
        exact q
      · rw [decide_eq_false c]
        refine iteF ?_
        have e : inR (some i) lo hi = false := by
          show (decide (lo ≤ i) && decide (i ≤ hi)) = _
          rw [decide_eq_false c, Bool.false_and]
        rw [e] at q
        exact q
    | no h => exact iteF q
/-! ### spots -/
/-- whether v is a spot -/
inductive Spot (K : PySem.W.Frag) (H : Hp) (n pl : Int) : V → Bool → Prop
  | kind {v : V} (h : IsK K H v "tuple" false) : Spot K H n pl v false
  | size {t : Addr} {xs : List V} (h : H t = some (.tup xs)) (hn : xs.length ≠ 2) : Spot K H n pl (.ref t) false
  | two {t : Addr} {x y : V} {ox oy : Option Int} (h : H t = some (.tup [x, y])) (hx : Num K H x ox) (hy : Num K H y oy) : Spot K H n pl (.ref t) (inR ox 0 (n - 1) && inR oy 0 (pl - 1))
def spIsSpot (K : PySem.W.Frag) : Sp := fun xs H Q _ => ∃ v n pl b, xs = [v, .int n, .int pl] ∧ Spot K H n pl v b ∧ Q (.bl b) H
theorem scIsSpot : FnScope ["value", "n", "places"] ["value", "n", "places"] (defScope sIsSpot) := ⟨rfl, rfl, rfl, by decide +kernel, rfl, by decide +kernel, by decide +kernel⟩
theorem can_isspot (D : Dfn K mg "is_spot" sIsSpot) (B : Bi2 mg) (cB : Can P w K mg base CX0 2 "is_between" ["value", "low", "high"] (spBetween K)) : Can P w K mg base CX0 3 "is_spot" ["value", "n", "places"] (spIsSpot K) := by
  obtain ⟨f, fd, F, g⟩ := D.at_
  refine FnOk.can (F.ok scIsSpot (fun xs H Q E h => ?_) (fun cdv A outer s H vs Q E hr h => ?_)) F g fun _ _ _ _ _ _ us hl => match us, hl with | [_, _, _], _ => rfl
  · obtain ⟨v, n, pl, b, rfl, _⟩ := h
    rfl
  · obtain ⟨v, n, pl, b, rfl, S, q⟩ := h
    refine ⟨_, PSs.nox (pss_cons (ps_if (PW.pt (pw_or (pt_not (pt_val (pe_bi call_kd B.isi (pa_cons (pv 0) (pa1 (pe_tyv "tuple" B.tuple)))))) (pw_or1 (pt_cmpR op_ne (pe_bi call_len_seq B.len (pa1 (pv 0))) pe_int (nomark _))))) (pss_one (ps_ret pe_bl)) pss_nil)
      (pss_one (ps_ret (pe_and (pe_can cB hr pass0 (pa_cons (pe_ix ix_tup (pv 0) pe_int (fun _ _ => rfl)) (pa_cons pe_int (pa1 (pe_op op_sub (pv 1) pe_int)))))
        (pe_one (pe_can cB hr pass0 (pa_cons (pe_ix ix_tup (pv 0) pe_int (fun _ _ => rfl)) (pa_cons pe_int (pa1 (pe_op op_sub (pv 2) pe_int)))))))))), ?_⟩
    cases S with
    | kind h => exact ⟨_, rfl, v, "tuple", false, rfl, h, false, rfl, iteT (iteT q)⟩
    | @size t xs h hn =>
      refine ⟨_, rfl, _, "tuple", true, rfl, isk_tup h _ (by decide +kernel), true, rfl, iteF ⟨_, rfl, t, xs, rfl, .inr (SqT.of h), rfl, _, rfl, ?_⟩⟩
      have e : decide (V.int (xs.length : Int) = V.int 2) = false := decide_eq_false fun z => hn (by injection z with z; omega)
      show if (!decide (V.int (xs.length : Int) = V.int 2)) = true then _ else _
      rw [e]
      exact iteT q
    | @two t x y ox oy h hx hy =>
      refine ⟨_, rfl, _, "tuple", true, rfl, isk_tup h _ (by decide +kernel), true, rfl, iteF ⟨_, rfl, t, _, rfl, .inr (SqT.of h), rfl, _, rfl, iteF ?_⟩⟩
      refine ⟨_, rfl, t, _, 0, x, rfl, rfl, SqT.of h, atI_nat (j := 0) rfl, _, rfl, n, 1, rfl, rfl, x, ox, 0, n - 1, rfl, hx, _, rfl, ?_⟩
      cases e : inR ox 0 (n - 1) with
      | false =>
        rw [e] at q
        exact iteF q
      | true =>
        rw [e] at q
        exact iteT ⟨_, rfl, t, _, 1, y, rfl, rfl, SqT.of h, atI_nat (j := 1) rfl, _, rfl, pl, 1, rfl, rfl, y, oy, 0, pl - 1, rfl, hy, q⟩
end
end Kx
/-! The program's checks that raise; items of webs. -/
namespace Kx
open PySem PySem.Spec PyProof.Rows L2 Xa Xb Xc Xd Xs Xp
abbrev sIsItem : Stmt := top 18
abbrev sItems : Stmt := top 19
/-- refused: an error of the class at C is raised with the value v -/
def Ref (E : XK) (H : Hp) (C : Addr) (v : V) : Prop := ∀ d, H d = none → E (.ref C) (some d) (upd H d (.xd [("value", v)]))
abbrev sCkPlaces : Stmt := top 11
section
variable {P : Program} {w : World} {K : PySem.W.Frag} {mg : Str → Option Value} {base : Heap} {f : Addr} {fd : FuncData} {CN CS : Addr}
def okNum (o : Option Int) : Bool := match o with
  | some i => decide (1 ≤ i)
  | none => false
def spCkCount (K : PySem.W.Frag) (CN : Addr) : Sp := fun xs H Q E => ∃ v o, xs = [v] ∧ Num K H v o ∧ (okNum o = true → Q .non H) ∧ (okNum o = false → Ref E H CN v)
theorem scCkCount : FnScope ["n"] ["n"] (defScope sCkCount) := ⟨rfl, rfl, rfl, by decide +kernel, rfl, by decide +kernel, by decide +kernel⟩
theorem can_ckcount (D : Dfn K mg "check_count" sCkCount) (M : XMake P w K mg base "InvalidNumber" CN "value") (cW : Can P w K mg base CX0 1 "is_whole" ["value"] (spWhole K)) : Can P w K mg base (L2.CX P w) 4 "check_count" ["n"] (spCkCount K CN) := by
  obtain ⟨f, fd, F, g⟩ := D.at_
  refine FnOk.can (F.ok scCkCount (fun xs H Q E h => ?_) (fun cdv A outer s H vs Q E hr h => ?_)) F g fun _ _ _ _ _ _ us hl => match us, hl with | [_], _ => rfl
  · obtain ⟨v, o, rfl, _⟩ := h
    rfl
  · obtain ⟨v, o, rfl, N, yes, no⟩ := h
    refine ⟨_, pss_one (ps_if (PW.pt (pw_or (pt_not (pt_val (pe_can cW (hr.mono (by decide)) pass0 (pa1 (pv 0))))) (pw_or1 (pt_cmpR op_lt (pv 0) pe_int (nomark _))))) (pss_one (ps_rz rfl M (hr.mono (by decide)) (takes_of rfl rfl rfl rfl) (by rfl) (pv 0))) pss_nil), ?_⟩
    refine ⟨_, rfl, v, o.isSome, rfl, N.whl, _, rfl, ?_⟩
    cases N with
    | is i =>
      refine iteF ⟨_, rfl, i, 1, rfl, rfl, _, rfl, ite2 (fun c => ?_) (fun c => ?_)⟩
      · have c2 : i < 1 := of_decide_eq_true c
        exact ⟨_, rfl, no (decide_eq_false (by omega))⟩
      · exact yes (decide_eq_true (by have : ¬ i < 1 := fun z => c (decide_eq_true z); omega))
    | no h => exact iteT (iteT ⟨_, rfl, no rfl⟩)
def spCkSpot (K : PySem.W.Frag) (CS : Addr) : Sp := fun xs H Q E => ∃ v n pl b, xs = [v, .int n, .int pl] ∧ Spot K H n pl v b ∧ (b = true → Q .non H) ∧ (b = false → Ref E H CS v)
theorem scCkSpot : FnScope ["spot", "n", "places"] ["spot", "n", "places"] (defScope sCkSpot) := ⟨rfl, rfl, rfl, by decide +kernel, rfl, by decide +kernel, by decide +kernel⟩
theorem can_ckspot (D : Dfn K mg "check_spot" sCkSpot) (M : XMake P w K mg base "InvalidSpot" CS "value") (cS : Can P w K mg base CX0 3 "is_spot" ["value", "n", "places"] (spIsSpot K)) : Can P w K mg base (L2.CX P w) 4 "check_spot" ["spot", "n", "places"] (spCkSpot K CS) := by
  obtain ⟨f, fd, F, g⟩ := D.at_
  refine FnOk.can (F.ok scCkSpot (fun xs H Q E h => ?_) (fun cdv A outer s H vs Q E hr h => ?_)) F g fun _ _ _ _ _ _ us hl => match us, hl with | [_, _, _], _ => rfl
  · obtain ⟨v, n, pl, b, rfl, _⟩ := h
    rfl
  · obtain ⟨v, n, pl, b, rfl, S, yes, no⟩ := h
    refine ⟨_, pss_one (ps_if (pt_not (pt_val (pe_can cS hr pass0 (pa_cons (pv 0) (pa_cons (pv 1) (pa1 (pv 2))))))) (pss_one (ps_rz rfl M (hr.mono (by decide)) (takes_of rfl rfl rfl rfl) (by rfl) (pv 0))) pss_nil), ?_⟩
    refine ⟨_, rfl, _, rfl, _, rfl, v, n, pl, b, rfl, S, b, rfl, ?_⟩
    cases b with
    | true => exact iteF (yes rfl)
    | false => exact iteT ⟨_, rfl, no rfl⟩
def spCkRing (K : PySem.W.Frag) (CN : Addr) : Sp := fun xs H Q E => ∃ v b, xs = [v] ∧ IsK K H v "bool" b ∧ (b = true → Q .non H) ∧ (b = false → Ref E H CN v)
theorem scCkRing : FnScope ["ring"] ["ring"] (defScope sCkRing) := ⟨rfl, rfl, rfl, by decide +kernel, rfl, by decide +kernel, by decide +kernel⟩
theorem can_ckring (D : Dfn K mg "check_ring" sCkRing) (B : Bi2 mg) (M : XMake P w K mg base "InvalidNumber" CN "value") : Can P w K mg base (L2.CX P w) 4 "check_ring" ["ring"] (spCkRing K CN) := by
  obtain ⟨f, fd, F, g⟩ := D.at_
  refine FnOk.can (F.ok scCkRing (fun xs H Q E h => ?_) (fun cdv A outer s H vs Q E hr h => ?_)) F g fun _ _ _ _ _ _ us hl => match us, hl with | [_], _ => rfl
  · obtain ⟨v, b, rfl, _⟩ := h
    rfl
  · obtain ⟨v, b, rfl, S, yes, no⟩ := h
    refine ⟨_, pss_one (ps_if (pt_not (pt_val (pe_bi call_kd B.isi (pa_cons (pv 0) (pa1 (pe_tyv "bool" B.bool)))))) (pss_one (ps_rz rfl M (hr.mono (by decide)) (takes_of rfl rfl rfl rfl) (by rfl) (pv 0))) pss_nil), ?_⟩
    refine ⟨_, rfl, v, "bool", b, rfl, S, b, rfl, ?_⟩
    cases b with
    | true => exact iteF (yes rfl)
    | false => exact iteT ⟨_, rfl, no rfl⟩
/-! ### items -/
/-- whether v is a tuple of a web with so many places -/
inductive Item (K : PySem.W.Frag) (H : Hp) (pl : Int) : V → Bool → Prop
  | kind {v : V} (h : IsK K H v "tuple" false) : Item K H pl v false
  | size {t : Addr} {xs : List V} (h : H t = some (.tup xs)) (hn : xs.length ≠ 3) : Item K H pl (.ref t) false
  | three {t : Addr} {x y z : V} {ox oy oz : Option Int} (h : H t = some (.tup [x, y, z])) (hx : Num K H x ox) (hy : Num K H y oy) (hz : Num K H z oz) :
      Item K H pl (.ref t) (inR ox 0 (pl - 1) && (inR oy 0 (pl - 1) && inR oz (-(3 - pl)) (3 - pl)))
def spIsItem (K : PySem.W.Frag) : Sp := fun xs H Q _ => ∃ v pl b, xs = [v, .int pl] ∧ (pl = 1 ∨ pl = 2) ∧ Item K H pl v b ∧ Q (.bl b) H
theorem scIsItem : FnScope ["value", "places", "i", "j", "d", "far"] ["value", "places"] (defScope sIsItem) := ⟨rfl, rfl, rfl, by decide +kernel, rfl, by decide +kernel, by decide +kernel⟩
theorem can_isitem (D : Dfn K mg "is_item" sIsItem) (B : Bi2 mg) (cB : Can P w K mg base CX0 2 "is_between" ["value", "low", "high"] (spBetween K)) {Fa : Addr} (gF : mg "FARTHEST" = some (.ref Fa)) (hF : farB K Fa = true) :
    Can P w K mg base CX0 3 "is_item" ["value", "places"] (spIsItem K) := by
  obtain ⟨f, fd, F, g⟩ := D.at_
  refine FnOk.can (F.ok scIsItem (fun xs H Q E h => ?_) (fun cdv A outer s H vs Q E hr h => ?_)) F g fun _ _ _ _ _ _ us hl => match us, hl with | [_, _], _ => rfl
  · obtain ⟨v, pl, b, rfl, _⟩ := h
    rfl
  · obtain ⟨v, pl, b, rfl, pp, S, q⟩ := h
    refine ⟨_, PSs.nox (pss_cons (ps_if (PW.pt (pw_or (pt_not (pt_val (pe_bi call_kd B.isi (pa_cons (pv 0) (pa1 (pe_tyv "tuple" B.tuple)))))) (pw_or1 (pt_cmpR op_ne (pe_bi call_len_seq B.len (pa1 (pv 0))) pe_int (nomark _))))) (pss_one (ps_ret pe_bl)) pss_nil)
      (pss_cons (ps_asg (pv 0) (pg_tup (by rfl) (pgs_cons (pg_name (i := 2) scIsItem.nd rfl (.inl rfl)) (pgs_cons (pg_name (i := 3) scIsItem.nd rfl (.inl rfl)) (pgs_cons (pg_name (i := 4) scIsItem.nd rfl (.inl rfl)) pgs_nil)))))
      (pss_cons (ps_set (i := 5) scIsItem.nd rfl (.inl rfl) (pe_ix ix_far (pe_glob (v := .ref Fa) (by rfl) gF rfl) (pv 1) (fun _ _ => rfl)))
      (pss_one (ps_ret (pe_and (pe_can cB hr pass0 (pa_cons (pv 2) (pa_cons pe_int (pa1 (pe_op op_sub (pv 1) pe_int)))))
        (pe_and (pe_can cB hr pass0 (pa_cons (pv 3) (pa_cons pe_int (pa1 (pe_op op_sub (pv 1) pe_int))))) (pe_one (pe_can cB hr pass0 (pa_cons (pv 4) (pa_cons (pe_un un_neg (pv 5)) (pa1 (pv 5))))))))))))), ?_⟩
    cases S with
    | kind h => exact ⟨_, rfl, v, "tuple", false, rfl, h, false, rfl, iteT (iteT q)⟩
    | @size t xs h hn =>
      refine ⟨_, rfl, _, "tuple", true, rfl, isk_tup h _ (by decide +kernel), true, rfl, iteF ⟨_, rfl, t, xs, rfl, .inr (SqT.of h), rfl, _, rfl, ?_⟩⟩
      have e : decide (V.int (xs.length : Int) = V.int 3) = false := decide_eq_false fun z => hn (by injection z with z; omega)
      show if (!decide (V.int (xs.length : Int) = V.int 3)) = true then _ else _
      rw [e]
      exact iteT q
    | @three t x y z ox oy oz h hx hy hz =>
      refine ⟨_, rfl, _, "tuple", true, rfl, isk_tup h _ (by decide +kernel), true, rfl, iteF ⟨_, rfl, t, _, rfl, .inr (SqT.of h), rfl, _, rfl, iteF ?_⟩⟩
      refine ⟨_, rfl, t, _, rfl, SqT.of h, rfl, ?_⟩
      refine ⟨x, _, rfl, y, _, rfl, z, _, rfl, rfl, ?_⟩
      rcases pp with rfl | rfl
      · refine ⟨_, rfl, Fa, rfl, hF, .inl ⟨rfl, ?_⟩⟩
        refine ⟨_, rfl, _, rfl, _, _, rfl, rfl, x, ox, 0, 1 - 1, rfl, hx, _, rfl, ?_⟩
        cases e1 : inR ox 0 (1 - 1) with
        | false =>
          rw [e1] at q
          exact iteF q
        | true =>
          rw [e1] at q
          refine iteT ⟨_, rfl, _, rfl, _, _, rfl, rfl, y, oy, 0, 1 - 1, rfl, hy, _, rfl, ?_⟩
          cases e2 : inR oy 0 (1 - 1) with
          | false =>
            rw [e2] at q
            exact iteF q
          | true =>
            rw [e2] at q
            exact iteT ⟨_, rfl, _, rfl, _, rfl, _, rfl, z, oz, -2, 2, rfl, hz, q⟩
      · refine ⟨_, rfl, Fa, rfl, hF, .inr ⟨rfl, ?_⟩⟩
        refine ⟨_, rfl, _, rfl, _, _, rfl, rfl, x, ox, 0, 2 - 1, rfl, hx, _, rfl, ?_⟩
        cases e1 : inR ox 0 (2 - 1) with
        | false =>
          rw [e1] at q
          exact iteF q
        | true =>
          rw [e1] at q
          refine iteT ⟨_, rfl, _, rfl, _, _, rfl, rfl, y, oy, 0, 2 - 1, rfl, hy, _, rfl, ?_⟩
          cases e2 : inR oy 0 (2 - 1) with
          | false =>
            rw [e2] at q
            exact iteF q
          | true =>
            rw [e2] at q
            exact iteT ⟨_, rfl, _, rfl, _, rfl, _, rfl, z, oz, -1, 1, rfl, hz, q⟩
def spCkPlaces (K : PySem.W.Frag) (CN : Addr) : Sp := fun xs H Q E => ∃ v o, xs = [v] ∧ Num K H v o ∧ (inR o 1 2 = true → Q .non H) ∧ (inR o 1 2 = false → Ref E H CN v)
theorem scCkPlaces : FnScope ["places"] ["places"] (defScope sCkPlaces) := ⟨rfl, rfl, rfl, by decide +kernel, rfl, by decide +kernel, by decide +kernel⟩
theorem can_ckplaces {CN : Addr} {tm : Tok} (D : Dfn K mg "check_places" sCkPlaces) (gM : mg "MOST_PLACES" = some (.int 2 tm)) (M : Xc.XMake P w K mg base "InvalidNumber" CN "value") (cB : Can P w K mg base CX0 2 "is_between" ["value", "low", "high"] (spBetween K)) :
    Can P w K mg base (L2.CX P w) 3 "check_places" ["places"] (spCkPlaces K CN) := by
  obtain ⟨f, fd, F, g⟩ := D.at_
  refine FnOk.can (F.ok scCkPlaces (fun xs H Q E h => ?_) (fun cdv A outer s H vs Q E hr h => ?_)) F g fun _ _ _ _ _ _ us hl => match us, hl with | [_], _ => rfl
  · obtain ⟨v, o, rfl, _⟩ := h
    rfl
  · obtain ⟨v, o, rfl, N, yes, no⟩ := h
    refine ⟨_, pss_one (ps_if (pt_not (pt_val (pe_can cB hr pass0 (pa_cons (pv 0) (pa_cons pe_int (pa1 (pe_glob (v := .int 2) (by rfl) gM ⟨_, rfl⟩))))))) (pss_one (ps_rz rfl M (hr.mono (by decide)) (takes_of rfl rfl rfl rfl) (by rfl) (pv 0))) pss_nil), ?_⟩
    refine ⟨_, rfl, v, o, 1, 2, rfl, N, _, rfl, ?_⟩
    cases e : inR o 1 2 with
    | true => exact iteF (yes e)
    | false => exact iteT ⟨_, rfl, no e⟩
end
end Kx
/-! check_items on good items; Web's __init__ and hears. -/
namespace Kx
open PySem PySem.Spec PyProof.Rows L2 Xa Xb Xc Xd Xs Xp
abbrev sWInit : Stmt := inClass (top 17) 0
abbrev sWHears : Stmt := inClass (top 17) 1
section
variable {P : Program} {w : World} {K : PySem.W.Frag} {mg : Str → Option Value} {base : Heap} {f : Addr} {fd : FuncData} {CN CS : Addr}
theorem inR_t {i lo hi : Int} (h1 : lo ≤ i) (h2 : i ≤ hi) : inR (some i) lo hi = true := by
  show (decide (lo ≤ i) && decide (i ≤ hi)) = true
  rw [decide_eq_true h1, decide_eq_true h2]
  rfl
theorem Lnk.item {H : Hp} {pl : Int} {l : List Int} {t : Addr} (h : Lnk pl l) (ht : H t = some (.tup (l.map V.int))) : Item K H pl (.ref t) true := by
  obtain ⟨i, j, d, rfl, h1, h2, h3, h4, h5, h6⟩ := h
  have r : Item K H pl (.ref t) (inR (some i) 0 (pl - 1) && (inR (some j) 0 (pl - 1) && inR (some d) (-(3 - pl)) (3 - pl))) := .three (x := .int i) (y := .int j) (z := .int d) ht (.is i) (.is j) (.is d)
  rw [inR_t h1 (by omega), inR_t h3 (by omega), inR_t (by omega) h6] at r
  exact r
/-! ### check_items -/
def spItems (K : PySem.W.Frag) : Sp := fun xs H Q _ => ∃ (pl : Int) (h : Addr) (ps : List (Addr × List Int)), xs = [.int pl, .ref h] ∧ (pl = 1 ∨ pl = 2) ∧ H h = some (.lst (ps.map fun p => V.ref p.1)) ∧ TupsAt H ps ∧ Lnks pl (ps.map (·.2)) ∧ ∀ H', Same H H' → Q .non H'
theorem scItems : FnScope ["places", "hears", "seen", "item"] ["places", "hears"] (defScope sItems) := ⟨rfl, rfl, rfl, by decide +kernel, rfl, by decide +kernel, by decide +kernel⟩
theorem can_items (D : Dfn K mg "check_items" sItems) (B : Bi2 mg) (cI : Can P w K mg base CX0 3 "is_item" ["value", "places"] (spIsItem K)) : Can P w K mg base (L2.CX P w) 4 "check_items" ["places", "hears"] (spItems K) := by
  obtain ⟨f, fd, F, g⟩ := D.at_
  refine FnOk.can (F.ok scItems (fun xs H Q E h => ?_) (fun cdv A outer s H vs Q E hr h => ?_)) F g fun _ _ _ _ _ _ us hl => match us, hl with | [_, _], _ => rfl
  · obtain ⟨pl, h, ps, rfl, _⟩ := h
    rfl
  · obtain ⟨pl, h, ps, rfl, pp, hh, ht, hl, q⟩ := h
    refine ⟨_, pss_cons (ps_set (i := 2) scItems.nd rfl (.inl rfl) (pe_callTy0 cr_setT0 (by rfl) B.set (by decide +kernel)))
      (pss_one (ps_for (passes_of rfl) rfl (pi_list (pv 1)) (pg_name (i := 3) scItems.nd rfl (.inl rfl))
        (pss_cons (ps_if (PW.pt (pw_or (pt_not (pt_val (pe_can cI hr pass0 (pa_cons (pv 3) (pa1 (pv 0)))))) (pw_or1 (pt_cmpR (op_inT hr.units) (pv 3) (pv 2) (by rfl))))) (pss_one ps_never) pss_nil)
        (pss_one (ps_expr (pe_addT hr.units (pv 2) (pv 3))))))), ?_⟩
    refine ⟨rfl, fun sA ns => ?_⟩
    refine ⟨_, rfl, h, rfl, ⟨_, SqL.of (by rw [upd_ne (ne_of_none hh ns)]; exact hh)⟩, for_list (K := K) (a := h) (xs := ps.map fun p => V.ref p.1)
      (fun i σ H' => ∃ (L : List (Addr × List Int)) (tv : Option V), σ = [some (.int pl), some (.ref h), some (.ref sA), tv] ∧ H' sA = some (SetTO P w sA L) ∧ Same H H' ∧ (∀ q ∈ L, q ∈ ps) ∧ (∀ x, x ∈ L.map (·.2) → x ∈ (ps.take i).map (·.2)) ∧ L.length ≤ i)
      ⟨[], none, rfl, upd_same, fun b o e => by rw [upd_ne (ne_of_none e ns)]; exact e, fun q hq => (by cases hq), fun x hx => (by cases hx), Nat.le_refl _⟩ (fun i σ H' _ ⟨_, _, _, _, sm, _⟩ => SqL.of (sm _ _ hh)) ?_ ?_⟩
    · rintro i y σ H' hi ⟨L, tv, rfl, hs, sm, sub, mem, len⟩
      obtain ⟨p, hp, rfl⟩ : ∃ p, ps[i]? = some p ∧ y = .ref p.1 := by
        rw [List.getElem?_map] at hi
        cases e : ps[i]? with
        | none =>
          rw [e] at hi
          cases hi
        | some p =>
          rw [e] at hi
          exact ⟨p, rfl, (Option.some.inj hi).symm⟩
      have hil : i < ps.length := (List.getElem?_eq_some_iff.mp hp).1
      have hpin := List.mem_of_getElem? hp
      have tp := sm _ _ (ht p hpin)
      have tps : ∀ q ∈ L, SqT K H' q.1 (q.2.map V.int) := fun q hq => SqT.of (sm _ _ (ht q (sub q hq)))
      have new : p.2 ∉ L.map (·.2) := fun z => by
        have y1 := mem _ z
        obtain ⟨j, hj, e⟩ := List.getElem_of_mem y1
        have hj2 : j < i := by
          rw [List.length_map, List.length_take] at hj
          omega
        have y2 : (ps.map (·.2))[j]? = some p.2 := by
          rw [← e, List.getElem_map, List.getElem_take, List.getElem?_map, List.getElem?_eq_getElem (by omega)]
          rfl
        have y3 : (ps.map (·.2))[i]? = some p.2 := by rw [List.getElem?_map, hp] <;> rfl
        have := nd_ix hl.nd y2 y3
        omega
      refine ⟨_, rfl, _, rfl, .ref p.1, pl, true, rfl, pp, (hl.one p.2 (List.mem_map.mpr ⟨p, hpin, rfl⟩)).item tp, true, rfl, iteF ?_⟩
      refine ⟨_, rfl, _, rfl, p.1, sA, p.2, L, rfl, rfl, SqT.of tp, hs, tps, _, rfl, ?_⟩
      show if (if false = true then !decide (p.2 ∈ L.map (·.2)) else decide (p.2 ∈ L.map (·.2))) = true then _ else _
      rw [if_neg Bool.false_ne_true, decide_eq_false new]
      refine iteF ⟨_, rfl, ⟨sA, L, rfl, hs, tps⟩, _, rfl, sA, p.1, p.2, L, rfl, rfl, hs, tps, SqT.of tp, ?_, fun L' _ i2 => ?_⟩
      · have := hl.few
        rw [List.length_map] at this
        omega
      · have pm := i2 new
        have tk : (ps.take (i + 1)).map (·.2) = (ps.take i).map (·.2) ++ [p.2] := by
          rw [List.take_add_one, hp, List.map_append]
          rfl
        refine ⟨L', _, rfl, upd_same, fun b o e => ?_, fun q hq => ?_, fun x hx => ?_, ?_⟩
        · rw [upd_ne (ne_of_none e ns)]
          exact sm b o e
        · rcases List.mem_cons.mp (pm.mem_iff.mp hq) with e | e
          · rw [e]
            exact hpin
          · exact sub q e
        · obtain ⟨q, hq, rfl⟩ := List.mem_map.mp hx
          rw [tk]
          rcases List.mem_cons.mp (pm.mem_iff.mp hq) with e | e
          · rw [e]
            exact List.mem_append_right _ List.mem_cons_self
          · exact List.mem_append_left _ (mem _ (List.mem_map.mpr ⟨q, e, rfl⟩))
        · rw [pm.length_eq, List.length_cons]
          omega
    · rintro σ H' ⟨L, tv, rfl, hs, sm, _⟩
      exact q H' sm
end
end Kx
/-! Web: __init__, hears. -/
namespace Kx
open PySem PySem.Spec PyProof.Rows L2 Xa Xb Xc Xd Xs Xp
theorem lc_yes {A B : Hp → Prop} {σ : L2.St} {H : Hp} (h : A H) : tYes σ H (fun b H3 => if b = true then A H3 else B H3) := by
  show if true = true then A H else B H
  rw [if_pos rfl]
  exact h
/-! ### a web -/
def wFlds (pl rc : Int) (l : Addr) : List (Str × V) := putF "_hears" (.ref l) (putF "reach" (.int rc) (putF "places" (.int pl) []))
theorem n1 : ¬ (("reach" : Str) = "places") := by decide +kernel
theorem n2 : ¬ (("_hears" : Str) = "places") := by decide +kernel
theorem n3 : ¬ (("_hears" : Str) = "reach") := by decide +kernel
theorem wf_pl (pl rc : Int) (l : Addr) : (wFlds pl rc l).lookup ("places" : Str) = some (.int pl) := by
  unfold wFlds
  rw [lookup_putF, if_neg (Ne.symm n2), lookup_putF, if_neg (Ne.symm n1), lookup_putF, if_pos rfl]
theorem wf_rc (pl rc : Int) (l : Addr) : (wFlds pl rc l).lookup ("reach" : Str) = some (.int rc) := by
  unfold wFlds
  rw [lookup_putF, if_neg (Ne.symm n3), lookup_putF, if_pos rfl]
theorem wf_he (pl rc : Int) (l : Addr) : (wFlds pl rc l).lookup ("_hears" : Str) = some (.ref l) := by
  unfold wFlds
  rw [lookup_putF, if_pos rfl]
theorem wf_no (pl rc : Int) (l : Addr) {m : Str} (h1 : ¬ m = "places") (h2 : ¬ m = "reach") (h3 : ¬ m = "_hears") : (wFlds pl rc l).lookup m = none := by
  unfold wFlds
  rw [lookup_putF, if_neg h3, lookup_putF, if_neg h2, lookup_putF, if_neg h1]
  rfl
/-- a web stands at p: its places, its reach, its tuples in order at l -/
structure WebAt (C : Addr) (H : Hp) (p : Addr) (pl rc : Int) (l : Addr) (qs : List (Addr × List Int)) : Prop where
  ob : ∃ dx, H p = some (.ins C dx (wFlds pl rc l))
  li : H l = some (.lst (qs.map fun q => V.ref q.1))
  tu : TupsAt H qs
/-- what of the class Web the text says -/
structure WTxt (K : PySem.W.Frag) (mg : Str → Option Value) (C : Addr) : Prop where
  cl : Cls K C
  nP : NoAttr K C "places"
  nR : NoAttr K C "reach"
  nH : NoAttr K C "_hears"
  gl : mg "Web" = some (.ref C)
/-- the reach of the tuples -/
def Reach (rc : Int) (ls : List (List Int)) : Prop := 1 ≤ rc ∧ (∀ l ∈ ls, ∀ i j d, l = [i, j, d] → d ≤ rc ∧ -d ≤ rc) ∧ (rc = 1 ∨ ∃ l ∈ ls, ∃ i j d, l = [i, j, d] ∧ (d = rc ∨ -d = rc))
def absd : List Int → Int
  | [_, _, d] => if d < 0 then -d else d
  | _ => 0
section
variable {P : Program} {w : World} {K : PySem.W.Frag} {mg : Str → Option Value} {base : Heap} {f C : Addr} {fd : FuncData}
/-- __init__, all being well -/
def spWInit (C : Addr) : Sp := fun xs H Q _ => ∃ (p dx h : Addr) (pl : Int) (ps : List (Addr × List Int)), xs = [.ref p, .int pl, .ref h] ∧ H p = some (.ins C dx []) ∧ (pl = 1 ∨ pl = 2) ∧ H h = some (.lst (ps.map fun q => V.ref q.1)) ∧ TupsAt H ps ∧ Lnks pl (ps.map (·.2)) ∧
  ∀ (rc : Int) (l : Addr) (H' : Hp), WebAt C H' p pl rc l (srt ps) → Reach rc (ps.map (·.2)) → (∀ c o, H c = some o → c ≠ p → H' c = some o) → H l = none → Q .non H'
theorem scWInit : FnScope ["self", "places", "hears", "item"] ["self", "places", "hears"] (defScope sWInit) := ⟨rfl, rfl, rfl, by decide +kernel, rfl, by decide +kernel, by decide +kernel⟩
theorem ok_winit (F : FunD K "__init__" "Web.__init__" (defArgs sWInit) (defBody sWInit) (defScope sWInit) [] [] f fd) (T : WTxt K mg C) (B : Bi2 mg) {CN : Addr} (cP : Can P w K mg base (L2.CX P w) 3 "check_places" ["places"] (spCkPlaces K CN))
    (cC : Can P w K mg base (L2.CX P w) 4 "check_items" ["places", "hears"] (spItems K)) : FnOk P w K mg base (L2.CX P w) 5 f fd ["self", "places", "hears"] (spWInit C) := by
  refine F.ok scWInit (fun xs H Q E h => ?_) (fun cdv A outer s H vs Q E hr h => ?_)
  · obtain ⟨p, dx, h, pl, ps, rfl, _⟩ := h
    rfl
  · obtain ⟨p, dx, h, pl, ps, rfl, hp, pp, hh, ht, hl, q⟩ := h
    have pass : Passes (L2.CX P w) (cxOf (L2.CX P w) P w K mg base ["self", "places", "hears", "item"] "Web.__init__" (defScope sWInit) f cdv A outer s H E) E := passes_call (takes_of rfl rfl rfl rfl) fun _ _ _ _ z => z
    refine ⟨_, pss_cons (ps_expr (pe_can cP (hr.mono (by decide)) pass (pa1 (pv 1))))
      (pss_cons (ps_if (pt_not (pt_val (pe_bi call_kd B.isi (pa_cons (pv 2) (pa1 (pe_tyv "list" B.list)))))) (pss_one ps_never) pss_nil)
      (pss_cons (ps_expr (pe_can cC hr pass (pa_cons (pv 1) (pa1 (pv 2)))))
      (pss_cons (ps_fld (pv 0) (pv 1) rfl)
      (pss_cons (ps_fld (pv 0) (pe_bi (cr_max rfl) B.max (pa1 (pe_op op_cat (pe_lst (pa1 pe_int)) (pe_lc (own := [("item", 3)]) (g := gName 3) (tt := tYes) rfl scWInit.nd (pi_list (pv 2)) (blkOk_by (own := [("item", 3)]) (N := ["self", "places", "hears", "item"]) (sc := defScope sWInit) (by decide +kernel))
          (fun _ _ _ _ _ => pg_name (i := 3) scWInit.nd rfl (Or.inl rfl)) (fun _ _ _ _ _ => pts_nil) (fun _ _ _ _ _ => pe_bi call_abs B.abs (pa1 (pe_ix (r := rIxT K) ix_tup (pv 3) pe_int (fun _ _ => rfl)))))))) rfl)
      (pss_one (ps_fld (pv 0) (pe_bi (cr_sortL rfl hr.units) B.sorted (pa1 (pv 2))) rfl)))))), ?_⟩
    refine ⟨_, rfl, .int pl, some pl, rfl, .is pl, fun _ => ?_, fun e => by
      rw [inR_t (show 1 ≤ pl by omega) (show pl ≤ 2 by omega)] at e
      cases e⟩
    refine ⟨_, rfl, .ref h, "list", true, rfl, isk_lst hh _ (by decide +kernel), true, rfl, iteF ?_⟩
    refine ⟨_, rfl, _, rfl, pl, h, ps, rfl, pp, hh, ht, hl, fun H1 sm => ?_⟩
    have hp1 := sm _ _ hp
    have hph : h ≠ p := ne_of hh hp (by intro z; cases z)
    refine ⟨_, rfl, _, rfl, p, C, dx, [], rfl, hp1, T.cl, T.nP, (by show 0 < 1000; decide), ?_⟩
    -- self.reach
    have nf1 : ∀ {a : Addr} {o : HO} {fs : List (Str × V)}, (upd H1 p (.ins C dx fs)) a = none → H1 a = none := fun {a o fs} z => by
      by_cases e : a = p
      · rw [e, upd_same] at z
        cases z
      · rw [upd_ne e] at z
        exact z
    refine ⟨(by show 1 ≤ sizeLine; decide), fun a1 m1 => ?_⟩
    have hA : ∀ c o, (upd H1 p (.ins C dx (putF "places" (.int pl) []))) c = some o → (upd (upd H1 p (.ins C dx (putF "places" (.int pl) []))) a1 (.lst [V.int 1])) c = some o := fun c o e => by
      rw [upd_ne (ne_of_none e m1)]
      exact e
    have hh2 : (upd H1 p (.ins C dx (putF "places" (.int pl) []))) h = some (.lst (ps.map fun q => V.ref q.1)) := by
      rw [upd_ne hph]
      exact sm _ _ hh
    have tu2 : TupsAt (upd H1 p (.ins C dx (putF "places" (.int pl) []))) ps := fun q hq => by
      have y := sm _ _ (ht q hq)
      rw [upd_ne (ne_of y hp1 (by intro z; cases z))]
      exact y
    refine ⟨_, rfl, h, rfl, ⟨_, SqL.of (hA _ _ hh2)⟩, fun D nD => ?_⟩
    generalize hG : upd (upd H1 p (.ins C dx (putF "places" (.int pl) []))) a1 (.lst [V.int 1]) = G at hA nD ⊢
    have hh3 := hA _ _ hh2
    have tu3 : TupsAt G ps := fun q hq => hA _ _ (tu2 q hq)
    have ga1 : G a1 = some (.lst [V.int 1]) := by
      rw [← hG]
      exact upd_same
    refine lc_list (K := K) (a := h) (xs := ps.map fun q => V.ref q.1) (fun i H' => H' = upd G D (.lst (((ps.take i).map fun q => absd q.2).map V.int))) rfl (fun i H' _ e => by
      rw [e]
      exact SqL.of (by rw [upd_ne (ne_of_none hh3 nD)]; exact hh3)) ?_ ?_
    · rintro i x H' hx rfl
      obtain ⟨r, hr, rfl⟩ : ∃ r, ps[i]? = some r ∧ x = .ref r.1 := by
        rw [List.getElem?_map] at hx
        cases e : ps[i]? with
        | none =>
          rw [e] at hx
          cases hx
        | some r =>
          rw [e] at hx
          exact ⟨r, rfl, (Option.some.inj hx).symm⟩
      have rin := List.mem_of_getElem? hr
      obtain ⟨i1, j1, d1, el, b1⟩ := hl.one r.2 (List.mem_map.mpr ⟨r, rin, rfl⟩)
      have tr := tu3 r rin
      rw [el] at tr
      refine ⟨rfl, lc_yes ?_⟩
      refine ⟨_, rfl, r.1, _, 2, .int d1, rfl, rfl, SqT.of (xs := [V.int i1, V.int j1, V.int d1]) (by rw [upd_ne (ne_of_none tr nD)]; exact tr), atI_nat (j := 2) rfl, d1, rfl, _, upd_same, ?_, ?_⟩
      · rw [List.length_map, List.length_map]
        refine small1000 ?_
        rw [List.length_take]
        have := hl.few
        rw [List.length_map] at this
        omega
      · rw [upd_upd, List.take_add_one, hr, List.map_append, List.map_append]
        have e : absd r.2 = if d1 < 0 then -d1 else d1 := by rw [el] <;> rfl
        show upd G D (.lst (_ ++ [V.int (if d1 < 0 then -d1 else d1)])) = upd G D (.lst (_ ++ [V.int (absd r.2)]))
        rw [e]
    · rintro H' rfl
      rw [List.length_map, List.take_length]
      have few : ps.length ≤ 20 := by
        have := hl.few
        rwa [List.length_map] at this
      refine ⟨a1, D, [V.int 1], _, rfl, rfl, by rw [upd_ne (ne_of_none ga1 nD)]; exact ga1, upd_same, ?_, fun b nb => ?_⟩
      · rw [List.length_map, List.length_map]
        show 1 + ps.length ≤ sizeLine
        exact Nat.le_of_lt (small1000 (by omega))
      refine ⟨b, 1 :: ps.map fun q => absd q.2, rfl, SqL.of upd_same, Nat.succ_pos _, fun rc hm hle => ?_⟩
      have rea : Reach rc (ps.map (·.2)) := by
        refine ⟨hle 1 List.mem_cons_self, fun l hl2 i j d el => ?_, ?_⟩
        · obtain ⟨r, hr, rfl⟩ := List.mem_map.mp hl2
          have y := hle (absd r.2) (List.mem_cons_of_mem _ (List.mem_map.mpr ⟨r, hr, rfl⟩))
          have el : r.2 = [i, j, d] := el
          rw [el] at y
          have y : (if d < 0 then -d else d) ≤ rc := y
          split at y <;> omega
        · rcases List.mem_cons.mp hm with e | e
          · exact .inl e
          · obtain ⟨r, hr, er⟩ := List.mem_map.mp e
            obtain ⟨i1, j1, d1, el, _⟩ := hl.one r.2 (List.mem_map.mpr ⟨r, hr, rfl⟩)
            rw [el] at er
            have er : (if d1 < 0 then -d1 else d1) = rc := er
            refine .inr ⟨r.2, List.mem_map.mpr ⟨r, hr, rfl⟩, i1, j1, d1, el, ?_⟩
            split at er <;> omega
      have gp : G p = some (.ins C dx (putF "places" (.int pl) [])) := hA _ _ upd_same
      have gp2 : (upd (upd G D (.lst ((ps.map fun q => absd q.2).map V.int))) b (.lst ([V.int 1] ++ (ps.map fun q => absd q.2).map V.int))) p = some (.ins C dx (putF "places" (.int pl) [])) := by
        have y : (upd G D (.lst ((ps.map fun q => absd q.2).map V.int))) p = some (.ins C dx (putF "places" (.int pl) [])) := by
          rw [upd_ne (ne_of_none gp nD)]
          exact gp
        rw [upd_ne (ne_of_none y nb)]
        exact y
      refine ⟨_, rfl, p, C, dx, _, rfl, gp2, T.cl, T.nR, (by show 1 < 1000; decide), ?_⟩
      -- self._hears
      have old : ∀ c o, G c = some o → c ≠ p → (upd (upd (upd G D (.lst ((ps.map fun q => absd q.2).map V.int))) b (.lst ([V.int 1] ++ (ps.map fun q => absd q.2).map V.int))) p (.ins C dx (putF "reach" (.int rc) (putF "places" (.int pl) [])))) c = some o := fun c o e hc => by
        have y : (upd G D (.lst ((ps.map fun q => absd q.2).map V.int))) c = some o := by
          rw [upd_ne (ne_of_none e nD)]
          exact e
        rw [upd_ne hc, upd_ne (ne_of_none y nb)]
        exact y
      generalize hM : upd (upd (upd G D (.lst ((ps.map fun q => absd q.2).map V.int))) b (.lst ([V.int 1] ++ (ps.map fun q => absd q.2).map V.int))) p (.ins C dx (putF "reach" (.int rc) (putF "places" (.int pl) []))) = M at old
      have mp : M p = some (.ins C dx (putF "reach" (.int rc) (putF "places" (.int pl) []))) := by
        rw [← hM]
        exact upd_same
      have mh := old _ _ hh3 hph
      have mt : TupsAt M ps := fun r hr => old _ _ (tu3 r hr) (ne_of (tu3 r hr) gp (by intro z; cases z))
      refine ⟨_, rfl, h, ps, 2, rfl, SqL.of mh, fun r hr => SqT.of (mt r hr), fun r hr => ?_, fun l nl => ?_⟩
      · obtain ⟨i1, j1, d1, el, _⟩ := hl.one r.2 (List.mem_map.mpr ⟨r, hr, rfl⟩)
        rw [el] <;> rfl
      have lp : p ≠ l := ne_of_none mp nl
      refine ⟨_, rfl, p, C, dx, _, rfl, by rw [upd_ne lp]; exact mp, T.cl, T.nH, (by show 2 < 1000; decide), ?_⟩
      have keep : ∀ c o, H c = some o → c ≠ p → M c = some o := fun c o e hc => by
        refine old c o (hA c o ?_) hc
        rw [upd_ne hc]
        exact sm c o e
      refine q rc l _ ⟨⟨dx, upd_same⟩, by rw [upd_ne (Ne.symm lp), upd_same], fun r hr => ?_⟩ rea (fun c o e hc => ?_) ?_
      · have y := mt r ((srt_perm ps).mem_iff.mp hr)
        rw [upd_ne (ne_of y mp (by intro z; cases z)), upd_ne (ne_of_none y nl)]
        exact y
      · rw [upd_ne hc, upd_ne (ne_of_none (keep c o e hc) nl)]
        exact keep c o e hc
      · cases e : H l with
        | none => rfl
        | some o =>
          rw [keep l o e (Ne.symm lp)] at nl
          cases nl
end
end Kx
/-! Web: hears, audible. -/
namespace Kx
open PySem PySem.Spec PyProof.Rows L2 Xa Xb Xc Xd Xs Xp
abbrev sWAud : Stmt := inClass (top 17) 2
/-! ### the mathematics of what is heard -/
def further (rg : Bool) (n a d : Int) : Int := if rg = true then (a + d).fmod n else a + d
/-- the spot k is heard, by the tuples ls -/
def Hear (ls : List (List Int)) (rg : Bool) (n a b : Int) (k : List Int) : Prop := ∃ j d : Int, [b, j, d] ∈ ls ∧ 0 ≤ further rg n a d ∧ further rg n a d < n ∧ k = [further rg n a d, j]
/-- ks is the list of the heard spots, in order -/
structure Told (ls : List (List Int)) (rg : Bool) (n a b : Int) (ks : List (List Int)) : Prop where
  nd : ks.Nodup
  up : ks.Pairwise fun q r => TS.code (n + 2) q ≤ TS.code (n + 2) r
  mem : ∀ k, k ∈ ks ↔ Hear ls rg n a b k
  few : ks.length < 64
theorem code2 (B x y : Int) : TS.code B [x, y] = x * B + y := by
  show x * B ^ 1 + (y * B ^ 0 + 0) = x * B + y
  rw [Int.pow_succ, Int.pow_zero, Int.one_mul, Int.mul_one, Int.add_zero]
theorem Hear.snoc {l : List (List Int)} {rg : Bool} {n a b i j d : Int} {k : List Int} : Hear (l ++ [[i, j, d]]) rg n a b k ↔ Hear l rg n a b k ∨ (i = b ∧ 0 ≤ further rg n a d ∧ further rg n a d < n ∧ k = [further rg n a d, j]) := by
  constructor
  · rintro ⟨j1, d1, m, x, y, z⟩
    rcases List.mem_append.mp m with m | m
    · exact .inl ⟨j1, d1, m, x, y, z⟩
    · have e := List.mem_singleton.mp m
      injection e with e1 e
      injection e with e2 e
      injection e with e3 e
      subst e1 e2 e3
      exact .inr ⟨rfl, x, y, z⟩
  · rintro (⟨j1, d1, m, r⟩ | ⟨rfl, r⟩)
    · exact ⟨j1, d1, List.mem_append_left _ m, r⟩
    · exact ⟨j, d, List.mem_append_right _ List.mem_cons_self, r⟩
theorem sorted_one {key : List Int → Int} : ∀ {l m : List (List Int)}, l.Pairwise (fun a b => key a < key b) → m.Pairwise (fun a b => key a < key b) → (∀ k, k ∈ l ↔ k ∈ m) → l = m
  | [], [], _, _, _ => rfl
  | [], b :: m, _, _, h => absurd ((h b).mpr List.mem_cons_self) (by simp)
  | a :: l, [], _, _, h => absurd ((h a).mp List.mem_cons_self) (by simp)
  | a :: l, b :: m, hl, hm, h => by
    obtain ⟨l1, l2⟩ := List.pairwise_cons.mp hl
    obtain ⟨m1, m2⟩ := List.pairwise_cons.mp hm
    have e : a = b := by
      rcases List.mem_cons.mp ((h a).mp List.mem_cons_self) with z | z
      · exact z
      · rcases List.mem_cons.mp ((h b).mpr List.mem_cons_self) with y | y
        · exact y.symm
        · have := m1 a z
          have := l1 b y
          omega
    subst e
    have t : l = m := sorted_one l2 m2 fun k => by
      have ne : ∀ {x : List (List Int)}, (∀ y ∈ x, key a < key y) → k ∈ x → k ≠ a := fun h1 h2 h3 => by
        have := h1 k h2
        rw [h3] at this
        omega
      refine ⟨fun z => ?_, fun z => ?_⟩
      · rcases List.mem_cons.mp ((h k).mp (List.mem_cons_of_mem _ z)) with y | y
        · exact absurd y (ne l1 z)
        · exact y
      · rcases List.mem_cons.mp ((h k).mpr (List.mem_cons_of_mem _ z)) with y | y
        · exact absurd y (ne m1 z)
        · exact y
    rw [t]
theorem Told.strict {ls : List (List Int)} {rg : Bool} {n a b : Int} {ks : List (List Int)} (T : Told ls rg n a b ks) (hj : ∀ j d, [b, j, d] ∈ ls → 0 ≤ j ∧ j < 2) (hn : 1 ≤ n) : ks.Pairwise fun q r => TS.code (n + 2) q < TS.code (n + 2) r := by
  refine List.Pairwise.imp_of_mem (fun {q r} hq hr h => ?_) (T.up.and T.nd)
  obtain ⟨h1, h2⟩ := h
  obtain ⟨j1, d1, m1, x1, y1, rfl⟩ := (T.mem q).mp hq
  obtain ⟨j2, d2, m2, x2, y2, rfl⟩ := (T.mem r).mp hr
  have z1 := hj _ _ m1
  have z2 := hj _ _ m2
  rw [code2, code2] at h1 ⊢
  rcases Int.lt_or_eq_of_le h1 with z | z
  · exact z
  · exfalso
    apply h2
    have e : further rg n a d1 = further rg n a d2 := by
      rcases Int.lt_trichotomy (further rg n a d1) (further rg n a d2) with u | u | u
      · have : (further rg n a d1 + 1) * (n + 2) ≤ further rg n a d2 * (n + 2) := Int.mul_le_mul_of_nonneg_right (by omega) (by omega)
        rw [Int.add_mul] at this
        omega
      · exact u
      · have : (further rg n a d2 + 1) * (n + 2) ≤ further rg n a d1 * (n + 2) := Int.mul_le_mul_of_nonneg_right (by omega) (by omega)
        rw [Int.add_mul] at this
        omega
    rw [e] at z
    have e2 : j1 = j2 := by omega
    rw [e, e2]
theorem Told.one {ls : List (List Int)} {rg : Bool} {n a b : Int} {ks ks' : List (List Int)} (T : Told ls rg n a b ks) (T' : Told ls rg n a b ks') (hj : ∀ j d, [b, j, d] ∈ ls → 0 ≤ j ∧ j < 2) (hn : 1 ≤ n) : ks = ks' :=
  sorted_one (T.strict hj hn) (T'.strict hj hn) fun k => (T.mem k).trans (T'.mem k).symm
theorem Hear.perm {ls ls' : List (List Int)} {rg : Bool} {n a b : Int} {k : List Int} (p : ls.Perm ls') (h : Hear ls rg n a b k) : Hear ls' rg n a b k := by
  obtain ⟨j, d, m, r⟩ := h
  exact ⟨j, d, p.mem_iff.mp m, r⟩
theorem Told.perm {ls ls' : List (List Int)} {rg : Bool} {n a b : Int} {ks : List (List Int)} (p : ls.Perm ls') (T : Told ls rg n a b ks) : Told ls' rg n a b ks :=
  ⟨T.nd, T.up, fun k => (T.mem k).trans ⟨Hear.perm p, Hear.perm p.symm⟩, T.few⟩
section
variable {P : Program} {w : World} {K : PySem.W.Frag} {mg : Str → Option Value} {base : Heap} {f C CN CS : Addr} {fd : FuncData}
abbrev sWHears2 : Stmt := inClass (top 17) 1
def spHears (C : Addr) : Sp := fun xs H Q _ => ∃ (p l : Addr) (pl rc : Int) (qs : List (Addr × List Int)), xs = [.ref p] ∧ WebAt C H p pl rc l qs ∧ ∀ a, H a = none → Q (.ref a) (upd H a (.lst (qs.map fun q => V.ref q.1)))
theorem scHears : FnScope ["self"] ["self"] (defScope sWHears2) := ⟨rfl, rfl, rfl, by decide +kernel, rfl, by decide +kernel, by decide +kernel⟩
theorem ok_hears (F : FunD K "hears" "Web.hears" (defArgs sWHears2) (defBody sWHears2) (defScope sWHears2) [] [] f fd) (T : WTxt K mg C) (B : Bi2 mg) : FnOk P w K mg base CX0 1 f fd ["self"] (spHears C) := by
  refine F.ok scHears (fun xs H Q E h => ?_) (fun cdv A outer s H vs Q E hr h => ?_)
  · obtain ⟨p, l, pl, rc, qs, rfl, _⟩ := h
    rfl
  · obtain ⟨p, l, pl, rc, qs, rfl, ⟨⟨dx, ob⟩, li, tu⟩, q⟩ := h
    refine ⟨_, PSs.nox (pss_one (ps_ret (pe_ty call_list_of B.list (pa1 (pe_fld (pv 0) rfl))))), ?_⟩
    exact ⟨_, rfl, p, C, dx, _, _, rfl, ob, T.cl, T.nH, wf_he _ _ _, l, _, rfl, .inl (SqL.of li), q⟩
/-! ### audible -/
def spAud (K : PySem.W.Frag) (C CN CS : Addr) : Sp := fun xs H Q E => ∃ (p l : Addr) (pl rc : Int) (qs : List (Addr × List Int)) (nv sv rv : V) (on : Option Int), xs = [.ref p, nv, sv, rv] ∧ WebAt C H p pl rc l qs ∧ (∀ q ∈ qs, Lnk pl q.2) ∧ (pl = 1 ∨ pl = 2) ∧ qs.length ≤ 20 ∧ Num K H nv on ∧
  (okNum on = false → Ref E H CN nv) ∧ ∀ n : Int, on = some n → 1 ≤ n → ∃ bs, Spot K H n pl sv bs ∧ (bs = false → Ref E H CS sv) ∧ (bs = true → ∃ br, IsK K H rv "bool" br ∧ (br = false → Ref E H CN rv) ∧ (br = true → ∃ (rg : Bool) (t : Addr) (a b : Int), rv = .bl rg ∧ sv = .ref t ∧ H t = some (.tup [.int a, .int b]) ∧
    ∀ (ks : List (Addr × List Int)) (u : Addr) (H' : Hp), Told (qs.map (·.2)) rg n a b (ks.map (·.2)) → Same H H' → H u = none → H' u = some (.lst (ks.map fun q => V.ref q.1)) → TupsAt H' ks → Q (.ref u) H'))
theorem scAud : FnScope ["self", "n", "spot", "ring", "piece", "place", "found", "i", "j", "d", "further"] ["self", "n", "spot", "ring"] (defScope sWAud) := ⟨rfl, rfl, rfl, by decide +kernel, rfl, by decide +kernel, by decide +kernel⟩
theorem ok_aud {dvs : List V} {kws : List (Str × V)} (F : FunD K "audible" "Web.audible" (defArgs sWAud) (defBody sWAud) (defScope sWAud) dvs kws f fd) (T : WTxt K mg C) (B : Bi2 mg) (c1 : Can P w K mg base (L2.CX P w) 4 "check_count" ["n"] (spCkCount K CN))
    (c2 : Can P w K mg base (L2.CX P w) 4 "check_spot" ["spot", "n", "places"] (spCkSpot K CS)) (c3 : Can P w K mg base (L2.CX P w) 4 "check_ring" ["ring"] (spCkRing K CN)) : FnOk P w K mg base (L2.CX P w) 5 f fd ["self", "n", "spot", "ring"] (spAud K C CN CS) := by
  refine F.ok scAud (fun xs H Q E h => ?_) (fun cdv A outer s H vs Q E hr h => ?_)
  · obtain ⟨p, l, pl, rc, qs, nv, sv, rv, on, rfl, _⟩ := h
    rfl
  · obtain ⟨p, l, pl, rc, qs, nv, sv, rv, on, rfl, W, lk, pp, few, N, no1, yes1⟩ := h
    obtain ⟨⟨dx, ob⟩, li, tu⟩ := W
    have pass : Passes (L2.CX P w) (cxOf (L2.CX P w) P w K mg base ["self", "n", "spot", "ring", "piece", "place", "found", "i", "j", "d", "further"] "Web.audible" (defScope sWAud) f cdv A outer s H E) E := passes_call (takes_of rfl rfl rfl rfl) fun _ _ _ _ z => z
    refine ⟨_, pss_cons (ps_expr (pe_can c1 hr pass (pa1 (pv 1))))
      (pss_cons (ps_expr (pe_can c2 hr pass (pa_cons (pv 2) (pa_cons (pv 1) (pa1 (pe_fld (pv 0) rfl))))))
      (pss_cons (ps_expr (pe_can c3 hr pass (pa1 (pv 3))))
      (pss_cons (ps_asg (pv 2) (pg_tup (by rfl) (pgs_cons (pg_name (i := 4) scAud.nd rfl (.inl rfl)) (pgs_cons (pg_name (i := 5) scAud.nd rfl (.inl rfl)) pgs_nil))))
      (pss_cons (ps_set (i := 6) scAud.nd rfl (.inl rfl) (pe_callTy0 cr_setT0 (by rfl) B.set (by decide +kernel)))
      (pss_cons (ps_for (passes_of rfl) rfl (pi_list (pe_fld (pv 0) rfl)) (pg_tup (by rfl) (pgs_cons (pg_name (i := 7) scAud.nd rfl (.inl rfl)) (pgs_cons (pg_name (i := 8) scAud.nd rfl (.inl rfl)) (pgs_cons (pg_name (i := 9) scAud.nd rfl (.inl rfl)) pgs_nil))))
        (pss_cons (ps_set (i := 10) scAud.nd rfl (.inl rfl) (pe_ifExp (pt_val (pv 3)) (pe_op op_modN (pe_op op_add (pv 4) (pv 9)) (pv 1)) (pe_op op_add (pv 4) (pv 9))))
        (pss_one (ps_if (PW.pt (pw_and (pt_cmpR op_eq (pv 7) (pv 5) (nomark _)) (pw_and1 (pt_chain op_le op_lt pe_int (pv 10) (pv 1))))) (pss_one (ps_expr (pe_addT hr.units (pv 6) (pe_tup (pa_cons (pv 10) (pa1 (pv 8))))))) pss_nil))))
      (pss_one (ps_ret (pe_bi (cr_sortedT rfl) B.sorted (pa1 (pv 6)))))))))), ?_⟩
    refine ⟨_, rfl, nv, on, rfl, N, fun ok => ?_, no1⟩
    obtain ⟨n, rfl, n1⟩ : ∃ n, on = some n ∧ 1 ≤ n := by
      cases on with
      | none => cases ok
      | some n => exact ⟨n, rfl, of_decide_eq_true ok⟩
    cases N
    obtain ⟨bs, S, no2, yes2⟩ := yes1 n rfl n1
    refine ⟨_, rfl, _, rfl, _, rfl, p, C, dx, _, _, rfl, ob, T.cl, T.nP, wf_pl _ _ _, sv, n, pl, bs, rfl, S, fun bt => ?_, no2⟩
    obtain ⟨br, I, no3, yes3⟩ := yes2 bt
    refine ⟨_, rfl, rv, br, rfl, I, fun bt2 => ?_, no3⟩
    obtain ⟨rg, t, a, b, rfl, rfl, ht, q⟩ := yes3 bt2
    refine ⟨_, rfl, t, _, rfl, SqT.of ht, rfl, .int a, _, rfl, .int b, _, rfl, rfl, rfl, fun sA ns => ?_⟩
    have ob2 : ∀ H' : Hp, Same H H' → H' p = some (.ins C dx (wFlds pl rc l)) := fun H' sm => sm _ _ ob
    refine ⟨_, rfl, p, C, dx, _, _, rfl, ob2 _ (fun c o e => by rw [upd_ne (ne_of_none e ns)]; exact e), T.cl, T.nH, wf_he _ _ _, l, rfl, ⟨_, SqL.of (by rw [upd_ne (ne_of_none li ns)]; exact li)⟩, for_list (K := K) (a := l) (xs := qs.map fun p => V.ref p.1)
      (fun i σ H' => ∃ (L : List (Addr × List Int)) (v7 v8 v9 v10 : Option V), σ = [some (.ref p), some (.int n), some (.ref t), some (.bl rg), some (.int a), some (.int b), some (.ref sA), v7, v8, v9, v10] ∧ H' sA = some (SetTO P w sA L) ∧ Same H H' ∧ TupsAt H' L ∧ (∀ k, k ∈ L.map (·.2) ↔ Hear ((qs.take i).map (·.2)) rg n a b k) ∧ L.length ≤ i)
      ⟨[], none, none, none, none, rfl, upd_same, fun c o e => by rw [upd_ne (ne_of_none e ns)]; exact e, fun q hq => (by cases hq), fun k => ⟨fun z => (by cases z), fun ⟨_, _, m, _⟩ => (by cases m)⟩, Nat.le_refl _⟩ (fun i σ H' _ ⟨_, _, _, _, _, _, _, sm, _⟩ => SqL.of (sm _ _ li)) ?_ ?_⟩
    · rintro i y σ H' hi ⟨L, v7, v8, v9, v10, rfl, hs, sm, tps, mem, len⟩
      obtain ⟨r, hr, rfl⟩ : ∃ r, qs[i]? = some r ∧ y = .ref r.1 := by
        rw [List.getElem?_map] at hi
        cases e : qs[i]? with
        | none =>
          rw [e] at hi
          cases hi
        | some r =>
          rw [e] at hi
          exact ⟨r, rfl, (Option.some.inj hi).symm⟩
      have hil : i < qs.length := (List.getElem?_eq_some_iff.mp hr).1
      have rin := List.mem_of_getElem? hr
      obtain ⟨i1, j1, d1, el, b1, b2, b3, b4, b5, b6⟩ := lk r rin
      have tr := sm _ _ (tu r rin)
      rw [el] at tr
      have tk : (qs.take (i + 1)).map (·.2) = (qs.take i).map (·.2) ++ [[i1, j1, d1]] := by
        rw [List.take_add_one, hr, List.map_append, ← el]
        rfl
      have mem2 : ∀ k, Hear ((qs.take (i + 1)).map (·.2)) rg n a b k ↔ Hear ((qs.take i).map (·.2)) rg n a b k ∨ (i1 = b ∧ 0 ≤ further rg n a d1 ∧ further rg n a d1 < n ∧ k = [further rg n a d1, j1]) := fun k => by rw [tk] <;> exact Hear.snoc
      have sqs : ∀ q ∈ L, SqT K H' q.1 (q.2.map V.int) := fun q hq => SqT.of (tps q hq)
      refine ⟨r.1, _, rfl, SqT.of (xs := [V.int i1, V.int j1, V.int d1]) tr, rfl, .int i1, _, rfl, .int j1, _, rfl, .int d1, _, rfl, rfl, _, rfl, rg, rfl, ?_⟩
      cases rg
      case' false =>
        refine iteF ⟨_, rfl, _, rfl, _, _, rfl, rfl, ?_⟩
        replace mem2 : ∀ k, Hear ((qs.take (i + 1)).map (·.2)) false n a b k ↔ Hear ((qs.take i).map (·.2)) false n a b k ∨ (i1 = b ∧ 0 ≤ a + d1 ∧ a + d1 < n ∧ k = [a + d1, j1]) := mem2
        dsimp only
        generalize a + d1 = fv at mem2 ⊢
      case' true =>
        refine iteT ⟨_, rfl, _, rfl, _, _, rfl, rfl, _, rfl, _, _, rfl, rfl, by omega, ?_⟩
        replace mem2 : ∀ k, Hear ((qs.take (i + 1)).map (·.2)) true n a b k ↔ Hear ((qs.take i).map (·.2)) true n a b k ∨ (i1 = b ∧ 0 ≤ (a + d1).fmod n ∧ (a + d1).fmod n < n ∧ k = [(a + d1).fmod n, j1]) := mem2
        dsimp only
        generalize (a + d1).fmod n = fv at mem2 ⊢
      all_goals
        refine ⟨_, rfl, _, rfl, rfl, _, rfl, ?_⟩
        have stay : (∀ k, ¬ (i1 = b ∧ 0 ≤ fv ∧ fv < n ∧ k = [fv, j1])) → ∀ k, k ∈ L.map (·.2) ↔ Hear ((qs.take (i + 1)).map (·.2)) _ n a b k := fun no k => by
          rw [mem k, mem2 k]
          exact ⟨.inl, fun z => z.resolve_right (no k)⟩
        show if decide (V.int i1 = V.int b) = true then _ else _
        by_cases ib : i1 = b
        · rw [decide_eq_true (by rw [ib])]
          refine iteT ⟨_, rfl, _, _, rfl, rfl, _, rfl, ?_⟩
          by_cases f0 : 0 ≤ fv
          · rw [decide_eq_true f0]
            refine iteT ⟨_, rfl, _, _, rfl, rfl, _, rfl, ?_⟩
            show if decide (fv < n) = true then _ else _
            by_cases fn : fv < n
            · rw [decide_eq_true fn]
              refine iteT ⟨_, rfl, ⟨sA, L, rfl, hs, sqs⟩, _, rfl, _, rfl, (by show 2 ≤ sizeLine; decide), fun u nu => ?_⟩
              have su : ∀ c o, H' c = some o → (upd H' u (.tup [V.int fv, V.int j1])) c = some o := fun c o e => by
                rw [upd_ne (ne_of_none e nu)]
                exact e
              refine ⟨sA, u, [fv, j1], L, rfl, rfl, su _ _ hs, fun q hq => SqT.of (su _ _ (tps q hq)), SqT.of upd_same, by omega, fun L' i1' i2' => ?_⟩
              have sub : ∀ q ∈ L', q = (u, [fv, j1]) ∨ q ∈ L := fun q hq => by
                by_cases z : [fv, j1] ∈ L.map (·.2)
                · rw [i1' z] at hq
                  exact .inr hq
                · exact List.mem_cons.mp ((i2' z).mem_iff.mp hq)
              have memL : ∀ k, k ∈ L'.map (·.2) ↔ k ∈ L.map (·.2) ∨ k = [fv, j1] := fun k => by
                by_cases z : [fv, j1] ∈ L.map (·.2)
                · rw [i1' z]
                  exact ⟨.inl, fun y => y.elim id fun e => by rw [e] <;> exact z⟩
                · rw [((i2' z).map _).mem_iff, List.map_cons, List.mem_cons]
                  exact Or.comm
              refine ⟨L', _, _, _, _, rfl, upd_same, fun c o e => ?_, fun q hq => ?_, fun k => ?_, ?_⟩
              · rw [upd_ne (ne_of_none e ns)]
                exact su c o (sm c o e)
              · rcases sub q hq with e | e
                · rw [e]
                  show (upd (upd H' u _) sA _) u = _
                  rw [upd_ne (Ne.symm (ne_of_none hs nu)), upd_same]
                  rfl
                · have y := tps q e
                  rw [upd_ne (ne_of y hs (by intro z; cases z))]
                  exact su _ _ y
              · rw [memL k, mem k, mem2 k]
                exact ⟨fun z => z.imp id fun e => ⟨ib, f0, fn, e⟩, fun z => z.imp id fun e => e.2.2.2⟩
              · by_cases z : [fv, j1] ∈ L.map (·.2)
                · rw [i1' z]
                  omega
                · rw [(i2' z).length_eq, List.length_cons]
                  omega
            · rw [decide_eq_false fn]
              exact iteF ⟨L, _, _, _, _, rfl, hs, sm, tps, stay fun k z => fn z.2.2.1, by omega⟩
          · rw [decide_eq_false f0]
            exact iteF ⟨_, rfl, iteF ⟨L, _, _, _, _, rfl, hs, sm, tps, stay fun k z => f0 z.2.1, by omega⟩⟩
        · rw [decide_eq_false (fun z => ib (by injection z))]
          exact iteF ⟨L, _, _, _, _, rfl, hs, sm, tps, stay fun k z => ib z.1, by omega⟩
    · rintro σ H' ⟨L, v7, v8, v9, v10, rfl, hs, sm, tps, mem, len⟩
      rw [List.length_map, List.take_length] at mem
      refine ⟨_, rfl, sA, L, 2, n + 2, rfl, hs, fun q hq => SqT.of (tps q hq), by decide, fun k hk => ?_, fun L' u pm nd few2 pw nu => ?_⟩
      · obtain ⟨j1, d1, m, x, y, e⟩ := (mem k.2).mp (List.mem_map.mpr ⟨k, hk, rfl⟩)
        obtain ⟨r, hr, e2⟩ := List.mem_map.mp m
        obtain ⟨i2, j2, d2, el, b1, b2, b3, b4, b5, b6⟩ := lk r hr
        have e2 : r.2 = [b, j1, d1] := e2
        rw [el] at e2
        injection e2 with e3 e2
        injection e2 with e4 e2
        subst e4
        rw [e]
        refine ⟨rfl, fun z hz => ?_⟩
        rcases List.mem_cons.mp hz with h | h
        · rw [h]
          omega
        · rw [List.mem_singleton.mp h]
          omega
      · have keep : ∀ c o, H' c = some o → (upd H' u (.lst (L'.map fun q => V.ref q.1))) c = some o := fun c o e => by
          rw [upd_ne (ne_of_none e nu)]
          exact e
        refine q L' u _ ⟨nd, List.pairwise_map.mpr pw, fun k => ?_, by rw [List.length_map] <;> exact few2⟩ (fun c o e => keep c o (sm c o e)) ?_ upd_same fun q hq => keep _ _ (tps q (pm.mem_iff.mp hq))
        · rw [← mem k]
          exact (pm.map _).mem_iff
        · cases e : H u with
          | none => rfl
          | some o =>
            rw [sm u o e] at nu
            cases nu
end
end Kx
/-! The law's own counting of what is heard. -/
namespace Kx
open PySem PySem.Spec PyProof.Rows L2 Xa Xb Xc Xd Xs Xp Xm
abbrev sHeard : Stmt := top 26
section
variable {P : Program} {w : World} {K : PySem.W.Frag} {mg : Str → Option Value} {base : Heap} {f : Addr} {fd : FuncData}
def spHeard : Sp := fun xs H Q _ => ∃ (tp la sp : Addr) (pl n a b : Int) (rg : Bool) (qs : List (Addr × List Int)), xs = [.ref tp, .int n, .ref sp, .bl rg] ∧ H tp = some (.tup [.int pl, .ref la]) ∧ H la = some (.lst (qs.map fun q => V.ref q.1)) ∧ TupsAt H qs ∧ (∀ q ∈ qs, Lnk pl q.2) ∧ (pl = 1 ∨ pl = 2) ∧ qs.length ≤ 20 ∧
  1 ≤ n ∧ H sp = some (.tup [.int a, .int b]) ∧
  ∀ (ks : List (Addr × List Int)) (u : Addr) (H' : Hp), Told (qs.map (·.2)) rg n a b (ks.map (·.2)) → Same H H' → H u = none → H' u = some (.lst (ks.map fun q => V.ref q.1)) → TupsAt H' ks → Q (.ref u) H'
theorem scHeard : FnScope ["parts", "many", "spot", "rounded", "found", "one", "other", "distance", "piece"] ["parts", "many", "spot", "rounded"] (defScope sHeard) := ⟨rfl, rfl, rfl, by decide +kernel, rfl, by decide +kernel, by decide +kernel⟩
theorem can_heard (D : Dfn K mg "_law_heard" sHeard) (B : Bi2 mg) : CanG P w K mg base 1 "_law_heard" ["parts", "many", "spot", "rounded"] spHeard := by
  obtain ⟨f, fd, F, g⟩ := D.at_
  refine FnG.can (okG F scHeard (fun xs H Q E h => ?_) (fun cdv A outer s H vs Q E hr hn h => ?_)) F g fun _ _ _ _ _ _ us hl => match us, hl with | [_, _, _, _], _ => rfl
  · obtain ⟨tp, la, sp, pl, n, a, b, rg, qs, rfl, _⟩ := h
    rfl
  · obtain ⟨tp, la, sp, pl, n, a, b, rg, qs, rfl, htp, hla, tu, lk, pp, few, n1, hsp, q⟩ := h
    refine ⟨_, pss_cons (ps_set (i := 4) scHeard.nd rfl (.inl rfl) (pe_lst pa_nil))
      (pss_cons (ps_for PassesOwn.never rfl (pi_list (pe_ix ix_tup (pv 0) pe_int (fun _ _ => rfl))) (pg_tup (by rfl) (pgs_cons (pg_name (i := 5) scHeard.nd rfl (.inl rfl)) (pgs_cons (pg_name (i := 6) scHeard.nd rfl (.inl rfl)) (pgs_cons (pg_name (i := 7) scHeard.nd rfl (.inl rfl)) pgs_nil))))
        (pss_cons (ps_set (i := 8) scHeard.nd rfl (.inl rfl) (pe_ifExp (pt_val (pv 3)) (pe_op op_modN (pe_callTy call_int1 (by rfl) B.int (by decide +kernel) (pa1 (pe_op op_add (pe_ix ix_tup (pv 2) pe_int (fun _ _ => rfl)) (pv 7)))) (pv 1)) (pe_op op_add (pe_ix ix_tup (pv 2) pe_int (fun _ _ => rfl)) (pv 7))))
        (pss_one (ps_if (PW.pt (pw_and (pt_cmpR op_eq (pv 5) (pe_ix ix_tup (pv 2) pe_int (fun _ _ => rfl)) (nomark _)) (pw_and1 (pt_chain op_le op_lt pe_int (pv 8) (pv 1)))))
          (pss_one (ps_expr (pe_bm PySem.F.plainAttrs_list PySem.F.slot_list_append PySem.F.type_list_append mt_append (pv 4) (pa1 (pe_tup (pa_cons (pe_callTy call_int1 (by rfl) B.int (by decide +kernel) (pa1 (pv 8))) (pa1 (pv 6)))))))) pss_nil))))
      (pss_one (ps_ret (pe_bi (cr_sortedT rfl) B.sorted (pa1 (pe_ty (cr_setOfT rfl hr.units) B.set (pa1 (pv 4)))))))), ?_⟩
    refine ⟨(by show 0 ≤ sizeLine; decide), fun sA ns => ?_⟩
    have at0 : atI [V.int a, V.int b] 0 = some (V.int a) := atI_nat (j := 0) rfl
    have at1 : atI [V.int a, V.int b] 1 = some (V.int b) := atI_nat (j := 1) rfl
    refine ⟨_, rfl, tp, _, 1, .ref la, rfl, rfl, SqT.of (xs := [.int pl, .ref la]) (by rw [upd_ne (ne_of_none htp ns)]; exact htp), atI_nat (j := 1) rfl, la, rfl, ⟨_, SqL.of (by rw [upd_ne (ne_of_none hla ns)]; exact hla)⟩, for_list (K := K) (a := la) (xs := qs.map fun p => V.ref p.1)
      (fun i σ H' => ∃ (L : List (Addr × List Int)) (v7 v8 v9 v10 : Option V), σ = [some (.ref tp), some (.int n), some (.ref sp), some (.bl rg), some (.ref sA), v7, v8, v9, v10] ∧ H' sA = some (.lst (L.map fun q => V.ref q.1)) ∧ Same H H' ∧ TupsAt H' L ∧ (∀ k, k ∈ L.map (·.2) ↔ Hear ((qs.take i).map (·.2)) rg n a b k) ∧ L.length ≤ i)
      ⟨[], none, none, none, none, rfl, upd_same, fun c o e => by rw [upd_ne (ne_of_none e ns)]; exact e, fun q hq => (by cases hq), fun k => ⟨fun z => (by cases z), fun ⟨_, _, m, _⟩ => (by cases m)⟩, Nat.le_refl _⟩ (fun i σ H' _ ⟨_, _, _, _, _, _, _, sm, _⟩ => SqL.of (sm _ _ hla)) ?_ ?_⟩
    · rintro i y σ H' hi ⟨L, v7, v8, v9, v10, rfl, hs, sm, tps, mem, len⟩
      obtain ⟨r, hr, rfl⟩ : ∃ r, qs[i]? = some r ∧ y = .ref r.1 := by
        rw [List.getElem?_map] at hi
        cases e : qs[i]? with
        | none =>
          rw [e] at hi
          cases hi
        | some r =>
          rw [e] at hi
          exact ⟨r, rfl, (Option.some.inj hi).symm⟩
      have hil : i < qs.length := (List.getElem?_eq_some_iff.mp hr).1
      have rin := List.mem_of_getElem? hr
      obtain ⟨i1, j1, d1, el, b1, b2, b3, b4, b5, b6⟩ := lk r rin
      have tr := sm _ _ (tu r rin)
      rw [el] at tr
      have tk : (qs.take (i + 1)).map (·.2) = (qs.take i).map (·.2) ++ [[i1, j1, d1]] := by
        rw [List.take_add_one, hr, List.map_append, ← el]
        rfl
      have mem2 : ∀ k, Hear ((qs.take (i + 1)).map (·.2)) rg n a b k ↔ Hear ((qs.take i).map (·.2)) rg n a b k ∨ (i1 = b ∧ 0 ≤ further rg n a d1 ∧ further rg n a d1 < n ∧ k = [further rg n a d1, j1]) := fun k => by rw [tk] <;> exact Hear.snoc
      have sp1 : SqT K H' sp [V.int a, V.int b] := SqT.of (sm _ _ hsp)
      refine ⟨r.1, _, rfl, SqT.of (xs := [V.int i1, V.int j1, V.int d1]) tr, rfl, .int i1, _, rfl, .int j1, _, rfl, .int d1, _, rfl, rfl, _, rfl, rg, rfl, ?_⟩
      cases rg
      case' false =>
        refine iteF ⟨_, rfl, sp, _, 0, .int a, rfl, rfl, sp1, at0, _, rfl, _, _, rfl, rfl, ?_⟩
        replace mem2 : ∀ k, Hear ((qs.take (i + 1)).map (·.2)) false n a b k ↔ Hear ((qs.take i).map (·.2)) false n a b k ∨ (i1 = b ∧ 0 ≤ a + d1 ∧ a + d1 < n ∧ k = [a + d1, j1]) := mem2
        dsimp only
        generalize a + d1 = fv at mem2 ⊢
      case' true =>
        refine iteT ⟨_, rfl, sp, _, 0, .int a, rfl, rfl, sp1, at0, _, rfl, _, _, rfl, rfl, .inl ⟨_, rfl, _, rfl, _, _, rfl, rfl, by omega, ?_⟩⟩
        replace mem2 : ∀ k, Hear ((qs.take (i + 1)).map (·.2)) true n a b k ↔ Hear ((qs.take i).map (·.2)) true n a b k ∨ (i1 = b ∧ 0 ≤ (a + d1).fmod n ∧ (a + d1).fmod n < n ∧ k = [(a + d1).fmod n, j1]) := mem2
        dsimp only
        generalize (a + d1).fmod n = fv at mem2 ⊢
      all_goals
        refine ⟨_, rfl, _, rfl, sp, _, 1, .int b, rfl, rfl, sp1, at1, rfl, _, rfl, ?_⟩
        have stay : (∀ k, ¬ (i1 = b ∧ 0 ≤ fv ∧ fv < n ∧ k = [fv, j1])) → ∀ k, k ∈ L.map (·.2) ↔ Hear ((qs.take (i + 1)).map (·.2)) _ n a b k := fun no k => by
          rw [mem k, mem2 k]
          exact ⟨.inl, fun z => z.resolve_right (no k)⟩
        show if decide (V.int i1 = V.int b) = true then _ else _
        by_cases ib : i1 = b
        · rw [decide_eq_true (by rw [ib])]
          refine iteT ⟨_, rfl, _, _, rfl, rfl, _, rfl, ?_⟩
          by_cases f0 : 0 ≤ fv
          · rw [decide_eq_true f0]
            refine iteT ⟨_, rfl, _, _, rfl, rfl, _, rfl, ?_⟩
            show if decide (fv < n) = true then _ else _
            by_cases fn : fv < n
            · rw [decide_eq_true fn]
              refine iteT ⟨_, rfl, .inl ⟨rfl, _, SqL.of hs⟩, _, rfl, .inl ⟨_, rfl, _, rfl, (by show 2 ≤ sizeLine; decide), fun u nu => ?_⟩⟩
              have su : ∀ c o, H' c = some o → (upd H' u (.tup [V.int fv, V.int j1])) c = some o := fun c o e => by
                rw [upd_ne (ne_of_none e nu)]
                exact e
              refine ⟨sA, _, _, rfl, rfl, su _ _ hs, ?_, ?_⟩
              · rw [List.length_map]
                exact small1000 (by omega)
              refine ⟨L ++ [(u, [fv, j1])], _, _, _, _, rfl, ?_, fun c o e => ?_, fun q hq => ?_, fun k => ?_, ?_⟩
              · rw [upd_same, List.map_append]
                rfl
              · rw [upd_ne (ne_of_none e ns)]
                exact su c o (sm c o e)
              · rcases List.mem_append.mp hq with e | e
                · have y := tps q e
                  rw [upd_ne (ne_of y hs (by intro z; cases z))]
                  exact su _ _ y
                · rw [List.mem_singleton.mp e]
                  show (upd (upd H' u _) sA _) u = _
                  rw [upd_ne (Ne.symm (ne_of_none hs nu)), upd_same]
                  rfl
              · rw [List.map_append, List.mem_append, mem k, mem2 k]
                exact ⟨fun z => z.imp id fun e => ⟨ib, f0, fn, List.mem_singleton.mp e⟩, fun z => z.imp id fun e => List.mem_singleton.mpr e.2.2.2⟩
              · rw [List.length_append]
                show L.length + 1 ≤ _
                omega
            · rw [decide_eq_false fn]
              exact iteF ⟨L, _, _, _, _, rfl, hs, sm, tps, stay fun k z => fn z.2.2.1, by omega⟩
          · rw [decide_eq_false f0]
            exact iteF ⟨_, rfl, iteF ⟨L, _, _, _, _, rfl, hs, sm, tps, stay fun k z => f0 z.2.1, by omega⟩⟩
        · rw [decide_eq_false (fun z => ib (by injection z))]
          exact iteF ⟨L, _, _, _, _, rfl, hs, sm, tps, stay fun k z => ib z.1, by omega⟩
    · rintro σ H' ⟨L, v7, v8, v9, v10, rfl, hs, sm, tps, mem, len⟩
      rw [List.length_map, List.take_length] at mem
      rw [List.length_map] at len
      refine ⟨_, rfl, sA, L, rfl, SqL.of hs, fun q hq => SqT.of (tps q hq), by omega, fun c L2 nc i1 i2 => ?_⟩
      have kc : ∀ d o, H' d = some o → (upd H' c (SetTO P w c L2)) d = some o := fun d o e => by
        rw [upd_ne (ne_of_none e nc)]
        exact e
      have mm : ∀ k, k ∈ L2.map (·.2) ↔ k ∈ L.map (·.2) := fun k => by
        constructor
        · intro h
          obtain ⟨q, hq, e⟩ := List.mem_map.mp h
          exact List.mem_map.mpr ⟨q, i1 q hq, e⟩
        · intro h
          obtain ⟨q, hq, e⟩ := List.mem_map.mp h
          rw [← e]
          exact i2 q hq
      refine ⟨c, L2, 2, n + 2, rfl, upd_same, fun q hq => SqT.of (kc _ _ (tps q (i1 q hq))), by decide, fun k hk => ?_, fun L' u pm nd few2 pw nu => ?_⟩
      · obtain ⟨j1, d1, m, x, y, e⟩ := (mem k.2).mp (List.mem_map.mpr ⟨k, i1 k hk, rfl⟩)
        obtain ⟨r, hr, e2⟩ := List.mem_map.mp m
        obtain ⟨i2, j2, d2, el, b1, b2, b3, b4, b5, b6⟩ := lk r hr
        have e2 : r.2 = [b, j1, d1] := e2
        rw [el] at e2
        injection e2 with e3 e2
        injection e2 with e4 e2
        subst e4
        rw [e]
        refine ⟨rfl, fun z hz => ?_⟩
        rcases List.mem_cons.mp hz with h | h
        · rw [h]
          omega
        · rw [List.mem_singleton.mp h]
          omega
      · have keep : ∀ d o, H' d = some o → (upd (upd H' c (SetTO P w c L2)) u (.lst (L'.map fun q => V.ref q.1))) d = some o := fun d o e => by
          rw [upd_ne (ne_of_none (kc d o e) nu)]
          exact kc d o e
        refine q L' u _ ⟨nd, List.pairwise_map.mpr pw, fun k => ?_, by rw [List.length_map] <;> exact few2⟩ (fun c o e => keep c o (sm c o e)) ?_ upd_same fun q hq => keep _ _ (tps q (i1 q (pm.mem_iff.mp hq)))
        · rw [← mem k, ← mm k]
          exact (pm.map _).mem_iff
        · cases e : H u with
          | none => rfl
          | some o =>
            have nu2 : (upd H' c (SetTO P w c L2)) u = none := nu
            rw [kc u o (sm u o e)] at nu2
            cases nu2
end
end Kx
/-! The law's catching. -/
namespace Kx
open PySem PySem.Spec PyProof.Rows L2 Xa Xb Xc Xd Xs Xp Xm Xr
abbrev sCaught : Stmt := top 27
/-- what of the error classes the text says -/
structure ErrF (K : PySem.W.Frag) (mg : Str → Option Value) (CW CN CS : Addr) : Prop where
  w : mg "WatchError" = some (.ref CW)
  n : mg "InvalidNumber" = some (.ref CN)
  s : mg "InvalidSpot" = some (.ref CS)
  kNN : PySem.W.kitOne K (.ref CN) (.ref CN) = some true
  kNS : PySem.W.kitOne K (.ref CN) (.ref CS) = some false
  kSN : PySem.W.kitOne K (.ref CS) (.ref CN) = some false
  kSS : PySem.W.kitOne K (.ref CS) (.ref CS) = some true
  xN : PySem.W.exmOne K (.ref CN) (.ref CW) = some true
  xS : PySem.W.exmOne K (.ref CS) (.ref CW) = some true
  cN : XCls K CN "value"
  cS : XCls K CS "value"
/-- an error with the value v is told -/
def Ans (K : PySem.W.Frag) (H : Hp) (v : V) (b1 b2 : Bool) (Q : VK) : Prop := ∃ t H2, Res K H v t H2 ∧ ∀ r H', Same H2 H' → H r = none → H' r = some (.lst [.bl b1, .bl b2, .str t]) → Q (.ref r) H'
/-- the method audible of the class at C -/
structure AudF (P : Program) (w : World) (K : PySem.W.Frag) (mg : Str → Option Value) (base : Heap) (C CN CS : Addr) : Prop where
  txt : WTxt K mg C
  ex : ∃ (f : Addr) (fd : FuncData) (ds : List Value), Meth K C "audible" f ∧ FnOk P w K mg base (L2.CX P w) 5 f fd ["self", "n", "spot", "ring"] (spAud K C CN CS) ∧
    KBn K fd ["self", "n", "spot", "ring"] 3 ["ring"] (fun us ws => us ++ ws) (fun vs zs => vs ++ zs) ∧ Binds K fd ["self", "n", "spot", "ring"] ds ∧ Vals [V.bl false] ds
section
variable {P : Program} {w : World} {K : PySem.W.Frag} {mg : Str → Option Value} {base : Heap} {f C CW CN CS : Addr} {fd : FuncData}
def spCaught (K : PySem.W.Frag) (C : Addr) : Sp := fun xs H Q _ => ∃ (p l : Addr) (pl rc : Int) (qs : List (Addr × List Int)) (nv sv rv : V) (on : Option Int), xs = [.ref p, nv, sv, rv] ∧ WebAt C H p pl rc l qs ∧ (∀ q ∈ qs, Lnk pl q.2) ∧ (pl = 1 ∨ pl = 2) ∧ qs.length ≤ 20 ∧ Num K H nv on ∧
  (okNum on = false → Ans K H nv true false Q) ∧ ∀ n : Int, on = some n → 1 ≤ n → ∃ bs, Spot K H n pl sv bs ∧ (bs = false → Ans K H sv false true Q) ∧ (bs = true → ∃ br, IsK K H rv "bool" br ∧ (br = false → Ans K H rv true false Q) ∧ (br = true → ∃ (rg : Bool) (t : Addr) (a b : Int), rv = .bl rg ∧ sv = .ref t ∧ H t = some (.tup [.int a, .int b]) ∧
    ∀ H', Same H H' → Q .non H'))
theorem scCaught : FnScope ["web", "many", "spot", "around", "caught", "error"] ["web", "many", "spot", "around"] (defScope sCaught) := ⟨rfl, rfl, rfl, by decide +kernel, rfl, by decide +kernel, by decide +kernel⟩
theorem can_caught (D : Dfn K mg "_law_caught" sCaught) (B : Bi2 mg) (A5 : AudF P w K mg base C CN CS) (EF : ErrF K mg CW CN CS) : CanG P w K mg base 6 "_law_caught" ["web", "many", "spot", "around"] (spCaught K C) := by
  obtain ⟨f, fd, F, g⟩ := D.at_
  obtain ⟨T, fA, fdA, ds, mA, oA, kA, bA, dA⟩ := A5
  refine FnG.can (okG F scCaught (fun xs H Q E h => ?_) (fun cdv A outer s H vs Q E hr hn h => ?_)) F g fun _ _ _ _ _ _ us hl => match us, hl with | [_, _, _, _], _ => rfl
  · obtain ⟨p, l, pl, rc, qs, nv, sv, rv, on, rfl, _⟩ := h
    rfl
  · obtain ⟨p, l, pl, rc, qs, nv, sv, rv, on, rfl, W, lk, pp, few, N, no1, yes1⟩ := h
    -- behind the try
    have tail : ∃ t : TS, PSs (cxOf CX0 P w K mg base ["web", "many", "spot", "around", "caught", "error"] "_law_caught" (defScope sCaught) f cdv A outer s H E).nox ((defBody sCaught).drop 2) t ∧
        (∀ H' (e : Option V), Q .non H' → t { nx := fun _ H' => Q .non H', rt := Q } [some (.ref p), some nv, some sv, some rv, some .non, e] H') ∧
        (∀ (Ce dx a : Addr) (v : V) (b1 b2 : Bool) (e : Option V), XCls K Ce "value" → PySem.W.kitOne K (.ref Ce) (.ref CN) = some b1 → PySem.W.kitOne K (.ref Ce) (.ref CS) = some b2 → Ans K H v b1 b2 Q → H dx = none → (upd H dx (.xd [("value", v)])) a = none →
          t { nx := fun _ H' => Q .non H', rt := Q } [some (.ref p), some nv, some sv, some rv, some (.ref a), e] (upd (upd H dx (.xd [("value", v)])) a (xob a Ce dx))) := by
      refine ⟨_, PSs.nox (pss_cons (ps_if (pt_cmpR op_isN (pv 4) pe_non (nomark _)) (pss_one (ps_ret pe_non)) pss_nil)
        (pss_cons (ps_if (pt_val (pe_bi call_kd B.isi (pa_cons (pe_xv (pv 4)) (pa1 (pe_tyv "list" B.list))))) (pss_one (ps_expr (pe_bm PySem.F.plainAttrs_list PySem.F.slot_list_append PySem.F.type_list_append mt_append (pe_xv (pv 4)) (pa1 pe_str)))) pss_nil)
        (pss_one (ps_ret (pe_lst (pa_cons (pe_bi call_isx B.isi (pa_cons (pv 4) (pa1 (pe_glob (v := .ref CN) (by rfl) EF.n rfl))))
          (pa_cons (pe_bi call_isx B.isi (pa_cons (pv 4) (pa1 (pe_glob (v := .ref CS) (by rfl) EF.s rfl))))
          (pa1 (pe_bi (call_repr hn hr.units) B.repr (pa1 (pe_xv (pv 4)))))))))))), fun H' e q => ?_, fun Ce dx a v b1 b2 e X k1 k2 an nd na => ?_⟩
      · exact ⟨_, rfl, rfl, _, rfl, iteT q⟩
      · have dxa : dx ≠ a := fun z => by
          rw [← z, upd_same] at na
          cases na
        have sm : Same H (upd (upd H dx (.xd [("value", v)])) a (xob a Ce dx)) := fun c o e => by
          have y : (upd H dx (.xd [("value", v)])) c = some o := by
            rw [upd_ne (ne_of_none e nd)]
            exact e
          rw [upd_ne (ne_of_none y na)]
          exact y
        have h3a : (upd (upd H dx (.xd [("value", v)])) a (xob a Ce dx)) a = some (xob a Ce dx) := upd_same
        have h3d : (upd (upd H dx (.xd [("value", v)])) a (xob a Ce dx)) dx = some (.xd [("value", v)]) := by
          rw [upd_ne dxa]
          exact upd_same
        generalize hG : upd (upd H dx (.xd [("value", v)])) a (xob a Ce dx) = G at sm h3a h3d ⊢
        refine ⟨_, rfl, rfl, _, rfl, iteF ?_⟩
        obtain ⟨t, H2, res, fin⟩ := an
        cases res with
        | other k r =>
          refine ⟨_, rfl, a, Ce, dx, _, v, rfl, h3a, h3d, X, rfl, v, "list", false, rfl, isk_same sm k, false, rfl, iteF ?_⟩
          obtain ⟨d, ls, hq, q1, q2, q3, q4, q5, rfl⟩ := rep_same sm r
          refine ⟨_, rfl, a, Ce, dx, _, _, _, b1, rfl, h3a, h3d, X.isx, .own CN, k1, _, rfl, a, Ce, dx, _, _, _, b2, rfl, h3a, h3d, X.isx, .own CS, k2, _, rfl, a, Ce, dx, _, v, rfl, h3a, h3d, X, rfl, v, d, ls, rfl, hq, q1, q2, q3, q4, ?_⟩
          refine ⟨(by show 3 ≤ sizeLine; decide), fun u nu => ?_⟩
          exact fin u _ (fun c o e => by rw [upd_ne (ne_of_none (sm c o e) nu)]; exact sm c o e) (sm.free nu) upd_same
        | @list a0 xs t e z r =>
          have g0 := sm _ _ e
          have aa : a ≠ a0 := ne_of h3a g0 (by intro z; cases z)
          have da : dx ≠ a0 := ne_of h3d g0 (by intro z; cases z)
          refine ⟨_, rfl, a, Ce, dx, _, .ref a0, rfl, h3a, h3d, X, rfl, _, "list", true, rfl, isk_lst g0 _ (by decide +kernel), true, rfl, iteT ?_⟩
          refine ⟨_, rfl, a, Ce, dx, _, .ref a0, rfl, h3a, h3d, X, rfl, .inl ⟨rfl, _, SqL.of g0⟩, a0, xs, _, rfl, rfl, g0, small1000 (by omega), ?_⟩
          have sm2 : Same (upd H a0 (.lst (xs ++ [.str "more"]))) (upd G a0 (.lst (xs ++ [.str "more"]))) := fun c o q => by
            by_cases ca : c = a0
            · rw [ca, upd_same] at q ⊢
              exact q
            · rw [upd_ne ca] at q ⊢
              exact sm c o q
          have h4a : (upd G a0 (.lst (xs ++ [.str "more"]))) a = some (xob a Ce dx) := by
            rw [upd_ne aa]
            exact h3a
          have h4d : (upd G a0 (.lst (xs ++ [.str "more"]))) dx = some (.xd [("value", V.ref a0)]) := by
            rw [upd_ne da]
            exact h3d
          obtain ⟨d, ls, hq, q1, q2, q3, q4, q5, rfl⟩ := rep_same sm2 r
          refine ⟨_, rfl, a, Ce, dx, _, _, _, b1, rfl, h4a, h4d, X.isx, .own CN, k1, _, rfl, a, Ce, dx, _, _, _, b2, rfl, h4a, h4d, X.isx, .own CS, k2, _, rfl, a, Ce, dx, _, .ref a0, rfl, h4a, h4d, X, rfl, .ref a0, d, ls, rfl, hq, q1, q2, q3, q4, ?_⟩
          refine ⟨(by show 3 ≤ sizeLine; decide), fun u nu => ?_⟩
          refine fin u _ (fun c o q => by rw [upd_ne (ne_of_none (sm2 c o q) nu)]; exact sm2 c o q) ?_ upd_same
          have n2 := sm2.free nu
          by_cases ua : u = a0
          · rw [ua, upd_same] at n2
            cases n2
          · rw [upd_ne ua] at n2
            exact n2
    obtain ⟨t, ht, tN, tE⟩ := tail
    refine ⟨_, pss_cons (ps_set (i := 4) scCaught.nd rfl (.inl rfl) pe_non) (pss_cons (ps_keep (i := 5) (j := 4) (cv := .ref CW) rfl rfl rfl scCaught.nd rfl rfl (by show 5 < 6; decide) ⟨by rfl, by decide, .inl EF.w⟩
      (fun W pn xe tk po => pss_one (ps_expr (pe_methN (C := C) (fd := fdA) (E := WE W) (pv 0) T.cl mA oA (hr.mono (by decide)) kA (passAt tk) (pa_cons (pv 1) (pa1 (pv 2))) (pk_cons (pv 3) pk_nil))))
      (fun a pn => pss_one (ps_asg (pv 5) (pg_name (i := 4) scCaught.nd rfl (.inl rfl))))) ht), ?_⟩
    have Wk := W
    obtain ⟨⟨dx, ob⟩, li, tu⟩ := W
    refine ⟨_, rfl, p, dx, _, rfl, ob, wf_no _ _ _ (by decide +kernel) (by decide +kernel) (by decide +kernel), _, rfl, _, rfl, _, rfl, rfl, rfl, p, l, pl, rc, qs, nv, sv, rv, on, rfl, Wk, lk, pp, few, N, fun z d nd => ?_, fun n e n1 => ?_⟩
    · exact ⟨CN, d, rfl, rfl, EF.xN, fun a na => tE CN d a nv true false _ EF.cN EF.kNN EF.kNS (no1 z) nd na⟩
    · obtain ⟨bs, S, no2, yes2⟩ := yes1 n e n1
      refine ⟨bs, S, fun z d nd => ?_, fun z => ?_⟩
      · exact ⟨CS, d, rfl, rfl, EF.xS, fun a na => tE CS d a sv false true _ EF.cS EF.kSN EF.kSS (no2 z) nd na⟩
      · obtain ⟨br, I, no3, yes3⟩ := yes2 z
        refine ⟨br, I, fun z d nd => ?_, fun z => ?_⟩
        · exact ⟨CN, d, rfl, rfl, EF.xN, fun a na => tE CN d a rv true false _ EF.cN EF.kNN EF.kNS (no3 z) nd na⟩
        · obtain ⟨rg, t2, a, b, e1, e2, e3, q⟩ := yes3 z
          exact ⟨rg, t2, a, b, e1, e2, e3, fun ks u H' _ sm _ _ _ => tN H' _ (q H' sm)⟩
end
end Kx
/-! The law's refusals. -/
namespace Kx
open PySem PySem.Spec PyProof.Rows L2 Xa Xb Xc Xd Xs Xp Xm Xr Xl Xk
abbrev sRefused : Stmt := top 28
/-! ### data as arguments -/
def spotD (n pl : Int) : PyData → Bool
  | .tuple [x, y] => inR (numD x) 0 (n - 1) && inR (numD y) 0 (pl - 1)
  | _ => false
theorem lt_spot {K : PySem.W.Frag} {H : Hp} {v : V} {d : PyData} {ls : List Addr} (n pl : Int) (h : Lt H v d ls) : Spot K H n pl v (spotD n pl d) := by
  cases h with
  | non => exact .kind (isk_non _ (by decide +kernel))
  | bl b => exact .kind (isk_bl b _ (by decide +kernel))
  | int i => exact .kind (isk_int i _ (by decide +kernel))
  | str z => exact .kind (isk_str z _ (by decide +kernel))
  | lst h t => exact .kind (isk_lst h _ (by decide +kernel))
  | dic h => exact .kind (isk_dic h _ (by decide +kernel))
  | tup h t =>
    cases t with
    | nil => exact .size h (by simp)
    | cons x t =>
      cases t with
      | nil => exact .size h (by simp)
      | cons y t =>
        cases t with
        | nil => exact .two h (lt_num x) (lt_num y)
        | cons z t => exact .size h (by simp)
theorem WebAt.same {C : Addr} {H H' : Hp} {p l : Addr} {pl rc : Int} {qs : List (Addr × List Int)} (e : Same H H') (W : WebAt C H p pl rc l qs) : WebAt C H' p pl rc l qs := by
  obtain ⟨⟨dx, ob⟩, li, tu⟩ := W
  exact ⟨⟨dx, e _ _ ob⟩, e _ _ li, fun q hq => e _ _ (tu q hq)⟩
section
variable {P : Program} {w : World} {K : PySem.W.Frag} {mg : Str → Option Value} {base : Heap} {f C CW CN CS : Addr} {fd : FuncData}
def spRefused (C : Addr) : Sp := fun xs H Q _ => ∃ (p l : Addr) (pl rc : Int) (qs : List (Addr × List Int)), xs = [.ref p, .int pl] ∧ WebAt C H p pl rc l qs ∧ (∀ q ∈ qs, Lnk pl q.2) ∧ (pl = 1 ∨ pl = 2) ∧ qs.length ≤ 20 ∧ ∀ H', Same H H' → Q (.bl true) H'
theorem scRefused : FnScope ["web", "places", "bad", "spots", "around"] ["web", "places"] (defScope sRefused) := ⟨rfl, rfl, rfl, by decide +kernel, rfl, by decide +kernel, by decide +kernel⟩
def ds1 : List PyData := [.none, .int 0, .int (-1), .bool true, .str "1", .list [.int 1], .dict [], .tuple [.int 1]]
def ds2a (pl : Int) : List PyData := [.none, .int 3, .tuple [], .tuple [.int 0], .tuple [.int 0, .int 0, .int 0], .list [.int 0, .int 0], .tuple [.int 5, .int 0], .tuple [.int (-1), .int 0], .tuple [.int 0, .int pl], .tuple [.int 0, .int (-1)], .tuple [.bool true, .int 0], .tuple [.int 0, .bool false], .dict []]
def ds2b : List PyData := [.tuple [.str "0", .int 0], .tuple [.int 0, .str "0"], .tuple [.none, .int 0], .tuple [.list [.int 0], .int 0], .tuple [.int 0, .dict []], .str "00"]
def ds3 : List PyData := [.none, .int 0, .int 1, .str "", .str "True", .list [], .tuple [], .dict []]
def dsA : List PyData := [.none, .bool true, .bool false]
/-- all but the j-th: no list, told by repr -/
def allBut (j : Nat) (ds : List PyData) (t : PyData → Bool) : Bool := (List.range ds.length).all fun i => i == j || (match ds[i]? with | some d => t d | none => true)
theorem allBut_at {j : Nat} {ds : List PyData} {t : PyData → Bool} (h : allBut j ds t = true) {i : Nat} {d : PyData} (ne : i ≠ j) (e : ds[i]? = some d) : t d = true := by
  have h1 := List.all_eq_true.mp h i (List.mem_range.mpr (List.getElem?_eq_some_iff.mp e).1)
  rw [e] at h1
  rcases Bool.or_eq_true_iff.mp h1 with h2 | h2
  · exact absurd (beq_iff_eq.mp h2) ne
  · exact h2
def plainD (d : PyData) : Bool := okD d && decide (kitB (kindD d) "list" = some false)
theorem plainD_ok {d : PyData} (h : plainD d = true) : okD d = true ∧ kitB (kindD d) "list" = some false := let ⟨a, b⟩ := He.ba h; ⟨a, of_decide_eq_true b⟩
theorem can_refused (D : Dfn K mg "_law_refused" sRefused) (B : Bi2 mg) (cC : CanG P w K mg base 6 "_law_caught" ["web", "many", "spot", "around"] (spCaught K C)) : CanG P w K mg base 7 "_law_refused" ["web", "places"] (spRefused C) := by
  obtain ⟨f, fd, F, g⟩ := D.at_
  refine FnG.can (okG F scRefused (fun xs H Q E h => ?_) (fun cdv A outer s H vs Q E hr hn h => ?_)) F g fun _ _ _ _ _ _ us hl => match us, hl with | [_, _], _ => rfl
  · obtain ⟨p, l, pl, rc, qs, rfl, _⟩ := h
    rfl
  · obtain ⟨p, l, pl, rc, qs, rfl, W, lk, pp, few, q⟩ := h
    have hr6 := hr.mono (show 6 ≤ 6 by decide)
    refine ⟨_, PSs.nox (pss_cons (ps_for PassesOwn.never rfl (pi_list (li_lst (S := fun σ => σ[1]? = some (some (.int pl))) (lis_cons li_non (lis_cons li_int (lis_cons li_neg (lis_cons li_bl (lis_cons li_str (lis_cons (li_lst (lis_cons li_int lis_nil) (Nat.le_of_ble_eq_true rfl)) (lis_cons li_dic (lis_cons (li_tup (lis_cons li_int lis_nil) (Nat.le_of_ble_eq_true rfl)) lis_nil)))))))) (Nat.le_of_ble_eq_true rfl))) (pg_name (i := 2) scRefused.nd rfl (.inl rfl))
        (pss_one (ps_if (pt_cmpR (op_neD hr.units) (pe_canG cC hr6 hn (pa_cons (pv 0) (pa_cons (pv 2) (pa_cons pe_non (pa1 pe_non))))) (pe_lst (pa_cons pe_bl (pa_cons pe_bl (pa1 (pe_bi (call_repr hn hr.units) B.repr (pa1 (pv 2))))))) (nomark _)) (pss_one (ps_ret pe_bl)) pss_nil)))
      (pss_cons (ps_set (i := 3) scRefused.nd rfl (.inl rfl) (li_lst (S := fun σ => σ[1]? = some (some (.int pl))) (lis_cons li_non (lis_cons li_int (lis_cons (li_tup lis_nil (Nat.le_of_ble_eq_true rfl)) (lis_cons (li_tup (lis_cons li_int lis_nil) (Nat.le_of_ble_eq_true rfl)) (lis_cons (li_tup (lis_cons li_int (lis_cons li_int (lis_cons li_int lis_nil))) (Nat.le_of_ble_eq_true rfl))
          (lis_cons (li_lst (lis_cons li_int (lis_cons li_int lis_nil)) (Nat.le_of_ble_eq_true rfl)) (lis_cons (li_tup (lis_cons li_int (lis_cons li_int lis_nil)) (Nat.le_of_ble_eq_true rfl)) (lis_cons (li_tup (lis_cons li_neg (lis_cons li_int lis_nil)) (Nat.le_of_ble_eq_true rfl)) (lis_cons (li_tup (lis_cons li_int (lis_cons (li_of pl (fun σ H Q s q => ⟨_, s, q⟩) (pv 1)) lis_nil)) (Nat.le_of_ble_eq_true rfl))
          (lis_cons (li_tup (lis_cons li_int (lis_cons li_neg lis_nil)) (Nat.le_of_ble_eq_true rfl)) (lis_cons (li_tup (lis_cons li_bl (lis_cons li_int lis_nil)) (Nat.le_of_ble_eq_true rfl)) (lis_cons (li_tup (lis_cons li_int (lis_cons li_bl lis_nil)) (Nat.le_of_ble_eq_true rfl)) (lis_cons li_dic lis_nil))))))))))))) (Nat.le_of_ble_eq_true rfl)))
      (pss_cons (ps_for PassesOwn.never rfl (pi_list (pe_op op_cat (pv 3) (li_lst (S := fun σ => σ[1]? = some (some (.int pl))) (lis_cons (li_tup (lis_cons li_str (lis_cons li_int lis_nil)) (Nat.le_of_ble_eq_true rfl)) (lis_cons (li_tup (lis_cons li_int (lis_cons li_str lis_nil)) (Nat.le_of_ble_eq_true rfl)) (lis_cons (li_tup (lis_cons li_non (lis_cons li_int lis_nil)) (Nat.le_of_ble_eq_true rfl))
          (lis_cons (li_tup (lis_cons (li_lst (lis_cons li_int lis_nil) (Nat.le_of_ble_eq_true rfl)) (lis_cons li_int lis_nil)) (Nat.le_of_ble_eq_true rfl)) (lis_cons (li_tup (lis_cons li_int (lis_cons li_dic lis_nil)) (Nat.le_of_ble_eq_true rfl)) (lis_cons li_str lis_nil)))))) (Nat.le_of_ble_eq_true rfl)))) (pg_name (i := 2) scRefused.nd rfl (.inl rfl))
        (pss_one (ps_for PassesOwn.never rfl (pi_list (li_lst (S := fun σ => σ[1]? = some (some (.int pl))) (lis_cons li_non (lis_cons li_bl (lis_cons li_bl lis_nil))) (Nat.le_of_ble_eq_true rfl))) (pg_name (i := 4) scRefused.nd rfl (.inl rfl))
          (pss_one (ps_if (pt_cmpR (op_neD hr.units) (pe_canG cC hr6 hn (pa_cons (pv 0) (pa_cons pe_int (pa_cons (pv 2) (pa1 (pv 4)))))) (pe_lst (pa_cons pe_bl (pa_cons pe_bl (pa1 (pe_bi (call_repr hn hr.units) B.repr (pa1 (pv 2))))))) (nomark _)) (pss_one (ps_ret pe_bl)) pss_nil)))))
      (pss_cons (ps_for PassesOwn.never rfl (pi_list (li_lst (S := fun σ => σ[1]? = some (some (.int pl))) (lis_cons li_non (lis_cons li_int (lis_cons li_int (lis_cons li_str (lis_cons li_str (lis_cons (li_lst lis_nil (Nat.le_of_ble_eq_true rfl)) (lis_cons (li_tup lis_nil (Nat.le_of_ble_eq_true rfl)) (lis_cons li_dic lis_nil)))))))) (Nat.le_of_ble_eq_true rfl))) (pg_name (i := 2) scRefused.nd rfl (.inl rfl))
        (pss_one (ps_if (pt_cmpR (op_neD hr.units) (pe_canG cC hr6 hn (pa_cons (pv 0) (pa_cons pe_int (pa_cons (pe_tup (pa_cons pe_int (pa1 (pe_op op_sub (pv 1) pe_int)))) (pa1 (pv 2)))))) (pe_lst (pa_cons pe_bl (pa_cons pe_bl (pa1 (pe_bi (call_repr hn hr.units) B.repr (pa1 (pv 2))))))) (nomark _)) (pss_one (ps_ret pe_bl)) pss_nil)))
      (pss_one (ps_ret (pe_cmpR op_isN (pe_canG cC hr6 hn (pa_cons (pv 0) (pa_cons pe_int (pa_cons (pe_tup (pa_cons pe_int (pa1 (pe_op op_sub (pv 1) pe_int)))) (pa1 pe_bl))))) pe_non (nomark _)))))))), ?_⟩
    refine ⟨rfl, fun v1 H1 ls1 s1 t1 n1 f1 => ?_⟩
    cases t1 with
    | @lst L1 vs1 _ ls1 hL1 tL1 =>
      obtain ⟨a0, xs0, pk, ain⟩ := pick (j := 5) (base := [.int 1]) tL1 (List.nodup_cons.mp n1).2 rfl rfl
      have na : H a0 = none := f1 a0 (List.mem_cons_of_mem _ ain)
      have La : L1 ≠ a0 := fun z => (List.nodup_cons.mp n1).1 (by rw [z] <;> exact ain)
      have okA : allBut 5 ds1 (fun d => plainD d && decide (okNum (numD d) = false)) = true := by decide +kernel
      refine ⟨L1, rfl, ⟨vs1, SqL.of hL1⟩, for_list (K := K) (a := L1) (xs := vs1) (fun i σ H' => ∃ tv : Option V, σ = [some (.ref p), some (.int pl), tv, none, none] ∧ Evo a0 H1 H' ∧ (i ≤ 5 → H' a0 = some (.lst xs0)))
        ⟨none, rfl, Evo.of (Same.refl _), fun _ => pk.lst⟩ (fun i σ H' _ ⟨_, _, ev, _⟩ => SqL.of (ev _ _ hL1 La)) ?_ ?_⟩
      · rintro i x σ H' hx ⟨tv, rfl, ev, at0⟩
        have sm := Evo.all s1 na ev
        have hk : i = 5 → H' a0 = some (.lst (xs0 ++ mores 0)) := fun z => by
          rw [at0 (by omega)]
          simp [mores]
        obtain ⟨d, ld, lt, dn, dj⟩ := pk.elem 0 ev hk hx
        obtain ⟨t, H2, res, e2, en, ej⟩ := pk.res (K := K) 0 (by decide) ev hk hx (by decide) (fun d ne e => plainD_ok (He.ba (allBut_at okA ne e)).1) (fun _ => by decide +kernel)
        have od : okNum (numD d) = false := by
          by_cases z : i = 5
          · rw [(dj z).1]
            rfl
          · exact of_decide_eq_true (He.ba (allBut_at okA z (dn z))).2
        refine ⟨_, rfl, _, rfl, p, l, pl, rc, qs, x, .non, .non, numD d, rfl, W.same sm, lk, pp, few, lt_num lt, fun _ => ⟨t, H2, res, fun r H3 sm3 nr hr3 => ?_⟩, fun n e n1 => ?_⟩
        · have rp := rep_same sm3 res.rep
          have tok := rp.ok
          obtain ⟨d', ls', hq, q1, q2, q3, q4, q5, rfl⟩ := rp
          refine ⟨_, rfl, x, d', ls', rfl, hq, q1, q2, q3, q4, (by show 3 ≤ sizeLine; decide), fun u nu => ?_⟩
          refine ⟨triple true false _, triple true false _, triple_at (by rw [upd_ne (ne_of_none hr3 nu)] <;> exact hr3), triple_at upd_same, triple_shaped _ _ tok, triple_shaped _ _ tok, _, rfl, ?_⟩
          show if (!PyData.eqv (triple true false _) (triple true false _)) = true then _ else _
          rw [triple_eqv]
          have s4 : Same H2 (upd H3 u (.lst [.bl true, .bl false, .str d'.shown])) := sm3.trans (upd_same_as nu)
          refine iteF ⟨some x, rfl, (ev.trans e2).same s4, fun z => s4 _ _ ?_⟩
          rw [en (by omega)]
          exact at0 (by omega)
        · rw [e] at od
          exact absurd (show decide (1 ≤ n) = false from od) (by rw [decide_eq_true n1] <;> exact Bool.noConfusion)
      · rintro σ H' ⟨tv, rfl, ev, _⟩
        have sA := Evo.all s1 na ev
        clear ev
        refine ⟨rfl, fun v3 G3 ls3 s3 t3 n3 f3 => ?_⟩
        cases t3 with
        | @lst L3 vs3 _ ls3 hL3 tL3 =>
        refine ⟨_, rfl, rfl, fun v4 G4 ls4 s4 t4 n4 f4 => ?_⟩
        cases t4 with
        | @lst L4 vs4 _ ls4 hL4 tL4 =>
        have len3 := lts_len tL3
        have len4 := lts_len tL4
        refine ⟨L3, L4, vs3, vs4, rfl, rfl, s4 _ _ hL3, hL4, ?_, fun L nL => ?_⟩
        · rw [len3, len4, sizeLine_eq]
          exact Nat.le_of_ble_eq_true rfl
        have tB : Lts (upd G4 L (.lst (vs3 ++ vs4))) (vs3 ++ vs4) (ds2a pl ++ ds2b) (ls3 ++ ls4) := lts_same (upd_same_as nL) (lts_app (lts_same s4 tL3) tL4)
        have nB : (ls3 ++ ls4).Nodup := by
          refine List.nodup_append.mpr ⟨(List.nodup_cons.mp n3).2, (List.nodup_cons.mp n4).2, fun a z b z2 e => ?_⟩
          obtain ⟨ys, y⟩ := lts_at tL3 a z
          rw [e, f4 b (List.mem_cons_of_mem _ z2)] at y
          cases y
        obtain ⟨a2, xs2, pk2, ain2⟩ := pick (j := 5) (base := [.int 0, .int 0]) tB nB rfl rfl
        have na2 : H a2 = none := by
          rcases List.mem_append.mp ain2 with z | z
          · exact sA.free (f3 a2 (List.mem_cons_of_mem _ z))
          · exact sA.free (s3.free (f4 a2 (List.mem_cons_of_mem _ z)))
        have hL : (upd G4 L (.lst (vs3 ++ vs4))) L = some (.lst (vs3 ++ vs4)) := upd_same
        have La2 : L ≠ a2 := fun z => by
          obtain ⟨ys, y⟩ := lts_at (lts_app (lts_same s4 tL3) tL4) a2 ain2
          rw [← z, nL] at y
          cases y
        have sG5 : Same H (upd G4 L (.lst (vs3 ++ vs4))) := sA.trans (s3.trans (s4.trans (upd_same_as nL)))
        generalize upd G4 L (.lst (vs3 ++ vs4)) = G5 at tB hL sG5 pk2 ⊢
        have okB : allBut 5 (ds2a pl ++ ds2b) plainD = true := by
          rcases pp with rfl | rfl <;> decide +kernel
        have okS : allBut 5 (ds2a pl ++ ds2b) (fun d => !spotD 5 pl d) = true := by
          rcases pp with rfl | rfl <;> decide +kernel
        refine ⟨L, rfl, ⟨_, SqL.of hL⟩, for_list (K := K) (a := L) (xs := vs3 ++ vs4) (fun i σ H' => ∃ tv av : Option V, σ = [some (.ref p), some (.int pl), tv, some (.ref L3), av] ∧ Evo a2 G5 H' ∧ (i ≤ 5 → H' a2 = some (.lst xs2)) ∧ ∃ ys, H' a2 = some (.lst ys))
          ⟨_, _, rfl, Evo.of (Same.refl _), fun _ => pk2.lst, _, pk2.lst⟩ (fun i σ H' _ ⟨_, _, _, ev, _⟩ => SqL.of (ev _ _ hL La2)) ?_ ?_⟩
        · rintro i x σ H' hx ⟨tv, av, rfl, ev, at0, some0⟩
          refine ⟨rfl, fun vG G ls sG tG nG fG => ?_⟩
          cases tG with
          | @lst LG us _ lsG hLG tLG =>
          have LGa : LG ≠ a2 := fun z => by
            obtain ⟨ys, y⟩ := some0
            rw [← z, fG LG List.mem_cons_self] at y
            cases y
          have usl : us.length = 3 := lts_len tLG
          refine ⟨LG, rfl, ⟨_, SqL.of hLG⟩, for_list (K := K) (a := LG) (xs := us) (fun k σ H' => ∃ av : Option V, σ = [some (.ref p), some (.int pl), some x, some (.ref L3), av] ∧ Evo a2 G H' ∧ (i < 5 → H' a2 = some (.lst xs2)) ∧ (i = 5 → H' a2 = some (.lst (xs2 ++ mores k))) ∧ ∃ ys, H' a2 = some (.lst ys))
            ⟨_, rfl, Evo.of (Same.refl _), fun z => sG _ _ (at0 (by omega)), fun z => by rw [sG _ _ (at0 (by omega))]; simp [mores], let ⟨ys, y⟩ := some0; ⟨ys, sG _ _ y⟩⟩ (fun i σ H' _ ⟨_, _, ev, _⟩ => SqL.of (ev _ _ hLG LGa)) ?_ ?_⟩
          · rintro k y σ H'' hy ⟨av, rfl, evG, lt5, at5, some5⟩
            have k3 : k < 3 := by
              rw [← usl]
              exact (List.getElem?_eq_some_iff.mp hy).1
            have ev2 : Evo a2 G5 H'' := (ev.same sG).trans evG
            have sm := Evo.all sG5 na2 ev2
            obtain ⟨d, ld, lt, dn, dj⟩ := pk2.elem k ev2 at5 hx
            obtain ⟨t, H2, res, e2, en, ej⟩ := pk2.res (K := K) k (by omega) ev2 at5 hx (by decide) (fun d ne e => plainD_ok (allBut_at okB ne e)) (fun _ => by
              rcases (show k = 0 ∨ k = 1 ∨ k = 2 by omega) with rfl | rfl | rfl <;> decide +kernel)
            have sd : spotD 5 pl d = false := by
              by_cases z : i = 5
              · rw [(dj z).1]
                rfl
              · exact Bool.not_eq_true' _ |>.mp (allBut_at okS z (dn z))
            refine ⟨_, rfl, _, rfl, _, rfl, p, l, pl, rc, qs, .int 5, x, y, some 5, rfl, W.same sm, lk, pp, few, .is 5, fun z => (by cases z), fun n e n1 => ?_⟩
            obtain rfl := Option.some.inj e
            refine ⟨spotD 5 pl d, lt_spot 5 pl lt, fun _ => ⟨t, H2, res, fun r H3 sm3 nr hr3 => ?_⟩, fun z => (by rw [sd] at z; cases z)⟩
            have rp := rep_same sm3 res.rep
            have tok := rp.ok
            obtain ⟨d', ls', hq, q1, q2, q3, q4, q5, rfl⟩ := rp
            refine ⟨_, rfl, x, d', ls', rfl, hq, q1, q2, q3, q4, (by show 3 ≤ sizeLine; decide), fun u nu => ?_⟩
            refine ⟨triple false true _, triple false true _, triple_at (by rw [upd_ne (ne_of_none hr3 nu)] <;> exact hr3), triple_at upd_same, triple_shaped _ _ tok, triple_shaped _ _ tok, _, rfl, ?_⟩
            show if (!PyData.eqv (triple false true _) (triple false true _)) = true then _ else _
            rw [triple_eqv]
            have s4 : Same H2 (upd H3 u (.lst [.bl false, .bl true, .str d'.shown])) := sm3.trans (upd_same_as nu)
            refine iteF ⟨some y, rfl, (evG.trans e2).same s4, fun z => s4 _ _ (by rw [en (by omega)]; exact lt5 z), fun z => s4 _ _ (ej z), ?_⟩
            by_cases z : i = 5
            · exact ⟨_, s4 _ _ (ej z)⟩
            · obtain ⟨ys, y5⟩ := some5
              exact ⟨ys, s4 _ _ (by rw [en z]; exact y5)⟩
          · rintro σ H'' ⟨av, rfl, evG, lt5, at5, some5⟩
            exact ⟨_, _, rfl, (ev.same sG).trans evG, fun z => lt5 (by omega), some5⟩
        · rintro σ H' ⟨tv, av, rfl, ev, _⟩
          have sB := Evo.all sG5 na2 ev
          clear ev
          refine ⟨rfl, fun v1 H1 ls1 s1 t1 n1 f1 => ?_⟩
          cases t1 with
          | @lst L1 vs1 _ ls1 hL1 tL1 =>
          obtain ⟨a0, xs0, pk, ain⟩ := pick (j := 5) (base := []) tL1 (List.nodup_cons.mp n1).2 rfl rfl
          have na : H a0 = none := sB.free (f1 a0 (List.mem_cons_of_mem _ ain))
          have La : L1 ≠ a0 := fun z => (List.nodup_cons.mp n1).1 (by rw [z] <;> exact ain)
          have sC := sB.trans s1
          have okA : allBut 5 ds3 (fun d => plainD d && decide (kitB (kindD d) "bool" = some false)) = true := by decide +kernel
          have spot : ∀ {G : Hp} {sp : Addr}, Spot K (upd G sp (.tup [.int 4, .int (pl - 1)])) 5 pl (.ref sp) (inR (some 4) 0 (5 - 1) && inR (some (pl - 1)) 0 (pl - 1)) := .two upd_same (.is 4) (.is (pl - 1))
          have sg : (inR (some 4) 0 (5 - 1) && inR (some (pl - 1)) 0 (pl - 1)) = true := by
            rw [inR_t (by decide) (by decide), inR_t (by omega) (by omega)]
            rfl
          refine ⟨L1, rfl, ⟨vs1, SqL.of hL1⟩, for_list (K := K) (a := L1) (xs := vs1) (fun i σ H' => ∃ tv av : Option V, σ = [some (.ref p), some (.int pl), tv, some (.ref L3), av] ∧ Evo a0 H1 H' ∧ (i ≤ 5 → H' a0 = some (.lst xs0)))
            ⟨_, _, rfl, Evo.of (Same.refl _), fun _ => pk.lst⟩ (fun i σ H' _ ⟨_, _, _, ev, _⟩ => SqL.of (ev _ _ hL1 La)) ?_ ?_⟩
          · rintro i x σ H' hx ⟨tv, av, rfl, ev, at0⟩
            refine ⟨_, rfl, _, rfl, _, _, rfl, rfl, (by show 2 ≤ sizeLine; decide), fun sp nsp => ?_⟩
            have ev2 := ev.same (upd_same_as (o := .tup [.int 4, .int (pl - 1)]) nsp)
            have at2 : i ≤ 5 → (upd H' sp (.tup [.int 4, .int (pl - 1)])) a0 = some (.lst xs0) := fun z => upd_same_as nsp _ _ (at0 z)
            have sm := Evo.all sC na ev2
            have hk : i = 5 → (upd H' sp (.tup [.int 4, .int (pl - 1)])) a0 = some (.lst (xs0 ++ mores 0)) := fun z => by
              rw [at2 (by omega)]
              simp [mores]
            obtain ⟨d, ld, lt, dn, dj⟩ := pk.elem 0 ev2 hk hx
            obtain ⟨t, H2, res, e2, en, ej⟩ := pk.res (K := K) 0 (by decide) ev2 hk hx (by decide) (fun d ne e => plainD_ok (He.ba (allBut_at okA ne e)).1) (fun _ => by decide +kernel)
            have od : kitB (kindD d) "bool" = some false := by
              by_cases z : i = 5
              · rw [(dj z).1]
                decide +kernel
              · exact of_decide_eq_true (He.ba (allBut_at okA z (dn z))).2
            refine ⟨_, rfl, p, l, pl, rc, qs, .int 5, .ref sp, x, some 5, rfl, W.same sm, lk, pp, few, .is 5, fun z => (by cases z), fun n e n1 => ?_⟩
            obtain rfl := Option.some.inj e
            refine ⟨_, spot, fun z => (by rw [sg] at z; cases z), fun _ => ⟨false, lt_isk lt od, fun _ => ⟨t, H2, res, fun r H3 sm3 nr hr3 => ?_⟩, fun z => by cases z⟩⟩
            have rp := rep_same sm3 res.rep
            have tok := rp.ok
            obtain ⟨d', ls', hq, q1, q2, q3, q4, q5, rfl⟩ := rp
            refine ⟨_, rfl, x, d', ls', rfl, hq, q1, q2, q3, q4, (by show 3 ≤ sizeLine; decide), fun u nu => ?_⟩
            refine ⟨triple true false _, triple true false _, triple_at (by rw [upd_ne (ne_of_none hr3 nu)] <;> exact hr3), triple_at upd_same, triple_shaped _ _ tok, triple_shaped _ _ tok, _, rfl, ?_⟩
            show if (!PyData.eqv (triple true false _) (triple true false _)) = true then _ else _
            rw [triple_eqv]
            have s4 : Same H2 (upd H3 u (.lst [.bl true, .bl false, .str d'.shown])) := sm3.trans (upd_same_as nu)
            refine iteF ⟨_, _, rfl, (ev2.trans e2).same s4, fun z => s4 _ _ ?_⟩
            rw [en (by omega)]
            exact at2 (by omega)
          · rintro σ H' ⟨tv, av, rfl, ev, _⟩
            have sD := Evo.all sC na ev
            refine ⟨_, rfl, _, rfl, _, _, rfl, rfl, (by show 2 ≤ sizeLine; decide), fun sp nsp => ?_⟩
            have sE := sD.trans (upd_same_as (o := .tup [.int 4, .int (pl - 1)]) nsp)
            refine ⟨p, l, pl, rc, qs, .int 5, .ref sp, .bl true, some 5, rfl, W.same sE, lk, pp, few, .is 5, fun z => (by cases z), fun n e n1 => ?_⟩
            obtain rfl := Option.some.inj e
            exact ⟨_, spot, fun z => (by rw [sg] at z; cases z), fun _ => ⟨true, isk_bl true _ (by decide +kernel), fun z => (by cases z), fun _ => ⟨true, sp, 4, pl - 1, rfl, rfl, upd_same, fun H' sm => ⟨rfl, q H' (sE.trans sm)⟩⟩⟩⟩
end
end Kx
/-! The law. -/
namespace Kx
open PySem PySem.Spec PyProof.Rows L2 Xa Xb Xc Xd Xs Xp Xm Xr Xl Xk Xt
abbrev sLaw : Stmt := top 29
/-! ### facts -/
theorem Gen.up {H : Hp} {g : Addr} {n m : Nat} (h : n ≤ m) : Gen H g n → Gen H g m := fun ⟨g0, g1, g2, h1, h2, h3, h4, h5, h6, h7⟩ => ⟨g0, g1, g2, h1, h2, h3, h4, h5, h6, by omega⟩
theorem Gen.to {H H' : Hp} {g : Addr} {n : Nat} (e : ∀ o, H g = some o → H' g = some o) : Gen H g n → Gen H' g n := fun ⟨g0, g1, g2, h1, r⟩ => ⟨g0, g1, g2, e _ h1, r⟩
theorem Gen.some_ {H : Hp} {g : Addr} {n : Nat} : Gen H g n → ∃ xs, H g = some (.lst xs) := fun ⟨_, _, _, h, _⟩ => ⟨_, h⟩
theorem But.refl (g : Addr) (H : Hp) : But g H H := fun _ _ e _ => e
theorem But.trans {g : Addr} {H1 H2 H3 : Hp} (a : But g H1 H2) (b : But g H2 H3) : But g H1 H3 := fun c o e h => b c o (a c o e h) h
theorem But.of {g : Addr} {H1 H2 : Hp} (a : Same H1 H2) : But g H1 H2 := fun c o e _ => a c o e
theorem But.new {g : Addr} {H0 H1 H2 : Hp} (s : Same H0 H1) (n : H0 g = none) (b : But g H1 H2) : Same H0 H2 := fun c o e => b c o (s c o e) (ne_of_none e n)
theorem But.rnd {g : Addr} {H1 H2 : Hp} (k : ∀ c, c ≠ g → H2 c = H1 c) : But g H1 H2 := fun c o e h => by rw [k c h] <;> exact e
theorem Told.short {ls ks : List (List Int)} {rg : Bool} {n a b : Int} (T : Told ls rg n a b ks) (hj : ∀ j d, [b, j, d] ∈ ls → 0 ≤ j ∧ j < 2) (hn : n ≤ 10 ^ 20) : Short ks := by
  refine ⟨T.few, fun l hl => ?_⟩
  obtain ⟨j, d, m, x, y, rfl⟩ := (T.mem l).mp hl
  have := hj j d m
  have e20 : (10 : Int) ^ 20 = 100000000000000000000 := by decide
  have e30 : (10 : Nat) ^ 30 = 1000000000000000000000000000000 := by decide
  refine ⟨by simp, fun z hz => ?_⟩
  rcases List.mem_cons.mp hz with h | h
  · rw [h]
    omega
  · rw [List.mem_singleton.mp h]
    omega
theorem Lnks.hj {pl : Int} {ls : List (List Int)} (h : ∀ l ∈ ls, Lnk pl l) (pp : pl = 1 ∨ pl = 2) (b : Int) : ∀ j d, [b, j, d] ∈ ls → 0 ≤ j ∧ j < 2 := fun j d m => by
  obtain ⟨i1, j1, d1, e, h1, h2, h3, h4, _⟩ := h _ m
  injection e with e1 e
  injection e with e2 e
  omega
section
variable {P : Program} {w : World} {K : PySem.W.Frag} {mg : Str → Option Value} {base : Heap} {f C CW CN CS : Addr} {fd : FuncData}
theorem pass00 {X : Cx} : Passes (L2.CX X.prog X.w) X E0 := fun _ _ _ _ _ _ _ ⟨_, _, _, _, _, _, _, _, _, _, _, _, q⟩ => False.elim q
/-- the class Web as the law uses it -/
structure WebF (P : Program) (w : World) (K : PySem.W.Frag) (mg : Str → Option Value) (base : Heap) (C CN CS : Addr) : Prop where
  aud : AudF P w K mg base C CN CS
  mkx : ∃ (fI : Addr) (fdI : FuncData), Mk K C fI ∧ FnOk P w K mg base (L2.CX P w) 5 fI fdI ["self", "places", "hears"] (spWInit C) ∧ Binds K fdI ["self", "places", "hears"] []
  hears : ∃ (fH : Addr) (fdH : FuncData), Meth K C "hears" fH ∧ FnOk P w K mg base CX0 1 fH fdH ["self"] (spHears C) ∧ Binds K fdH ["self"] []
/-- the drawn parts and the web made of them -/
structure Web5 (C : Addr) (H : Hp) (t a p l : Addr) (pl rc : Int) (ps : List (Addr × List Int)) : Prop where
  tp : H t = some (.tup [.int pl, .ref a])
  la : H a = some (.lst (ps.map fun q => V.ref q.1))
  tu : TupsAt H ps
  wb : WebAt C H p pl rc l (srt ps)
theorem Web5.same {C : Addr} {H H' : Hp} {t a p l : Addr} {pl rc : Int} {ps : List (Addr × List Int)} (e : Same H H') (W : Web5 C H t a p l pl rc ps) : Web5 C H' t a p l pl rc ps := ⟨e _ _ W.tp, e _ _ W.la, fun q hq => e _ _ (W.tu q hq), W.wb.same e⟩
theorem Web5.but {C : Addr} {H H' : Hp} {t a p l g : Addr} {pl rc : Int} {ps : List (Addr × List Int)} (e : But g H H') (hg : ∃ xs, H g = some (.lst xs)) (ag : a ≠ g) (lg : l ≠ g) (W : Web5 C H t a p l pl rc ps) : Web5 C H' t a p l pl rc ps := by
  obtain ⟨xs, hg⟩ := hg
  obtain ⟨h1, h2, h3, ⟨dx, ob⟩, li, tu⟩ := W
  exact ⟨e _ _ h1 (ne_of h1 hg (by intro z; cases z)), e _ _ h2 ag, fun q hq => e _ _ (h3 q hq) (ne_of (h3 q hq) hg (by intro z; cases z)), ⟨dx, e _ _ ob (ne_of ob hg (by intro z; cases z))⟩, e _ _ li lg, fun q hq => e _ _ (tu q hq) (ne_of (tu q hq) hg (by intro z; cases z))⟩
/-- a good call of audible -/
theorem aud_r {K : PySem.W.Frag} {C CN CS : Addr} {H : Hp} {t a p l sp : Addr} {pl rc n x b : Int} {rg : Bool} {ps : List (Addr × List Int)} {Q : VK} (W : Web5 C H t a p l pl rc ps) (L : Lnks pl (ps.map (·.2))) (pp : pl = 1 ∨ pl = 2) (n1 : 1 ≤ n) (x0 : 0 ≤ x) (x1 : x < n) (b0 : 0 ≤ b) (b1 : b < pl)
    (hsp : H sp = some (.tup [.int x, .int b])) (q : ∀ (ks : List (Addr × List Int)) (u : Addr) (H' : Hp), Told (ps.map (·.2)) rg n x b (ks.map (·.2)) → Same H H' → H u = none → H' u = some (.lst (ks.map fun q => V.ref q.1)) → TupsAt H' ks → Q (.ref u) H') : spAud K C CN CS [.ref p, .int n, .ref sp, .bl rg] H Q E0 := by
  have pm := srt_perm ps
  have few : (srt ps).length ≤ 20 := by
    have := L.few
    rw [List.length_map] at this
    rw [pm.length_eq]
    exact this
  have lk : ∀ q ∈ srt ps, Lnk pl q.2 := fun q hq => L.one q.2 (List.mem_map.mpr ⟨q, pm.mem_iff.mp hq, rfl⟩)
  refine ⟨p, l, pl, rc, srt ps, .int n, .ref sp, .bl rg, some n, rfl, W.wb, lk, pp, few, .is n, fun z => ?_, fun m e m1 => ?_⟩
  · exact absurd (show decide (1 ≤ n) = false from z) (by rw [decide_eq_true n1] <;> exact Bool.noConfusion)
  · obtain rfl := Option.some.inj e
    have g : (inR (some x) 0 (n - 1) && inR (some b) 0 (pl - 1)) = true := by
      rw [inR_t x0 (by omega), inR_t b0 (by omega)]
      rfl
    refine ⟨_, .two hsp (.is x) (.is b), fun z => (by rw [g] at z; cases z), fun _ => ⟨true, isk_bl rg _ (by decide +kernel), fun z => (by cases z), fun _ => ⟨rg, sp, x, b, rfl, rfl, hsp, fun ks u H' T s nu hu tk => ?_⟩⟩⟩
    exact q ks u H' (T.perm (pm.map (·.2))) s nu hu tk
/-- the law's own functions -/
structure LawF (P : Program) (w : World) (K : PySem.W.Frag) (mg : Str → Option Value) (base : Heap) (C : Addr) : Prop where
  gen : CanG P w K mg base 2 "_law_generator" ["script", "index"] (spGener K)
  rnd : CanG P w K mg base 2 "_law_random" ["generator", "bound"] spRandom
  par : CanG P w K mg base 3 "_law_web_parts" ["generator"] spParts
  hrd : CanG P w K mg base 1 "_law_heard" ["parts", "many", "spot", "rounded"] spHeard
  ref : CanG P w K mg base 7 "_law_refused" ["web", "places"] (spRefused C)
def spLaw (K : PySem.W.Frag) : Sp := fun xs H Q _ => ∃ (a : Addr) (ns : List Int), xs = [.ref a] ∧ SqL K H a (ns.map V.int) ∧ ∀ H', Q (.bl true) H'
theorem scLaw : FnScope ["script", "index", "generator", "parts", "web", "many", "piece", "spot", "around", "due", "told"] ["script"] (defScope sLaw) := ⟨rfl, rfl, rfl, by decide +kernel, rfl, by decide +kernel, by decide +kernel⟩
theorem fn_law (F : FnP K "law" sLaw f fd) (B : Bi2 mg) (WF : WebF P w K mg base C CN CS) (LF : LawF P w K mg base C) : FnG P w K mg base 8 f fd ["script"] (spLaw K) := by
  obtain ⟨⟨T, fA, fdA, ds, mA, oA, kA, bA, dA⟩, ⟨fI, fdI, mI, oI, bI⟩, ⟨fH, fdH, mH, oH, bH⟩⟩ := WF
  obtain ⟨cG, cR, cP, cH, cF⟩ := LF
  refine okG F scLaw (fun xs H Q E h => ?_) (fun cdv A outer s H vs Q E hr hn h => ?_)
  · obtain ⟨a, ns, rfl, _⟩ := h
    rfl
  · obtain ⟨sa, ns, rfl, hS, q⟩ := h
    have h2 := hr.mono (show 2 ≤ 7 by decide)
    have h5 := hr.mono (show 5 ≤ 7 by decide)
    refine ⟨_, PSs.nox (pss_cons (ps_for PassesOwn.never rfl (pi_range1 (by rfl) B.range (pa1 pe_int)) (pg_name (i := 1) scLaw.nd rfl (.inl rfl))
        (pss_cons (ps_set (i := 2) scLaw.nd rfl (.inl rfl) (pe_canG cG h2 hn (pa_cons (pv 0) (pa1 (pv 1)))))
        (pss_cons (ps_set (i := 3) scLaw.nd rfl (.inl rfl) (pe_canG cP (hr.mono (by decide)) hn (pa1 (pv 2))))
        (pss_cons (ps_set (i := 4) scLaw.nd rfl (.inl rfl) (pe_make (E := E0) mI oI (hr.mono (by decide)) (by rfl) T.gl bI .nil pass00 (pa_cons (pe_ix ix_tup (pv 3) pe_int (fun _ _ => rfl)) (pa1 (pe_ix ix_tup (pv 3) pe_int (fun _ _ => rfl))))))
        (pss_cons (ps_for PassesOwn.never rfl (pi_list (pe_lst (pa_cons pe_int (pa_cons pe_int (pa_cons pe_int (pa_cons pe_int (pa_cons pe_int (pa_cons (pe_op op_add pe_int (pe_canG cR h2 hn (pa_cons (pv 2) (pa1 pe_int)))) (pa1 (pe_op op_add pe_int (pe_canG cR h2 hn (pa_cons (pv 2) (pa1 (pe_op op_pow pe_int pe_int))))))))))))))
          (pg_name (i := 5) scLaw.nd rfl (.inl rfl))
          (pss_one (ps_for PassesOwn.never rfl (pi_list (pe_lst (pa_cons pe_int (pa_cons (pe_op op_sub (pv 5) pe_int) (pa1 (pe_canG cR h2 hn (pa_cons (pv 2) (pa1 (pv 5))))))))) (pg_name (i := 6) scLaw.nd rfl (.inl rfl))
            (pss_cons (ps_set (i := 7) scLaw.nd rfl (.inl rfl) (pe_tup (pa_cons (pv 6) (pa1 (pe_canG cR h2 hn (pa_cons (pv 2) (pa1 (pe_ix ix_tup (pv 3) pe_int (fun _ _ => rfl)))))))))
            (pss_cons (ps_for PassesOwn.never rfl (pi_list (pe_lst (pa_cons pe_bl (pa1 pe_bl)))) (pg_name (i := 8) scLaw.nd rfl (.inl rfl))
              (pss_cons (ps_set (i := 9) scLaw.nd rfl (.inl rfl) (pe_canG cH (hr.mono (by decide)) hn (pa_cons (pv 3) (pa_cons (pv 5) (pa_cons (pv 7) (pa1 (pv 8)))))))
              (pss_cons (ps_set (i := 10) scLaw.nd rfl (.inl rfl) (pe_methN (C := C) (fd := fdA) (E := fun _ => E0) (pv 4) T.cl mA oA h5 kA passAt0 (pa_cons (pv 5) (pa1 (pv 7))) (pk_cons (pv 8) pk_nil)))
              (pss_cons (ps_if (pt_cmpR op_ne (pe_bi (call_repr hn hr.units) B.repr (pa1 (pv 10))) (pe_bi (call_repr hn hr.units) B.repr (pa1 (pv 9))) (nomark _)) (pss_one (ps_ret pe_bl)) pss_nil)
              (pss_cons (ps_expr (pe_bm PySem.F.plainAttrs_list PySem.F.slot_list_append PySem.F.type_list_append mt_append (pv 10) (pa1 pe_non)))
              (pss_one (ps_if (pt_cmpR (op_neD hr.units) (pe_methN (C := C) (fd := fdA) (E := fun _ => E0) (pv 4) T.cl mA oA h5 kA passAt0 (pa_cons (pv 5) (pa1 (pv 7))) (pk_cons (pv 8) pk_nil)) (pv 9) (nomark _)) (pss_one (ps_ret pe_bl)) pss_nil)))))))
            (pss_one (ps_if (pt_cmpR (op_neD hr.units) (pe_methD (C := C) (fd := fdA) (E := fun _ => E0) (pv 4) T.cl mA oA h5 bA dA passAt0 (pa_cons (pv 5) (pa1 (pv 7)))) (pe_canG cH (hr.mono (by decide)) hn (pa_cons (pv 3) (pa_cons (pv 5) (pa_cons (pv 7) (pa1 pe_bl))))) (nomark _)) (pss_one (ps_ret pe_bl)) pss_nil)))))))
        (pss_one (ps_if (PW.pt (pw_or (pt_not (pt_val (pe_canG cF hr hn (pa_cons (pv 4) (pa1 (pe_ix ix_tup (pv 3) pe_int (fun _ _ => rfl))))))) (pw_or1 (pt_cmpR (op_neD hr.units) (pe_meth0 (pv 4) T.cl mH oH (hr.mono (by decide)) bH .nil pass0) (pe_bi (cr_sortL rfl hr.units) B.sorted (pa1 (pe_ix ix_tup (pv 3) pe_int (fun _ _ => rfl)))) (nomark _))))) (pss_one (ps_ret pe_bl)) pss_nil)))))))
      (pss_one (ps_ret pe_bl))), ?_⟩
    have at0 : ∀ (x y : V), atI [x, y] 0 = some x := fun x y => atI_nat (j := 0) rfl
    have at1 : ∀ (x y : V), atI [x, y] 1 = some y := fun x y => atI_nat (j := 1) rfl
    have e19 : (10 : Int) ^ (19 : Int).toNat = 10000000000000000000 := by decide
    have e20 : (10 : Int) ^ 20 = 100000000000000000000 := by decide
    refine ⟨_, rfl, by decide, by decide, for_range (lo := 0) (fun i σ H' => ∃ v1 v2 v3 v4 v5 v6 v7 v8 v9 v10 : Option V, σ = [some (.ref sa), v1, v2, v3, v4, v5, v6, v7, v8, v9, v10] ∧ Same H H')
      ⟨_, _, _, _, _, _, _, _, _, _, rfl, Same.refl _⟩ ?_ fun σ H' ⟨_, _, _, _, _, _, _, _, _, _, e, _⟩ => by subst e; exact q H'⟩
    rintro i σ H0 hi ⟨v1, v2, v3, v4, v5, v6, v7, v8, v9, v10, rfl, s0⟩
    have hi5 : i < 5 := hi
    refine ⟨_, rfl, _, rfl, sa, ns, i, by simp, by omega, s0.seq hS, fun gA H1 ng s1 G1 => ?_⟩
    refine ⟨_, rfl, gA, 1000 * i, rfl, G1, by omega, fun pl ps t a H2 p1 p2 L b2 G2 nt na ta htp hla tu nw => ?_⟩
    have pp : pl = 1 ∨ pl = 2 := by omega
    have few : ps.length ≤ 20 := by
      have := L.few
      rwa [List.length_map] at this
    have lk : ∀ q ∈ ps, Lnk pl q.2 := fun q hq => L.one q.2 (List.mem_map.mpr ⟨q, hq, rfl⟩)
    have hj := Lnks.hj L.one pp
    refine ⟨_, rfl, t, _, 0, .int pl, rfl, rfl, SqT.of htp, at0 _ _, _, rfl, t, _, 1, .ref a, rfl, rfl, SqT.of htp, at1 _ _, fun p dx np ndx ne => ?_⟩
    have s2m : Same H2 (upd (upd H2 dx (.own p)) p (.ins C dx [])) := fun c o e => by
      rw [upd_ne (ne_of_none e np), upd_ne (ne_of_none e ndx)]
      exact e
    refine ⟨p, dx, a, pl, ps, rfl, upd_same, pp, s2m _ _ hla, fun q hq => s2m _ _ (tu q hq), L, fun rc l H3 W3 R3 old nl => ⟨rfl, ?_⟩⟩
    have s3 : Same H2 H3 := fun c o e => old c o (s2m c o e) (ne_of_none e np)
    have lG : l ≠ gA := fun z => by
      obtain ⟨xs, y⟩ := G2.some_
      have y2 := s2m _ _ y
      rw [← z, nl] at y2
      cases y2
    have aG : a ≠ gA := fun z => by
      obtain ⟨xs, y⟩ := G1.some_
      rw [← z, na] at y
      cases y
    have W5 : Web5 C H3 t a p l pl rc ps := ⟨s3 _ _ htp, s3 _ _ hla, fun q hq => s3 _ _ (tu q hq), W3⟩
    have G3 := G2.to (s3 gA)
    refine ⟨_, rfl, gA, 7, _, rfl, by decide, by decide, G3, by omega, fun r1 H4 r10 r11 G4 k4 => ?_⟩
    refine ⟨_, _, rfl, rfl, _, rfl, _, _, rfl, rfl, ⟨by decide, by decide, by decide⟩, gA, _, _, rfl, by decide, by decide, G4, by omega, fun r2 H5 r20 r21 G5 k5 => ?_⟩
    rw [e19] at r21
    refine ⟨_, _, rfl, rfl, (by show 7 ≤ sizeLine; decide), fun LM nLM => ?_⟩
    have b35 : But gA H3 H5 := (But.rnd k4).trans (But.rnd k5)
    have W6 : Web5 C (upd H5 LM (.lst [V.int 1, V.int 2, V.int 3, V.int 4, V.int 5, V.int (6 + r1), V.int (1 + r2)])) t a p l pl rc ps := (W5.but b35 G3.some_ aG lG).same (upd_same_as nLM)
    have G6 : Gen (upd H5 LM (.lst [V.int 1, V.int 2, V.int 3, V.int 4, V.int 5, V.int (6 + r1), V.int (1 + r2)])) gA 6000 := (G5.to (upd_same_as nLM gA)).up (by omega)
    have LMg : LM ≠ gA := fun z => by
      obtain ⟨xs, y⟩ := G5.some_
      rw [← z, nLM] at y
      cases y
    have b16 : But gA H1 (upd H5 LM (.lst [V.int 1, V.int 2, V.int 3, V.int 4, V.int 5, V.int (6 + r1), V.int (1 + r2)])) := b2.trans ((But.of s3).trans (b35.trans (But.of (upd_same_as nLM))))
    have hLM : (upd H5 LM (.lst [V.int 1, V.int 2, V.int 3, V.int 4, V.int 5, V.int (6 + r1), V.int (1 + r2)])) LM = some (.lst [V.int 1, V.int 2, V.int 3, V.int 4, V.int 5, V.int (6 + r1), V.int (1 + r2)]) := upd_same
    have hm : ∀ x ∈ [V.int 1, V.int 2, V.int 3, V.int 4, V.int 5, V.int (6 + r1), V.int (1 + r2)], ∃ m : Int, x = .int m ∧ 1 ≤ m ∧ m ≤ 10000000000000000000 := fun x hx => by
      simp only [List.mem_cons, List.not_mem_nil, or_false] at hx
      rcases hx with rfl | rfl | rfl | rfl | rfl | rfl | rfl <;> exact ⟨_, rfl, by omega, by omega⟩
    have hml : [V.int 1, V.int 2, V.int 3, V.int 4, V.int 5, V.int (6 + r1), V.int (1 + r2)].length = 7 := rfl
    generalize hxs : [V.int 1, V.int 2, V.int 3, V.int 4, V.int 5, V.int (6 + r1), V.int (1 + r2)] = xs at W6 G6 b16 hLM hm hml
    generalize upd H5 LM (.lst xs) = H6 at W6 G6 b16 hLM ⊢
    refine ⟨LM, rfl, ⟨_, SqL.of hLM⟩, for_list (K := K) (a := LM) (xs := xs) (fun m σ H' => ∃ v5 v6 v7 v8 v9 v10 : Option V, σ = [some (.ref sa), some (.int (0 + (i : Int))), some (.ref gA), some (.ref t), some (.ref p), v5, v6, v7, v8, v9, v10] ∧ But gA H6 H' ∧ Gen H' gA (6000 + 100 * m))
      ⟨_, _, _, _, _, _, rfl, But.refl _ _, G6⟩ (fun m σ H' _ ⟨_, _, _, _, _, _, _, b, _⟩ => SqL.of (b _ _ hLM LMg)) ?_ ?_⟩
    · rintro m x σ H7 hx ⟨v5, v6, v7, v8, v9, v10, rfl, b7, G7⟩
      obtain ⟨mn, rfl, m1, m2⟩ := hm x (List.mem_of_getElem? hx)
      have m7 : m < 7 := by
        rw [← hml]
        exact (List.getElem?_eq_some_iff.mp hx).1
      have W7 := W6.but b7 G6.some_ aG lG
      refine ⟨_, rfl, _, _, rfl, rfl, _, rfl, _, rfl, gA, mn, _, rfl, by omega, Int.lt_of_le_of_lt m2 (by decide), G7, by omega, fun r3 H8 r30 r31 G8 k8 => ?_⟩
      refine ⟨(by show 3 ≤ sizeLine; decide), fun LP nLP => ?_⟩
      have W9 : Web5 C (upd H8 LP (.lst [V.int 0, V.int (mn - 1), V.int r3])) t a p l pl rc ps := (W7.but (But.rnd k8) G7.some_ aG lG).same (upd_same_as nLP)
      have G9 : Gen (upd H8 LP (.lst [V.int 0, V.int (mn - 1), V.int r3])) gA (6000 + 100 * m + 10) := (G8.to (upd_same_as nLP gA)).up (by omega)
      have LPg : LP ≠ gA := fun z => by
        obtain ⟨xs, y⟩ := G8.some_
        rw [← z, nLP] at y
        cases y
      have b79 : But gA H7 (upd H8 LP (.lst [V.int 0, V.int (mn - 1), V.int r3])) := (But.rnd k8).trans (But.of (upd_same_as nLP))
      have hLP : (upd H8 LP (.lst [V.int 0, V.int (mn - 1), V.int r3])) LP = some (.lst [V.int 0, V.int (mn - 1), V.int r3]) := upd_same
      have hp : ∀ x ∈ [V.int 0, V.int (mn - 1), V.int r3], ∃ c : Int, x = .int c ∧ 0 ≤ c ∧ c < mn := fun x hx => by
        simp only [List.mem_cons, List.not_mem_nil, or_false] at hx
        rcases hx with rfl | rfl | rfl <;> exact ⟨_, rfl, by omega, by omega⟩
      have hpl : [V.int 0, V.int (mn - 1), V.int r3].length = 3 := rfl
      generalize hys : [V.int 0, V.int (mn - 1), V.int r3] = ys at W9 G9 b79 hLP hp hpl
      generalize upd H8 LP (.lst ys) = H9 at W9 G9 b79 hLP ⊢
      refine ⟨LP, rfl, ⟨_, SqL.of hLP⟩, for_list (K := K) (a := LP) (xs := ys) (fun k σ H' => ∃ v6 v7 v8 v9 v10 : Option V, σ = [some (.ref sa), some (.int (0 + (i : Int))), some (.ref gA), some (.ref t), some (.ref p), some (.int mn), v6, v7, v8, v9, v10] ∧ But gA H9 H' ∧ Gen H' gA (6000 + 100 * m + 10 + 8 * k))
        ⟨_, _, _, _, _, rfl, But.refl _ _, G9⟩ (fun m σ H' _ ⟨_, _, _, _, _, _, b, _⟩ => SqL.of (b _ _ hLP LPg)) ?_ ?_⟩
      · rintro k y σ H9' hy ⟨v6, v7, v8, v9, v10, rfl, b9, G9'⟩
        obtain ⟨pc, rfl, c0, c1⟩ := hp y (List.mem_of_getElem? hy)
        have k3 : k < 3 := by
          rw [← hpl]
          exact (List.getElem?_eq_some_iff.mp hy).1
        have W9' := W9.but b9 G9.some_ aG lG
        refine ⟨_, rfl, _, rfl, _, rfl, t, _, 0, .int pl, rfl, rfl, SqT.of W9'.tp, at0 _ _, gA, pl, _, rfl, by omega, by omega, G9', by omega, fun b H10 b0 b1 G10 k10 => ?_⟩
        refine ⟨(by show 2 ≤ sizeLine; decide), fun sp nsp => ?_⟩
        refine ⟨(by show 2 ≤ sizeLine; decide), fun LA nLA => ?_⟩
        have s12 := (upd_same_as (o := .tup [.int pc, .int b]) nsp).trans (upd_same_as (o := .lst [.bl false, .bl true]) nLA)
        have W12 := (W9'.but (But.rnd k10) G9'.some_ aG lG).same s12
        have G12 := (G10.to (s12 gA))
        have b12 : But gA H9' _ := (But.rnd k10).trans (But.of s12)
        have hsp : (upd (upd H10 sp (.tup [.int pc, .int b])) LA (.lst [.bl false, .bl true])) sp = some (.tup [.int pc, .int b]) := upd_same_as nLA _ _ upd_same
        have hLA : (upd (upd H10 sp (.tup [.int pc, .int b])) LA (.lst [.bl false, .bl true])) LA = some (.lst [.bl false, .bl true]) := upd_same
        have LAg : LA ≠ gA := fun z => by
          obtain ⟨xs, y⟩ := G12.some_
          obtain ⟨xs2, y2⟩ := G10.some_
          have y3 := upd_same_as (o := .tup [.int pc, .int b]) nsp _ _ y2
          rw [← z, nLA] at y3
          cases y3
        generalize upd (upd H10 sp (.tup [.int pc, .int b])) LA (.lst [.bl false, .bl true]) = H12 at W12 G12 b12 hsp hLA s12 ⊢
        have spG : sp ≠ gA := by
          obtain ⟨xs, y⟩ := G12.some_
          exact ne_of hsp y (by intro z; cases z)
        refine ⟨LA, rfl, ⟨_, SqL.of hLA⟩, for_list (K := K) (a := LA) (xs := [V.bl false, V.bl true]) (fun j σ H' => ∃ v8 v9 v10 : Option V, σ = [some (.ref sa), some (.int (0 + (i : Int))), some (.ref gA), some (.ref t), some (.ref p), some (.int mn), some (.int pc), some (.ref sp), v8, v9, v10] ∧ Same H12 H')
          ⟨_, _, _, rfl, Same.refl _⟩ (fun m σ H' _ ⟨_, _, _, _, b⟩ => SqL.of (b _ _ hLA)) ?_ ?_⟩
        · rintro j z σ H13 hz ⟨v8, v9, v10, rfl, s13⟩
          obtain ⟨rg, rfl⟩ : ∃ rg, z = .bl rg := by
            have hx := List.mem_of_getElem? hz
            simp only [List.mem_cons, List.not_mem_nil, or_false] at hx
            rcases hx with rfl | rfl <;> exact ⟨_, rfl⟩
          have W13 := W12.same s13
          refine ⟨_, rfl, _, rfl, _, rfl, _, rfl, t, a, sp, pl, mn, pc, b, rg, ps, rfl, W13.tp, W13.la, W13.tu, lk, pp, few, m1, s13 _ _ hsp, fun ks1 u1 H14 T1 s14 n14 hu1 tk1 => ?_⟩
          have W14 := W13.same s14
          obtain ⟨⟨dx14, ob14⟩, li14, tu14⟩ := W14.wb
          refine ⟨_, rfl, p, dx14, _, rfl, ob14, wf_no _ _ _ (by decide +kernel) (by decide +kernel) (by decide +kernel), _, rfl, _, rfl, _, rfl, rfl, rfl, aud_r W14 L pp m1 c0 c1 b0 b1 ((s13.trans s14) _ _ hsp) fun ks2 u2 H15 T2 s15 n15 hu2 tk2 => ?_⟩
          have e21 : ks2.map (·.2) = ks1.map (·.2) := T2.one T1 (hj b) m1
          have sh1 := T1.short (hj b) (by omega)
          have sh2 := T2.short (hj b) (by omega)
          have tk15 : TupsAt H15 ks1 := fun q hq => s15 _ _ (tk1 q hq)
          obtain ⟨x1, x2, x3, x4, x5⟩ := lis_in (K := K) hu2 tk2 sh2
          obtain ⟨y1, y2, y3, y4, y5⟩ := lis_in (K := K) (s15 _ _ hu1) tk15 sh1
          refine ⟨_, rfl, .ref u2, _, _, rfl, x1, x2, x3, x4, x5, _, rfl, .ref u1, _, _, rfl, y1, y2, y3, y4, y5, rfl, _, rfl, ?_⟩
          have same_txt : decide (V.str (lisD (ks2.map (·.2))).shown = V.str (lisD (ks1.map (·.2))).shown) = true := by
            rw [e21]
            exact decide_eq_true rfl
          show if (!decide (V.str (lisD (ks2.map (·.2))).shown = V.str (lisD (ks1.map (·.2))).shown)) = true then _ else _
          rw [same_txt]
          refine iteF ⟨_, rfl, .inl ⟨rfl, _, SqL.of hu2⟩, u2, _, _, rfl, rfl, hu2, ?_, ?_⟩
          · rw [List.length_map]
            have := T2.few
            rw [List.length_map] at this
            exact small1000 (by omega)
          -- the told list is lengthened
          have s16 : Same H14 (upd H15 u2 (.lst ((ks2.map fun q => V.ref q.1) ++ [V.non]))) := fun c o e => by
            rw [upd_ne (ne_of_none e n15)]
            exact s15 c o e
          have W16 := W14.same s16
          obtain ⟨⟨dx16, ob16⟩, li16, tu16⟩ := W16.wb
          refine ⟨_, rfl, p, dx16, _, rfl, ob16, wf_no _ _ _ (by decide +kernel) (by decide +kernel) (by decide +kernel), _, rfl, _, rfl, _, rfl, rfl, rfl, aud_r W16 L pp m1 c0 c1 b0 b1 ((s13.trans (s14.trans s16)) _ _ hsp) fun ks3 u3 H17 T3 s17 n17 hu3 tk3 => ?_⟩
          have e31 : ks3.map (·.2) = ks1.map (·.2) := T3.one T1 (hj b) m1
          have d1 : Dp K H17 (.ref u1) (lisD (ks1.map (·.2))) := dp_lis (s17 _ _ (s16 _ _ hu1)) fun q hq => s17 _ _ (s16 _ _ (tk1 q hq))
          refine ⟨_, rfl, _, _, dp_lis hu3 tk3, d1, lis_shaped _, lis_shaped _, _, rfl, ?_⟩
          show if (!PyData.eqv (lisD (ks3.map (·.2))) (lisD (ks1.map (·.2)))) = true then _ else _
          rw [e31, lis_eqv]
          exact iteF ⟨_, _, _, rfl, s13.trans (s14.trans (s16.trans s17))⟩
        · rintro σ H13 ⟨v8, v9, v10, rfl, s13⟩
          have W13 := W12.same s13
          obtain ⟨⟨dx14, ob14⟩, li14, tu14⟩ := W13.wb
          refine ⟨_, rfl, p, dx14, _, rfl, ob14, wf_no _ _ _ (by decide +kernel) (by decide +kernel) (by decide +kernel), _, rfl, _, rfl, ?_⟩
          dsimp only [tNil, List.cons_append, List.nil_append]
          refine aud_r W13 L pp m1 c0 c1 b0 b1 (s13 _ _ hsp) fun ks3 u3 H17 T3 s17 n17 hu3 tk3 => ?_
          have W17 := W13.same s17
          refine ⟨_, rfl, _, rfl, _, rfl, t, a, sp, pl, mn, pc, b, false, ps, rfl, W17.tp, W17.la, W17.tu, lk, pp, few, m1, s17 _ _ (s13 _ _ hsp), fun ks1 u1 H18 T1 s18 n18 hu1 tk1 => ?_⟩
          have e31 : ks3.map (·.2) = ks1.map (·.2) := T3.one T1 (hj b) m1
          have d3 : Dp K H18 (.ref u3) (lisD (ks3.map (·.2))) := dp_lis (s18 _ _ hu3) fun q hq => s18 _ _ (tk3 q hq)
          refine ⟨_, _, d3, dp_lis hu1 tk1, lis_shaped _, lis_shaped _, _, rfl, ?_⟩
          show if (!PyData.eqv (lisD (ks3.map (·.2))) (lisD (ks1.map (·.2)))) = true then _ else _
          rw [e31, lis_eqv]
          have s12' := s13.trans (s17.trans s18)
          exact iteF ⟨_, _, _, _, _, rfl, b9.trans (b12.trans (But.of s12')), (G12.to (s12' gA)).up (by omega)⟩
      · rintro σ H' ⟨v6, v7, v8, v9, v10, rfl, b9, G9'⟩
        exact ⟨_, _, _, _, _, _, rfl, b7.trans (b79.trans b9), G9'.up (by rw [hpl]; omega)⟩
    · rintro σ H' ⟨v5, v6, v7, v8, v9, v10, rfl, b6, G7⟩
      have W7 := W6.but b6 G6.some_ aG lG
      have pm := srt_perm ps
      have few2 : (srt ps).length ≤ 20 := by
        rw [pm.length_eq]
        exact few
      refine ⟨_, rfl, _, rfl, t, _, 0, .int pl, rfl, rfl, SqT.of W7.tp, at0 _ _, p, l, pl, rc, srt ps, rfl, W7.wb, fun q hq => lk q (pm.mem_iff.mp hq), pp, few2, fun H8 s8 => ⟨_, rfl, iteF ?_⟩⟩
      have W8 := W7.same s8
      obtain ⟨⟨dx8, ob8⟩, li8, tu8⟩ := W8.wb
      refine ⟨_, rfl, p, dx8, _, rfl, ob8, wf_no _ _ _ (by decide +kernel) (by decide +kernel) (by decide +kernel), p, l, pl, rc, srt ps, rfl, W8.wb, fun a9 n9 => ?_⟩
      have s9 := upd_same_as (o := .lst ((srt ps).map fun q => V.ref q.1)) n9
      have W9 := W8.same s9
      refine ⟨_, rfl, t, _, 1, .ref a, rfl, rfl, SqT.of W9.tp, at1 _ _, a, ps, 2, rfl, SqL.of W9.la, fun r hr => SqT.of (W9.tu r hr), fun r hr => ?_, fun l2 nl2 => ?_⟩
      · obtain ⟨i1, j1, d1, el, _⟩ := lk r hr
        rw [el] <;> rfl
      have s10 := upd_same_as (o := .lst ((srt ps).map fun q => V.ref q.1)) nl2
      have W10 := W9.same s10
      refine ⟨lisD ((srt ps).map (·.2)), lisD ((srt ps).map (·.2)), dp_lis (s10 _ _ upd_same) W10.wb.tu, dp_lis upd_same W10.wb.tu, lis_shaped _, lis_shaped _, _, rfl, ?_⟩
      show if (!PyData.eqv (lisD ((srt ps).map (·.2))) (lisD ((srt ps).map (·.2)))) = true then _ else _
      rw [lis_eqv]
      refine iteF ⟨_, _, _, _, _, _, _, _, _, _, rfl, s0.trans (But.new s1 ng (b16.trans (b6.trans (But.of (s8.trans (s9.trans s10))))))⟩
end
end Kx
/-! The head: facts by names, the run. -/
namespace Kx
open PySem PySem.Spec PyProof.Rows L2 Xa Xb Xc Xd Xs Xp Xm
abbrev sXN : Stmt := inClass (top 2) 0
abbrev sXS : Stmt := inClass (top 5) 0
def dTop (x : Str) (st : Stmt) : He.DefD := ⟨(x, none), x, x, defArgs st, defBody st, defScope st, [], []⟩
def dMet (c m q : Str) (st : Stmt) (dfl : List He.Dv) (kwd : List (Str × He.Dv)) : He.DefD := ⟨(c, some m), m, q, defArgs st, defBody st, defScope st, dfl, kwd⟩
def dfs : List He.DefD := [dMet "InvalidNumber" "__init__" "InvalidNumber.__init__" sXN [.non] [], dMet "InvalidSpot" "__init__" "InvalidSpot.__init__" sXS [.non] [],
  dMet "Web" "__init__" "Web.__init__" sWInit [] [], dMet "Web" "hears" "Web.hears" sWHears [] [], dMet "Web" "audible" "Web.audible" sWAud [] [("ring", .bl false)],
  dTop "is_whole" sWhole, dTop "is_between" sBetween, dTop "is_spot" sIsSpot, dTop "check_count" sCkCount, dTop "check_spot" sCkSpot, dTop "check_ring" sCkRing, dTop "is_item" sIsItem, dTop "check_items" sItems,
  dTop "_law_cell" sCell, dTop "_law_hash" sHash, dTop "_law_generator" sGener, dTop "_law_random" sRandom, dTop "_law_web_parts" sParts, dTop "_law_heard" sHeard, dTop "_law_caught" sCaught, dTop "_law_refused" sRefused, dTop "law" sLaw, dTop "check_places" sCkPlaces]
def fas : List He.Fa := [.glo "WatchError", .glo "InvalidNumber", .glo "InvalidSpot", .glo "Web", .glo "FARTHEST",
  .glo "is_whole", .glo "is_between", .glo "is_spot", .glo "check_count", .glo "check_spot", .glo "check_ring", .glo "is_item", .glo "check_items",
  .glo "_law_cell", .glo "_law_hash", .glo "_law_generator", .glo "_law_random", .glo "_law_web_parts", .glo "_law_heard", .glo "_law_caught", .glo "_law_refused", .glo "law",
  .free "len", .free "int", .free "max", .free "range", .free "isinstance", .free "bool", .free "tuple", .free "list", .free "set", .free "sorted", .free "abs", .free "repr",
  .cls "Web", .noat "Web" "places", .noat "Web" "reach", .noat "Web" "_hears", .meth "Web" "hears", .meth "Web" "audible", .mkr "Web", .glo "check_places", .int "MOST_PLACES" 2]
/-- WatchError's own reads -/
def wbB (K : PySem.W.Frag) : Bool := PySem.W.readsIn K (He.ga K "WatchError") (.type "type") && (He.eqO (PySem.W.specialIn K (.ref (He.ga K "WatchError")) "__getattribute__") (some (some (.builtin "type.__getattribute__"))) &&
  (match PySem.W.findCls K (.ref (He.ga K "WatchError")) (.type "type") "__init__" with
  | some (.val (.builtin n)) => n == "ValueError.__init__"
  | _ => false))
/-- an error class and its __init__ -/
def xmB (K : PySem.W.Frag) (x f : Str) : Bool := xclsB K (He.ga K x) f && (He.eqO (PySem.W.findIn K (.ref (He.ga K x)) "__init__") (some (some (.ref (He.ma K (He.ga K x) "__init__")))) && decide (PySem.W.typeIn K (.ref (He.ma K (He.ga K x) "__init__")) = some (.type "function")))
def kitE (K : PySem.W.Frag) (x y : Str) (b : Bool) : Bool := decide (PySem.W.kitOne K (.ref (He.ga K x)) (.ref (He.ga K y)) = some b)
def exB (K : PySem.W.Frag) : Bool := wbB K && (xmB K "InvalidNumber" "value" && (xmB K "InvalidSpot" "value" && (farB K (He.ga K "FARTHEST") &&
  (kitE K "InvalidNumber" "InvalidNumber" true && (kitE K "InvalidNumber" "InvalidSpot" false && (kitE K "InvalidSpot" "InvalidNumber" false && (kitE K "InvalidSpot" "InvalidSpot" true &&
  (decide (PySem.W.exmOne K (.ref (He.ga K "InvalidNumber")) (.ref (He.ga K "WatchError")) = some true) && decide (PySem.W.exmOne K (.ref (He.ga K "InvalidSpot")) (.ref (He.ga K "WatchError")) = some true)))))))))
abbrev RR : PySem.W.OpenRow := PySem.W.OpenLaw.row PySem.Challenge.rw_hearunlike_k11_what_watchers_hear
/-- the part of the heap that is looked at -/
def frY (g : Addr → Option Obj) : PySem.W.Frag := He.frG g (cStatics :: He.asD g 6)
def obY (g : Addr → Option Obj) : He.AlD × Bool := (He.obsD fas dfs (frY g), exB (frY g))
/-- what is told of it -/
structure Says (K : PySem.W.Frag) (h : Heap) : Prop where
  inn : K.In h
  dd : He.SaysD fas dfs K
  ex : exB K = true
def hkX : PySem.W.Hook where
  α := He.AlD × Bool
  obs := fun s => obY s.heap.get?
  val := fun _ => (He.valD dfs, true)
  says := fun _ h => ∃ K : PySem.W.Frag, Says K h
  of := fun _ _ e => ⟨_, He.frG_in, congrArg (fun z : He.AlD × Bool => z.1) e, congrArg (fun z : He.AlD × Bool => z.2) e⟩
  keeps := fun _ _ _ ⟨K, c⟩ k => ⟨K, PySem.W.Frag.In.keeps c.inn k, c.dd, c.ex⟩
def obX (s : PySem.W.SharedT) : He.AlD × Bool := obY (HandSHeadRun.getT s)
theorem obX_eq (s : PySem.W.SharedT) : obX s = hkX.obs s.abs := by
  show obY (HandSHeadRun.getT s) = obY s.abs.heap.get?
  rw [show HandSHeadRun.getT s = s.abs.heap.get? from funext (HandSHeadRun.getT_eq s)]
def loose : List Str := ["WatchError", "InvalidNumber", "InvalidList", "InvalidItem", "InvalidSpot", "is_whole", "is_between", "is_spot", "check_places", "MOST_PLACES", "check_count", "check_spot", "check_ring", "FARTHEST", "Web", "is_item", "check_items",
  "_law_cell", "_law_hash", "_law_generator", "_law_random", "_law_web_parts", "_law_heard", "_law_caught", "_law_refused"]
theorem runX (w : World) : HandSHeadRun.RunEq RR (PySem.W.view RR.prog [29]) hkX obX 12000 loose w := by
  refine PySem.W.byRow2 "special-get-raises" (P := fun w => HandSHeadRun.RunEq RR (PySem.W.view RR.prog [29]) hkX obX 12000 loose w) (fun w => ?_) (fun w => ?_) w
  · intro os
    kernel_rfl
  · intro os
    kernel_rfl
end Kx
/-! The facts joined. -/
namespace Kx
open PySem PySem.Spec PyProof.Rows L2 Xa Xb Xc Xd Xs Xp Xm
section
variable {P : Program} {w : World} {K : PySem.W.Frag} {mg : Str → Option Value} {base h : Heap}
theorem dfnAt (c : Says K h) (G : h.Ns mainGlobals mg) (i j : Nat) {x : Str} {st : Stmt} (hd : dfs[i]? = some (dTop x st) := by rfl) (hf : fas[j]? = some (.glo x) := by rfl) : Dfn K mg x st :=
  ⟨let ⟨fd, F⟩ := c.dd.def_ i hd; ⟨_, fd, F, He.glo_ok c.inn G (c.dd.fact j hf)⟩⟩
theorem gloAt (c : Says K h) (G : h.Ns mainGlobals mg) (j : Nat) {x : Str} (hf : fas[j]? = some (.glo x) := by rfl) : mg x = some (.ref (He.ga K x)) := He.glo_ok c.inn G (c.dd.fact j hf)
theorem freeAt (c : Says K h) (G : h.Ns mainGlobals mg) (j : Nat) {x : Str} (hf : fas[j]? = some (.free x) := by rfl) : mg x = none := He.free_ok c.inn G (c.dd.fact j hf)
theorem bi2 (c : Says K h) (G : h.Ns mainGlobals mg) : Bi2 mg := ⟨⟨freeAt c G 22, freeAt c G 23, freeAt c G 24, freeAt c G 25⟩, freeAt c G 26, freeAt c G 27, freeAt c G 28, freeAt c G 29, freeAt c G 30, freeAt c G 31, freeAt c G 32, freeAt c G 33⟩
/-- what exB tells -/
structure Ex (K : PySem.W.Frag) : Prop where
  wb : wbB K = true
  xn : xmB K "InvalidNumber" "value" = true
  xs : xmB K "InvalidSpot" "value" = true
  far : farB K (He.ga K "FARTHEST") = true
  k1 : kitE K "InvalidNumber" "InvalidNumber" true = true
  k2 : kitE K "InvalidNumber" "InvalidSpot" false = true
  k3 : kitE K "InvalidSpot" "InvalidNumber" false = true
  k4 : kitE K "InvalidSpot" "InvalidSpot" true = true
  e1 : PySem.W.exmOne K (.ref (He.ga K "InvalidNumber")) (.ref (He.ga K "WatchError")) = some true
  e2 : PySem.W.exmOne K (.ref (He.ga K "InvalidSpot")) (.ref (He.ga K "WatchError")) = some true
theorem ex_of (c : exB K = true) : Ex K := by
  obtain ⟨a1, c⟩ := He.ba c
  obtain ⟨a2, c⟩ := He.ba c
  obtain ⟨a3, c⟩ := He.ba c
  obtain ⟨a4, c⟩ := He.ba c
  obtain ⟨a5, c⟩ := He.ba c
  obtain ⟨a6, c⟩ := He.ba c
  obtain ⟨a7, c⟩ := He.ba c
  obtain ⟨a8, c⟩ := He.ba c
  obtain ⟨a9, a0⟩ := He.ba c
  exact ⟨a1, a2, a3, a4, a5, a6, a7, a8, of_decide_eq_true a9, of_decide_eq_true a0⟩
theorem wbase (c : Says K h) (G : h.Ns mainGlobals mg) (e : Ex K) : WBase K mg "WatchError" := by
  obtain ⟨a1, c2⟩ := He.ba e.wb
  obtain ⟨a2, a3⟩ := He.ba c2
  refine ⟨He.ga K "WatchError", .type "type", gloAt c G 0, a1, He.eqO_ok a2, ?_⟩
  split at a3
  · rename_i n q
    rw [q, beq_iff_eq.mp a3]
  · cases a3
theorem bindsX {x qual : Str} {params : Arguments} {body : List Stmt} {scope : Scope} {f : Addr} {fd : FuncData} {ps : List Str} (F : FunD K x qual params body scope [.non] [] f fd) (hn : ps.length = 2)
    (hb : ∀ (T : Addr) (kV doc pm : Value) (an : Option Addr) (cdv ct : Value) (us its : List Value), us.length = 2 → its.length = 1 →
      ∃ k, bindArgs (PySem.W.fnOf x qual params body scope (.ref T) kV doc pm an cdv ct) ⟨us, []⟩ = seqItems? (.ref T) >>= k ∧ k (some its.toArray) = pure (ps.zip (us ++ its.drop 1))) : Binds K fd ps [] := by
  obtain ⟨ds, r, b⟩ := F.binds1 (ps := ps) 2 1 (by simp) (by rw [hn] <;> rfl) hb
  cases r
  exact b
theorem scXN : FnScope ["self", "value"] ["self", "value"] (defScope sXN) := ⟨rfl, rfl, rfl, by decide +kernel, rfl, by decide +kernel, by decide +kernel⟩
theorem scXS : FnScope ["self", "value"] ["self", "value"] (defScope sXS) := ⟨rfl, rfl, rfl, by decide +kernel, rfl, by decide +kernel, by decide +kernel⟩
theorem makeN (c : Says K h) (G : h.Ns mainGlobals mg) (e : Ex K) : XMake P w K mg base "InvalidNumber" (He.ga K "InvalidNumber") "value" := by
  obtain ⟨a1, c2⟩ := He.ba e.xn
  obtain ⟨a2, a3⟩ := He.ba c2
  obtain ⟨fd, F⟩ := c.dd.def_ 0 (d := dMet "InvalidNumber" "__init__" "InvalidNumber.__init__" sXN [.non] []) rfl
  have T := xcls_ok a1
  exact ⟨T, gloAt c G 1, _, fd, He.eqO_ok a2, of_decide_eq_true a3, ok_xi (f := "value") F scXN T (wbase c G e) rfl rfl rfl (fun _ _ _ => ⟨_, rfl⟩) (by decide) (by decide), bindsX F rfl fun T kV doc pm an cdv ct us its h1 h2 => match us, its, h1, h2 with | [_, _], [_], _, _ => ⟨_, rfl, rfl⟩⟩
theorem makeS (c : Says K h) (G : h.Ns mainGlobals mg) (e : Ex K) : XMake P w K mg base "InvalidSpot" (He.ga K "InvalidSpot") "value" := by
  obtain ⟨a1, c2⟩ := He.ba e.xs
  obtain ⟨a2, a3⟩ := He.ba c2
  obtain ⟨fd, F⟩ := c.dd.def_ 1 (d := dMet "InvalidSpot" "__init__" "InvalidSpot.__init__" sXS [.non] []) rfl
  have T := xcls_ok a1
  exact ⟨T, gloAt c G 2, _, fd, He.eqO_ok a2, of_decide_eq_true a3, ok_xi (f := "value") F scXS T (wbase c G e) rfl rfl rfl (fun _ _ _ => ⟨_, rfl⟩) (by decide) (by decide), bindsX F rfl fun T kV doc pm an cdv ct us its h1 h2 => match us, its, h1, h2 with | [_, _], [_], _, _ => ⟨_, rfl, rfl⟩⟩
theorem errF (c : Says K h) (G : h.Ns mainGlobals mg) (e : Ex K) : ErrF K mg (He.ga K "WatchError") (He.ga K "InvalidNumber") (He.ga K "InvalidSpot") :=
  ⟨gloAt c G 0, gloAt c G 1, gloAt c G 2, of_decide_eq_true e.k1, of_decide_eq_true e.k2, of_decide_eq_true e.k3, of_decide_eq_true e.k4, e.e1, e.e2, xcls_ok (He.ba e.xn).1, xcls_ok (He.ba e.xs).1⟩
/-! ### the program -/
theorem cWhole (c : Says K h) (G : h.Ns mainGlobals mg) : Can P w K mg base CX0 1 "is_whole" ["value"] (spWhole K) := can_whole (dfnAt c G 5 5) (bi2 c G)
theorem cBetween (c : Says K h) (G : h.Ns mainGlobals mg) : Can P w K mg base CX0 2 "is_between" ["value", "low", "high"] (spBetween K) := can_between (dfnAt c G 6 6) (cWhole c G)
theorem webF (c : Says K h) (G : h.Ns mainGlobals mg) (e : Ex K) : WebF P w K mg base (He.ga K "Web") (He.ga K "InvalidNumber") (He.ga K "InvalidSpot") := by
  have B := bi2 c G
  have cS := can_isspot (P := P) (w := w) (base := base) (dfnAt c G 7 7) B (cBetween c G)
  have c1 := can_ckcount (P := P) (w := w) (base := base) (dfnAt c G 8 8) (makeN c G e) (cWhole c G)
  have c2 := can_ckspot (dfnAt c G 9 9) (makeS c G e) cS
  have c3 := can_ckring (P := P) (w := w) (base := base) (dfnAt c G 10 10) B (makeN c G e)
  have cI := can_isitem (dfnAt c G 11 11) B (cBetween (P := P) (w := w) (base := base) c G) (gloAt c G 4) e.far
  obtain ⟨tm, gM⟩ := He.int_ok c.inn G (c.dd.fact 42 (f := .int "MOST_PLACES" 2) rfl)
  have cK := can_ckplaces (P := P) (w := w) (base := base) (dfnAt c G 22 41) gM (makeN c G e) (cBetween c G)
  have c4 := can_items (dfnAt c G 12 12) B cI
  have T : WTxt K mg (He.ga K "Web") := ⟨He.cls_ok (c.dd.fact 34 (f := .cls "Web") rfl), He.noat_ok (c.dd.fact 35 (f := .noat "Web" "places") rfl), He.noat_ok (c.dd.fact 36 (f := .noat "Web" "reach") rfl), He.noat_ok (c.dd.fact 37 (f := .noat "Web" "_hears") rfl), gloAt c G 3⟩
  obtain ⟨fd2, F2⟩ := c.dd.def_ 2 (d := dMet "Web" "__init__" "Web.__init__" sWInit [] []) rfl
  obtain ⟨fd3, F3⟩ := c.dd.def_ 3 (d := dMet "Web" "hears" "Web.hears" sWHears [] []) rfl
  obtain ⟨fd4, F4⟩ := c.dd.def_ 4 (d := dMet "Web" "audible" "Web.audible" sWAud [] [("ring", .bl false)]) rfl
  obtain ⟨ds, dA, bA⟩ := FunD.binds0 (ps := ["self", "n", "spot", "ring"]) F4 3 (by simp [dMet, He.DefD.kws]) rfl fun D doc pm an cdv ct us ks h1 h2 => match us, ks, h1, h2 with | [_, _, _], [_], _, _ => ⟨_, _, _, _, _, _, rfl, rfl, rfl⟩
  refine ⟨⟨T, _, fd4, ds, He.meth_ok (c.dd.fact 39 (f := .meth "Web" "audible") rfl), ok_aud F4 T B c1 c2 c3, kb0 F4 3 ["ring"] fun kV doc pm an cdv ct us ws h1 h2 => match us, ws, h1, h2 with | [_, _, _], [_], _, _ => rfl, bA, dA⟩,
    ⟨_, fd2, He.mkr_ok (c.dd.fact 40 (f := .mkr "Web") rfl), ok_winit F2 T B cK c4, F2.bindsN fun _ _ _ _ _ _ us hl => match us, hl with | [_, _, _], _ => rfl⟩,
    ⟨_, fd3, He.meth_ok (c.dd.fact 38 (f := .meth "Web" "hears") rfl), ok_hears F3 T B, F3.bindsN fun _ _ _ _ _ _ us hl => match us, hl with | [_], _ => rfl⟩⟩
theorem lawF (c : Says K h) (G : h.Ns mainGlobals mg) (e : Ex K) : LawF P w K mg base (He.ga K "Web") := by
  have B := bi2 c G
  obtain ⟨fC, fdC, FC, gC⟩ := (dfnAt c G 13 13 : Dfn K mg "_law_cell" sCell).at_
  obtain ⟨fH, fdH, FH, gH⟩ := (dfnAt c G 14 14 : Dfn K mg "_law_hash" sHash).at_
  obtain ⟨fG, fdG, FG, gG⟩ := (dfnAt c G 15 15 : Dfn K mg "_law_generator" sGener).at_
  obtain ⟨fR, fdR, FR, gR⟩ := (dfnAt c G 16 16 : Dfn K mg "_law_random" sRandom).at_
  obtain ⟨fP, fdP, FP, gP⟩ := (dfnAt c G 17 17 : Dfn K mg "_law_web_parts" sParts).at_
  have cC := can_caught (dfnAt c G 19 19) B (webF (P := P) (w := w) (base := base) c G e).aud (errF c G e)
  exact ⟨FnG.can (ok_gener FG B.toBi FC gC) FG gG fun _ _ _ _ _ _ us hl => match us, hl with | [_, _], _ => rfl,
    FnG.can (ok_random FR B.toBi FH gH) FR gR fun _ _ _ _ _ _ us hl => match us, hl with | [_, _], _ => rfl,
    FnG.can (ok_parts FP B.toBi FR gR FH gH) FP gP fun _ _ _ _ _ _ us hl => match us, hl with | [_], _ => rfl,
    can_heard (dfnAt c G 18 18) B, can_refused (dfnAt c G 20 20) B cC⟩
end
end Kx
open PySem PySem.W PySem.Calls PyProof.Rows
theorem PySem.Challenge.cw_hearunlike_k11_what_watchers_hear_holds : PySem.Challenge.rw_hearunlike_k11_what_watchers_hear.Holds := by
  w_on; o_law
  refine HandSHeadRun.head_any (r := Kx.RR) (q := view Kx.RR.prog [29]) (H := Kx.hkX) (ob := Kx.obX) (M := 12000) (loose := Kx.loose) (d := HandSHeadRun.topDef Kx.RR.prog 29) (kwd := []) Kx.obX_eq
    (by kernel_rfl) (fun s => by kernel_rfl) Kx.runX (by kernel_rfl) (by kernel_rfl) (by kernel_rfl) (by rfl) (by first | assumption | decide +kernel) (by decide +kernel) ⟨rfl, rfl, rfl, rfl, rfl, by decide +kernel⟩ ?hw ?hc
  case hw => w_witness2
  case hc =>
    refine Xh.walkG (l := PySem.Challenge.rw_hearunlike_k11_what_watchers_hear) (n := 63) (k := 8) (x := "script") rfl (by decide) (by kernel_rfl) ⟨rfl, by decide, by decide⟩ rfl ?F
    intro w mg fa h Y G hmg0
    obtain ⟨K, c⟩ := Y
    have hmg : mg ("law" : PySem.Str) = some (.ref fa) := by
      have e : (HandSHeadRun.topDef Kx.RR.prog 29).name = ("law" : PySem.Str) := by kernel_rfl
      rw [← e]
      exact hmg0
    obtain ⟨fd, F⟩ := c.dd.def_ 21 (d := Kx.dTop "law" Kx.sLaw) rfl
    have e := hmg.symm.trans (Kx.gloAt c G 21)
    cases e
    have ex := Kx.ex_of c.ex
    have b := L2.FunD.bindsA (ps := ["script"]) F fun _ _ _ _ _ _ us hl => match us, hl with | [_], _ => rfl
    exact ⟨K, fd, Kx.spLaw K, c.inn, fun s v => b s [v] rfl, fun H a ns hS => ⟨a, ns, rfl, hS, fun _ => rfl⟩, fun base => Kx.fn_law F (Kx.bi2 c G) (Kx.webF c G ex) (Kx.lawF c G ex)⟩
