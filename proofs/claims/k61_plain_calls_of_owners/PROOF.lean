import PyProof.Rows.All
import KE.KSortTup
import KE.KDictOf
import KE.KNestM
import KE.KItemsList
import KE.KIsAll
import KE.KLam
import KE.KRevIter
import KE.KSortedM
import PyProof.StrWalks
import PyProof.SetKind
import PyProof.AttrMissHeap
import PyProof.DictUpdate
import KE.KUnpack
import PySem.Challenge.RW_lendrule_k61_plain_calls_of_owners
set_option maxHeartbeats 0
set_option Elab.async false
set_option linter.all false
set_option maxRecDepth 100000
noncomputable section
section
open PySem PySem.Spec PyProof.Rows
def mh:=@PyProof.Rows.slot_tuple_getitem
def mi:=@List.eq_nil_of_length_eq_zero
def DD:=@F.args_tuple_iterator_next_1
def j5:=@PyProof.Rows.callWith_type1
def DE:=@F.entry_tuple_iterator_next
def td:=@F.slot_tuple_iterator_next
def DF:=@PySem.F.args_object_init_3
def iw:=@List.getElem?_append_right
def j6:=@List.getD_eq_getElem?_getD
def DG:=@Calls.Name_function_global
def oF:=@Array.getElem?_eq_getElem
def fy:=@List.getElem?_append_left
def c8:=@List.getElem?_eq_some_iff
def gL:=@List.getElem?_eq_none_iff
def xP:=@List.drop_eq_getElem_cons
def xQ:=@F.slot_list_getattribute
def oG:=@List.eq_of_mem_replicate
def dW:=@List.getElem?_eq_getElem
def iW:=@AutoSeq1.wpAny_loadPart'
def tf:=@List.filterMap_cons_none
def xR:=@PySem.F.args_tuple_mul_2
def xS:=@PySem.F.args_tuple_add_2
def tj:=@List.filterMap_cons_some
def xT:=@PySem.F.entry_tuple_mul
def fA:=@wpAny_callSpecial?_slot
def xU:=@PySem.F.entry_tuple_add
def xV:=@PySem.F.plainAttrs_list
def j7:=@Array.getElem?_eq_none
def j8:=@Option.map_eq_some_iff
def iX:=@Heap.get?_update_other
def aH:=@Heap.get?_push_of_some
def tm:=@List.take_of_length_le
def xW:=@PySem.F.slot_tuple_mul
def tq:=@List.getElem?_set_self
def xX:=@PySem.F.slot_tuple_add
def xY:=@builtinLookup_eq_fast
def xZ:=@Array.getElem?_toList
def tu:=@List.getElem?_eq_none
def mj:=@Heap.get?_update_self
def eP:=@List.mem_append_right
def tw:=@List.mem_iff_getElem?
def cO:=@List.mem_cons_of_mem
def tx:=@Around.under_plainId
def oH:=@Bool.and_eq_true_iff
def mm:=@List.mem_append_left
def cP:=@List.mem_of_getElem?
def aL:=@List.getElem?_set_ne
def ya:=@wpAny_updateSeq_pair
def eQ:=@List.replicate_succ
def tD:=@F.plain_extend_loop
def yb:=@List.filterMap_cons
def yc:=@List.mem_map_of_mem
def yd:=@List.map_congr_left
def bI:=@beq_eq_false_iff_ne
def ye:=@List.getElem?_range
def eR:=@PySem.mem_of_lookup
def oI:=@Array.length_toList
def tF:=@Int.toNat_of_nonneg
def bE:=@Heap.get?_push_size
def dk:=@List.mem_cons_self
def oJ:=@List.mem_filterMap
def cQ:=@Bool.false_ne_true
def mn:=@Nat.lt_of_le_of_lt
def tH:=@tupleKind_room_in1
def iY:=@Bool.false_eq_true
def cm:=@List.mem_singleton
def ix:=@Int.emod_lt_of_pos
def bM:=@Nat.lt_of_lt_of_le
def j9:=@wpAny_setField_rec
def bX:=@List.length_append
def kd:=@wpAny_Call_Name_kw
def cy:=@List.size_toArray
def mq:=@F.args_zip_next_1
def gM:=@List.map_inj_left
def ej:=@List.append_assoc
def iZ:=@Int.toNat_natCast
def kf:=@wpAny_newObj_type
def kh:=@wpAny_truthy_bool
def tJ:=@decide_eq_true_eq
def yf:=@wpAny_pyIter_list
def mr:=@List.length_range
def yg:=@Bool.not_eq_true'
def yh:=@List.nodup_append
def bB:=@List.getElem?_map
def gN:=@of_decide_eq_true
def i4:=@List.flatten_cons
def tK:=@Heap.size_update
def yi:=@Option.getD_some
def tM:=@wpAny_isInstance
def fR:=@wpAny_call_entry
def yj:=@List.isEmpty_iff
def yk:=@wpAny_pyIter_zip
def yl:=@Nat.le_of_not_lt
def ym:=@List.getElem_mem
def cJ:=@List.length_cons
def yn:=@noFill_tuple_add
def mv:=@Nat.lt_succ_self
def ek:=@List.lookup_cons
def i5:=@beq_self_eq_true
def aF:=@Bool.and_eq_true
def yo:=@Option.getD_none
def tN:=@Around.in1_units
def yp:=@Nat.le_add_right
def tO:=@List.length_drop
def eS:=@List.all_eq_true
def i6:=@Option.bind_some
def c9:=@List.not_mem_nil
def mw:=@List.length_take
def mx:=@F.entry_zip_next
def oK:=@wpAny_ite_false
def my:=@List.length_set
def oM:=@wpAny_updateSeq
def cW:=@List.mem_append
def fB:=@F.slot_zip_next
def yq:=@List.mem_filter
def ki:=@List.length_nil
def yr:=@Option.map_some
def fD:=@List.map_append
def mz:=@List.nodup_cons
def kj:=@wpAny_passesOwn
def kl:=@List.foldl_cons
def et:=@Int.emod_nonneg
def dE:=@List.append_nil
def tP:=@codeAny_builtin
def yt:=@List.of_mem_zip
def gO:=@List.nil_append
def oN:=@Nat.min_eq_left
def tQ:=@wpAny_execs_nil
def aM:=@List.length_map
def bJ:=@Option.some.inj
def oO:=@List.find?_cons
def yu:=@typeLookup_type
def oP:=@List.forIn_cons
def yv:=@List.cons.injEq
def yw:=@List.range_succ
def cz:=@decide_eq_false
def tU:=@List.nodup_nil
def dF:=@Heap.size_push
def dX:=@decide_eq_true
def ay:=@Bool.and_false
def tV:=@List.mem_range
def fS:=@wpAny_seqItems
def tW:=@List.forIn_nil
def tY:=@isSubtype_stop
def tZ:=@Nat.mul_le_mul
def mB:=@Bool.true_and
def mC:=@List.any_cons
def t8:=@plainId_quiet
def km:=@Bool.and_self
def bh:=@List.mem_cons
def t9:=@List.map_take
def aQ:=@List.map_cons
def eU:=@Nat.lt_irrefl
def i7:=@List.all_cons
def i8:=@Prod.mk.injEq
def ua:=@wpAny_standAt
def bY:=@Bool.and_true
def dY:=@wpAny_holding
def ub:=@wpAny_onRaise
def kn:=@wpAny_attempt
def mD:=@Paired.length
def cq:=@Bool.or_true
def oQ:=@codeAny_mono
def i9:=@Nat.le_of_eq
def aG:=@Heap.lt_size
def oR:=@Nat.zero_add
def aB:=@Bool.or_self
def uc:=@Nat.le_of_lt
def mE:=@wpAny_typeOf
def oS:=@Nat.ne_of_gt
def eu:=@List.map_nil
def mF:=@List.map_map
def aP:=@Nat.le_trans
def ko:=@Nat.lt_trans
def br:=@Nat.ne_of_lt
def kq:=@Nat.add_zero
def ez:=@List.mem_map
def aD:=@Nat.le_refl
def oT:=@wpAny_letGo
def cD:=@wpAny_field
def ja:=@Nat.zero_le
def kr:=@sizeLine_eq
def ku:=@wpAny_rule
def fE:=@call_meets
def ag:=@wpAny_bind
def aq:=@wpAny_pure
def oU:=@typeIs_int
def oV:=@wpAny_mono
def mG:=@beq_iff_eq
def aU:=@eq_of_beq
def da:=@or_false
def fT:=@congrArg
def fF:=@if_false
def mH:=@tail_any
def fU:=@if_true
def bZ:=@Ne.symm
end
namespace PSh
end PSh
section
namespace L2
open PySem PySem.Spec PyProof.Rows
abbrev dG:=Sum Int Str
inductive V where
 | az | bl (b:Bool) | int (i:Int) | str (x:Str) | P5 (b:Array UInt8) | UH (b:UInt64) | ref (a:Addr) | ty (n:String)
 deriving DecidableEq
def RelV:V->Value->Prop
 | .az,u=>u=Value.none
 | .bl b,u=>u=Value.bool b
 | .int i,u=>∃t,u=Value.int i t
 | .str x,u=>∃t,u=Value.str x t
 | .P5 b,u=>∃t,u=Value.bytes b t
 | .UH b,u=>∃t,u=Value.float b t
 | .ref a,u=>u=Value.ref a
 | .ty n,u=>u=Value.type n
abbrev Vals:List V->List Value->Prop:=Paired RelV
noncomputable def kV:dG->V
 | .inl i=>.int i
 | .inr x=>.str x
inductive HO where
 /-- a list -/
 | lst (xs:List V)
 /-- a tuple (never UI) -/
 | aj (xs:List V)
 /-- a dict KP keys Vz ints and Qz;one KP keys Vz tuples of ints and Qz (HW empty one is aal) -/
 | dK (kvs:List (dG×V)) | dT (xs:List (List dG×Addr×Value))
 /-- a set of ints: ar UJ,ar size -/
 | set (S:Int->Bool) (n:Nat)
 /-- an instance of HW class at C,ar dict at dx,ar LZ -/
 | ins (C dx:Addr) (fs:List (Str×V))
 /-- HW dict of HW instance at x -/
 | own (x:Addr)
 /-- HW dict of an P6 -/
 | xd (fs:List (Str×V))
 /-- a bound method,f of x -/
 | UK (f x:Addr)
 /-- a range DH lo,lo+1,.. below hi -/
 | UL (lo hi:Int)
 /-- a QA aam is Yu to HW DH (HW VA;a dict while a loop Yv it): aan,never written while it is so -/
 | vE (o:Obj) (u:HO)
 /-- a code QB table -/
 | yx (q:Str)
 /-- any other QA,by what is true of ar one DH (a def of Yw own: aao a S n:=HO.ext λh=>..) -/
 | ext (φ:Heap->Prop)
abbrev Hp:=Addr->Option HO
def Rd(H:Hp)(a:Addr)(u:HO):Prop:=H a=some u\/∃o,H a=some (.vE o u)
noncomputable def dm:List Str:=["arrivals","empties","needs","held"]
def gw(K:W.Frag)(H:Hp)(a:Addr)(xs:List V):Prop :=
 Rd H a (.aj xs) \/
  ∃(o:Obj) (ar:Array Value) (n:Nat),K.lookup a=some o/\o.cls=.type "tuple"/\(o.data=.seq ar n/\o.dict=none)/\ar.size<=sizeLine/\Vals xs ar.toList
def iJ(K:W.Frag)(H:Hp)(a:Addr)(xs:List V):Prop :=
 Rd H a (.lst xs)\/∃(ar:List Value) (n:Nat),K.lookup a=some {cls:=.type "list",data:=.seq ar.toArray n}/\ar.length<=sizeLine/\Vals xs ar
structure qS (K:W.Frag) (C:Addr):Prop where
 pg:W.plainGet K C Str.empty=true
 hd:W.hasDictIn K C=true
 po:W.plainOver K C=true
 sa:W.findIn K (.ref C) "__setattr__"=some (some (.builtin "object.__setattr__"))
def gP(K:W.Frag)(C:Addr)(f:Str):Prop:=W.findIn K (.ref C) f=some none
def cE(K:W.Frag)(fd:FuncData)(ps:List Str)(ds:List Value):Prop :=
 ∀(s:Shared) (us:List Value),K.In s.heap->(us++ds).length=ps.length->BindsTo s fd ⟨us,[]⟩ (ps.zip (us++ds))
def cE.all{K:W.Frag}{fd:FuncData}{ps:List Str}(h:∀us:List Value,us.length=ps.length->bindArgs fd ⟨us,[]⟩=pure (ps.zip us)):cE K fd ps []:=λs us _ hl=>by
 rw[dE]at hl ⊢;exact .of_eq (h us hl)
section
variable {X:Cx} {CX:BX} {k:Nat} {f C:Addr} {fd:FuncData} {ps:List Str} {sp:Sp} {jb:List V} {ds:List Value} {E:XK} {x m:Str} {p pos d8:Pos} {e o:Expr} {es:List Expr} {ta:TE} {t:TA}
structure Mk (K:W.Frag) (C f:Addr):Prop where
 makes:W.makesIn K C=true
 init:W.findIn K (.ref C) "__init__"=some (some (.ref f))
 fn:W.isFn K (.ref f)=true
 kp:W.keepIn K (.ref C)=true
end
structure cF (N P:List Str) (sc:Scope):Prop where
 kind:sc.kind=.function
 co:sc.isCoroutine=false
 gen:sc.isGenerator=false
 nd:N.Nodup
 pre:N.take P.length=P
 par:∀x∈P,sc.names.lookup x=some .local\/sc.names.lookup x=some .cell
 nofree:∀y∈sc.names,y.2≠.free
noncomputable def dR(s:Stmt):Arguments:=match s with
 | .FunctionDef _ a _ _ _ _ _ _ _ _=>a
 | _=>{posonlyargs:=[],args:=[],vararg:=none,kwonlyargs:=[],kw_defaults:=[],kwarg:=none,defaults:=[]}
def bR(s:Stmt):List Stmt:=match s with
 | .FunctionDef _ _ b _ _ _ _ _ _ _=>b
 | _=>[]
noncomputable def ao(s:Stmt):Scope:=match s with
 | .FunctionDef _ _ _ _ _ _ sc _ _ _=>sc
 | _=>{kind:=.function,names:=[],isGenerator:=false,isCoroutine:=false}
structure KQ (K:W.Frag) (x qual:Str) (st:Stmt) (f:Addr) (fd:FuncData):Prop where
 ex:∃(oc:Value) (od:Option Addr) (kV doc pm:Value) (an:Option Addr) (cM ct:Value) (oW:Array (Option Value)),
  fd=W.fnOf x qual (dR st) (bR st) (ao st) .none kV doc pm an cM ct/\K.lookup f=some ⟨oc,od,.func fd,oW⟩/\W.codeIn K cM qual=true
 kp:W.keepIn K (.ref f)=true
section
variable {P:Program} {w:World} {K:W.Frag} {mg:Str->Option Value} {base:Heap}
def L3{st:Stmt}{oc:Value}{od an:Option Addr}{oW:Array (Option Value)}{kV doc pm cM ct:Value}(l:K.lookup f=some ⟨oc,od,.func (W.fnOf x qual (dR st) (bR st) (ao st) .none kV doc pm an cM ct),oW⟩)
  (c:W.codeIn K cM qual=true) (k:W.keepIn K (.ref f)=true):KQ K x qual st f (W.fnOf x qual (dR st) (bR st) (ao st) .none kV doc pm an cM ct):=⟨⟨oc,od,kV,doc,pm,an,cM,ct,oW,rfl,l,c⟩,k⟩
end
section
variable {X:Cx} {af:List (Addr×Obj)} {σ:St} {H:Hp} {s:Shared} {a b:Addr} {k:List dG} {v:V} {r:Value} {A:Around} {E:Value->Shared->Prop} {xs:List (List dG×Addr×Value)}
def fG(K:W.Frag)(H:Hp)(xs:List (List dG×Addr×Value)):Prop:=∀x∈xs,gw K H x.2.1 (x.1.map kV)
end
end L2
namespace L2.U
open PySem PySem.Spec PyProof.Rows
inductive Kd where
 | aj | lst | ins (C:Str) (ns:List Str) | eV (t:Bool) (ks:List (List dG))
inductive PV where
 | az | bl (b:Bool) | int (i:Int) | str (x:Str) | ref (n:Nat) | fn (x:Str) | nd (k:Kd) (ps:List PV)
noncomputable abbrev PV.aj (ps:List PV):PV:=.nd .aj ps
structure Fz where
 F:Hp
 μ:List Addr
def ClsAt(K:W.Frag)(C:Str)(cls:Value):Prop:=W.nsIn K mainGlobals C=some (some cls)
def kx(K:W.Frag)(F H:Hp)(a:Addr)(x:Bool):Kd->List V->Prop
 | .aj,vs=>x=false/\gw K H a vs
 | .lst,vs=>if x=true then H a=some (.lst vs)else iJ K H a vs
 | .ins C ns,vs=>∃Ca dx fs,ClsAt K C (.ref Ca)/\qS K Ca/\(∀f∈ns,gP K Ca f)/\H a=some (.ins Ca dx fs)/\fs.map (·.1)=ns/\fs.map (·.2)=vs
 | .eV false ks,vs=>∃kvs:List (dG×V),H a=some (.dK kvs)/\kvs.map (λy=>[y.1])=ks/\kvs.map (·.2)=vs
 | .eV true ks,vs=>∃xs,H a=some (.dT xs)/\fG K F xs/\xs.map (·.1)=ks/\Vals vs (xs.map (·.2.2))
mutual
def bu(K:W.Frag)(F:Fz):PV->V->Prop
 | .az,v=>v=.az
 | .bl b,v=>v=.bl b
 | .int i,v=>v=.int i
 | .str x,v=>v=.str x
 | .ref n,v=>∃a,F.μ[n]?=some a/\v=.ref a
 | .fn x,v=>∃a,v=.ref a/\W.nsIn K mainGlobals x=some (some (.ref a))
 | .nd k ps,v=>∃a vs,v=.ref a/\kx K F.F F.F a false k vs/\au K F ps vs
def au(K:W.Frag)(F:Fz):List PV->List V->Prop
 | [],vs=>vs=[]
 | p::ps,vs=>∃v r,vs=v::r/\bu K F p v/\au K F ps r
end
section
variable {K:W.Frag} {F F':Fz}
def au.nil:au K F [] []:=by simp[au]
def au.cons(h:bu K F p v)(t:au K F ps vs):au K F (p::ps) (v::vs):=by
 simp only[au];exact⟨v,vs,rfl,h,t⟩
def cN:bu K F .az v↔v=.az:=by simp only[bu]
def aZ:bu K F (.bl b) v↔v=.bl b:=by simp only[bu]
def aC:bu K F (.int i) v↔v=.int i:=by simp only[bu]
def bH:bu K F (.str i) v↔v=.str i:=by simp only[bu]
def iy:bu K F (.nd k ps) v↔∃a vs,v=.ref a/\kx K F.F F.F a false k vs/\au K F ps vs:=by simp only[bu]
def bN:bu K F (.aj ps) v↔∃a vs,v=.ref a/\gw K F.F a vs/\au K F ps vs :=
 iy.trans ⟨(by rintro⟨a,vs,h1,h2,h3⟩;exact⟨a,vs,h1,h2.2,h3⟩),(by rintro⟨a,vs,h1,h2,h3⟩;exact⟨a,vs,h1,⟨rfl,h2⟩,h3⟩)⟩
end
end L2.U
namespace L2
open PySem PySem.Spec PyProof.Rows
section
structure DI (K:W.Frag) (C:Addr) (m:Str) (f:Addr):Prop where
  at_:W.findIn K (.ref C) m=some (some (.ref f))
  fn:W.isFn K (.ref f)=true
  kp:W.keepIn K (.ref f)=true
end
end L2
namespace L2.U
open PySem PySem.Spec PyProof.Rows
structure UM (K:W.Frag) (C:Addr):Prop where
 makes:W.makesIn K C=true
 init:W.findIn K (.ref C) "__init__"=some (some (.builtin "object.__init__"))
 kp:W.keepIn K (.ref C)=true
structure qT (K:W.Frag) (x qual:Str) (st:Stmt) (f:Addr) (fd:FuncData) (dV:Value):Prop where
 ex:∃(oc:Value) (od:Option Addr) (kV doc pm:Value) (an:Option Addr) (cM ct:Value) (oW:Array (Option Value)),
  fd=W.fnOf x qual (dR st) (bR st) (ao st) dV kV doc pm an cM ct/\K.lookup f=some ⟨oc,od,.func fd,oW⟩/\W.codeIn K cM qual=true
 kp:W.keepIn K (.ref f)=true
structure Pg where
 defs:List (Str×Stmt)
 cons:List (Str×PV):=[]
 dB:List Str:=[]
 tabs:List (Str×List (Str×Str)):=[]
 eA:List (Str×List (Str×PV)):=[]
 cls:List (Str×Stmt):=[]
 flds:List Str:=[]
 qU:List Str:=[]
 QC:List (Str×List (Str×Nat)):=[]
 fV:List (Str×(Str×Str×Stmt)):=[]
 jA:List (Str×List PV):=[]
 vz:List Str:=[]
def params(st:Stmt):List Str:=(dR st).args.map λa=>a.arg
noncomputable def QD:NameKind->Bool
 | .local=>true
 | .cell=>true
 | _=>false
def bK(st:Stmt):List Str:=params st++((ao st).names.filter λy=>QD y.2&&!(params st).contains y.1).map λy=>y.1
structure DJ (K:W.Frag) (jA:List (Str×List PV)) (x:Str) (st:Stmt):Prop where
 ex:∃f fd dV,W.nsIn K mainGlobals x=some (some (.ref f))/\qT K x x st f fd dV/\cE K fd (params st) []/\(∀ds,jA.lookup x=some ds->∃jb oX,Vals jb oX/\(∀F,au K F ds jb)/\cE K fd (params st) oX)/\(jA.lookup x=none->∀us:List Value,us.length=(params st).length->bindArgs fd ⟨us,[]⟩=pure ((params st).zip us))
 sc:cF (bK st) (params st) (ao st)
def BY(K:W.Frag)(P:Params)(T:Str)(rows:List (Str×Str)):Prop :=
 ∃a es n,W.nsIn K mainGlobals T=some (some (.ref a))/\K.lookup a=some ⟨.type "dict",none,.dict es n,#[]⟩/\W.KeysLit P es.toList/\∀d∈rows,∃f,W.nsIn K a d.1=some (some (.ref f))/\W.nsIn K mainGlobals d.2=some (some (.ref f))
def VB{K:W.Frag}{P:Params}{T:Str}{rows:List (Str×Str)}{a:Addr}{es:Array DictEntry}{n:Nat}(h1:W.nsIn K mainGlobals T=some (some (.ref a)))(h2:K.lookup a=some ⟨.type "dict",none,.dict es n,#[]⟩)(h3:W.KeysLit P es.toList)
  (h4:∀d∈rows,∃f,W.nsIn K a d.1=some (some (.ref f))/\W.nsIn K mainGlobals d.2=some (some (.ref f))):BY K P T rows:=⟨a,es,n,h1,h2,h3,h4⟩
noncomputable def KR:PV->Value->Bool
 | .int i,.int j _=>i==j
 | .str x,.str y _=>x==y
 | .bl a,.bool b=>a==b
 | .az,.none=>true
 | _,_=>false
def kz:List PV->List Value->Bool
 | [],[]=>true
 | p::r,u::q=>KR p u&&kz r q
 | _,_=>false
def L4{K:W.Frag}{p:PV}{u:Value}(h:KR p u=true):∃v,RelV v u/\∀F,bu K F p v:=by
 cases p<;>cases u<;>first | exact absurd h cQ | skip
 ·exact⟨.az,rfl,λF=>cN.mpr rfl⟩
 ·cases aU h;exact⟨.bl _,rfl,λF=>aZ.mpr rfl⟩
 ·cases aU h;exact⟨.int _,⟨_,rfl⟩,λF=>aC.mpr rfl⟩
 ·cases aU h;exact⟨.str _,⟨_,rfl⟩,λF=>bH.mpr rfl⟩
def An{K:W.Frag}{ps:List PV}{us:List Value}(h:kz ps us=true):∃vs,Vals vs us/\∀F,au K F ps vs:=by
 induction ps generalizing us with
 | nil=>cases us;exact⟨[],.nil,λ_=>.nil⟩;cases h
 | cons p r ih =>
  cases us with
  | nil=>cases h
  | cons u q =>
   have h:=oH.mp h;obtain⟨v,a,b⟩:=L4 (K:=K) h.1;obtain⟨vs,h1,h2⟩:=ih h.2;exact⟨v::vs,.cons a h1,λF=>.cons (b F) (h2 F)⟩
def HX{K:W.Frag}{g:Addr}{x:Str}{a:Addr}{ps:List PV}{us:List Value}{n:Nat}{sl:Array (Option Value)}(h1:W.nsIn K g x=some (some (.ref a)))(h2:K.lookup a=some ⟨.type "tuple",none,.seq us.toArray n,sl⟩)(h3:kz ps us=true)(h4:us.length<=100) :
  ∃u v,W.nsIn K g x=some (some u)/\RelV v u/\∀F,bu K F (.aj ps) v:=by
 obtain⟨vs,r,b⟩:=An h3;exact⟨_,.ref a,h1,rfl,λF=>bN.mpr ⟨a,vs,rfl,.inr ⟨_,us.toArray,n,h2,rfl,⟨rfl,rfl⟩,by rw[cy];exact aP h4 (by decide),by grind⟩,b F⟩⟩
def HY{K:W.Frag}{g:Addr}{x:Str}{y:Str}{t:Tok}(a:W.nsIn K g x=some (some (.str y t))):∃u v,W.nsIn K g x=some (some u)/\RelV v u/\∀F,bu K F (.str y) v:=⟨_,.str y,a,⟨t,rfl⟩,λF=>bH.mpr rfl⟩
def HZ{K:W.Frag}{g:Addr}{x:Str}{i:Int}{t:Tok}(a:W.nsIn K g x=some (some (.int i t))):∃u v,W.nsIn K g x=some (some u)/\RelV v u/\∀F,bu K F (.int i) v:=⟨_,.int i,a,⟨t,rfl⟩,λF=>aC.mpr rfl⟩
def vF(K:W.Frag)(P:Params)(T:Str)(rows:List (Str×PV)):Prop :=
 ∃a es n,(a==sysModules)=false/\W.nsIn K mainGlobals T=some (some (.ref a))/\K.lookup a=some ⟨.type "dict",none,.dict es n,#[]⟩/\W.KeysLit P es.toList/\∀d∈rows,∃u v,W.nsIn K a d.1=some (some u)/\RelV v u/\∀F,bu K F d.2 v
def L6(K:W.Frag)(C:Str)(st:Stmt)(flds:List Str):Prop:=∃Ca f fd,W.nsIn K mainGlobals C=some (some (.ref Ca))/\Mk K Ca f/\qS K Ca/\(∀g∈flds,gP K Ca g)/\KQ K "__init__" (C++".__init__") st f fd/\(∀us:List Value,us.length=(params st).length->bindArgs fd ⟨us,[]⟩=pure ((params st).zip us))/\cF (bK st) (params st) (ao st)
def L7(K:W.Frag)(d:Str×(Str×Str×Stmt)):Prop:=∃Ca f fd dV,ClsAt K d.2.1 (.ref Ca)/\DI K Ca d.2.2.1 f/\qT K d.2.2.1 d.1 d.2.2.2 f fd dV/\cE K fd (params d.2.2.2) []/\cF (bK d.2.2.2) (params d.2.2.2) (ao d.2.2.2)
def L8(K:W.Frag)(C:Str):Prop:=∃Ca,ClsAt K C (.ref Ca)/\qS K Ca/\UM K Ca
def L9(K:W.Frag)(x:Str):Prop:=x∈dm/\∃c T,W.tabIn K x=some (c,T)/\W.codeHdIn K c T=true
def DK(K:W.Frag):Prop:=∃bm o,W.nsIn K mainGlobals "__builtins__"=some (some (.ref bm))/\bm≠builtinsNs/\bm≠mainGlobals/\K.lookup bm=some o/\o.cls=.type "module"/\o.dict=some builtinsNs/\o.data=.plain
structure k0 (K:W.Frag) (h:Heap):Prop where
 at_:∀x∈dm,∀c T,W.tabIn K x=some (c,T)->W.codeHdIn K c T=true/\h.get? T=some {cls:=.none,data:=.fields #[]}/\K.lookup T=none
 nd:(dm.filterMap λx=>(W.tabIn K x).map (·.2)).Nodup
def k0.keeps{K:W.Frag}{h h':Heap}(t:k0 K h)(k:∀b o,h.get? b=some o->h'.get? b=some o):k0 K h':=⟨λx hx c T e=>let ⟨h1,h2,h3⟩:=t.at_ x hx c T e;⟨h1,k _ _ h2,h3⟩,t.nd⟩
theorem jB{α β:Type} [BEq α] [LawfulBEq α] {b:α} {q:β}:∀{l:List (α×β)},(l.map (·.1)).Nodup->(b,q)∈l->l.lookup b=some q
 | [],_,h=>nomatch h
 | (a,v)::l,hn,h=>by
  rw[aQ,mz]at hn;rw[ek];rcases bh.mp h with e | h'
  ·grind
  ·have:(b==a)=false:=by
    grind
   rw[this];exact jB hn.2 h'
structure DL (P:Pg) (w:World) (K:W.Frag):Prop where
 hd:∀d∈P.defs,DJ K P.jA d.1 d.2
 hm:∀d∈P.fV,L7 K d
 hm0:∀C∈P.vz,L8 K C
 hc:∀d∈P.cons,∃u v,W.nsIn K mainGlobals d.1=some (some u)/\RelV v u/\∀F,bu K F d.2 v
 hb:∀x∈P.dB,W.nsIn K mainGlobals x=some none
 ht:∀d∈P.tabs,BY K w.params d.1 d.2
 hcl:∀d∈P.cls,L6 K d.1 d.2 P.flds
 hct:∀d∈P.eA,vF K w.params d.1 d.2
 Yx:∀x∈P.qU,L9 K x
 hbm:P.qU≠[]->DK K
noncomputable def oY:Value->List Addr
 | .ref a=>[a]
 | _=>[]
def rD:Option Obj->List Addr
 | some ⟨_,_,.dict es _,_⟩=>es.toList.flatMap λe=>oY e.val
 | some ⟨_,_,.func fd,_⟩=>oY fd.code++oY fd.defaults
 | some ⟨_,_,.cls cd,_⟩=>cd.ns::cd.mro.flatMap oY
 | _=>[]
noncomputable def BZ:Obj->Bool
 | ⟨.none,none,.fields vs,sl⟩=>vs.isEmpty&&sl.isEmpty
 | _=>false
def fragOf(h:Heap):List Addr->W.Frag
 | []=>[]
 | a::r=>match h.get? a with
  | some o=>if BZ o=true then fragOf h r else(a,o)::fragOf h r
  | none=>fragOf h r
theorem fN(h:Heap):∀(as:List Addr) (b:Addr) (o:Obj),(fragOf h as).lookup b=some o->h.get? b=some o/\BZ o=false
 | [],_,_,e=>nomatch e
 | a::r,b,o,e=>by
  unfold fragOf at e;split at e
  ·rename_i o' ho;split at e
   ·exact fN h r b o e
   ·rename_i ht;rw[ek]at e;cases z:b==a with
    | true =>
     rw[z]at e;cases e;rw[aU z];exact⟨ho,by simpa using ht⟩
    | false =>
     rw[z]at e;exact fN h r b o e
  ·exact fN h r b o e
theorem B0(h:Heap)(as:List Addr):(fragOf h as).In h:=λb o e=>(fN h as b o e).1
theorem Ao(h:Heap){b:Addr}{o:Obj}(h1:h.get? b=some o)(h2:BZ o=false):∀as:List Addr,b∈as->(fragOf h as).lookup b=some o
 | a::r,hb=>by
  unfold fragOf;by_cases e:b=a
  ·subst e;rw[h1];show(if BZ o=true then _ else _:W.Frag).lookup b=_
   rw[h2,if_neg cQ,ek,i5]
  ·have ih:=Ao h h1 h2 r ((bh.mp hb).resolve_left e);split
   ·split
    ·exact ih
    ·rw[ek,bI.mpr e];exact ih
   ·exact ih
theorem mI{h:Heap}{as bs:List Addr}{b:Addr}{o:Obj}(e:(fragOf h as).lookup b=some o)(hb:b∈bs):(fragOf h bs).lookup b=some o:=Ao h (fN h as b o e).1 (fN h as b o e).2 bs hb
noncomputable def nsO:Option Obj->List Addr
 | some ⟨_,_,.cls cd,_⟩=>[cd.ns]
 | _=>[]
def Ma(h:Heap)(a:Addr):List Addr:=a::(rD (h.get? a)++(nsO (h.get? a)).flatMap λb=>(rD (h.get? b)).flatMap λc=>c::rD (h.get? c))
def dN(h:Heap):W.Frag:=fragOf h (mainGlobals::(rD (h.get? mainGlobals)).flatMap (Ma h))
noncomputable def H0(K:W.Frag)(x:Str):Option FuncData:=match W.nsIn K mainGlobals x with
 | some (some (.ref f))=>(match K.lookup f with
  | some ⟨_,_,.func fd,_⟩=>(match W.codeIn K fd.code x with
   | true=>some {fd with defaults:=.none,kwdefaults:=.none,doc:=.none,pyModule:=.none,annotations:=none,code:=.none,closureTuple:=.none}
   | false=>none)
  | _=>none)
 | _=>none
def DM(h:Heap)(x:Str):Option FuncData:=match W.nsIn (fragOf h [mainGlobals]) mainGlobals x with
 | some (some (.ref f))=>(match(fragOf h [f]).lookup f with
  | some ⟨_,_,.func fd,_⟩=>(match W.codeIn (fragOf h (oY fd.code)) fd.code x with
   | true=>some {fd with defaults:=.none,kwdefaults:=.none,doc:=.none,pyModule:=.none,annotations:=none,code:=.none,closureTuple:=.none}
   | false=>none)
  | _=>none)
 | _=>none
def DN{h:Heap}{x:Str}{v:FuncData}(e:DM h x=some v):H0 (dN h) x=some v:=by
 unfold DM at e;split at e
 ·rename_i f hf;split at e
  ·rename_i oc od fd oW hl;split at e
   ·rename_i hc;have hg:W.nsIn (dN h) mainGlobals x=some (some (.ref f))/\f∈rD (h.get? mainGlobals):=by
     unfold W.nsIn at hf ⊢;split at hf
     ·rename_i gc gd es gn gs hk;have k2:(dN h).lookup mainGlobals=_:=mI hk dk;rw[k2,(fN _ _ _ _ hk).1];refine⟨hf,?_⟩;split at hf
      ·rename_i en hen;have hv:en.val=.ref f:=bJ (bJ hf);exact List.mem_flatMap.mpr ⟨en,List.mem_of_find?_eq_some hen,by rw[hv];exact dk⟩
      ·split at hf<;>cases hf
     ·cases hf
    have mf:∀b∈Ma h f,b∈mainGlobals::(rD (h.get? mainGlobals)).flatMap (Ma h):=λb hb=>cO _ (List.mem_flatMap.mpr ⟨f,hg.2,hb⟩)
    have k3:(dN h).lookup f=some ⟨oc,od,.func fd,oW⟩:=mI hl (mf f dk);have k4:W.codeIn (dN h) fd.code x=true:=by
     unfold W.codeIn at hc ⊢;split at hc
     ·rename_i c xG;split at hc
      ·rename_i cc cdd vs csl hk;have:(dN h).lookup c=_:=mI hk (mf c (cO _ (mm _ (by rw[(fN _ _ _ _ hl).1];show c∈oY fd.code++oY fd.defaults;rw[xG];exact mm _ dk))))
       rw[this];exact hc
      ·cases hc
     ·cases hc
    unfold H0;rw[hg.1];dsimp only
    rw[k3];dsimp only
    rw[k4];exact e
   ·cases e
  ·cases e
 ·cases e
def DO(x:Str)(st:Stmt):FuncData:=W.fnOf x x (dR st) (bR st) (ao st) .none .none .none .none none .none .none
def Mb(K:W.Frag)(jA:List (Str×List PV))(x:Str):Bool:=match W.nsIn K mainGlobals x with
 | some (some (.ref f))=>(match K.lookup f with
  | some ⟨_,_,.func fd,_⟩=>(match jA.lookup x,fd.defaults with
   | none,.none=>true
   | some ds,.ref T=>(match K.lookup T with
    | some ⟨.type t,none,.seq us _,_⟩=>(t=="tuple")&&kz ds us.toList
    | _=>false)
   | _,_=>false)
  | _=>false)
 | _=>false
def QE(K:W.Frag)(jA:List (Str×List PV))(x:Str)(dV:Value):Prop:=(dV=.none/\jA.lookup x=none)\/∃ds T us n sl,jA.lookup x=some ds/\dV=.ref T/\K.lookup T=some ⟨.type "tuple",none,.seq us n,sl⟩/\kz ds us.toList=true
def H9{K:W.Frag}{jA:List (Str×List PV)}{x:Str}{st:Stmt}(h:H0 K x=some (DO x st))(hd:Mb K jA x=true):∃f fd dV,W.nsIn K mainGlobals x=some (some (.ref f))/\qT K x x st f fd dV/\QE K jA x dV:=by
 unfold H0 at h;split at h
 ·rename_i f hf;split at h
  ·rename_i oc od fd oW hl;split at h
   ·rename_i hc;have h:=bJ h;have hD:QE K jA x fd.defaults:=by
     unfold Mb at hd;rw[hf]at hd;dsimp only at hd
     rw[hl]at hd;dsimp only at hd
     split at hd
     ·rename_i e1 e2;exact .inl ⟨e2,e1⟩
     ·rename_i ds T e1 e2;split at hd
      ·rename_i t us n sl e3;rw[aF]at hd;obtain rfl:=aU hd.1;exact .inr ⟨ds,T,us,n,sl,e1,e2,e3,hd.2⟩
      ·cases hd
     ·cases hd
    obtain⟨a1,a2,a3,a4,a5,a6,a7,a8,a9,Yy,Yz,YA,YB,YC,a15⟩:=fd;unfold DO at h;simp only[FuncData.mk.injEq]at h;obtain⟨e1,e2,e3,e4,e5,e6,e7,-,-,-,-,-,-,-,VC⟩:=h;subst e1 e2 e3 e4 e5 e6 e7 VC;exact⟨f,_,a8,hf,⟨⟨oc,od,a9,Yy,Yz,YA,YB,YC,oW,rfl,hl,hc⟩,by unfold W.keepIn;dsimp only;rw[hl]⟩,hD⟩
   ·cases h
  ·cases h
 ·cases h
def Ap(K:W.Frag)(g:Addr)(d:Str×PV):Bool:=match W.nsIn K g d.1 with
 | some (some (.int j _))=>(match d.2 with | .int i=>i==j | _=>false)
 | some (some (.str y _))=>(match d.2 with | .str x=>x==y | _=>false)
 | some (some (.ref a))=>(match K.lookup a with
  | some ⟨.type t,none,.seq us _,_⟩=>(match d.2 with | .nd .aj ps=>(t=="tuple")&&(kz ps us.toList&&decide (us.toList.length<=100)) | _=>false)
  | _=>false)
 | _=>false
def vG{K:W.Frag}{g:Addr}{x:Str}{p:PV}(h:Ap K g (x,p)=true):∃u v,W.nsIn K g x=some (some u)/\RelV v u/\∀F,bu K F p v:=by
 unfold Ap at h;dsimp only at h
 split at h
 ·rename_i j t hn;split at h
  ·obtain rfl:=aU h;exact HZ hn
  ·cases h
 ·rename_i y t hn;split at h
  ·obtain rfl:=aU h;exact HY hn
  ·cases h
 ·rename_i a hn;split at h
  ·rename_i t dd us n sl hl;split at h
   ·rw[aF,aF]at h;obtain⟨h1,h2,h3⟩:=h;obtain rfl:=aU h1;obtain⟨us⟩:=us;exact HX hn hl h2 (gN h3)
   ·cases h
  ·cases h
 ·cases h
noncomputable def DP(K:W.Frag)(x:Str):Bool:=match W.nsIn K mainGlobals x with
 | some none=>true
 | _=>false
def DQ{K:W.Frag}{x:Str}(h:DP K x=true):W.nsIn K mainGlobals x=some none:=by
 unfold DP at h;split at h
 ·assumption
 ·cases h
abbrev OV:=Option (Option Value)
noncomputable def Aq(e:DictEntry):Option Str×Int:=(match e.key with
 | .str x _=>some x
 | _=>none,e.hash)
noncomputable def DR(K:W.Frag)(a:Addr)(d:Str×Str):Bool:=match W.nsIn K a d.1,W.nsIn K mainGlobals d.2 with
 | some (some (.ref f)),some (some (.ref g))=>f==g
 | _,_=>false
def DS(K:W.Frag)(T:Str)(rows:List (Str×Str)):Option (Value×Option Addr×Array (Option Value)×List (Option Str×Int)×Bool):=match W.nsIn K mainGlobals T with
 | some (some (.ref a))=>(match K.lookup a with
  | some ⟨c,dd,.dict es _,sl⟩=>some (c,dd,sl,es.toList.map Aq,rows.all (DR K a))
  | _=>none)
 | _=>none
noncomputable def yy(P:Params)(rows:List (Str×Str)):Option (Value×Option Addr×Array (Option Value)×List (Option Str×Int)×Bool):=some (.type "dict",none,#[],rows.map (λd=>(some d.1,PyData.keyHash P d.1)),true)
theorem oZ{β:Type}{P:Params}:∀{es:List DictEntry} {rows:List (Str×β)},es.map Aq=rows.map (λd=>(some d.1,PyData.keyHash P d.1))->W.KeysLit P es
 | [],_,_=>trivial
 | _::_,[],h=>by cases h
 | e::es,d::rows,h=>by
  rw[aQ,aQ,yv]at h;obtain⟨h1,h2⟩:=h;refine⟨?_,oZ h2⟩;unfold Aq at h1;rw[i8]at h1;obtain⟨h3,h4⟩:=h1;split at h3
  ·grind
  ·cases h3
def DT{K:W.Frag}{a:Addr}{d:Str×Str}(h:DR K a d=true):∃f,W.nsIn K a d.1=some (some (.ref f))/\W.nsIn K mainGlobals d.2=some (some (.ref f)):=by
 unfold DR at h;split at h
 ·grind
 ·cases h
def DU{K:W.Frag}{P:Params}{T:Str}{rows:List (Str×Str)}(h:DS K T rows=yy P rows):BY K P T rows:=by
 unfold DS yy at h;split at h
 ·rename_i a hn;split at h
  ·rename_i c dd es n sl hl;have h:=bJ h;simp only[i8]at h;obtain⟨rfl,rfl,rfl,h4,h5⟩:=h;exact VB hn hl (oZ h4) λd hd=>DT (eS.mp h5 d hd)
  ·cases h
 ·cases h
abbrev Ia:=Option (Value×Option Addr×Array (Option Value)×List (Option Str×Int)×Bool)
noncomputable def ud(K:W.Frag)(f:Addr)(qual:Str):Option FuncData:=match K.lookup f with
 | some ⟨_,_,.func fd,_⟩=>(match W.codeIn K fd.code qual with
  | true=>some {fd with kwdefaults:=.none,doc:=.none,pyModule:=.none,annotations:=none,code:=.none,closureTuple:=.none}
  | false=>none)
 | _=>none
def Ar(x qual:Str)(st:Stmt):FuncData:=W.fnOf x qual (dR st) (bR st) (ao st) .none .none .none .none none .none .none
def rE{K:W.Frag}{x qual:Str}{st:Stmt}{f:Addr}(h:ud K f qual=some (Ar x qual st)):∃fd,KQ K x qual st f fd:=by
 unfold ud at h;split at h
 ·rename_i oc od fd oW hl;split at h
  ·rename_i hc;have h:=bJ h;obtain⟨a1,a2,a3,a4,a5,a6,a7,a8,a9,Yy,Yz,YA,YB,YC,a15⟩:=fd;unfold Ar at h;simp only[FuncData.mk.injEq]at h;obtain⟨e1,e2,e3,e4,e5,e6,e7,e8,-,-,-,-,-,-,VC⟩:=h;subst e1 e2 e3 e4 e5 e6 e7 e8 VC;exact⟨_,L3 hl hc (by unfold W.keepIn;dsimp only;rw[hl])⟩
  ·cases h
 ·cases h
abbrev Mc:=Option (Bool×Option FuncData)
def DV(K:W.Frag)(d:Str×(Str×Str×Stmt)):Mc:=match W.nsIn K mainGlobals d.2.1 with
 | some (some (.ref a))=>(match W.findIn K (.ref a) d.2.2.1 with
  | some (some (.ref f))=>some (W.isFn K (.ref f)&&W.keepIn K (.ref f),ud K f d.1)
  | _=>none)
 | _=>none
def yz(d:Str×(Str×Str×Stmt)):Mc:=some (true,some (Ar d.2.2.1 d.1 d.2.2.2))
def DW(P:Pg):Prop:=∀(kV doc pm:Value) (an:Option Addr) (cM ct:Value) (u:Nat->Value),
 P.fV.map (λd=>bindArgs (W.fnOf d.2.2.1 d.1 (dR d.2.2.2) (bR d.2.2.2) (ao d.2.2.2) .none kV doc pm an cM ct) ⟨(List.range (params d.2.2.2).length).map u,[]⟩)=P.fV.map λd=>pure ((params d.2.2.2).zip ((List.range (params d.2.2.2).length).map u))
noncomputable def DX(K:W.Frag)(C:Str):Option (Bool×OV×OV):=match W.nsIn K mainGlobals C with
 | some (some (.ref a))=>some (W.makesIn K a&&(W.keepIn K (.ref a)&&(W.plainGet K a Str.empty&&(W.hasDictIn K a&&W.plainOver K a))),W.findIn K (.ref a) "__setattr__",W.findIn K (.ref a) "__init__")
 | _=>none
noncomputable def yA:Option (Bool×OV×OV):=some (true,some (some (.builtin "object.__setattr__")),some (some (.builtin "object.__init__")))
def DY{K:W.Frag}{C:Str}(h:DX K C=yA):L8 K C:=by
 unfold DX yA at h;split at h
 ·rename_i a hn;have h:=bJ h;simp only[i8,aF]at h;obtain⟨⟨h1,h2,h3,h4,h5⟩,h6,h7⟩:=h;exact⟨a,hn,⟨h3,h4,h5,h6⟩,⟨h1,h7,h2⟩⟩
 ·cases h
abbrev Md:=Option (Bool×OV×List OV×Option FuncData)
def DZ(K:W.Frag)(flds:List Str)(C:Str):Md:=match W.nsIn K mainGlobals C with
 | some (some (.ref a))=>(match W.findIn K (.ref a) "__init__" with
  | some (some (.ref f))=>some (W.makesIn K a&&(W.isFn K (.ref f)&&(W.keepIn K (.ref a)&&(W.plainGet K a Str.empty&&(W.hasDictIn K a&&W.plainOver K a)))),W.findIn K (.ref a) "__setattr__",flds.map (λg=>W.findIn K (.ref a) g),ud K f (C++".__init__"))
  | _=>none)
 | _=>none
def yB(flds:List Str)(C:Str)(st:Stmt):Md:=some (true,some (some (.builtin "object.__setattr__")),flds.map (λ_=>some none),some (Ar "__init__" (C++".__init__") st))
noncomputable def ue:List Str->Bool
 | []=>true
 | x::r=>!r.contains x&&ue r
theorem rF:∀{l:List Str},ue l=true->l.Nodup
 | [],_=>tU
 | x::r,h=>by
  simp only[ue,aF,yg,List.contains_eq_mem,decide_eq_false_iff_not]at h;exact mz.mpr ⟨h.1,rF h.2⟩
noncomputable def VD:Option NameKind->Bool
 | some .local=>true
 | some .cell=>true
 | _=>false
noncomputable def QF:NameKind->Bool
 | .free=>false
 | _=>true
noncomputable def QG:ScopeKind->Bool
 | .function=>true
 | _=>false
def HF(st:Stmt):Bool:=QG (ao st).kind&&(!(ao st).isCoroutine&&(!(ao st).isGenerator&&(ue (bK st)&&((params st).all (λx=>VD ((ao st).names.lookup x))&&(ao st).names.all λy=>QF y.2))))
def yC{st:Stmt}(h:HF st=true):cF (bK st) (params st) (ao st):=by
 unfold HF at h;rw[aF,aF,aF,aF,aF]at h;obtain⟨h1,h2,h3,h4,h5,h6⟩:=h;refine⟨?_,by grind,by grind,rF h4,?_,λx hx=>?_,λy hy=>?_⟩
 ·cases z:(ao st).kind<;>rw[z]at h1<;>first | rfl | cases h1
 ·exact List.take_left
 ·have k:=eS.mp h5 x hx;cases z:(ao st).names.lookup x with
  | none=>rw[z]at k;cases k
  | some b =>
   rw[z]at k;cases b<;>first | exact .inl rfl | exact .inr rfl | cases k
 ·have k:=eS.mp h6 y hy;intro z;rw[z]at k;cases k
def D0(P:Pg):Prop:=∀(kV doc pm:Value) (an:Option Addr) (cM ct:Value) (u:Nat->Value),
 P.defs.map (λd=>bindArgs (W.fnOf d.1 d.1 (dR d.2) (bR d.2) (ao d.2) .none kV doc pm an cM ct) ⟨(List.range (params d.2).length).map u,[]⟩)=P.defs.map λd=>pure ((params d.2).zip ((List.range (params d.2).length).map u))
def fW{us:List Value}{n:Nat}(h:us.length=n):(List.range n).map (λi=>us.getD i .none)=us:=by
 subst h;apply List.ext_getElem
 ·simp
 ·intro i h1 h2;simp[h2]
def Me(x:Str)(st:Stmt)(n:Nat):Prop:=∀(T:Addr) (kV doc pm:Value) (an:Option Addr) (cM ct:Value) (u v:Nat->Value),
 (∃k,bindArgs (W.fnOf x x (dR st) (bR st) (ao st) (.ref T) kV doc pm an cM ct) ⟨(List.range (params st).length).map u,[]⟩=seqItems? (.ref T) >>= k/\k (some ((List.range n).map v).toArray)=pure ((params st).zip ((List.range (params st).length).map u))) /\
 (∃k,bindArgs (W.fnOf x x (dR st) (bR st) (ao st) (.ref T) kV doc pm an cM ct) ⟨(List.range ((params st).length-n)).map u,[]⟩=seqItems? (.ref T) >>= k/\k (some ((List.range n).map v).toArray)=pure ((params st).zip ((List.range ((params st).length-n)).map u++(List.range n).map v)))
def KS(P:Pg):Prop:=∀d∈P.defs,∀ds,P.jA.lookup d.1=some ds->Me d.1 d.2 ds.length
def Ib{K:W.Frag}{x:Str}{st:Stmt}{f T:Addr}{fd:FuncData}{us:List Value}{n:Nat}{sl:Array (Option Value)}(F:qT K x x st f fd (.ref T))(hT:K.lookup T=some ⟨.type "tuple",none,.seq us.toArray n,sl⟩)(D:Me x st us.length):cE K fd (params st) []/\cE K fd (params st) us:=by
 obtain⟨oc,od,kV,doc,pm,an,cM,ct,oW,rfl,lk,xG⟩:=F.ex;refine⟨λs ws X hl=>?_,λs ws X hl=>?_⟩
 ·rw[dE]at hl ⊢;obtain⟨⟨k,e1,e2⟩,_⟩:=D T kV doc pm an cM ct (λi=>ws.getD i .none) (λi=>us.getD i .none)
  rw[fW hl]at e1 e2;rw[fW rfl]at e2;exact BindsTo.of_defaults rfl (X _ _ hT) rfl e1 e2
 ·obtain⟨_,⟨k,e1,e2⟩⟩:=D T kV doc pm an cM ct (λi=>ws.getD i .none) (λi=>us.getD i .none)
  rw[bX]at hl;rw[fW (show ws.length=(params st).length-us.length by lia)]at e1 e2
  rw[fW rfl]at e2;exact BindsTo.of_defaults rfl (X _ _ hT) rfl e1 e2
def D2{K:W.Frag}{x:Str}{st:Stmt}{f:Addr}{fd:FuncData}{P:Pg}(hb:D0 P)(hd:(x,st)∈P.defs)(F:qT K x x st f fd .none)(us:List Value)(hl:us.length=(params st).length):bindArgs fd ⟨us,[]⟩=pure ((params st).zip us):=by
 obtain⟨oc,od,kV,doc,pm,an,cM,ct,oW,rfl,lk,xG⟩:=F.ex;have k:=gM.mp (hb kV doc pm an cM ct λi=>us.getD i .none) (x,st) hd
 dsimp only at k
 rw[fW hl]at k;exact k
def Mf(P:Pg):Prop:=∀(kV doc pm:Value) (an:Option Addr) (cM ct:Value) (u:Nat->Value),
 P.cls.map (λd=>bindArgs (W.fnOf "__init__" (d.1++".__init__") (dR d.2) (bR d.2) (ao d.2) .none kV doc pm an cM ct) ⟨(List.range (params d.2).length).map u,[]⟩)=P.cls.map λd=>pure ((params d.2).zip ((List.range (params d.2).length).map u))
def D3{K:W.Frag}{P:Pg}{C:Str}{st:Stmt}(QH:HF st=true)(hb:Mf P)(hd:(C,st)∈P.cls)(h:DZ K P.flds C=yB P.flds C st):L6 K C st P.flds:=by
 unfold DZ yB at h;split at h
 ·rename_i a hn;split at h
  ·rename_i f hf;have h:=bJ h;simp only[i8,aF]at h;obtain⟨⟨h1,h2,h3,h4,h5,h6⟩,h7,h8,h9⟩:=h;obtain⟨fd,F⟩:=rE h9;refine⟨a,f,fd,hn,⟨h1,hf,h2,h3⟩,⟨h4,h5,h6,h7⟩,λg hg=>gM.mp h8 g hg,F,λus hl=>?_,yC QH⟩
   obtain⟨oc,od,kV,doc,pm,an,cM,ct,oW,rfl,lk,xG⟩:=F.ex;have k:=gM.mp (hb kV doc pm an cM ct λi=>us.getD i .none) (C,st) hd
   dsimp only at k
   rw[fW hl]at k;exact k
  ·cases h
 ·cases h
def D4{K:W.Frag}{P:Pg}{d:Str×(Str×Str×Stmt)}(QH:HF d.2.2.2=true)(hb:DW P)(hd:d∈P.fV)(h:DV K d=yz d):L7 K d:=by
 unfold DV yz at h;split at h
 ·rename_i a hn;split at h
  ·rename_i f hf;have h:=bJ h;simp only[i8,aF]at h;obtain⟨⟨h1,h2⟩,h3⟩:=h;obtain⟨fd,F⟩:=rE h3;refine⟨a,f,fd,.none,hn,⟨hf,h1,h2⟩,⟨F.ex,F.kp⟩,.all λus hl=>?_,yC QH⟩
   obtain⟨oc,od,kV,doc,pm,an,cM,ct,oW,rfl,lk,xG⟩:=F.ex;have k:=gM.mp (hb kV doc pm an cM ct λi=>us.getD i .none) d hd
   rw[fW hl]at k;exact k
  ·cases h
 ·cases h
def yD(K:W.Frag)(h:Heap)(x:Str):Bool:=match W.tabIn K x with
 | none=>true
 | some (c,T)=>W.codeHdIn K c T&&(match h.get? T with
  | some o=>BZ o
  | _=>false)
noncomputable def Mg(K:W.Frag):Bool:=match W.nsIn K mainGlobals "__builtins__" with
 | some (some (.ref bm))=>!(bm==builtinsNs)&&(!(bm==mainGlobals)&&(match K.lookup bm with
  | some ⟨.type m,some d,.plain,_⟩=>(m=="module")&&(d==builtinsNs)
  | _=>false))
 | _=>false
def D5(P:Pg)(K:W.Frag)(h:Heap):Bool:=dm.all (yD K h)&&(decide (dm.filterMap λx=>(W.tabIn K x).map (·.2)).Nodup&&((P.qU.isEmpty || Mg K)&&P.qU.all λx=>dm.contains x&&(W.tabIn K x).isSome))
def rG{h:Heap}{x:Str}{c T:Addr}(e:yD (dN h) h x=true)(t:W.tabIn (dN h) x=some (c,T)):W.codeHdIn (dN h) c T=true/\h.get? T=some {cls:=.none,data:=.fields #[]}/\(dN h).lookup T=none:=by
 unfold yD at e;rw[t]at e;simp only[aF]at e;obtain⟨h1,h3⟩:=e;split at h3
 ·rename_i o ho;refine⟨h1,?_,?_⟩
  ·unfold BZ at h3;split at h3
   ·grind
   ·cases h3
  ·cases k:(dN h).lookup T with
   | none=>rfl
   | some o' =>
    obtain⟨k1,k2⟩:=fN _ _ _ _ k;rw[ho]at k1;cases k1;rw[h3]at k2;cases k2
 ·cases h3
def Ic{K:W.Frag}(e:Mg K=true):DK K:=by
 unfold Mg at e;split at e
 ·rename_i bm hb;simp only[aF]at e;obtain⟨h1,h2,h3⟩:=e;split at h3
  ·rename_i m d sl z;rw[aF]at h3;obtain rfl:=aU h3.1;obtain rfl:=aU h3.2;exact⟨bm,_,hb,by grind,by grind,z,rfl,rfl,rfl⟩
  ·cases h3
 ·cases e
def D6{P:Pg}{h:Heap}(e:D5 P (dN h) h=true):k0 (dN h) h/\(∀x∈P.qU,L9 (dN h) x)/\(P.qU≠[]->DK (dN h)):=by
 unfold D5 at e;simp only[aF]at e;obtain⟨h1,h2,h3,h4⟩:=e;have all:=eS.mp h1;refine⟨⟨λx hx c T t=>rG (all x hx) t,gN h2⟩,λx hx=>?_,λz=>?_⟩
 ·have:=eS.mp h4 x hx;rw[aF]at this;have hm:x∈dm:=by grind
  cases t:W.tabIn (dN h) x with
  | none=>rw[t]at this;cases this.2
  | some cT=>exact⟨hm,cT.1,cT.2,t,(rG (all x hm) t).1⟩
 ·rcases Bool.or_eq_true_iff.mp h3 with y | y
  ·grind
  ·exact Ic y
def yE(K:W.Frag)(T:Str)(rows:List (Str×PV)):Ia:=match W.nsIn K mainGlobals T with
 | some (some (.ref a))=>(match K.lookup a with
  | some ⟨c,dd,.dict es _,sl⟩=>some (c,dd,sl,es.toList.map Aq,!(a==sysModules)&&rows.all (Ap K a))
  | _=>none)
 | _=>none
noncomputable def uf(P:Params)(rows:List (Str×PV)):Ia:=some (.type "dict",none,#[],rows.map (λd=>(some d.1,PyData.keyHash P d.1)),true)
def B3{K:W.Frag}{P:Params}{T:Str}{rows:List (Str×PV)}(h:yE K T rows=uf P rows):vF K P T rows:=by
 unfold yE uf at h;split at h
 ·rename_i a hn;split at h
  ·rename_i c dd es n sl hl;have h:=bJ h;simp only[i8]at h;obtain⟨rfl,rfl,rfl,h4,h5⟩:=h;rw[aF,yg]at h5;exact⟨a,es,n,h5.1,hn,hl,oZ h4,λd hd=>vG (eS.mp h5.2 d hd)⟩
  ·cases h
 ·cases h
abbrev Mh:=List (Option FuncData)×Bool×List Ia×List Md×List Ia×List Mc×List (Option (Bool×OV×OV))
def yF(P:Pg)(K:W.Frag)(hp:Heap):Mh:=(P.defs.map (λd=>DM hp d.1),P.cons.all (Ap K mainGlobals)&&(P.dB.all (DP K)&&(D5 P K hp&&P.defs.all λd=>Mb K P.jA d.1)),P.tabs.map (λd=>DS K d.1 d.2),P.cls.map (λd=>DZ K P.flds d.1),P.eA.map (λd=>yE K d.1 d.2),P.fV.map (DV K),P.vz.map (DX K))
def yG(P:Pg)(w:World):Mh:=(P.defs.map (λd=>some (DO d.1 d.2)),true,P.tabs.map (λd=>yy w.params d.2),P.cls.map (λd=>yB P.flds d.1 d.2),P.eA.map (λd=>uf w.params d.2),P.fV.map yz,P.vz.map λ_=>yA)
structure YD (P:Pg):Prop where
 sc:P.defs.all (λd=>HF d.2)=true
 bd:D0 P
 sc2:P.cls.all (λd=>HF d.2)=true
 bd2:Mf P
 sc3:P.fV.all (λd=>HF d.2.2.2)=true
 bd3:DW P
 df:KS P
theorem o6:∀{ps:List PV} {us:List Value},kz ps us=true->ps.length=us.length
 | [],[],_=>rfl
 | [],_::_,h=>by cases h
 | _::_,[],h=>by cases h
 | p::ps,u::us,h=>by
  have h:=(oH.mp h).2;rw[cJ,cJ,o6 h]
def B4{P:Pg}{w:World}(B:YD P){hp:Heap}(h:yF P (dN hp) hp=yG P w):DL P w (dN hp)/\k0 (dN hp) hp:=by
 unfold yF yG at h;simp only[i8]at h;obtain⟨h1,h2,h5,h6,h7,h8,h9⟩:=h;rw[aF,aF,aF]at h2;obtain⟨l1,l2,l3⟩:=D6 h2.2.2.1;refine⟨⟨λd hd=>?_,λd hd=>D4 (eS.mp B.sc3 d hd) B.bd3 hd (gM.mp h8 d hd),λC hC=>DY (gM.mp h9 C hC),λd hd=>vG (eS.mp h2.1 d hd),λx hx=>DQ (eS.mp h2.2.1 x hx),λd hd=>DU (gM.mp h5 d hd),λd hd=>D3 (eS.mp B.sc2 d hd) B.bd2 hd (gM.mp h6 d hd),λd hd=>B3 (gM.mp h7 d hd),l2,l3⟩,l1⟩
 obtain⟨f,fd,dV,a,F,D⟩:=H9 (jA:=P.jA) (DN (gM.mp h1 d hd)) (eS.mp h2.2.2.2 d hd);refine⟨⟨f,fd,dV,a,F,?_⟩,yC (eS.mp B.sc d hd)⟩;rcases D with⟨rfl,hn⟩ | ⟨ds,T,us,n,sl,e1,rfl,e3,e4⟩
 ·exact⟨.all λus hl=>D2 B.bd hd F us hl,λds e=>(by rw[hn]at e;cases e),λ_ us hl=>D2 B.bd hd F us hl⟩
 ·obtain⟨us⟩:=us;obtain⟨vs,r,b⟩:=An (K:=dN hp) e4;have b2:=Ib F e3 (by rw[<-o6 e4];exact B.df d hd ds e1)
  refine⟨b2.1,λds' e=>?_,λe=>by rw[e1]at e;cases e⟩
  rw[e1]at e;cases e;exact⟨vs,us,r,b,b2.2⟩
def Ie(P:Pg)(B:YD P):W.Hook :=
 ⟨Mh,λs=>yF P (dN s.heap) s.heap,λw=>yG P w,λw h=>∃K:W.Frag,K.In h/\DL P w K/\k0 K h,λw s e=>⟨_,B0 _ _,B4 B e⟩,λ_ _ _ ⟨K,a,b,c⟩ k=>⟨K,a.keeps k,b,c.keeps k⟩⟩
noncomputable def B5(p:Program)(row:String)(b:Bool)(N:Nat)(w:World):Option Shared:=(W.fencedOpening treeTable p w N).bind λs₀=>W.topFrom treeTable p (w.withFollow row b) N s₀
def B6{p q:Program}{loose:List Str}{Xt:Shared->Bool}{α:Type}{Yf:Shared->α}{Ya:World->α}{N:Nat}{g0:Bool}(row:String)
  (h1:∀w,(B5 p row false N w).map (W.openSeen q loose (importedModules p.main.body) Xt g0)=some (W.openGood q loose)) (h2:∀w,(B5 p row true N w).map (W.openSeen q loose (importedModules p.main.body) Xt g0)=some (W.openGood q loose))
  (h3:∀w,(B5 p row false N w).map Yf=some (Ya (w.withFollow row false))) (h4:∀w,(B5 p row true N w).map Yf=some (Ya (w.withFollow row true))):W.LeftO p q loose Xt Yf Ya N g0:=by
 refine W.LeftO.of_split row λw=>?_
 obtain⟨sA,a1,a2⟩:=j8.mp (h1 w);obtain⟨sB,b1,b2⟩:=j8.mp (h2 w);obtain⟨sC,c1,c2⟩:=j8.mp (h3 w);obtain⟨sD,d1,d2⟩:=j8.mp (h4 w);rw[a1]at c1;rw[b1]at d1;cases c1;cases d1;obtain⟨s0,f0,tA⟩:=Option.bind_eq_some_iff.mp a1;obtain⟨s1,f1,tB⟩:=Option.bind_eq_some_iff.mp b1;rw[f0]at f1;cases f1;rw[f0,yr,tA,tB,yr,yr,a2,b2,c2,d2]
end L2.U
noncomputable section
namespace L2.U
open PySem PySem.W
def topQ(p:Program)(w:World)(m:Nat)(P7:Option Value):Nat->SharedT->Thread->Option SharedT
 | 0,_,_=>none
 | n+1,s,t=>match through t with
  | true=>some s
  | false=>match Fast.tw6613529449190102663 m P7 t with
   | false=>none
   | true=>match Fast.tw10156331382660048174 (Fast.tw11892475500146522536 Fast.tw14364793385576792824) p w s t with
    | some (s',t')=>topQ p w m P7 n s' t'
    | none=>none
theorem topQ_of{p:Program}{w:World}{m:Nat}{P7:Option Value}:∀{n:Nat} {s r:SharedT} {t:Thread},topQ p w m P7 n s t=some r->topRun treeTable p w m P7 n s.abs t=some r.abs
 | 0,_,_,_,h=>by cases h
 | n+1,s,r,t,h=>by
  unfold topQ at h;unfold topRun;rw[<-Fast.te6613529449190102663,<-Fast.te10156331382660048174,<-Fast.te11892475500146522536,<-Fast.te14364793385576792824]at h;cases a:through t with
  | true=>rw[a]at h;cases h;rfl
  | false =>
   rw[a]at h;cases b:stepOk m P7 t with
   | false=>rw[b]at h;cases h
   | true =>
    rw[b]at h;cases c:stepT (denote treeTable) p w s t with
    | none=>rw[c]at h;cases h
    | some y=>rw[c]at h;rw[stepT_spec c];exact topQ_of h
noncomputable def QI(l:List Obj):BT:=(l.foldl (fun(x:BT×Nat) o=>(x.1.ins x.2 o,x.2+1)) (.nil,0)).1
theorem Ig(P:Params):absHeap (QI (boot_heap P).objs.toList) (boot_heap P).objs.size (boot_heap P).life=boot_heap P:=by kernel_rfl
theorem Ih(P:Params):(boot_heap P).isNs mainGlobals=true:=by kernel_rfl
def D7(p:Program)(row:String)(b:Bool)(N:Nat)(w:World)(os:OsState):Option SharedT :=
 topQ p (w.withFollow row b) (boot_heap w.params).objs.size ((boot_heap w.params).nsMap mainGlobals "__annotations__") N ⟨QI (boot_heap w.params).objs.toList,(boot_heap w.params).objs.size,(boot_heap w.params).life,.mk [],boot_drawn,boot_toks,os⟩ (topStub p)
def P8(p:Program)(w:World)(s:SharedT):Bool:=staticsOk (importedModules p.main.body) (boot_heap w.params) s.abs.heap&&namesBound p s.abs.heap&&gensDone s.abs&&laidKept (boot_heap w.params) s.abs.heap
theorem oi{p:Program}{row:String}{b:Bool}{N:Nat}{w:World}{α:Type}{g:Shared->α}{a:α}(e:opening p=plainProg p.main.scope.names)(hN:Nat.ble 600 N=true)(f:∀s,fenceModules? p s=some s)
 (h:∀os,(D7 p row b N w os).map (λs=>(P8 p w s,g s.abs))=some (true,a)):(B5 p row b N w).map g=some a:=by
 obtain⟨⟨hp,gs,d,k,os⟩,h1,h2⟩:=j8.mp (boot_open e hN f w);obtain⟨rfl,rfl,rfl,rfl⟩:hp=boot_heap w.params/\gs=.mk []/\d=boot_drawn/\k=boot_toks:=by simpa using h2
 obtain⟨s,h3,h4⟩:=j8.mp (h os);have h5:=topQ_of h3;unfold SharedT.abs at h5;rw[Ig]at h5;unfold B5;rw[h1];show Option.map g (topFrom treeTable p (w.withFollow row b) N _)=_;unfold topFrom;dsimp only
 rw[Ih,h5];have h6:=(Prod.mk.inj h4).1;unfold P8 SharedT.abs at h6;show Option.map g (match staticsOk (importedModules p.main.body) (boot_heap w.params) (absHeap s.tree s.n s.life)&&namesBound p (absHeap s.tree s.n s.life)&&gensDone ⟨absHeap s.tree s.n s.life,s.gens,s.drawn,s.toks,s.os⟩&&laidKept (boot_heap w.params) (absHeap s.tree s.n s.life)with | true=>_ | false=>_)=_
 rw[h6];exact fT some (Prod.mk.inj h4).2
theorem Mi{p q:Program}{loose:List Str}{Xt:Shared->Bool}{α:Type}{Yf:Shared->α}{Ya:World->α}{N:Nat}{g0:Bool}(row:String)(e:opening p=plainProg p.main.scope.names)(hN:Nat.ble 600 N=true)(f:∀s,fenceModules? p s=some s)
 (h0:∀w os,(D7 p row false N w os).map (λs=>(P8 p w s,openSeen q loose (importedModules p.main.body) Xt g0 s.abs,Yf s.abs))=some (true,openGood q loose,Ya (w.withFollow row false)))
 (h1:∀w os,(D7 p row true N w os).map (λs=>(P8 p w s,openSeen q loose (importedModules p.main.body) Xt g0 s.abs,Yf s.abs))=some (true,openGood q loose,Ya (w.withFollow row true))):LeftO p q loose Xt Yf Ya N g0:=by
 have fs:∀{β γ δ:Type} {o:Option δ} {a:δ->β} {b:δ->γ} {x:β} {y:γ},o.map (λs=>(a s,b s))=some (x,y)->o.map a=some x/\o.map b=some y:=λ{_ _ _ o _ _ _ _} h=>by
  cases o with
  | none=>cases h
  | some s=>cases h;exact⟨rfl,rfl⟩
 exact B6 row (λw=>(fs (oi e hN f λos=>h0 w os)).1) (λw=>(fs (oi e hN f λos=>h1 w os)).1) (λw=>(fs (oi e hN f λos=>h0 w os)).2) λw=>(fs (oi e hN f λos=>h1 w os)).2
end L2.U
namespace bA
open PySem L2 L2.U
noncomputable def top(i:Nat):Stmt:=PySem.Challenge.pw_lendrule_k61_plain_calls_of_owners.main.body.getD i (.Pass ⟨0,0,0,0⟩)
def Ij(i j:Nat):Stmt:=match top i with | .ClassDef _ _ _ b _ _ _ _ _ _ _=>b.getD j (.Pass ⟨0,0,0,0⟩) | s=>s
abbrev As:Stmt:=Ij 54 0
abbrev KU:Stmt:=Ij 55 0
abbrev Au:Stmt:=Ij 77 0
abbrev jc:Stmt:=Ij 78 0
abbrev k9:Stmt:=Ij 78 1
abbrev jd:Stmt:=Ij 78 2
abbrev je:Stmt:=Ij 78 3
abbrev qV:Stmt:=Ij 78 4
abbrev iK:Stmt:=Ij 78 5
noncomputable def fX:List (Str×Str):=[("put","put_acts"),("set","set_acts"),("fill","put_acts"),("copy","copy_acts"),("move","move_acts"),("drop","drop_acts"),("lend","lend_acts"),("sole","lend_acts"),("call","call_acts"),("if","if_acts"),("go","go_acts"),("say","say_acts"),("give","give_acts")]
def aJ:Pg where
 defs:=([("leaves",5),("check_part",6),("part",7),("first",8),("is_copied",9),("blank",10),("kind_of",13),("is_holder",14),("shape_of",15),("acts",27),("is_lending",28),("touch",29),("touch_whole",30),("at_acts",31),("operand_acts",32),("target_acts",33),("put_acts",34),("set_acts",35),("copy_acts",36),("move_acts",37),("drop_acts",38),("lend_acts",39),("call_acts",40),("arg_act",41),("owner_act",42),("if_acts",43),("go_acts",44),("say_acts",45),("give_acts",46),("pieces",50),("operands",51),("acts_by_row",56),("row_of",57),("acts_of",58),("run_from_first",59),("begin",60),("run_on",61),("do_row",62),("row_behind",63),("do_acts",64),("do_act",65),("written",66),("strip_of",67),("number_put",68),("numbers_found",69),("do_call",70),("do_give",71),("given_back",72),("owned_by",73),("take_back",74),("played",76),("places_of",79),("taken_back",80),("_law_cell_at",82),("_law_whole",83),("_law_names",84),("_law_spot",85),("_law_operand",86),("_law_call",87),("_law_row",88),("_law_wide",89),("_law_heads",90),("_law_rows",91),("_law_program",92),("_law_begin",93),("_law_number",94),("_law_reckon",95),("_law_done",96),("_law_onward",97),("_law_due",98),("_law_told",99),("law",100)]:List (String×Nat)).map λd=>(d.1,top d.2)
 cons:=[("HOLDER_WORDS",.aj [(.str "lent"),(.str "sole")]),("ROW",.int 0),("ACT",.int 1),("NAME",.int 2),("THROUGH",.int 3),("FIRST",.int 4),("MANY",.int 5),("TAKER",.int 6),("REST",.aj [(.str "rest"),(.str ""),(.bl false),(.int 0),(.int 0),(.str "")]),("HAND",.aj [(.str "hand"),(.str ""),(.bl false),(.int 0),(.int 0),(.str "")]),("LENDING",.aj [(.str "lend"),(.str "sole")]),("MOST_BEGUN",.int 12)]
 dB:=["bool","dict","enumerate","int","isinstance","len","list","range","str","sum","tuple","zip"]
 tabs:=[("MAKERS",fX)]
 cls:=[("Frame",As),("Run",KU),("Place",Au)]
 fV:=[(("Places.owned":Str),"Places","owned",jc),(("Places.let":Str),"Places","let",k9),(("Places.touch":Str),"Places","touch",jd),(("Places.store":Str),"Places","store",je),(("Places.lend":Str),"Places","lend",qV),(("Places.let_go":Str),"Places","let_go",iK)]
 jA:=[("played",[.int 400])]
 vz:=["Places"]
 flds:=["at","has","row","program","world","numbers","listed","frames","said","count","value","away"]
 eA:=[("SORTS",[("put",.aj [(.str "spot"),(.str "operand")]),("set",.aj [(.str "spot"),(.str "sign"),(.str "operand"),(.str "operand")]),("fill",.aj [(.str "spot"),(.str "operand")]),("copy",.aj [(.str "spot"),(.str "spot")]),("move",.aj [(.str "spot"),(.str "spot")]),("drop",.aj [(.str "spot")]),("lend",.aj [(.str "name"),(.str "spot")]),("sole",.aj [(.str "name"),(.str "spot")]),("call",.aj [(.str "name"),(.str "function"),(.str "args")]),("if",.aj [(.str "operand"),(.str "operand"),(.str "row")]),("go",.aj [(.str "row")]),("say",.aj [(.str "operand")]),("give",.aj [(.str "name")])])]
 qU:=[]
 QC:=[(("leaves":Str),[(("told":Str),1)]),(("acts":Str),[(("told":Str),1)]),(("call_acts":Str),[(("told":Str),1)]),(("acts_by_row":Str),[(("told":Str),2)]),(("run_from_first":Str),[(("run":Str),1),(("[return]":Str),1)]),(("begin":Str),[(("has":Str),1),(("frames":Str),2)]),(("run_on":Str),[(("run":Str),1),(("frames":Str),1)]),(("do_row":Str),[(("frame":Str),1),(("run":Str),1),(("frames":Str),1),(("said":Str),1)]),(("do_acts":Str),[(("[return]":Str),7),(("found":Str),1)]),(("do_act":Str),[(("has":Str),1)]),(("numbers_found":Str),[(("numbers":Str),1)]),(("do_give":Str),[(("frames":Str),1)]),(("given_back":Str),[(("has":Str),1)]),(("owned_by":Str),[(("has":Str),1)]),(("take_back":Str),[(("frame":Str),1),(("has":Str),1)]),(("played":Str),[(("going":Str),1),(("said":Str),1)]),(("places_of":Str),[(("has":Str),1)]),(("taken_back":Str),[(("place":Str),1)]),(("_law_names":Str),[(("_law_names_here":Str),1)]),(("_law_rows":Str),[(("_law_rows_here":Str),1)]),(("_law_program":Str),[(("_law_program_here":Str),1)]),(("_law_begin":Str),[(("_law_kept":Str),1)]),(("_law_done":Str),[(("_law_kept":Str),1)]),(("_law_onward":Str),[(("_law_kept":Str),1),(("_law_said":Str),1),(("_law_frame":Str),1)]),(("_law_due":Str),[(("_law_numbers":Str),1),(("_law_frames":Str),3),(("_law_frame":Str),1),(("_law_said":Str),1)]),(("Places.owned":Str),[(("[return]":Str),21)]),(("Places.touch":Str),[(("place":Str),1)]),(("Places.store":Str),[(("place":Str),1)]),(("Places.lend":Str),[(("taken":Str),21),(("place":Str),1)]),(("Frame":Str),[(("has":Str),1)]),(("Run":Str),[(("frames":Str),2),(("said":Str),1)])]
section
end
end bA
set_option maxHeartbeats 2000000
set_option maxHeartbeats 2000000
set_option maxHeartbeats 2000000
set_option maxHeartbeats 2000000
set_option maxHeartbeats 2000000
set_option maxHeartbeats 2000000
set_option maxHeartbeats 2000000
set_option maxHeartbeats 2000000
set_option maxHeartbeats 2000000
set_option maxHeartbeats 2000000
set_option maxHeartbeats 2000000
set_option maxHeartbeats 4000000
set_option maxHeartbeats 4000000
set_option maxHeartbeats 4000000
set_option maxHeartbeats 4000000
set_option maxHeartbeats 4000000
set_option maxHeartbeats 4000000
set_option maxHeartbeats 4000000
set_option maxHeartbeats 4000000
set_option maxHeartbeats 4000000
set_option maxHeartbeats 4000000
set_option maxHeartbeats 4000000
set_option maxHeartbeats 4000000
set_option maxHeartbeats 4000000
set_option maxHeartbeats 4000000
set_option maxHeartbeats 4000000
set_option maxHeartbeats 4000000
set_option maxHeartbeats 4000000
set_option maxHeartbeats 4000000
set_option maxHeartbeats 4000000
set_option maxHeartbeats 4000000
set_option maxHeartbeats 4000000
set_option maxHeartbeats 4000000
set_option maxHeartbeats 4000000
set_option maxHeartbeats 4000000
set_option maxHeartbeats 4000000
set_option maxHeartbeats 4000000
set_option maxHeartbeats 4000000
set_option maxHeartbeats 4000000
set_option maxHeartbeats 4000000
set_option maxHeartbeats 4000000
set_option maxHeartbeats 4000000
set_option maxHeartbeats 4000000
set_option maxHeartbeats 4000000
set_option maxHeartbeats 4000000
set_option maxHeartbeats 4000000
set_option maxHeartbeats 4000000
set_option maxHeartbeats 4000000
set_option maxHeartbeats 4000000
set_option maxHeartbeats 4000000
set_option maxHeartbeats 4000000
set_option maxHeartbeats 4000000
set_option maxHeartbeats 4000000
set_option maxHeartbeats 4000000
noncomputable section
namespace bA
open PySem L2 L2.U
theorem QH:aJ.defs.all (λd=>HF d.2)=true:=by kernel_rfl
theorem hbd:D0 aJ:=by
 intro kV doc pm an cM ct u;kernel_rfl
theorem VE:aJ.cls.all (λd=>HF d.2)=true:=by kernel_rfl
theorem VF:Mf aJ:=by
 intro kV doc pm an cM ct u;kernel_rfl
theorem VG:aJ.fV.all (λd=>HF d.2.2.2)=true:=by kernel_rfl
theorem VH:DW aJ:=by
 intro kV doc pm an cM ct u;kernel_rfl
theorem YE:(aJ.defs.map (·.1)++aJ.fV.map (·.1)).Nodup:=by decide +kernel
theorem o7:aJ.defs.lookup ("played":Str)=some (top 76):=by kernel_rfl
theorem VI:Me "played" (top 76) 1:=by
 intro T kV doc pm an cM ct u v;exact⟨⟨_,rfl,rfl⟩,⟨_,rfl,rfl⟩⟩
theorem QJ:KS aJ:=by
 intro d hd ds e;have h:=jB (yh.mp YE).1 hd;have e:(match d.1==("played":Str)with | true=>some [PV.int 400] | false=>List.lookup d.1 [])=some ds:=e
 cases hc:d.1==("played":Str)
 ·rw[hc]at e;cases e
 ·rw[hc]at e;cases e;rw[mG.mp hc,o7]at h;have h:=bJ h;rw[mG.mp hc,<-h];exact VI
noncomputable abbrev pp:Program:=W.OpenLaw.prog PySem.Challenge.rw_lendrule_k61_plain_calls_of_owners
def qv:Program:=W.view pp [100]
def lo:List Str:=pp.boundNames.filter (· != "law")
def Xt(s:Shared):Bool:=W.xlAt qv [] s&&W.recOk (W.RowW.records (W.OpenRow.toRowW (W.OpenLaw.row PySem.Challenge.rw_lendrule_k61_plain_calls_of_owners))) s
abbrev hk:W.Hook:=Ie aJ ⟨QH,hbd,VE,VF,VG,VH,QJ⟩
theorem kq1(w:World)(os:OsState):(D7 pp "special-get-raises" false 5000 w os).map (λs=>(P8 pp w s,W.openSeen qv lo (importedModules pp.main.body) Xt true s.abs,W.Hook.obs hk s.abs))=some (true,W.openGood qv lo,W.Hook.val hk (w.withFollow "special-get-raises" false)):=by kernel_rfl
theorem kq2(w:World)(os:OsState):(D7 pp "special-get-raises" true 5000 w os).map (λs=>(P8 pp w s,W.openSeen qv lo (importedModules pp.main.body) Xt true s.abs,W.Hook.obs hk s.abs))=some (true,W.openGood qv lo,W.Hook.val hk (w.withFollow "special-get-raises" true)):=by kernel_rfl
theorem ws1:(W.OpenLaw.row PySem.Challenge.rw_lendrule_k61_plain_calls_of_owners).wellSaid=true:=by kernel_rfl
theorem ws:W.OpenLaw.wellSaid PySem.Challenge.rw_lendrule_k61_plain_calls_of_owners=true:=by
 unfold W.OpenLaw.wellSaid;rw[ws1];kernel_rfl
end bA
open PySem PySem.W PyProof.Rows PySem.Calls
set_option maxRecDepth 100000 in
set_option maxHeartbeats 0 in
theorem bA.hJ(hc:∀d:DefRec,d.name="law"->d.params.defaults=[]->W.WalkO bA.qv bA.lo (XL bA.qv []) (Hook.says bA.hk) (W.OpenRow.toRowW (W.OpenLaw.row PySem.Challenge.rw_lendrule_k61_plain_calls_of_owners)) d [] (λf vs=>PySem.call f vs)):PySem.Challenge.rw_lendrule_k61_plain_calls_of_owners.Holds:=by
 w_on;refine W.holds_law bA.ws λaX=>?_
 refine W.holds_open (q:=bA.qv) (loose:=bA.lo) (Xt:=bA.Xt) (XP:=XL bA.qv []) (Yf:=Hook.obs bA.hk) (Ya:=Hook.val bA.hk) (YP:=Hook.says bA.hk) (N:=5000) (L2.U.Mi "special-get-raises" (by kernel_rfl) (by decide) (λ_=>rfl) bA.kq1 bA.kq2) (Hook.of _) (Hook.keeps _) (λs e=>xl_of s (oH.mp e).1) XL.keeps (by rfl) (by rfl) (by rfl) (λs e=>recFacts_of (oH.mp e).2) (by rfl) (by first | assumption | decide +kernel) (by decide +kernel) ⟨rfl,rfl,rfl,rfl,rfl,by decide +kernel⟩ ?hw (hc _ rfl rfl)
 case hw=>w_witness2
end
namespace L2
open PySem PySem.Spec PyProof.Rows
noncomputable def rH:dG->Value->Bool
 | .inl k,v=>Value.isInt k v
 | .inr x,v=>Value.isStrOf x v
noncomputable def VJ(w:World):dG->Int
 | .inl k=>hashInt k
 | .inr x=>hashStr w x
theorem cG:∀{k:dG} {v:Value},rH k v=true->(∃i t,k=Sum.inl i/\v=Value.int i t)\/(∃x t,k=Sum.inr x/\v=Value.str x t)
 | .inl i,v,h=>by
  obtain⟨t,e⟩:=Value.isInt_shape h;exact .inl ⟨i,t,rfl,e⟩
 | .inr x,v,h=>by
  obtain⟨t,e⟩:=Value.isStrOf_shape h;exact .inr ⟨x,t,rfl,e⟩
def B7(i:Int)(t:Tok):rH (.inl i) (.int i t)=true:=by simp[rH,Value.isInt]
def B8(x:Str)(t:Tok):rH (.inr x) (.str x t)=true:=by simp[rH,Value.isStrOf]
def Mj(a b:Int):decide ((Sum.inl a:dG)=Sum.inl b)=(a==b):=by
 grind
def Ml(a b:Str):decide ((Sum.inr a:dG)=Sum.inr b)=decide (a=b):=by
 grind
def Mm(a:Int)(b:Str):decide ((Sum.inl a:dG)=Sum.inr b)=false:=by grind
def Mn(a:Str)(b:Int):decide ((Sum.inr a:dG)=Sum.inl b)=false:=by grind
def dC(prog:Program)(w:World):PySem.KeyKind prog w dG where
 is:=rH
 hash:=VJ w
 inj:=λv a b ha hb=>by
  rcases cG ha with⟨i,t,rfl,rfl⟩ | ⟨x,t,rfl,rfl⟩
  ·rcases cG hb with⟨j,u,rfl,e⟩ | ⟨y,u,rfl,e⟩
   ·injection e with e1 _;rw[e1]
   ·exact nomatch e
  ·rcases cG hb with⟨j,u,rfl,e⟩ | ⟨y,u,rfl,e⟩
   ·exact nomatch e
   ·injection e with e1 _;rw[e1]
 byValue:=λk v h=>by
  rcases cG h with⟨i,t,rfl,rfl⟩ | ⟨x,t,rfl,rfl⟩<;>rfl
 pyHash:=λhv h=>by
  rcases cG hv with⟨i,t,rfl,rfl⟩ | ⟨x,t,rfl,rfl⟩
  ·exact wpAny_pyHash_int h
  ·exact wpAny_pyHash_str h
 eqBool:=λhu hv h=>by
  rcases cG hu with⟨i,t,rfl,rfl⟩ | ⟨x,t,rfl,rfl⟩
  ·rcases cG hv with⟨j,u,rfl,rfl⟩ | ⟨y,u,rfl,rfl⟩
   ·rw[Mj]at h;exact wpAny_eqBool_int h
   ·rw[Mm]at h;exact SeqAt.EqAt.int_str i t y u _ _ _ _ h
  ·rcases cG hv with⟨j,u,rfl,rfl⟩ | ⟨y,u,rfl,rfl⟩
   ·rw[Mn]at h;exact SeqAt.EqAt.str_int x t j u _ _ _ _ h
   ·rw[Ml]at h;exact wpAny_eqBool_str h
 «strs» := λk x t v h=>by
  rcases cG h with⟨i,u,rfl,e⟩ | ⟨y,u,rfl,e⟩
  ·exact nomatch e
  ·injection e with e1 _
   subst e1;cases v<;>rfl
def vH(prog:Program)(w:World)(i:Int)(t:Tok):(dC prog w).is (.inl i) (.int i t)=true:=B7 i t
def vI(prog:Program)(w:World)(x:Str)(t:Tok):(dC prog w).is (.inr x) (.str x t)=true:=B8 x t
def Vals.length(r:Vals xs us):xs.length=us.length:=mD r
theorem Vals.get:∀{xs:List V} {us:List Value} {i:Nat} {x:V},Vals xs us->xs[i]?=some x->∃u,us[i]?=some u/\RelV x u
 | _,_,_,_,.nil,e=>by simp at e
 | _,_,0,_,.cons r _,e=>by grind
 | _,_,i+1,x,.cons _ t,e=>by
  obtain⟨u,h1,h2⟩:=Vals.get t (by simpa using e)
  exact⟨u,by grind,h2⟩
theorem Vals.set(r:RelV x u):∀{xs:List V} {us:List Value} (i:Nat),Vals xs us->Vals (xs.set i x) (us.set i u)
 | _,_,_,.nil=>.nil
 | _,_,0,.cons _ t=>.cons r t
 | _,_,i+1,.cons q t=>.cons q (Vals.set r i t)
theorem Vals.append:∀{xs ys:List V} {us ws:List Value},Vals xs us->Vals ys ws->Vals (xs++ys) (us++ws)
 | _,_,_,_,.nil,s=>s
 | _,_,_,_,.cons r t,s=>.cons r (Vals.append t s)
theorem Vals.take:∀{xs:List V} {us:List Value} (n:Nat),Vals xs us->Vals (xs.take n) (us.take n)
 | _,_,0,_=>.nil
 | _,_,_+1,.nil=>.nil
 | _,_,n+1,.cons r t=>.cons r (Vals.take n t)
theorem Vals.drop:∀{xs:List V} {us:List Value} (n:Nat),Vals xs us->Vals (xs.drop n) (us.drop n)
 | _,_,0,r=>r
 | _,_,_+1,.nil=>.nil
 | _,_,n+1,.cons _ t=>Vals.drop n t
def Vals.none_of:∀{xs:List V} {us:List Value} {i:Nat},Vals xs us->xs[i]?=none->us[i]?=none:=λ{xs us i} r e=>by
 have h1:=r.length;have h2:=gL.mp e;exact gL.mpr (by lia)
def nL:Option V->Option Value->Prop
 | some v,some u=>RelV v u
 | none,none=>True
 | _,_=>False
def KV{κ:Type}:List (κ×V)->List (κ×Value)->Prop:=Paired fun(p:κ×V) (q:κ×Value)=>p.1=q.1/\RelV p.2 q.2
noncomputable def cK(H:Hp)(a:Addr)(o:HO):Hp:=λb=>if b=a then some o else H b
def aw:cK H a o a=some o:=by unfold cK;rw[if_pos rfl]
def aK(h:b≠a):cK H a o b=H b:=by unfold cK;rw[if_neg h]
def cX{H:Hp}{a b:Addr}{o:HO}(h:H a=some o)(h':H b=none):a≠b:=by
 grind
def nM(h:Heap)(a:Addr)(ar:Array Value):Prop:=∃o,h.get? a=some o/\o.cls=.type "tuple"/\(∃n,o.data=.seq ar n)/\o.dict=none
def nM.new(h:Heap)(ar:Array Value):nM (h.push {cls:=.type "tuple",data:=.seq ar}) h.objs.size ar:=⟨_,bE _ rfl,rfl,⟨_,rfl⟩,rfl⟩
def nM.is(t:nM h a ar):IsTup h a ar:=let ⟨o,e,c,n,_⟩:=t;⟨o,e,c,n⟩
section
variable (P:Program) (w:World)
def fg(H:Hp)(h:Heap)(a:Addr):HO->Prop
 | .lst xs=>xs.length<=sizeLine/\∃(ar:List Value) (n:Nat),Vals xs ar/\h.get? a=some {cls:=.type "list",data:=.seq ar.toArray n}
 | .aj xs=>xs.length<=sizeLine/\∃ar:List Value,Vals xs ar/\nM h a ar.toArray
 | .dK kvs=>kvs.length<=sizeLine/\(a==sysModules)=false/\∃vs,KV kvs vs/\h.DictOf (dC P w) a vs
 | .dT xs=>xs.length<=sizeLine/\(a==sysModules)=false/\∃o es ep,h.get? a=some o/\o.ExactDict/\o.data=.dict es ep/\es.toList=xs.map (entryOfKey (tupleKind (dC P w)))/\(xs.map (·.1)).Nodup
 | .set S n=>h.SetOf (intKind P w) a S n
 | .ins C dx fs=>H dx=some (.own a)/\fs.length<=1000/\dx≠a/\h.get? a=some (W.instObj C dx) /\
   ∃mA,h.Ns1 dx mA/\(∀f,nL (fs.lookup f) (mA f))/\PySem.Within mA (fs.map (·.1))
 | .own _=>∃o,h.get? a=some o
 | .xd fs=>∃mA,h.Ns1 a mA/\∀f,nL (fs.lookup f) (mA f)
 | .UL lo hi=>∃t u v,h.get? a=some {cls:=.type "range",data:=.fields #[.int lo t,.int hi u,.int 1 v]}
 | .vE o u=>h.get? a=some o/\fg H h a u
 | .yx q=>∃ps:Array Value,h.get? a=some {cls:=.none,data:=.fields ps}/\TriplesOk ps.toList/\∀(pos:Pos) (cv:Value),codeAmong pos ps.toList=some cv ->
   ∃(c:Addr) (oc:Obj) (u:HO) (vs:Array Value) (t:Tok),cv=.ref c/\H c=some (.vE oc u)/\oc.data=.fields vs/\vs[1]?=some (.str q t)
 | .UK f x=>h.get? a=some (W.methodObj (.ref f) (.ref x))
 | .ext φ=>φ h/\(∃o,h.get? a=some o)/\∀h1 h2:Heap,φ h1->(∀o,h1.get? a=some o->h2.get? a=some o)->φ h2
def kW(H:Hp)(h:Heap):Prop:=∀a o,H a=some o->fg P w H h a o
end
section
variable {P:Program} {w:World} {H H':Hp} {h h':Heap} {a:Addr} {o:HO}
def fg.lt(x:fg P w H h a o):a<h.objs.size:=by
 cases o with
 | lst xs=>obtain⟨_,_,_,_,e⟩:=x;exact aG e
 | aj xs=>obtain⟨_,_,_,p⟩:=x;exact p.is.lt
 | dK kvs=>obtain⟨_,_,_,_,o,_,_,e,_⟩:=x;exact aG e
 | dT kvs=>obtain⟨_,_,o,_,_,e,_⟩:=x;exact aG e
 | set S n=>obtain⟨o,_,_,_,e,_⟩:=x;exact aG e
 | ins C dx fs=>obtain⟨_,_,_,e,_⟩:=x;exact aG e
 | own y=>obtain⟨_,e⟩:=x;exact aG e
 | xd fs=>obtain⟨_,⟨_,_,_,e,_⟩,_⟩:=x;exact aG e
 | UL lo hi=>obtain⟨_,_,_,e⟩:=x;exact aG e
 | vE ob u=>obtain⟨e,_⟩:=x;exact aG e
 | yx q=>obtain⟨_,e,_⟩:=x;exact aG e
 | UK f y=>exact aG (x)
 | ext φ=>obtain⟨_,⟨_,e⟩,_⟩:=x;exact aG e
def fg.vJ(x:fg P w H h a o)(k:∀b u,(b=a\/H b=some (.own a))->h.get? b=some u->h'.get? b=some u)
  (ho:∀b,H b=some (.own a)->H' b=some (.own a)) (ht:∀b xs,H b=some (.aj xs)->H' b=some (.aj xs)) (hz:∀b ob u,H b=some (.vE ob u)->H' b=some (.vE ob u)):fg P w H' h' a o:=by
 induction o with
 | lst xs=>obtain⟨z,ar,n,r,e⟩:=x;exact⟨z,ar,n,r,k _ _ (.inl rfl) e⟩
 | aj xs=>obtain⟨z,ar,r,ob,e,c⟩:=x;exact⟨z,ar,r,ob,k _ _ (.inl rfl) e,c⟩
 | dK kvs=>obtain⟨z,y,vs,r,ob,es,ep,e,c⟩:=x;exact⟨z,y,vs,r,ob,es,ep,k _ _ (.inl rfl) e,c⟩
 | dT kvs=>obtain⟨z,y,ob,es,ep,e,c⟩:=x;exact⟨z,y,ob,es,ep,k _ _ (.inl rfl) e,c⟩
 | set S n=>obtain⟨ob,es,ep,t,e,c⟩:=x;exact⟨ob,es,ep,t,k _ _ (.inl rfl) e,c⟩
 | ins C dx fs =>
  obtain⟨d,z,ne,e,mA,⟨od,es,ep,e2,c⟩,r⟩:=x;exact⟨ho _ d,z,ne,k _ _ (.inl rfl) e,mA,⟨od,es,ep,k _ _ (.inr d) e2,c⟩,r⟩
 | own y=>obtain⟨ob,e⟩:=x;exact⟨ob,k _ _ (.inl rfl) e⟩
 | xd fs=>obtain⟨mA,⟨od,es,ep,e,c⟩,r⟩:=x;exact⟨mA,⟨od,es,ep,k _ _ (.inl rfl) e,c⟩,r⟩
 | UL lo hi=>obtain⟨t,u,v,e⟩:=x;exact⟨t,u,v,k _ _ (.inl rfl) e⟩
 | vE ob u ih=>obtain⟨e,q⟩:=x;exact⟨k _ _ (.inl rfl) e,ih q⟩
 | yx q =>
  obtain⟨ps,e,t,c⟩:=x;exact⟨ps,k _ _ (.inl rfl) e,t,λpos cv z=>let ⟨c,oc,u,vs,tk,h1,h2,h3⟩:=c pos cv z;⟨c,oc,u,vs,tk,h1,hz _ _ _ h2,h3⟩⟩
 | UK f y =>
  have e:=x;exact k a _ (.inl rfl) e
 | ext φ=>obtain⟨p,⟨o,e⟩,st⟩:=x;exact⟨st _ _ p λo q=>k _ _ (.inl rfl) q,⟨o,k _ _ (.inl rfl) e⟩,st⟩
def kW.lt(x:kW P w H h)(e:H a=some o):a<h.objs.size:=(x a o e).lt
def kW.fresh(x:kW P w H h)(e:h.objs.size<=a):H a=none:=by
 cases q:H a with
 | none=>rfl
 | some u=>exact absurd (bM (x.lt q) e) (eU _)
def kW.kept(x:kW P w H h)(k:∀b u,h.get? b=some u->h'.get? b=some u):kW P w H h':=λa o e =>
 (x a o e).vJ (λb u _ q=>k b u q) (λ_ q=>q) (λ_ _ q=>q) λ_ _ _ q=>q
def kW.laid(x:kW P w H h)(k:∀b u,h.get? b=some u->h'.get? b=some u)(hp:h.objs.size<=a)(new:fg P w (cK H a o) h' a o):kW P w (cK H a o) h':=λb u e=>by
 have hn:=x.fresh hp;by_cases hb:b=a
 ·subst hb;rw[aw]at e;cases e;exact new
 ·rw[aK hb]at e;exact(x b u e).vJ (λc v _ q=>k c v q) (λc q=>by rw[aK (cX q hn)];exact q) (λc xs q=>by rw[aK (cX q hn)];exact q) λc ob v q=>by rw[aK (cX q hn)];exact q
end
def Rd.ok(r:Rd H a u)(x:kW P w H h):fg P w H h a u:=by
 rcases r with r | ⟨o,r⟩
 ·exact x a u r
 ·obtain⟨_,q⟩:=x a _ r;exact q
def UN:Option HO->Prop
 | some (.lst _)=>True
 | some (.dK _)=>True
 | some (.dT _)=>True
 | some (.set _ _)=>True
 | some (.ins _ _ _)=>True
 | some (.ext _)=>True
 | _=>False
section
variable {P:Program} {w:World} {H:Hp} {h h':Heap} {x e:Addr} {o':HO}
def kW.write(ok:kW P w H h)(mu:UN (H x))(he:e=x\/H e=some (.own x))(k:∀b u,b≠e->h.get? b=some u->h'.get? b=some u)(P9:∃u,h'.get? e=some u)
  (new:fg P w (cK H x o') h' x o'):kW P w (cK H x o') h':=λb u q=>by
 have QK:∀c y,H c=some (.own y)->c≠x:=λc y r z=>by subst z;rw[r]at mu;exact mu
 have VL:∀c xs,H c=some (.aj xs)->c≠x:=λc xs r z=>by subst z;rw[r]at mu;exact mu
 have VM:∀c ob v,H c=some (.vE ob v)->c≠x:=λc ob v r z=>by subst z;rw[r]at mu;exact mu
 by_cases hb:b=x
 ·subst hb;rw[aw]at q;cases q;exact new
 ·rw[aK hb]at q;by_cases Mo:b=e
  ·have q':H b=some (.own x):=by
    rcases he with z | z
    ·exact absurd (Mo.trans z) hb
    ·rw[Mo];exact z
   rw[q]at q';cases q';obtain⟨v,hv⟩:=P9;exact⟨v,by rw[Mo];exact hv⟩
  ·refine(ok b u q).vJ (λc v hc r=>k c v ?_ r) (λc r=>by rw[aK (QK c b r)];exact r) (λc xs r=>by rw[aK (VL c xs r)];exact r) λc ob v r=>by rw[aK (VM c ob v r)];exact r
   rcases hc with rfl | hc
   ·exact Mo
   ·rintro rfl
    rcases he with z | z
    ·exact QK c b hc z
    ·rw[hc]at z;cases z;exact hb rfl
end
structure Un (fs ex:List Addr) (H H':Hp) (h h':Heap):Prop where
 keep:∀b o,h.get? b=some o->H b=none->b∉fs->b∉ex->h'.get? b=some o
 slot:∀b o,h.get? b=some o->H b=none->b∈fs->b∉ex->∃sl,h'.get? b=some {o with slots:=sl}
 free:∀b o,h.get? b=some o->H b=none->b∉ex->H' b=none
 there:∀b o,h.get? b=some o->b∉ex->∃o',h'.get? b=some o'
 tups:∀b xs,H b=some (.aj xs)->H' b=some (.aj xs)
 frzs:∀b o u,H b=some (.vE o u)->H' b=some (.vE o u)
 tbls:∀b q,H b=some (.yx q)->H' b=some (.yx q)
section
variable {fs KW ex ex':List Addr} {H H1 H2:Hp} {h h1 h2 h':Heap} {a x e:Addr} {o:HO}
def Un.any(u:Un fs ex H H1 h h1)(q:h.get? b=some ob)(n:H b=none)(hx:b∉ex):∃sl,h1.get? b=some {ob with slots:=sl}:=by
 by_cases hb:b∈fs
 ·exact u.slot b ob q n hb hx
 ·exact⟨ob.slots,u.keep b ob q n hb hx⟩
def Un.trans(a:Un fs ex H H1 h h1)(b:Un fs ex H1 H2 h1 h2):Un fs ex H H2 h h2 where
 keep:=λc ob q n hc hx=>b.keep c ob (a.keep c ob q n hc hx) (a.free c ob q n hx) hc hx
 slot:=λc ob q n hc hx=>by
  obtain⟨sl,e1⟩:=a.slot c ob q n hc hx;obtain⟨QL,e2⟩:=b.slot c _ e1 (a.free c ob q n hx) hc hx;exact⟨QL,e2⟩
 free:=λc ob q n hx=>by
  obtain⟨o',e1⟩:=a.there c ob q hx;exact b.free c o' e1 (a.free c ob q n hx) hx
 there:=λc ob q hx=>by
  obtain⟨o',e1⟩:=a.there c ob q hx;exact b.there c o' e1 hx
 tups:=λc xs q=>b.tups c xs (a.tups c xs q)
 frzs:=λc ob xs q=>b.frzs c ob xs (a.frzs c ob xs q)
 tbls:=λc q e=>b.tbls c q (a.tbls c q e)
def Un.kept(k:∀b u,h.get? b=some u->h'.get? b=some u):Un fs ex H H h h' :=
 ⟨λb ob q _ _ _=>k b ob q,λb ob q _ _ _=>⟨ob.slots,k b ob q⟩,λ_ _ _ n _=>n,λb ob q _=>⟨ob,k b ob q⟩,λ_ _ q=>q,λ_ _ _ q=>q,λ_ _ q=>q⟩
def Un.refl:Un fs ex H H h h:=Un.kept λ_ _ q=>q
def Un.laid(k:∀b u,h.get? b=some u->h'.get? b=some u)(hp:h.objs.size<=a)(hn:H a=none):Un fs ex H (cK H a o) h h' where
 keep:=λb u q _ _ _=>k b u q
 slot:=λb u q _ _ _=>⟨u.slots,k b u q⟩
 free:=λb u q n _=>by rw[aK (br (bM (aG q) hp))];exact n
 there:=λb u q _=>⟨u,k b u q⟩
 tups:=λb xs q=>by rw[aK (cX q hn)];exact q
 frzs:=λb u xs q=>by rw[aK (cX q hn)];exact q
 tbls:=λb ps q=>by rw[aK (cX q hn)];exact q
def Un.write(mu:UN (H x))(he:e=x\/H e=some (.own x))(k:∀b u,b≠e->h.get? b=some u->h'.get? b=some u)(P9:∃u,h'.get? e=some u):Un fs ex H (cK H x o) h h':=by
 have hx:∀b,H b=none->b≠x:=λb n z=>by subst z;rw[n]at mu;exact mu
 have hb:∀b,H b=none->b≠e:=λb n z=>by
  subst z;rcases he with r | r
  ·exact hx b n r
  ·rw[n]at r;cases r
 have hm:∀b u,H b=some u->¬UN (some u)->b≠x:=λb u q nm z=>by subst z;rw[q]at mu;exact nm mu
 refine⟨λb u q n _ _=>k b u (hb b n) q,λb u q n _ _=>⟨u.slots,k b u (hb b n) q⟩,λb u q n _=>by rw[aK (hx b n)];exact n,λb u q _=>?_,
  λb xs q=>by rw[aK (hm b _ q λz=>z)];exact q,λb u xs q=>by rw[aK (hm b _ q λz=>z)];exact q,λb ps q=>by rw[aK (hm b _ q λz=>z)];exact q⟩
 by_cases Mo:b=e
 ·subst Mo;exact P9
 ·exact⟨u,k b u Mo q⟩
end
noncomputable def UO(h:Heap)(H:Hp):List Addr:=(List.range h.objs.size).filter λa=>(H a).isSome
def vK(h:Heap)(H:Hp):Heap:=W.hideAll h (UO h H)
def B9(h:Heap)(H:Hp):(vK h H).objs.size=h.objs.size:=W.hideAll_size _ _
def hidT_get(e:h.get? b=some o)(n:H b=none):(vK h H).get? b=some o :=
 W.hideAll_get _ e λhm=>by
  have q:=(yq.mp hm).2;rw[n]at q;simp at q
def of_hidT(e:(vK h H).get? b=some o):h.get? b=some o/\H b=none:=by
 have e':=W.of_hideAll (UO h H) e;refine⟨e',?_⟩;cases q:H b with
 | none=>rfl
 | some x =>
  have hm:b∈UO h H:=yq.mpr ⟨tV.mpr (aG e'),by simp[q]⟩
  have z:(vK h H).get? b=none:=W.hideAll_none (UO h H) hm;rw[z]at e;cases e
structure Mod (K:W.Frag) (mg:Str->Option Value) (base:Heap):Prop where
 kin:K.In base
 glob:base.Ns mainGlobals mg
 blt:∃mb,base.Ns builtinsNs mb/\∀x:Str,x≠"__name__"->mb x=bootBuiltins x
 nolimit:base.NoLimit
structure Cx where
 prog:Program
 w:World
 K:W.Frag
 mg:Str->Option Value
 base:Heap
 A:Around
 N:List Str
 s₀:Shared
 aa:Hp
 env:Env
 ax:List Env
 stack:List Env
 ex:List Addr
 fn:Str->Bool
 calm:Bool
 pn:List (Addr×Obj)
 xe:Value->Shared->Prop
noncomputable def eW(l:List Env):List Addr:=l.filterMap (·.frame)
abbrev Cx.fs(X:Cx):List Addr:=eW X.ax
def QM(sc:Scope)(x:Str):Prop:=sc.names.lookup x=some .local\/sc.names.lookup x=some .cell\/sc.names.lookup x=some .free
def KY(sc:Scope)(x:Str):Prop:=sc.names.lookup x=some .local\/sc.names.lookup x=some .cell
def Look(env:Env)(h:Heap)(m:Str->Option Value)(x:Str)(u:Value):Prop :=
 (env.kindOf x=some .local/\m x=some u)\/((env.kindOf x=some .cell\/env.kindOf x=some .free)/\∃c,env.cells.lookup x=some c/\h.IsCell c (some u))
noncomputable def Ik(x:Str):Str:=x++".<locals>."++"<lambda>"
def o8(K:W.Frag)(H:Hp):Prop:=∀x∈dm,∀c T,W.tabIn K x=some (c,T)->H T=some (.yx (Ik x))
structure Cx.Ok (X:Cx):Prop where
 mod:Mod X.K X.mg X.base
 kind:X.env.scope.kind=.function
 glob:X.env.globals=mainGlobals
 blt:X.env.builtins=builtinsNs
 above:X.s₀.heap.objs.size<=X.env.locals
 inj:∀x y c,X.env.cells.lookup x=some c->X.env.cells.lookup y=some c->x=y
 has:∀x,(X.env.kindOf x=some .cell\/X.env.kindOf x=some .free)->∃c,X.env.cells.lookup x=some c
 cab:∀x c,X.fn x=true->X.env.cells.lookup x=some c->X.s₀.heap.objs.size<=c
 hd:X.calm=true->X.A.handled=none
 frames:X.A.frames=some X.stack
 stk:X.stack=X.ax\/(X.stack=X.env::X.ax/\X.env.frame=some X.env.locals)
 exf:∀b∈X.ex,b≠X.env.locals/\∀x c,X.env.cells.lookup x=some c->c≠b
 bs:∀b o,X.base.get? b=some o->X.s₀.heap.get? b=some o/\X.aa b=none
 bsz:X.base.objs.size<=X.s₀.heap.objs.size
 noex:∀b o,X.base.get? b=some o->b∉X.ex
 exfs:∀b∈X.ex,b∉X.fs
 funs:X.s₀.heap.FunFrames X.base X.ax
 frf:∀b∈X.fs,X.aa b=none
 tabs:o8 X.K X.aa
structure Inv (X:Cx) (af:List (Addr×Obj)) (σ:List (Option V)) (H:Hp) (s:Shared):Prop where
 ok:X.Ok
 os:s.os=X.s₀.os
 bare:AllBare s.gens
 base:Un X.fs X.ex X.aa H X.s₀.heap s.heap
 loc:∃m,s.heap.Ns X.env.locals m/\∀(i:Nat) (x:Str) (v:V),X.N[i]?=some x->σ[i]?=some (some v)->QM X.env.scope x->∃u,RelV v u/\Look X.env s.heap m x u
 cell:∀x c,X.env.cells.lookup x=some c->∃v,s.heap.IsCell c v
 free:H X.env.locals=none
 freeC:∀x c,X.env.cells.lookup x=some c->H c=none
 pin:∀p∈X.pn++af,s.heap.get? p.1=some p.2/\H p.1=none/\p.1≠X.env.locals/\p.1∉X.fs/\∀v,p.2.data≠.cell v
 hok:kW X.prog X.w H s.heap
 len:σ.length=X.N.length
section
variable {X:Cx} {af:List (Addr×Obj)} {σ:List (Option V)} {H H':Hp} {s:Shared} {h':Heap}
def Cx.Ok.VN(ok:X.Ok)(e:X.base.get? b=some o):b∉X.fs:=λhb=>by
 have:=(ok.funs.mem hb).1;rw[e]at this;cases this
def Inv.bs(I:Inv X af σ H s):∀b o,X.base.get? b=some o->s.heap.get? b=some o/\H b=none:=λb o e =>
 ⟨I.base.keep b o (I.ok.bs b o e).1 (I.ok.bs b o e).2 (I.ok.VN e) (I.ok.noex b o e),I.base.free b o (I.ok.bs b o e).1 (I.ok.bs b o e).2 (I.ok.noex b o e)⟩
def Inv.bk(I:Inv X af σ H s):∀b o,X.base.get? b=some o->s.heap.get? b=some o:=λb o e=>(I.bs b o e).1
def Inv.mod(I:Inv X af σ H s):Mod X.K X.mg X.base:=I.ok.mod
def Inv.mJ(I:Inv X af σ H s):X.K.In s.heap:=I.ok.mod.kin.keeps I.bk
def Inv.lt(I:Inv X af σ H s):X.env.locals<s.heap.objs.size:=let ⟨_,hn,_⟩:=I.loc;hn.lt
def Inv.sz(I:Inv X af σ H s):X.s₀.heap.objs.size<=s.heap.objs.size:=aP I.ok.above (uc I.lt)
def Inv.VO(I:Inv X af σ H s){a:Addr}(h:s.heap.objs.size<=a):a∉X.fs:=λhb=>by
 obtain⟨_,o,ho,_⟩:=I.ok.funs.mem hb;exact absurd (bM (aG ho) (aP I.sz h)) (eU _)
def Inv.Mp(I:Inv X af σ H s):∀x c,X.env.cells.lookup x=some c->c≠X.env.locals:=λx c e z=>by
 obtain⟨v,o,ho,hd⟩:=I.cell x c e;obtain⟨m,⟨o',es,ep,o9,QN,_⟩,_⟩:=I.loc;rw[z,o9]at ho;cases ho;rw[QN]at hd;cases hd
def Inv.funs(I:Inv X af σ H s):s.heap.FunFrames X.base X.ax:=by
 have all:∀l,(∀b∈eW l,b∈X.fs)->X.s₀.heap.FunFrames X.base l->s.heap.FunFrames X.base l:=by
  intro l;induction l with
  | nil=>intro _ _;trivial
  | cons env r ih =>
   intro hs hl;obtain⟨hk,⟨L,o,hf,hn,ho,hd⟩,hr⟩:=hl;have hL:=hs L (by unfold eW;rw[yb,hf];exact dk)
   obtain⟨sl,e⟩:=I.base.slot L o ho (I.ok.frf L hL) hL λz=>I.ok.exfs L z hL
   exact⟨hk,⟨L,_,hf,hn,e,hd⟩,ih (λb hb=>hs b (by unfold eW;rw[yb,hf];exact cO _ hb)) hr⟩
 exact all X.ax (λ_ hb=>hb) I.ok.funs
def Inv.stack(I:Inv X af σ H s):s.heap.FunFrames X.base X.stack:=by
 rcases I.ok.stk with e | ⟨e,hf⟩
 ·rw[e];exact I.funs
 ·rw[e];obtain⟨m,hn,_⟩:=I.loc;refine .cons (by rw[I.ok.kind];decide) hf hn ?_ I.funs
  exact Heap.get?_none_of_le (aP I.ok.bsz I.ok.above)
def Inv.ug(I:Inv X af σ H s):∀b∈eW X.stack,b∈X.env.locals::X.fs:=λb hb=>by
 rcases I.ok.stk with e | ⟨e,hf⟩
 ·rw[e]at hb;exact cO _ hb
 ·rw[e]at hb;unfold eW at hb;rw[yb,hf]at hb;exact hb
def Inv.uh(I:Inv X af σ H s):∀b∈eW X.stack,H b=none:=λb hb=>by
 rcases bh.mp (I.ug b hb)with e | hb
 ·rw[e];exact I.free
 ·obtain⟨_,o,ho,_⟩:=I.ok.funs.mem hb;exact I.base.free b o ho (I.ok.frf b hb) λz=>I.ok.exfs b z hb
def Inv.tabs(I:Inv X af σ H s):o8 X.K H:=λx hx c T e=>I.base.tbls T _ (I.ok.tabs x hx c T e)
def Inv.step{g':Array GenState}{t':Nat}{d':Drawn}{ch:List Addr}(I:Inv X af σ H s)
  (KZ:∀b∈ch,(b∈X.ex\/X.s₀.heap.objs.size<=b)/\b≠X.env.locals/\(∀x c,X.env.cells.lookup x=some c->c≠b)/\∀p∈X.pn++af,p.1≠b)
  (keep:∀b o,b≠X.env.locals->b∉X.fs->b∉ch->s.heap.get? b=some o->H b=none->h'.get? b=some o)
  (slot:∀b o,b≠X.env.locals->b∈X.fs->b∉ch->s.heap.get? b=some o->H b=none->∃sl,h'.get? b=some {o with slots:=sl}) (free:∀b o,b∉ch->s.heap.get? b=some o->H b=none->H' b=none)
  (there:∀b o,b∉ch->s.heap.get? b=some o->∃o',h'.get? b=some o')
  (tups:∀b xs,H b=some (.aj xs)->H' b=some (.aj xs)) (frzs:∀b o u,H b=some (.vE o u)->H' b=some (.vE o u)) (tbls:∀b q,H b=some (.yx q)->H' b=some (.yx q))
  (ns:∀m,s.heap.Ns X.env.locals m->h'.Ns X.env.locals m) (hok:kW X.prog X.w H' h') (hg:AllBare g') :
  Inv X af σ H' {s with heap:=h',gens:=g',drawn:=d',toks:=t'}:=by
 have YF:∀b o,X.s₀.heap.get? b=some o->b≠X.env.locals:=λb o e=>br (bM (aG e) I.ok.above)
 have UP:∀b o,X.s₀.heap.get? b=some o->b∉X.ex->b∉ch:=λb o e hx hb=>by
  rcases(KZ b hb).1 with z | z
  ·exact hx z
  ·exact absurd (bM (aG e) z) (eU _)
 have cellK:∀x c,X.env.cells.lookup x=some c->∀v,s.heap.IsCell c v->h'.IsCell c v:=by
  rintro x c e v ⟨o,ho,hd⟩
  have QO:c∉ch:=by grind
  by_cases hc:c∈X.fs
  ·obtain⟨sl,q⟩:=slot c o (I.Mp x c e) hc QO ho (I.freeC x c e);exact⟨_,q,hd⟩
  ·exact⟨o,keep c o (I.Mp x c e) hc QO ho (I.freeC x c e),hd⟩
 refine⟨I.ok,I.os,hg,⟨λb o e n hb hx=>?_,λb o e n hb hx=>?_,λb o e n hx=>?_,λb o e hx=>?_,λb xs e=>tups b xs (I.base.tups b xs e),λb o xs e=>frzs b o xs (I.base.frzs b o xs e),λb ps e=>?_⟩,?_,λx c e=>?_,?_,λx c e=>?_,λp hp=>?_,hok,I.len⟩
 ·exact keep b o (YF b o e) hb (UP b o e hx) (I.base.keep b o e n hb hx) (I.base.free b o e n hx)
 ·obtain⟨sl,e1⟩:=I.base.slot b o e n hb hx;obtain⟨QL,e2⟩:=slot b _ (YF b o e) hb (UP b o e hx) e1 (I.base.free b o e n hx);exact⟨QL,e2⟩
 ·obtain⟨o',e1⟩:=I.base.there b o e hx;exact free b o' (UP b o e hx) e1 (I.base.free b o e n hx)
 ·obtain⟨o',e1⟩:=I.base.there b o e hx;exact there b o' (UP b o e hx) e1
 ·exact tbls b ps (I.base.tbls b ps e)
 ·obtain⟨m,hn,hl⟩:=I.loc;refine⟨m,ns m hn,λi x v e1 e2 e3=>?_⟩
  obtain⟨u,r,l⟩:=hl i x v e1 e2 e3;refine⟨u,r,?_⟩;rcases l with l | ⟨k,c,e,z⟩
  ·exact .inl l
  ·exact .inr ⟨k,c,e,cellK x c e _ z⟩
 ·obtain⟨v,z⟩:=I.cell x c e;exact⟨v,cellK x c e v z⟩
 ·obtain⟨m,⟨o,_,_,ho,_⟩,_⟩:=I.loc;exact free _ o (λz=>(KZ _ z).2.1 rfl) ho I.free
 ·obtain⟨v,o,ho,hd⟩:=I.cell x c e;exact free c o (λz=>(KZ c z).2.2.1 x c e rfl) ho (I.freeC x c e)
 ·obtain⟨e,n,ne,nf,d⟩:=I.pin p hp;have QO:p.1∉ch:=by grind
  exact⟨keep p.1 p.2 ne nf QO e n,free p.1 p.2 QO e n,ne,nf,d⟩
def Inv.un{t':Nat}(I:Inv X af σ H s)(u:Un X.fs [] H H' s.heap h')(hok:kW X.prog X.w H' h'):Inv X af σ H' {s with heap:=h',toks:=t'}:=by
 obtain⟨m,⟨o,es,ep,ho,r⟩,_⟩:=id I.loc;obtain⟨sl,hL⟩:=u.any ho I.free (by simp)
 exact I.step (ch:=[]) (λ_ z=>nomatch z) (λb o _ hb _ e n=>u.keep b o e n hb (by simp)) (λb o _ hb _ e n=>u.slot b o e n hb (by simp)) (λb o _ e n=>u.free b o e n (by simp)) (λb o _ e=>u.there b o e (by simp)) u.tups u.frzs u.tbls (λm' hm=>by
  obtain⟨o',QP,VP,o9,r'⟩:=hm;rw[ho]at o9;cases o9;exact⟨_,QP,VP,hL,r'⟩) hok I.bare
def Inv.call{g':Array GenState}{t':Nat}{d':Drawn}{ch:List Addr}(I:Inv X af σ H s)(u:Un (eW X.stack) ch H H' s.heap h')(hok:kW X.prog X.w H' h')(hg:AllBare g')
  (KZ:∀b∈ch,(b∈X.ex\/X.s₀.heap.objs.size<=b)/\b≠X.env.locals/\(∀x c,X.env.cells.lookup x=some c->c≠b)/\∀p∈X.pn++af,p.1≠b) :
  Inv X af σ H' {s with heap:=h',gens:=g',drawn:=d',toks:=t'}:=by
 obtain⟨m,⟨o,es,ep,ho,r⟩,_⟩:=id I.loc;obtain⟨sl,hL⟩:=u.any ho I.free λz=>(KZ _ z).2.1 rfl
 exact I.step KZ (λb o hL hb hc e n=>u.keep b o e n (λz=>(bh.mp (I.ug b z)).elim hL hb) hc) (λb o _ _ hc e n=>u.any e n hc) (λb o hc e n=>u.free b o e n hc) (λb o hc e=>u.there b o e hc) u.tups u.frzs u.tbls (λm' hm=>by
  obtain⟨o',QP,VP,o9,r'⟩:=hm;rw[ho]at o9;cases o9;exact⟨_,QP,VP,hL,r'⟩) hok hg
def Inv.turned{t':Nat}(I:Inv X af σ H s)(k:∀b o,b≠it->s.heap.get? b=some o->h'.get? b=some o)(hn:H it=none)(hL:it≠X.env.locals)
  (h1:it∈X.ex\/X.s₀.heap.objs.size<=it) (h2:∀x c,X.env.cells.lookup x=some c->c≠it) (h3:∀p∈X.pn++af,p.1≠it):Inv X af σ H {s with heap:=h',toks:=t'}:=by
 have QQ:∀b u,H b=some u->b≠it:=λb u e z=>by rw[z,hn]at e;cases e
 refine I.step (ch:=[it]) (λb hb=>?_) (λb o _ _ hc e _=>k b o (λz=>hc (by simp[z])) e) (λb o _ _ hc e _=>⟨o.slots,k b o (λz=>hc (by simp[z])) e⟩) (λ_ _ _ _ n=>n)
  (λb o hc e=>⟨o,k b o (λz=>hc (by simp[z])) e⟩) (λ_ _ e=>e) (λ_ _ _ e=>e) (λ_ _ e=>e) (λm hm=>?_) (λb u e=>?_) I.bare
 ·have e:b=it:=by simpa using hb
  subst e;exact⟨h1,hL,h2,h3⟩
 ·obtain⟨o,es,ep,ho,r⟩:=hm;exact⟨o,es,ep,k _ o (bZ hL) ho,r⟩
 ·refine(I.hok b u e).vJ (λc v hc q=>k c v ?_ q) (λ_ q=>q) (λ_ _ q=>q) λ_ _ _ q=>q
  rcases hc with z | z
  ·rw[z];exact QQ b u e
  ·exact QQ c _ z
def Inv.tok(I:Inv X af σ H s)(t:Nat):Inv X af σ H {s with toks:=t}:=I.un Un.refl I.hok
def Inv.kept(I:Inv X af σ H s)(k:∀b u,s.heap.get? b=some u->h'.get? b=some u):Inv X af σ H {s with heap:=h',toks:=t'}:=I.un (Un.kept k) (I.hok.kept k)
def Inv.laid{a:Addr}{o:HO}{t':Nat}(I:Inv X af σ H s)(k:∀b u,s.heap.get? b=some u->h'.get? b=some u)(hp:s.heap.objs.size<=a)(new:fg X.prog X.w (cK H a o) h' a o) :
  Inv X af σ (cK H a o) {s with heap:=h',toks:=t'}:=I.un (Un.laid k hp (I.hok.fresh hp)) (I.hok.laid k hp new)
def Inv.write(I:Inv X af σ H s)(mu:UN (H x))(he:e=x\/H e=some (.own x))(k:∀b u,b≠e->s.heap.get? b=some u->h'.get? b=some u)(P9:∃u,h'.get? e=some u)
  (new:fg X.prog X.w (cK H x o) h' x o):Inv X af σ (cK H x o) {s with heap:=h',toks:=t'}:=I.un (Un.write mu he k P9) (I.hok.write mu he k P9 new)
def Inv.lb(I:Inv X af σ H s)(h:∀p∈QR,s.heap.get? p.1=some p.2/\H p.1=none/\p.1≠X.env.locals/\p.1∉X.fs/\∀v,p.2.data≠.cell v):Inv X QR σ H s :=
 ⟨I.ok,I.os,I.bare,I.base,I.loc,I.cell,I.free,I.freeC,λp hp=>(cW.mp hp).elim (λz=>I.pin p (mm _ z)) (h p),I.hok,I.len⟩
def vL{N:List Str}(hN:N.Nodup){i j:Nat}(a:N[i]?=some x)(b:N[j]?=some x):i=j:=by
 obtain⟨h1,e1⟩:=c8.mp a;obtain⟨h2,e2⟩:=c8.mp b;exact(List.getElem_inj hN).mp (e1.trans e2.symm)
def store_ok2{M:Model}{A:Around}{E:Value->Shared->Prop}{i:Nat}{v:V}{u:Value}{Q:Unit->Shared->Prop}(I:Inv X af σ H s)(hN:X.N.Nodup)(hi:X.N[i]?=some x)(hx:KY X.env.scope x)(r:RelV v u)
  (h:∀s',Inv X af (σ.set i (some v)) H s'->(∃a,Heap.SameBut a s.heap s'.heap/\(a=X.env.locals\/X.env.cells.lookup x=some a))->Q () s') (hf:X.fn x=true\/X.env.scope.names.lookup x=some .local:=by first | exact .inl rfl | exact .inr rfl | assumption):wpAny M A (storeName X.env x u) Q E s:=by
 obtain⟨m,hn,hl⟩:=id I.loc;have VQ:(X.env.scope.kind==.class || (X.env.scope.kind==.module&&X.env.locals != X.env.globals))=false:=by rw[I.ok.kind];rfl
 have QS:i<σ.length:=by rw[I.len];exact(c8.mp hi).1
 have Mp:=I.Mp;have Av:∀{a:Addr} {h':Heap},(∃o,s.heap.get? a=some o/\H a=none)->Heap.SameBut a s.heap h'->kW X.prog X.w H h':=λ{a h'} ha hs b ob e=>by
  obtain⟨_,_,vM⟩:=ha;refine(I.hok b ob e).vJ (λc w' hc q=>(hs.2 c ?_).trans q) (λ_ q=>q) (λ_ _ q=>q) λ_ _ _ q=>q
  rintro rfl
  rcases hc with rfl | hc
  ·grind
  ·grind
 rcases hx with hk | hk
 ·refine wpAny_storeName_local hk hn (λh' hn' hs=>?_) VQ
  obtain⟨oL,_,_,hoL,_⟩:=id hn;refine h _ ⟨I.ok,I.os,I.bare,⟨λb o e n hb hx=>?_,λb o e n hb hx=>?_,I.base.free,λb o e hx=>?_,I.base.tups,I.base.frzs,I.base.tbls⟩,⟨_,hn',λj y v' e1 e2 e3=>?_⟩,λy c e=>?_,I.free,I.freeC,λp hp=>?_,Av ⟨oL,hoL,I.free⟩ hs,by simpa using I.len⟩ ⟨_,hs,.inl rfl⟩
  ·exact(hs.2 b (br (bM (aG e) I.ok.above))).trans (I.base.keep b o e n hb hx)
  ·obtain⟨sl,e1⟩:=I.base.slot b o e n hb hx;exact⟨sl,(hs.2 b (br (bM (aG e) I.ok.above))).trans e1⟩
  ·obtain⟨o',e1⟩:=I.base.there b o e hx;exact⟨o',(hs.2 b (br (bM (aG e) I.ok.above))).trans e1⟩
  ·by_cases hj:j=i
   ·subst hj;rw[hi]at e1;cases e1;rw[tq QS]at e2;cases e2;exact⟨u,r,.inl ⟨hk,by simp⟩⟩
   ·rw[aL (bZ hj)]at e2;obtain⟨u',r',q⟩:=hl j y v' e1 e2 e3;refine⟨u',r',?_⟩;rcases q with⟨k,e⟩ | ⟨k,c,e,z⟩
    ·refine .inl ⟨k,?_⟩;have:y≠x:=λe=>hj (vL hN e1 (e▸hi))
     simp[this,e]
    ·exact .inr ⟨k,c,e,z.sameBut hs (Mp y c e)⟩
  ·obtain⟨w',z⟩:=I.cell y c e;exact⟨w',z.sameBut hs (Mp y c e)⟩
  ·obtain⟨e,n,ne,nf,d⟩:=I.pin p hp;exact⟨(hs.2 p.1 ne).trans e,n,ne,nf,d⟩
 ·have QT:X.fn x=true:=by
   grind
  obtain⟨c,hc⟩:=I.ok.has x (.inl hk);obtain⟨w',z⟩:=I.cell x c hc;refine wpAny_storeName_cell I.ok.kind hk hc z (λh' yH hs=>?_)
  obtain⟨oc,YG,aaC⟩:=id z;refine h {s with heap:=h'} ⟨I.ok,I.os,I.bare,⟨λb o e n hb hx=>?_,λb o e n hb hx=>?_,I.base.free,λb o e hx=>?_,I.base.tups,I.base.frzs,I.base.tbls⟩,⟨m,hn.sameBut hs (bZ (Mp x c hc)),λj y v' e1 e2 e3=>?_⟩,λy c' e=>?_,I.free,I.freeC,λp hp=>?_,Av ⟨oc,YG,I.freeC x c hc⟩ hs,by simpa using I.len⟩ ⟨c,hs,.inr hc⟩
  ·exact(hs.2 b (br (bM (aG e) (I.ok.cab x c QT hc)))).trans (I.base.keep b o e n hb hx)
  ·obtain⟨sl,e1⟩:=I.base.slot b o e n hb hx;exact⟨sl,(hs.2 b (br (bM (aG e) (I.ok.cab x c QT hc)))).trans e1⟩
  ·obtain⟨o',e1⟩:=I.base.there b o e hx;exact⟨o',(hs.2 b (br (bM (aG e) (I.ok.cab x c QT hc)))).trans e1⟩
  ·by_cases hj:j=i
   ·subst hj;rw[hi]at e1;cases e1;rw[tq QS]at e2;cases e2;exact⟨u,r,.inr ⟨.inl hk,c,hc,yH⟩⟩
   ·rw[aL (bZ hj)]at e2;obtain⟨u',r',q⟩:=hl j y v' e1 e2 e3;refine⟨u',r',?_⟩;rcases q with q | ⟨k,c',e,z'⟩
    ·exact .inl q
    ·refine .inr ⟨k,c',e,z'.sameBut hs ?_⟩
     rintro rfl
     exact hj (vL hN e1 (I.ok.inj _ _ _ e hc▸hi))
  ·by_cases UQ:c'=c
   ·grind
   ·obtain⟨w2,z2⟩:=I.cell y c' e;exact⟨w2,z2.sameBut hs UQ⟩
  ·obtain⟨e,n,ne,nf,d⟩:=I.pin p hp;refine⟨(hs.2 p.1 ?_).trans e,n,ne,nf,d⟩;intro q;rw[q,YG]at e;have q':=bJ e;exact d w' (by grind)
def pd(I:Inv X af σ H s)(hN:X.N.Nodup)(hi:X.N[i]?=some x)(hx:KY X.env.scope x)(r:RelV v u)
  (h:∀s',Inv X af (σ.set i (some v)) H s'->Q () s') (hf:X.fn x=true\/X.env.scope.names.lookup x=some .local:=by first | exact .inl rfl | exact .inr rfl | assumption):wpAny M A (storeName X.env x u) Q E s :=
 store_ok2 I hN hi hx r (λs' I' _=>h s' I') hf
def Inv.K1(I:Inv X af σ H s)(ho:s'.os=s.os)(u:Un (eW X.stack) ch H H' s.heap s'.heap)(hok:kW X.prog X.w H' s'.heap)(hg:AllBare s'.gens)
  (KZ:∀b∈ch,(b∈X.ex\/X.s₀.heap.objs.size<=b)/\b≠X.env.locals/\(∀x c,X.env.cells.lookup x=some c->c≠b)/\∀p∈X.pn++af,p.1≠b):Inv X af σ H' s':=by
 obtain⟨h',g',d',t',o'⟩:=s';have e:=ho;subst e;exact I.call u hok hg KZ
end
abbrev XK:=Value->Option Addr->Hp->Prop
abbrev St:=List (Option V)
abbrev VK:=V->Hp->Prop
abbrev TE:=St->Hp->VK->Prop
abbrev TT:=St->Hp->(Bool->Hp->Prop)->Prop
abbrev TA:=St->Hp->(List V->Hp->Prop)->Prop
structure vN where
 nx:St->Hp->Prop
 rt:VK
 bk:St->Hp->Prop:=λ_ _=>False
 ct:St->Hp->Prop:=λ_ _=>False
abbrev TS:=vN->St->Hp->Prop
def EP(X:Cx)(af:List (Addr×Obj))(σ:St)(Q:VK)(u:Value)(s':Shared):Prop:=∃v H',Inv X af σ H' s'/\RelV v u/\Q v H'
def TP(X:Cx)(af:List (Addr×Obj))(σ:St)(Q:Bool->Hp->Prop)(b:Bool)(s':Shared):Prop:=∃H',Inv X af σ H' s'/\Q b H'
def AP(X:Cx)(af:List (Addr×Obj))(σ:St)(Q:List V->Hp->Prop)(us:List Value)(s':Shared):Prop:=∃vs H',Inv X af σ H' s'/\Vals vs us/\Q vs H'
def SP(X:Cx)(af:List (Addr×Obj))(D:vN)(f:Flow)(s':Shared):Prop :=
 match f with
 | .next=>∃bD H',Inv X af bD H' s'/\D.nx bD H'
 | .brk=>∃bD H',Inv X af bD H' s'/\D.bk bD H'
 | .cont=>∃bD H',Inv X af bD H' s'/\D.ct bD H'
 | .ret u=>∃v bD H',Inv X af bD H' s'/\RelV v u/\D.rt v H'
def PE(X:Cx)(e:Expr)(t:TE):Prop :=
 ∀(af:List (Addr×Obj)) (s:Shared) (σ:St) (H:Hp) (Q:VK),Inv X af σ H s->t σ H Q->wpAny (model X.prog X.w) X.A (eval e X.env) (EP X af σ Q) X.xe s
def PT(X:Cx)(e:Expr)(t:TT):Prop :=
 ∀(af:List (Addr×Obj)) (s:Shared) (σ:St) (H:Hp) (Q:Bool->Hp->Prop),Inv X af σ H s->t σ H Q->wpAny (model X.prog X.w) X.A (isTrue e X.env (eval e X.env)) (TP X af σ Q) X.xe s
def PW(X:Cx)(e:Expr)(t:TT):Prop :=
 ∀(iL:Sem Value) (af:List (Addr×Obj)) (s:Shared) (σ:St) (H:Hp) (Q:Bool->Hp->Prop),Inv X af σ H s->t σ H Q->wpAny (model X.prog X.w) X.A (isTrue e X.env iL) (TP X af σ Q) X.xe s
def PW.pt(h:PW X e t):PT X e t:=h _
def PA(X:Cx)(es:List Expr)(t:TA):Prop :=
 ∀(pos:Pos) (af:List (Addr×Obj)) (s:Shared) (σ:St) (H:Hp) (Q:List V->Hp->Prop),Inv X af σ H s->t σ H Q->wpAny (model X.prog X.w) X.A (spliced (backTo pos (starEach es X.env))) (AP X af σ Q) X.xe s
def PS(X:Cx)(st:Stmt)(t:TS):Prop :=
 ∀(af:List (Addr×Obj)) (s:Shared) (σ:St) (H:Hp) (D:vN),Inv X af σ H s->t D σ H->wpAny (model X.prog X.w) X.A (exec st X.env) (SP X af D) X.xe s
def PSs(X:Cx)(st:List Stmt)(t:TS):Prop :=
 ∀(af:List (Addr×Obj)) (s:Shared) (σ:St) (H:Hp) (D:vN),Inv X af σ H s->t D σ H->wpAny (model X.prog X.w) X.A (execs st X.env) (SP X af D) X.xe s
def thn{α:Type}{t:Sem α}{Q Q':α->Shared->Prop}{M:Model}{A:Around}{E:Value->Shared->Prop}(h:wpAny M A t Q E s)(hQ:∀a s,Q a s->Q' a s):wpAny M A t Q' E s:=oV h hQ λ_ _ x=>x
section
variable {X:Cx}
def Mq(i:Nat):TE:=λσ H Q=>∃v,σ[i]?=some (some v)/\Q v H
def tC(v:V):TE:=λ_ H Q=>Q v H
def pe_var{i:Nat}{x:Str}{pos:Pos}(hN:X.N[i]?=some x)(hv:QM X.env.scope x)(hd:(x==("__debug__":Str))=false:=by decide)(xG:(x==("__classdict__":Str))=false:=by decide):PE X (.Name x pos) (Mq i):=by
 intro af s σ H Q I h;obtain⟨v,e,h⟩:=h;obtain⟨m,hn,hl⟩:=I.loc;obtain⟨u,r,l⟩:=hl i x v hN e hv;have hJ:EP X af σ Q u s:=⟨v,H,I,r,h⟩;rcases l with⟨hk,hm⟩ | ⟨hk,c,hc,rJ⟩
 ·exact wpAny_Name (wpAny_loadName_local I.ok.kind hk hn hm hJ) hd
 ·rcases hk with hk | hk
  ·exact wpAny_Name (wpAny_loadName_cell I.ok.kind hk hc rJ hJ) hd
  ·exact wpAny_Name (wpAny_loadName_free I.ok.kind hk hc rJ hJ xG) hd
def Mr{i j pos}:PE X (.Constant (.int i) j pos) (tC (.int i)):=λ_ _ _ H _ I h=>wpAny_Constant_int ⟨.int i,H,I.tok _,⟨_,rfl⟩,h⟩
def QU{b j pos}:PE X (.Constant (.bool b) j pos) (tC (.bl b)):=λ_ _ _ H _ I h=>Constant_bool ⟨.bl b,H,I,rfl,h⟩
def Ms{j pos}:PE X (.Constant .none j pos) (tC .az):=λ_ _ _ H _ I h=>Constant_none ⟨.az,H,I,rfl,h⟩
def Mt{x j pos}:PE X (.Constant (.str x) j pos) (tC (.str x)):=λ_ _ _ H _ I h=>Calls.Constant_str ⟨.str x,H,I.tok _,⟨_,rfl⟩,h⟩
def Gl(X:Cx)(x:Str):Prop:=X.env.kindOf x=some .globalImplicit
def ld_glob{E:Value->Shared->Prop}{af:List (Addr×Obj)}{s:Shared}{σ:St}{H:Hp}{x:Str}{u:Value}{pos:Pos}{Q:Value->Shared->Prop}(I:Inv X af σ H s)(hg:Gl X x)(hm:X.mg x=some u)(h:Q u s)
  (hd:(x==("__debug__":Str))=false:=by decide):wpAny (model X.prog X.w) X.A (eval (.Name x pos) X.env) Q E s :=
 DG I.ok.kind hg (Calls.loadGlobal_global (by rw[I.ok.glob];exact I.mod.glob.keeps I.bk) hm h) hd
def ld_blt{E:Value->Shared->Prop}{af:List (Addr×Obj)}{s:Shared}{σ:St}{H:Hp}{x:Str}{u:Value}{pos:Pos}{Q:Value->Shared->Prop}(I:Inv X af σ H s)(hg:Gl X x)(hm:X.mg x=none)(hv:bootBuiltins x=some u)(h:Q u s)
  (hn:x≠"__name__":=by decide) (hd:(x==("__debug__":Str))=false:=by decide):wpAny (model X.prog X.w) X.A (eval (.Name x pos) X.env) Q E s:=by
 obtain⟨mb,h1,h2⟩:=I.mod.blt;exact DG I.ok.kind hg (Calls.loadGlobal_builtin (by rw[I.ok.glob];exact I.mod.glob.keeps I.bk) hm (by rw[I.ok.blt];exact h1.keeps I.bk) ((h2 x hn).trans hv) h) hd
def ui(hg:Gl X x)(hm:X.mg x=some u)(r:RelV v u)(hd:(x==("__debug__":Str))=false:=by decide):PE X (.Name x pos) (tC v) :=
 λ_ _ _ H _ I h=>ld_glob I hg hm ⟨v,H,I,r,h⟩ hd
def Il{x:Str}{v:V}{u:Value}{pos:Pos}(hg:Gl X x)(hm:X.mg x=none)(hv:bootBuiltins x=some u)(r:RelV v u)(hn:x≠"__name__":=by decide)(hd:(x==("__debug__":Str))=false:=by decide):PE X (.Name x pos) (tC v) :=
 λ_ _ _ H _ I h=>ld_blt I hg hm hv ⟨v,H,I,r,h⟩ hn hd
variable {a b:Expr} {ta tb:TE} {pos:Pos}
variable {tA UR:TT} {rest:List Expr}
def VR(t u:TT):TT:=λσ H Q=>t σ H λc H1=>if c=true then u σ H1 Q else Q false H1
def tOr(t u:TT):TT:=λσ H Q=>t σ H λc H1=>if c=true then Q true H1 else u σ H1 Q
def VS(t:TT):TT:=λσ H Q=>t σ H λc H1=>Q (!c) H1
def Im(ha:PT X a tA):PW X (.BoolOp .And [a] pos) tA:=by
 intro wh af s σ H Q I h;refine isTrue_and (thn (ha af s σ H Q I h) λc s1 e=>?_)
 cases c with
 | true=>exact isTrue_and_nil e
 | false=>exact e
def Mu(ha:PT X a tA):PW X (.BoolOp .Or [a] pos) tA:=by
 intro wh af s σ H Q I h;refine isTrue_or (thn (ha af s σ H Q I h) λc s1 e=>?_)
 cases c with
 | false=>exact isTrue_or_nil e
 | true=>exact e
def Mv(ha:PT X a tA)(hb:PW X (.BoolOp .And (b::rest) pos) UR):PW X (.BoolOp .And (a::b::rest) pos) (VR tA UR):=by
 intro wh af s σ H Q I h;refine isTrue_and (thn (ha af s σ H _ I h) λc s1 ⟨H1,I1,q1⟩=>?_)
 cases c with
 | true=>exact hb wh af s1 σ H1 Q I1 q1
 | false=>exact⟨H1,I1,q1⟩
def QV(ha:PT X a tA)(hb:PW X (.BoolOp .Or (b::rest) pos) UR):PW X (.BoolOp .Or (a::b::rest) pos) (tOr tA UR):=by
 intro wh af s σ H Q I h;refine isTrue_or (thn (ha af s σ H _ I h) λc s1 ⟨H1,I1,q1⟩=>?_)
 cases c with
 | true=>exact⟨H1,I1,q1⟩
 | false=>exact hb wh af s1 σ H1 Q I1 q1
def Mw(ha:PT X a tA):PT X (.UnaryOp .Not a pos) (VS tA):=by
 intro af s σ H Q I h;exact isTrue_not (ha af s σ H (λc H1=>Q (!c) H1) I h)
def QW(ta:TE):TE:=λσ H Q=>ta σ H λx H1=>∃c,x=.bl c/\Q (.bl (!c)) H1
def D8{op}(h:PE X a t):PE X (.BoolOp op [a] pos) t:=λaf s σ H Q I hw=>BoolOp_one (h af s σ H Q I hw)
def Mx(ha:PE X a ta):PE X (.UnaryOp .Not a pos) (QW ta):=by
 intro af s σ H Q I h;refine UnaryOp_ (thn (ha af s σ H _ I h) λv s1 ⟨x,H1,I1,r1,q1⟩=>?_)
 obtain⟨c,rfl,q1⟩:=q1;cases r1;exact not_of (kh ⟨.bl (!c),H1,I1,rfl,q1⟩)
def tIf(t:TT)(ta tb:TE):TE:=λσ H Q=>t σ H λc H1=>if c=true then ta σ H1 Q else tb σ H1 Q
def D9(hc:PT X c tA)(ha:PE X a ta)(hb:PE X b tb):PE X (.IfExp c a b pos) (tIf tA ta tb):=by
 intro af s σ H Q I h;refine wpAny_IfExp (thn (hc af s σ H _ I h) λd s1 ⟨H1,I1,q1⟩=>?_)
 cases d with
 | true=>exact ha af s1 σ H1 Q I1 q1
 | false=>exact hb af s1 σ H1 Q I1 q1
end
def uj(K:W.Frag)(H:Hp)(a:Addr)(xs:List V):Prop :=
 Rd H a (.lst xs) \/
  ∃(o:Obj) (ar:Array Value) (n:Nat),K.lookup a=some o/\o.cls=.type "list"/\o.dict=none/\o.data=.seq ar n/\ar.size<=sizeLine/\Vals xs ar.toList
def iJ.sq{K:W.Frag}{H:Hp}{a:Addr}{xs:List V}(h:iJ K H a xs):uj K H a xs:=by
 rcases h with h | ⟨ar,n,e,z,r⟩
 ·exact .inl h
 ·exact .inr ⟨_,ar.toArray,n,e,rfl,rfl,rfl,by grind,by grind⟩
noncomputable def VT:Value->Option V
 | .none=>some .az
 | .bool b=>some (.bl b)
 | .int i _=>some (.int i)
 | .str x _=>some (.str x)
 | .bytes b _=>some (.P5 b)
 | .float b _=>some (.UH b)
 | .ref a=>some (.ref a)
 | .type n=>some (.ty n)
 | _=>none
def RelV.abs(r:RelV x u):VT u=some x:=by
 cases x with
 | az=>cases r;rfl
 | bl _=>cases r;rfl
 | int _=>obtain⟨t,rfl⟩:=r;rfl
 | str _=>obtain⟨t,rfl⟩:=r;rfl
 | P5 _=>obtain⟨t,rfl⟩:=r;rfl
 | UH _=>obtain⟨t,rfl⟩:=r;rfl
 | ref _=>cases r;rfl
 | ty _=>cases r;rfl
def RelV.inj(r:RelV x u)(q:RelV y u):x=y:=bJ (r.abs.symm.trans q.abs)
theorem Vals.inj:∀{xs ys:List V} {us:List Value},Vals xs us->Vals ys us->xs=ys
 | _,_,_,.nil,.nil=>rfl
 | _,_,_,.cons r t,.cons r' t'=>by rw[r.inj r',Vals.inj t t']
section
variable {X:Cx} {af:List (Addr×Obj)} {σ:St} {H:Hp} {s:Shared} {a:Addr} {xs ys:List V}
def gw.of{K:W.Frag}(h:H a=some (.aj xs)):gw K H a xs:=.inl (.inl h)
def Inv.list(I:Inv X af σ H s)(h:uj X.K H a xs):∃ar:List Value,Vals xs ar/\PlainL s.heap a ar.toArray/\xs.length<=sizeLine:=by
 rcases h with h | ⟨o,ar,n,hk,hc,hd,hs,hz,r⟩
 ·obtain⟨z,ar,n,r,e⟩:=h.ok I.hok;exact⟨ar,r,⟨_,n,e,rfl,rfl,rfl⟩,z⟩
 ·refine⟨ar.toList,r,⟨o,n,I.mJ a o hk,hc,hd,by simp_all⟩,?_⟩
  have e:=r.length;simp only[oI]at e
  lia
def Inv.My(I:Inv X af σ H s)(h:gw X.K H a xs):∃ar:List Value,Vals xs ar/\nM s.heap a ar.toArray/\xs.length<=sizeLine:=by
 rcases h with h | ⟨o,ar,n,hk,hc,⟨hs,hd⟩,hz,r⟩
 ·obtain⟨z,ar,r,p⟩:=h.ok I.hok;exact⟨ar,r,p,z⟩
 ·refine⟨ar.toList,r,⟨o,I.mJ a o hk,hc,⟨n,by simp_all⟩,hd⟩,?_⟩
  have e:=r.length;simp only[oI]at e
  lia
def Inv.tuple(I:Inv X af σ H s)(h:gw X.K H a xs):∃ar:List Value,Vals xs ar/\IsTup s.heap a ar.toArray/\xs.length<=sizeLine:=by
 obtain⟨ar,r,p,z⟩:=I.My h;exact⟨ar,r,p.is,z⟩
def Inv.lg(I:Inv X af σ H s)(h:uj X.K H a xs)(h':uj X.K H a ys):xs=ys:=by
 obtain⟨ar,r,⟨o,n,e,_,_,d⟩,_⟩:=I.list h;obtain⟨its',r',⟨o',n',e',_,_,d'⟩,_⟩:=I.list h';rw[e]at e';cases e';rw[d]at d';injection d' with d1 _
 have:ar=its':=by grind
 subst this;exact r.inj r'
def Inv.jC(I:Inv X af σ H s)(h:gw X.K H a xs)(h':gw X.K H a ys):xs=ys:=by
 obtain⟨ar,r,⟨o,e,_,n,d⟩,_⟩:=I.tuple h;obtain⟨its',r',⟨o',e',_,n',d'⟩,_⟩:=I.tuple h';rw[e]at e';cases e';rw[d]at d';injection d' with d1 _
 have:ar=its':=by grind
 subst this;exact r.inj r'
end
section
variable {X:Cx} {st:Stmt} {rest:List Stmt} {t u:TS} {e:Expr} {te:TE} {pos:Pos}
def K2:TS:=λD σ H=>D.nx σ H
def VU(t u:TS):TS:=λD σ H=>t {D with nx:=u D} σ H
def Io:PSs X [] K2:=λ_ _ σ H _ I h=>tQ ⟨σ,H,I,h⟩
def Ea(h1:PS X st t)(h2:PSs X rest u):PSs X (st::rest) (VU t u):=by
 intro af s σ H D I h;refine wpAny_execs_cons (thn (h1 af s σ H {D with nx:=u D} I h) λf s1 q=>?_)
 cases f with
 | next =>
  obtain⟨bD,H',I',q⟩:=q;exact h2 af s1 bD H' D I' q
 | ret v=>exact q
 | brk=>exact q
 | cont=>exact q
def Ip(h1:PS X st t):PSs X [st] t:=by
 intro af s σ H D I h;refine wpAny_execs_cons (thn (h1 af s σ H D I h) λf s1 q=>?_)
 cases f with
 | next=>exact tQ q
 | ret v=>exact q
 | brk=>exact q
 | cont=>exact q
def Mz:TS:=λD σ H=>D.bk σ H
def QX:TS:=λD σ H=>D.ct σ H
def Iq:PS X (.Pass pos) K2:=λ_ _ σ H _ I h=>wpAny_Pass ⟨σ,H,I,h⟩
def Eb:PS X (.Break pos) Mz:=λ_ _ σ H _ I h=>wpAny_Break ⟨σ,H,I,h⟩
def vO:PS X (.Continue pos) QX:=λ_ _ σ H _ I h=>wpAny_Continue ⟨σ,H,I,h⟩
def Inv.quiet{af:List (Addr×Obj)}{σ:St}{H:Hp}{s:Shared}(I:Inv X af σ H s):interactive X.env=false:=by simp[interactive,I.ok.kind]
def QY(te:TE):TS:=λD σ H=>te σ H λ_ H1=>D.nx σ H1
def Ir(he:PE X e te)(hs:swapsWith e none pos.line X.env=pure false:=by rfl):PS X (.Expr e pos) (QY te):=by
 intro af s σ H D I h;exact wpAny_Expr_any (thn (he af s σ H _ I h) (by rintro v s1 ⟨x,H1,I1,r1,q1⟩;exact⟨σ,H1,I1,q1⟩)) I.quiet hs
def VV(te:TE):TS:=λD σ H=>te σ H D.rt
def MA(he:PE X e te):PS X (.Return (some e) pos) (VV te):=by
 intro af s σ H D I h;exact wpAny_Return_some (thn (he af s σ H _ I h) (by rintro v s1 ⟨x,H1,I1,r1,q1⟩;exact⟨x,σ,H1,I1,r1,q1⟩))
def QZ:TS:=λD _ H=>D.rt .az H
def Iu:PS X (.Return none pos) QZ:=λ_ _ σ H _ I h=>wpAny_Return_none ⟨.az,σ,H,I,rfl,h⟩
def VW(c:TT)(t u:TS):TS:=λD σ H=>c σ H λb H1=>if b=true then t D σ H1 else u D σ H1
def Q3(hc:PT X c tc)(ha:PSs X a t)(hb:PSs X b u):PS X (.If c a b pos) (VW tc t u):=by
 intro af s σ H D I h;refine wpAny_If (thn (hc af s σ H _ I h) λd s1 ⟨H1,I1,q1⟩=>?_)
 cases d with
 | true=>exact ha af s1 σ H1 D I1 q1
 | false=>exact hb af s1 σ H1 D I1 q1
end
abbrev TG:=V->St->Hp->(St->Hp->Prop)->Prop
abbrev K3:=List V->St->Hp->(St->Hp->Prop)->Prop
def PG(X:Cx)(target:Expr)(t:TG):Prop :=
 ∀(af:List (Addr×Obj)) (s:Shared) (σ:St) (H:Hp) (v:V) (u:Value) (Q:St->Hp->Prop),Inv X af σ H s->RelV v u->t v σ H Q ->
  wpAny (model X.prog X.w) X.A (assign target X.env u) (λ_ s'=>∃bD H',Inv X af bD H' s'/\Q bD H') X.xe s
def PGs(X:Cx)(ts:List Expr)(t:K3):Prop :=
 ∀(af:List (Addr×Obj)) (s:Shared) (σ:St) (H:Hp) (vs:List V) (us:List Value) (Q:St->Hp->Prop),Inv X af σ H s->Vals vs us->t vs σ H Q ->
  wpAny (model X.prog X.w) X.A (assignInOrder ((assignEach ts X.env).map (·.2)) us) (λ_ s'=>∃bD H',Inv X af bD H' s'/\Q bD H') X.xe s
abbrev Ec:=V->V->V->Hp->(Hp->Prop)->Prop
def Ed(X:Cx)(t:Ec):Prop :=
 ∀(af:List (Addr×Obj)) (s:Shared) (σ:St) (H:Hp) (o i v:V) (ov iv u:Value) (Q:Hp->Prop),Inv X af σ H s->RelV o ov->RelV i iv->RelV v u->t o i v H Q ->
  wpAny (model X.prog X.w) X.A (setItem ov iv u) (λ_ s'=>∃H',Inv X af σ H' s'/\Q H') X.xe s
abbrev YH:=V->V->Hp->VK->Prop
def PIp(X:Cx)(op:Operator)(t:YH):Prop :=
 ∀(af:List (Addr×Obj)) (s:Shared) (σ:St) (H:Hp) (x y:V) (v u:Value) (Q:VK),Inv X af σ H s->RelV x v->RelV y u->t x y H Q ->
  wpAny (model X.prog X.w) X.A (inplaceOp op v u) (EP X af σ Q) X.xe s
section
variable {X:Cx} {pos:Pos}
def gName(i:Nat):TG:=λv σ H Q=>Q (σ.set i (some v)) H
def Iv(hN:X.N.Nodup)(hi:X.N[i]?=some x)(hx:KY X.env.scope x)(hf:X.fn x=true\/X.env.scope.names.lookup x=some .local:=by first | exact .inl rfl | exact .inr rfl | assumption):PG X (.Name x pos) (gName i):=by
 intro af s σ H v u Q I r h;exact wpAny_assign_Name (pd I hN hi hx r (λs' I'=>⟨_,H,I',h⟩) hf)
def VX:K3:=λvs σ H Q=>vs=[]/\Q σ H
def Q4(t:TG)(u:K3):K3:=λvs σ H Q=>∃v r,vs=v::r/\t v σ H λbD H'=>u r bD H' Q
def Iw:PGs X [] VX:=by
 intro af s σ H vs us Q I r h;obtain⟨e,h⟩:=h;subst e;cases r;exact assignInOrder_nil ⟨σ,H,I,h⟩
def Ee(h1:PG X e t)(h2:PGs X es u)
  (hs:(assignEach (e::es) X.env).map (·.2)=assign e X.env::(assignEach es X.env).map (·.2):=by rfl):PGs X (e::es) (Q4 t u):=by
 intro af s σ H vs us Q I r h;obtain⟨v,vr,e1,h⟩:=h;subst e1;cases r with
 | cons r rr =>
  rw[hs];refine assignInOrder_cons (thn (h1 af s σ H _ _ _ I r h) λ_ s1 ⟨iz,H1,I1,q1⟩=>?_)
  exact h2 af s1 iz H1 _ _ Q I1 rr q1
def VY(K:W.Frag)(n:Nat)(t:K3):TG:=λv σ H Q=>∃a xs,v=.ref a/\gw K H a xs/\xs.length=n/\t xs σ H Q
def MB{es:List Expr}{k:Nat}{t:K3}{n:Nat}(hc:X.calm=true)(h:PGs X es t)
  (hn:(assignEach es X.env).length=n:=by rfl) (qM:(assignEach es X.env).findIdx? (·.1)=none:=by rfl):PG X (.Tuple es k pos) (VY X.K n t):=by
 intro af s σ H v u Q I r hw;obtain⟨a,xs,e1,hq,hl,hw⟩:=hw;subst e1;cases r;obtain⟨ar,rv,ht,hz⟩:=I.tuple hq;refine assign_Tuple_tuple (I.ok.hd hc) ht (by simp[hn,<-hl,rv.length]) qM λh' hx=>?_
 have I1:=I.kept (t':=s.toks) λb o e=>hx b o (br (aG e)) e
 exact h af _ σ H xs _ Q I1 (by grind) hw
def VZ(to ti:TE)(t:Ec):TG:=λv σ H Q=>to σ H λo H1=>ti σ H1 λi H2=>t o i v H2 λH3=>Q σ H3
def MC(ho:PE X o to)(hi:PE X i ti)(hs:Ed X t)
  (ha:∀v,assign (.Subscript o i pos) X.env v=(do
   let ov <-holding [v] (eval o X.env)
   let iv <-holding [v,ov] (eval i X.env)
   standAt pos
   holding [v,ov,iv] (setItem ov iv v)
   release [v,ov,iv] []):=by intro _;rfl):PG X (.Subscript o i pos) (VZ to ti t):=by
 intro af s σ H v u Q I r h;rw[ha];refine ag (dY (thn (ho af s σ H _ I h) λov s1 ⟨x,H1,I1,r1,q1⟩=>?_))
 refine ag (dY (thn (hi af s1 σ H1 _ I1 q1) λiv s2 ⟨y,H2,I2,r2,q2⟩=>?_))
 refine ag (ua (ag (dY (thn (hs af s2 σ H2 x y v ov iv u _ I2 r1 r2 r q2) λ_ s3 ⟨H3,I3,q3⟩=>?_))))
 exact wpAny_release ⟨σ,H3,I3,q3⟩
def Iy(te:TE)(g:TG):TS:=λD σ H=>te σ H λx H1=>g x σ H1 D.nx
def Ef(he:PE X e te)(hg:PG X tg g)(hs:swapsWithSole [tg] e pos.line X.env=pure false:=by rfl)(hw:swappedStores [tg] e X.env=pure none:=by rfl)
  (h1:(assignEach [tg] X.env).map (·.2)=[assign tg X.env]:=by rfl):PS X (.Assign [tg] e pos) (Iy te g):=by
 intro af s σ H D I h;refine wpAny_Assign_stores (thn (he af s σ H _ I h) λv s1 ⟨x,H1,I1,r1,q1⟩=>?_) hs hw
 rw[h1];exact thn (hg af s1 σ H1 x v _ I1 r1 q1) λ_ s2 q=>q
def MD(hN:X.N.Nodup)(hi:X.N[i]?=some x)(hx:KY X.env.scope x)(he:PE X e te)(hs:swapsWith e (some (.Name x nN)) pos.line X.env=pure false:=by rfl)(hf:X.fn x=true\/X.env.scope.names.lookup x=some .local:=by first | exact .inl rfl | exact .inr rfl | assumption) :
  PS X (.Assign [.Name x nN] e pos) (Iy te (gName i)):=by
 intro af s σ H D I h;refine wpAny_Assign_Name (thn (he af s σ H _ I h) λv s1 ⟨y,H1,I1,r1,q1⟩=>?_) hs
 exact pd I1 hN hi hx r1 (λs2 I2=>⟨_,H1,I2,q1⟩) hf
def V0(i:Nat)(te:TE)(ti:YH):TS:=λD σ H=>∃x,σ[i]?=some (some x)/\te σ H λy H1=>ti x y H1 λz H2=>D.nx (σ.set i (some z)) H2
def ME(hN:X.N.Nodup)(hi:X.N[i]?=some x)(hx:KY X.env.scope x)(he:PE X e te)(ho:PIp X op ti)(hf:X.fn x=true\/X.env.scope.names.lookup x=some .local:=by first | exact .inl rfl | exact .inr rfl | assumption) :
  PS X (.AugAssign (.Name x nN) op e pos) (V0 i te ti):=by
 intro af s σ H D I h;obtain⟨v,e1,h⟩:=h;obtain⟨m,hn,hl⟩:=I.loc;have Qa:QM X.env.scope x:=by rcases hx with k | k;exact .inl k;exact .inr (.inl k)
 obtain⟨u,r,l⟩:=hl i x v hi e1 Qa;refine wpAny_AugAssign_Name ?_;have go:wpAny (model X.prog X.w) X.A (eval e X.env) (λw MF=>wpAny (model X.prog X.w) X.A (inplaceOp op u w) (λr V1=>wpAny (model X.prog X.w) X.A (storeName X.env x r) (λ_=>SP X af D .next) X.xe V1) X.xe MF) X.xe s:=by
  refine thn (he af s σ H _ I h) λw s1 ⟨y,H1,I1,r1,q1⟩=>?_
  refine thn (ho af s1 σ H1 v y u w _ I1 r r1 q1) λz s2 ⟨zv,H2,I2,r2,q2⟩=>?_
  exact pd I2 hN hi hx r2 (λs3 I3=>⟨_,H2,I3,q2⟩) hf
 rcases l with⟨hk,hm⟩ | ⟨hk,c,hc,rJ⟩
 ·exact wpAny_loadName_local I.ok.kind hk hn hm go
 ·rcases hk with hk | hk
  ·exact wpAny_loadName_cell I.ok.kind hk hc rJ go
  ·rcases hx with k | k
   ·have:X.env.scope.names.lookup x=some .free:=hk;rw[k]at this;cases this
   ·have:X.env.scope.names.lookup x=some .free:=hk;rw[k]at this;cases this
end
section
variable {X:Cx} {pos:Pos}
def MH(c:TT)(tb:TS):TS:=λD σ H=>∃W:Nat->St->Hp->Prop,(∃m,W m σ H)/\∀m σ H,W m σ H ->
 c σ H λb H1=>if b=true then ∃N:St->Hp->Prop,(∀bD H',N bD H'->∃m',m'<m/\W m' bD H')/\tb {D with nx:=N,ct:=N,bk:=D.nx} σ H1 else D.nx σ H1
def Eg(hp:PassesOwn (model X.prog X.w) X.A X.env X.xe)(hc:PT X c tc)(hb:PSs X body tb):PS X (.While c body [] pos) (MH tc tb):=by
 intro af s σ H D I h;obtain⟨W,⟨m0,w0⟩,pe⟩:=h;refine wpAny_While (codeAny_whileLoop (λn s'=>∃bD H',Inv X af bD H' s'/\W n bD H') ?_ m0 ⟨σ,H,I,w0⟩)
 rintro n s1 ⟨iz,H1,I1,w1⟩
 refine kj hp (thn (hc af s1 iz H1 _ I1 (pe n iz H1 w1)) λb s2 ⟨H2,I2,q2⟩=>?_)
 cases b with
 | true =>
  obtain⟨N,hN,q2⟩:=q2;rw[if_pos rfl];refine kj hp (thn (hb af s2 iz H2 _ I2 q2) λf s3 q3=>?_)
  cases f with
  | next =>
   obtain⟨nO,H3,I3,n3⟩:=q3;obtain⟨m',hm,w3⟩:=hN nO H3 n3;exact⟨m',hm,nO,H3,I3,w3⟩
  | cont =>
   obtain⟨nO,H3,I3,n3⟩:=q3;obtain⟨m',hm,w3⟩:=hN nO H3 n3;exact⟨m',hm,nO,H3,I3,w3⟩
  | brk=>exact q3
  | ret v=>exact q3
 | false =>
  rw[if_neg cQ];exact tQ ⟨iz,H2,I2,q2⟩
end
structure It where
 go:Nat->Hp->Prop
 yld:Nat->Hp->V->Hp->Prop
 stop:Nat->Hp->Prop
def pf(X:Cx)(af:List (Addr×Obj))(H:Hp)(b:Addr):Prop :=
 H b=none/\b≠X.env.locals/\b∉X.fs/\(b∈X.ex\/X.s₀.heap.objs.size<=b)/\(∀x c,X.env.cells.lookup x=some c->c≠b)/\∀p∈X.pn++af,p.1≠b
def Inv.uk{X:Cx}{af:List (Addr×Obj)}{σ:St}{H H':Hp}{s:Shared}{b:Addr}(I:Inv X af σ H s)(hb:s.heap.objs.size<=b)(hn:H' b=none):pf X af H' b:=by
 refine⟨hn,oS (bM I.lt hb),I.VO hb,.inr (aP I.sz hb),λx c e z=>?_,λp hp z=>?_⟩
 ·obtain⟨v,q⟩:=I.cell x c e;exact absurd (bM q.lt (by grind)) (eU _)
 ·exact absurd (bM (aG (I.pin p hp).1) (by grind)) (eU _)
structure Turn (P:Program) (w:World) (K:W.Frag) (tg:Expr) (J:It) (fp:List Addr) (it:Addr) (tn:Nat->Heap->Prop):Prop where
 mem:it∈fp
 obj:∀i h,tn i h->∀b∈fp,∃o,h.get? b=some o/\∀v,o.data≠.cell v
 keep:∀i h h',tn i h->(∀b∈fp,∀o,h.get? b=some o->h'.get? b=some o)->tn i h'
 item:∀(X:Cx),X.prog=P->X.w=w->X.K=K->X.calm=true->∀(i:Nat) (af:List (Addr×Obj)) (s:Shared) (σ:St) (H:Hp) (E:Value->Shared->Prop),Inv X af σ H s->(∀b∈fp,pf X af H b)->tn i s.heap->J.go i H ->
  wpAny (model P w) X.A (pyNext (.ref it)) (λr s1=>∃u,r=some u /\
   wpAny (model P w) X.A (letOwnedTupleGo tg (.ref it) u) (λ_ s2=>∃x H',Inv X af σ H' s2/\RelV x u/\J.yld i H x H'/\tn (i+1) s2.heap/\∀b∈fp,H' b=none) E s1) E s
 done:∀(X:Cx),X.prog=P->X.w=w->X.K=K->X.calm=true->∀(i:Nat) (af:List (Addr×Obj)) (s:Shared) (σ:St) (H:Hp) (E:Value->Shared->Prop),Inv X af σ H s->(∀b∈fp,pf X af H b)->tn i s.heap->J.stop i H ->
  wpAny (model P w) X.A (pyNext (.ref it)) (λr s1=>r=none/\Inv X af σ H s1) E s
 self:∀(A:Around) (i:Nat) (s:Shared) (Q:Value->Shared->Prop) (E:Value->Shared->Prop),tn i s.heap->Q (.ref it) s->wpAny (model P w) A (pyIter (.ref it)) Q E s
abbrev TI:=St->Hp->(It->Hp->Prop)->Prop
def YI(X:Cx)(af:List (Addr×Obj))(σ:St)(tg:Expr)(R:It->Hp->Prop)(V2:Value)(s2:Shared):Prop :=
 ∃(it:Addr) (fp:List Addr) (tn:Nat->Heap->Prop) (J:It) (H':Hp),V2=.ref it/\Inv X af σ H' s2/\Turn X.prog X.w X.K tg J fp it tn/\tn 0 s2.heap/\(∀b∈fp,pf X af H' b)/\R J H'
def PI(X:Cx)(tg iter:Expr)(wi:TI):Prop :=
 ∀(af:List (Addr×Obj)) (s:Shared) (σ:St) (H:Hp) (R:It->Hp->Prop),Inv X af σ H s->wi σ H R ->
  wpAny (model X.prog X.w) X.A (eval iter X.env) (λv s1=>wpAny (model X.prog X.w) X.A (pyIter v) (YI X af σ tg R) X.xe s1) X.xe s
def Aw(ho:s.heap.get? it=some o)(hc:o.cls=.type n)(hd:o.data=.fields vs)
  (hn:["enumerate","zip","dict_itemiterator","dict_reverseitemiterator","odict_iterator","itertools.zip_longest","itertools.pairwise"].contains n=false) (hQ:Q () s):wpAny M A (letOwnedTupleGo tg (.ref it) u) Q E s:=by
 unfold letOwnedTupleGo;cases tg<;>first
  | exact aq hQ
  | (cases u<;>first
    | exact aq hQ
    | (refine ag (wpAny_load ho ?_)
       rw[hc,hd];show wpAny M A (if(["enumerate","zip","dict_itemiterator","dict_reverseitemiterator","odict_iterator","itertools.zip_longest","itertools.pairwise"].contains n&&vs[0]?==some (rawInt _))=true then _ else _) Q E s
       rw[if_neg (by grind)]
       exact aq hQ))
def US(K:W.Frag)(a:Addr):It :=
 ⟨λi H=>∃xs x,uj K H a xs/\xs[i]?=some x,λi H x H'=>H'=H/\∀xs,uj K H a xs->xs[i]?=some x,λi H=>∃xs,uj K H a xs/\xs.length<=i⟩
def V3(K:W.Frag)(a:Addr):It :=
 ⟨λi H=>∃xs x,gw K H a xs/\xs[i]?=some x,λi H x H'=>H'=H/\∀xs,gw K H a xs->xs[i]?=some x,λi H=>∃xs,gw K H a xs/\xs.length<=i⟩
def UT(lo:Int)(n:Nat):It:=⟨λi _=>i<n,λi H x H'=>H'=H/\x=.int (lo+i),λi _=>n<=i⟩
def Cd{P:Program}{w:World}{K:W.Frag}{tg:Expr}(a it:Addr):Turn P w K tg (US K a) [it] it (λi h=>h.IsListIter it a i) where
 mem:=by simp
 obj:=λi h st b hb=>by
  have e:b=it:=by grind
  subst e;obtain⟨o,e,c,d⟩:=st;exact⟨o,e,λv z=>by grind⟩
 keep:=λi h h' st k=>st.at λo e=>k it (by simp) o e
 item:=by
  intro X hP hw hK hc i af s σ H E I hf st hg;subst hP hw hK;obtain⟨xs,x,hq,hx⟩:=hg;obtain⟨ar,rv,p,hz⟩:=I.list hq;obtain⟨u,hu,ru⟩:=rv.get hx;obtain⟨f0,f1,f2,f3,f4,f5⟩:=hf it (by simp)
  refine wpAny_pyNext_list_item st p.isList (by simpa using hu) λh' st' sb=>?_
  have I1:=I.turned (t':=s.toks) (λb o hb e=>(sb.2 b hb).trans e) f0 f1 f3 f4 f5
  obtain⟨o,e,c,d⟩:=id st';exact⟨u,rfl,Aw e c d (by decide) ⟨x,H,I1,ru,⟨rfl,λys hy=>by rw[I.lg hy hq];exact hx⟩,st',λb hb=>(hf b hb).1⟩⟩
 done:=by
  intro X hP hw hK hc i af s σ H E I hf st hg;subst hP hw hK;obtain⟨xs,hq,hx⟩:=hg;obtain⟨ar,rv,p,hz⟩:=I.list hq;obtain⟨f0,f1,f2,f3,f4,f5⟩:=hf it (by simp)
  have hl:=rv.length;exact wpAny_pyNext_list_end (I.ok.hd hc) st p.isList (by simp;lia) λh' eb=>⟨rfl,I.turned (λb o hb e=>eb b o hb e) f0 f1 f3 f4 f5⟩
 self:=λ_ _ _ _ _ st h=>wpAny_pyIter_listiter st h
def yI{P:Program}{w:World}{K:W.Frag}{tg:Expr}(a it:Addr):Turn P w K tg (V3 K a) [it] it (λi h=>h.IsTupleIter it a i) where
 mem:=by simp
 obj:=λi h st b hb=>by
  have e:b=it:=by grind
  subst e;obtain⟨o,e,c,d⟩:=st;exact⟨o,e,λv z=>by grind⟩
 keep:=λi h h' st k=>st.at λo e=>k it (by simp) o e
 item:=by
  intro X hP hw hK hc i af s σ H E I hf st hg;subst hP hw hK;obtain⟨xs,x,hq,hx⟩:=hg;obtain⟨ar,rv,p,hz⟩:=I.tuple hq;obtain⟨u,hu,ru⟩:=rv.get hx;obtain⟨f0,f1,f2,f3,f4,f5⟩:=hf it (by simp)
  refine wpAny_pyNext_tuple_item st (p) (by simpa using hu) λh' st' sb=>?_
  have I1:=I.turned (t':=s.toks) (λb o hb e=>(sb.2 b hb).trans e) f0 f1 f3 f4 f5
  obtain⟨o,e,c,d⟩:=id st';exact⟨u,rfl,Aw e c d (by decide) ⟨x,H,I1,ru,⟨rfl,λys hy=>by rw[I.jC hy hq];exact hx⟩,st',λb hb=>(hf b hb).1⟩⟩
 done:=by
  intro X hP hw hK hc i af s σ H E I hf st hg;subst hP hw hK;obtain⟨xs,hq,hx⟩:=hg;obtain⟨ar,rv,p,hz⟩:=I.tuple hq;obtain⟨f0,f1,f2,f3,f4,f5⟩:=hf it (by simp)
  have hl:=rv.length;exact wpAny_pyNext_tuple_end (I.ok.hd hc) st (p) (by simp;lia) λh' eb=>⟨rfl,I.turned (λb o hb e=>eb b o hb e) f0 f1 f3 f4 f5⟩
 self:=λ_ _ _ _ _ st h=>wpAny_pyIter_tupleiter st h
def yJ{P:Program}{w:World}{K:W.Frag}{tg:Expr}(it:Addr)(lo:Int)(n:Nat):Turn P w K tg (UT lo n) [it] it (λi h=>IsRangeIter h it (lo+(i:Nat)*1) ((n:Int)-(i:Nat)) 1) where
 mem:=by simp
 obj:=λi h st b hb=>by
  grind
 keep:=λi h h' st k=>k it (by simp) _ st
 item:=by
  intro X hP hw hK hc i af s σ H E I hf st hg;subst hP hw hK;obtain⟨f0,f1,f2,f3,f4,f5⟩:=hf it (by simp)
  have W:=Walks.range (prog:=X.prog) (w:=X.w) (I.ok.hd hc) it lo 1 n;refine W.item i s _ _ hg st λv h' tk hv st' kk=>?_
  obtain⟨t,rfl⟩:=hv;have I1:Inv X af σ H {s with heap:=h',toks:=tk}:=I.turned (λb o hb e=>kk b o (by grind) e) f0 f1 f3 f4 f5
  refine⟨_,rfl,Aw st' rfl rfl (by decide) ⟨.int (lo+i),H,I1,⟨t,?_⟩,⟨rfl,rfl⟩,st',λb hb=>(hf b hb).1⟩⟩
  rw[Int.mul_one]
 done:=by
  intro X hP hw hK hc i af s σ H E I hf st hg;subst hP hw hK;obtain⟨f0,f1,f2,f3,f4,f5⟩:=hf it (by simp)
  exact wpAny_pyNext_range_end (I.ok.hd hc) st (by have:n<=i:=hg;lia) λh' eb=>⟨rfl,I.turned (λb o hb e=>eb b o hb e) f0 f1 f3 f4 f5⟩
 self:=λ_ _ _ _ _ st h=>wpAny_pyIter_rangeiter st h
section
variable {X:Cx} {tg:Expr}
def Q5(K:W.Frag)(tl:TE):TI:=λσ H R=>tl σ H λx H1=>∃a,x=.ref a/\(∃xs,uj K H1 a xs)/\R (US K a) H1
def V4(K:W.Frag)(tl:TE):TI:=λσ H R=>tl σ H λx H1=>∃a,x=.ref a/\(∃xs,gw K H1 a xs)/\R (V3 K a) H1
def Ax{l:Expr}{tl:TE}(hl:PE X l tl):PI X tg l (Q5 X.K tl):=by
 intro af s σ H R I h;refine thn (hl af s σ H _ I h) λv s1 ⟨x,H1,I1,r1,q1⟩=>?_
 obtain⟨a,e,⟨xs,hq⟩,q⟩:=q1;subst e;cases r1;obtain⟨ar,rv,p,hz⟩:=I1.list hq;refine yf p.isList ?_;refine⟨s1.heap.objs.size,[s1.heap.objs.size],_,_,H1,rfl,I1.kept λb o e=>aH _ e,Cd a _,⟨_,bE _ rfl,rfl,rfl⟩,λb hb=>?_,q⟩
 have e:b=s1.heap.objs.size:=by grind
 subst e;exact I1.uk (aD _) (I1.hok.fresh (aD _))
def Eh{l:Expr}{tl:TE}(hl:PE X l tl):PI X tg l (V4 X.K tl):=by
 intro af s σ H R I h;refine thn (hl af s σ H _ I h) λv s1 ⟨x,H1,I1,r1,q1⟩=>?_
 obtain⟨a,e,⟨xs,hq⟩,q⟩:=q1;subst e;cases r1;obtain⟨ar,rv,p,hz⟩:=I1.tuple hq;refine wpAny_pyIter_tuple (p) ?_;refine⟨s1.heap.objs.size,[s1.heap.objs.size],_,_,H1,rfl,I1.kept λb o e=>aH _ e,yI a _,⟨_,bE _ rfl,rfl,rfl⟩,λb hb=>?_,q⟩
 have e:b=s1.heap.objs.size:=by grind
 subst e;exact I1.uk (aD _) (I1.hok.fresh (aD _))
def Ei{af:List (Addr×Obj)}{σ:St}{H:Hp}{s:Shared}{R:It->Hp->Prop}{E:Value->Shared->Prop}{lo hi:Int}{t u v:Tok}{tk:Nat}(I:Inv X af σ H s)(h1:-(2^62)<=lo)(h2:lo<2^62)(h3:-(2^62)<=hi)(h4:hi<2^62)
  (q:R (UT lo (hi-lo).toNat) H):wpAny (model X.prog X.w) X.A (pyIter (.ref s.heap.objs.size)) (YI X af σ tg R) E {s with heap:=s.heap.push {cls:=.type "range",data:=.fields #[.int lo t,.int hi u,.int 1 v]},toks:=tk}:=by
 refine wpAny_pyIter_range (IsRange.new ..) (small_one h1 h2 h3 h4) ?_;have I1:Inv X af σ H {s with heap:=s.heap.push {cls:=.type "range",data:=.fields #[.int lo t,.int hi u,.int 1 v]},toks:=tk}:=I.kept λb o e=>aH _ e
 refine⟨(s.heap.push {cls:=.type "range",data:=.fields #[.int lo t,.int hi u,.int 1 v]}).objs.size,[(s.heap.push {cls:=.type "range",data:=.fields #[.int lo t,.int hi u,.int 1 v]}).objs.size],_,_,H,rfl,
  I1.kept λb o e=>aH _ e,yJ _ lo (hi-lo).toNat,?_,λb hb=>?_,q⟩
 ·have e1:lo+(0:Nat)*1=lo:=by simp
  have e2:(((hi-lo).toNat:Nat):Int)-(0:Nat)=Builtin.Range.rangeSize lo hi 1:=by rw[rangeSize_one];split<;>lia
  rw[e1,e2];exact bE _ rfl
 ·have e:b=(s.heap.push {cls:=.type "range",data:=.fields #[.int lo t,.int hi u,.int 1 v]}).objs.size:=by grind
  subst e;exact I1.uk (aD _) (I1.hok.fresh (aD _))
def Q6(ta:TA):TI:=λσ H R=>ta σ H λvs H1=>∃j:Int,vs=[.int j] /\ -(2^62)<=j/\j<2^62/\R (UT 0 j.toNat) H1
def Ce{a:Expr}{ta:TA}{p pos:Pos}(hg:Gl X "range")(hm:X.mg "range"=none)(ha:PA X [a] ta)(hs:starEach [a] X.env=[(false,eval a X.env)]:=by rfl):PI X tg (.Call (.Name "range" p) [a] [] pos) (Q6 ta):=by
 intro af s σ H R I h;refine Call_ (ld_blt I hg hm boot_range (j5 (thn (ha pos af s σ H _ I h) λus s1 ⟨vs,H1,I1,r1,q1⟩=>?_) hs rfl))
 obtain⟨j,e,q1,q2,q⟩:=q1;subst e;cases r1 with
 | cons r rr =>
  cases rr;obtain⟨t,rfl⟩:=r;exact call_range_1 (Ei I1 (by lia) (by lia) q1 q2 (by grind))
def V5(wi:TI)(g:TG)(tb:TS):TS:=λD σ H=>wi σ H λJ H1=>∃W:Nat->Nat->St->Hp->Prop,(∃m,W 0 m σ H1)/\∀i m σ H,W i m σ H ->
 (J.stop i H/\D.nx σ H)\/(J.go i H/\∃N:St->Hp->Prop,(∀bD H',N bD H'->∃m',m'<m/\W (i+1) m' bD H')/\∀x H',J.yld i H x H'->g x σ H' λAy H2=>tb {D with nx:=N,ct:=N,bk:=D.nx} Ay H2)
noncomputable def ph(fp:List Addr)(h:Heap):List (Addr×Obj):=fp.filterMap λb=>(h.get? b).map λo=>(b,o)
def iA(hb:b∈fp)(e:h.get? b=some o):(b,o)∈ph fp h:=oJ.mpr ⟨b,hb,by rw[e];rfl⟩
def Cf(hp:p∈ph fp h):p.1∈fp/\h.get? p.1=some p.2:=by
 obtain⟨b,hb,e⟩:=oJ.mp hp;cases q:h.get? b with
 | none=>rw[q]at e;cases e
 | some o =>
  rw[q]at e;have e':=bJ e;subst e';exact⟨hb,q⟩
def Inv.pinned{af:List (Addr×Obj)}{σ:St}{H:Hp}{s:Shared}{fp:List Addr}(I:Inv X af σ H s)(hf:∀b∈fp,pf X af H b)(ho:∀b∈fp,∃o,s.heap.get? b=some o/\∀v,o.data≠.cell v):Inv X (af++ph fp s.heap) σ H s :=
 I.lb λp hp=>(cW.mp hp).elim (λz=>I.pin p (eP _ z)) λz=>by
  obtain⟨hb,e⟩:=Cf z;obtain⟨f0,f1,f2,_⟩:=hf p.1 hb;obtain⟨o,e',d⟩:=ho p.1 hb;rw[e]at e';cases e';exact⟨e,f0,f1,f2,d⟩
def Inv.pj{af pl:List (Addr×Obj)}{σ:St}{H:Hp}{s:Shared}(I:Inv X (af++pl) σ H s):Inv X af σ H s:=I.lb λp hp=>I.pin p (eP _ (mm _ hp))
def MI(hp:PassesOwn (model X.prog X.w) X.A X.env X.xe)(hc:X.calm=true)(hi:PI X tg iter wi)(hg:PG X tg g)(hb:PSs X body tb)
  (hs:∀x,foldedSetIterable iter X.env x=pure x:=by intro _;rfl):PS X (.For tg iter body [] pos) (V5 wi g tb):=by
 intro af s σ H D I h;refine wpAny_For (thn (hi af s σ H _ I h) λv s1 h1=>thn h1 λV2 s2 h2=>?_) hs
 obtain⟨it,fp,tn,J,H2,e,I2,T,dH,f2,W,⟨m0,w0⟩,pe⟩:=h2;subst e;have yK:∀{H':Hp},(∀b∈fp,H' b=none)->∀b∈fp,pf X af H' b:=λhn b hb=>⟨hn b hb,(f2 b hb).2⟩
 refine codeAny_forLoop_any (λn s'=>∃i bD H',Inv X af bD H' s'/\tn i s'.heap/\(∀b∈fp,H' b=none)/\W i n bD H') ?_ m0 ⟨0,σ,H2,I2,dH,λb hb=>(f2 b hb).1,w0⟩
 rintro n s3 ⟨i,nO,H3,I3,Iz,YJ,w3⟩
 rcases pe i n nO H3 w3 with⟨stop,qn⟩ | ⟨go,N,hN,step⟩
 ·refine kj hp (thn (T.done X rfl rfl rfl hc i af s3 nO H3 X.xe I3 (yK YJ) Iz stop) λr s4 ⟨hr,I4⟩=>?_)
  subst hr;exact tQ ⟨nO,H3,I4,qn⟩
 ·refine kj hp (thn (T.item X rfl rfl rfl hc i af s3 nO H3 X.xe I3 (yK YJ) Iz go) λr s4 ⟨u,hr,h4⟩=>?_)
  subst hr;refine kj hp (thn h4 λ_ s5 z9=>?_)
  obtain⟨x,H5,I5,r5,y5,MJ,V6⟩:=z9;have V7:=I5.pinned (yK V6) (T.obj _ _ MJ);refine kj hp (thn (hg _ s5 nO H5 x u _ V7 r5 (step x H5 y5)) λ_ s6 ⟨UU,H6,I6,q6⟩=>?_)
  refine kj hp (thn (hb _ s6 UU H6 _ I6 q6) λf s7 q7=>?_)
  have again:∀{Ej:St} {H7:Hp},Inv X (af++ph fp s5.heap) Ej H7 s7->N Ej H7->∃m,m<n/\∃i bD H',Inv X af bD H' s7/\tn i s7.heap/\(∀b∈fp,H' b=none)/\W i m bD H':=λ{Ej H7} I7 n7=>by
   obtain⟨m',hm,w7⟩:=hN Ej H7 n7;refine⟨m',hm,i+1,Ej,H7,I7.pj,T.keep _ _ _ MJ λb hb o e=>(I7.pin (b,o) (eP _ (eP _ (iA hb e)))).1,λb hb=>?_,w7⟩
   obtain⟨o,e,d⟩:=T.obj _ _ MJ b hb;exact(I7.pin (b,o) (eP _ (eP _ (iA hb e)))).2.1
  cases f with
  | next=>obtain⟨Ej,H7,I7,n7⟩:=q7;exact again I7 n7
  | cont=>obtain⟨Ej,H7,I7,n7⟩:=q7;exact again I7 n7
  | brk=>obtain⟨Ej,H7,I7,q7⟩:=q7;exact⟨Ej,H7,I7.pj,q7⟩
  | ret v=>obtain⟨x7,Ej,H7,I7,r7,q7⟩:=q7;exact⟨x7,Ej,H7,I7.pj,r7,q7⟩
end
abbrev R2:=V->V->Hp->VK->Prop
def OpR(X:Cx)(f:Value->Value->Sem Value)(r:R2):Prop :=
 ∀(af:List (Addr×Obj)) (s:Shared) (σ:St) (H:Hp) (x y:V) (v u:Value) (Q:VK),Inv X af σ H s->RelV x v->RelV y u->r x y H Q ->
  wpAny (model X.prog X.w) X.A (f v u) (EP X af σ Q) X.xe s
def UnR(X:Cx)(f:Value->Sem Value)(r:V->Hp->VK->Prop):Prop :=
 ∀(af:List (Addr×Obj)) (s:Shared) (σ:St) (H:Hp) (x:V) (v:Value) (Q:VK),Inv X af σ H s->RelV x v->r x H Q ->
  wpAny (model X.prog X.w) X.A (f v) (EP X af σ Q) X.xe s
def jU(X:Cx)(f:Value)(r:List V->Hp->VK->Prop):Prop :=
 ∀(af:List (Addr×Obj)) (s:Shared) (σ:St) (H:Hp) (xs:List V) (us:List Value) (Q:VK),Inv X af σ H s->Vals xs us->r xs H Q ->
  wpAny (model X.prog X.w) X.A (call f us) (EP X af σ Q) X.xe s
def V8(X:Cx)(r:V->Hp->(Bool->Hp->Prop)->Prop):Prop :=
 ∀(af:List (Addr×Obj)) (s:Shared) (σ:St) (H:Hp) (x:V) (v:Value) (Q:Bool->Hp->Prop),Inv X af σ H s->RelV x v->r x H Q ->
  wpAny (model X.prog X.w) X.A (truthy v) (TP X af σ Q) X.xe s
def Q7(r:R2)(ta tb:TE):TE:=λσ H Q=>ta σ H λx H1=>tb σ H1 λy H2=>r x y H2 Q
def tUn(r:V->Hp->VK->Prop)(ta:TE):TE:=λσ H Q=>ta σ H λx H1=>r x H1 Q
def rI(C:Int->Int->Prop)(g:Int->Int->V):R2:=λx y H Q=>∃i j,x=.int i/\y=.int j/\C i j/\Q (g i j) H
def HG(g:Int->Int->V):R2:=λx y H Q=>∃i j,x=.int i/\y=.int j/\Q (g i j) H
def rU(g:Int->V):V->Hp->VK->Prop:=λx H Q=>∃i,x=.int i/\Q (g i) H
section
variable {X:Cx} {a b c:Expr} {ta tb tc:TE} {pos:Pos}
def MK(ha:PE X a ta)(hb:PE X b tb){af:List (Addr×Obj)}{s:Shared}{σ:St}{H:Hp}{R:V->V->Hp->Prop}(I:Inv X af σ H s)
  (h:ta σ H λx H1=>tb σ H1 λy H2=>R x y H2) {Q:Value->Shared->Prop} {f:Value->Value->Sem Value}
  (hf:∀v u s2 x y H2,Inv X af σ H2 s2->RelV x v->RelV y u->R x y H2->wpAny (model X.prog X.w) X.A (f v u) Q X.xe s2) :
  wpAny (model X.prog X.w) X.A (eval a X.env) (λv s₁=>wpAny (model X.prog X.w) X.A (eval b X.env) (λu MF=>wpAny (model X.prog X.w) X.A (f v u) Q X.xe MF) X.xe s₁) X.xe s:=by
 refine thn (ha af s σ H _ I h) λv s1 ⟨x,H1,I1,r1,q1⟩=>?_
 refine thn (hb af s1 σ H1 _ I1 q1) λu s2 ⟨y,H2,I2,r2,q2⟩=>?_
 exact hf v u s2 x y H2 I2 r1 r2 q2
def Q8(ho:OpR X (binaryOp op) r)(ha:PE X a ta)(hb:PE X b tb):PE X (.BinOp a op b pos) (Q7 r ta tb):=by
 intro af s σ H Q I h;exact wpAny_BinOp (MK ha hb I h λv u s2 x y H2 I2 rx ry q=>ho af s2 σ H2 x y v u Q I2 rx ry q)
def Q9{r:V->Hp->VK->Prop}(ho:UnR X (unaryOp op) r)(ha:PE X a ta):PE X (.UnaryOp op a pos) (tUn r ta):=by
 intro af s σ H Q I h;exact UnaryOp_ (thn (ha af s σ H _ I h) (by rintro v s1 ⟨x,H1,I1,r1,q1⟩;exact ho af s1 σ H1 x v Q I1 r1 q1))
def Ra{f:Value->Value->Sem Value}{C:Int->Int->Prop}{g:Int->Int->Int}
  (rule:∀(i j:Int) (t u:Tok) (s:Shared) (Q:Value->Shared->Prop) (E:Value->Shared->Prop),C i j->Q (.int (g i j) s.toks) {s with toks:=s.toks+1}->wpAny (model X.prog X.w) X.A (f (.int i t) (.int j u)) Q E s) :
  OpR X f (rI C λi j=>.int (g i j)):=by
 intro af s σ H x y v u Q I rx ry h;obtain⟨i,j,rfl,rfl,hc,q⟩:=h;obtain⟨t,rfl⟩:=rx;obtain⟨t',rfl⟩:=ry;exact rule i j t t' s _ _ hc ⟨.int (g i j),H,I.tok _,⟨_,rfl⟩,q⟩
def ML{f:Value->Value->Sem Value}{g:Int->Int->Int}
  (rule:∀(i j:Int) (t u:Tok) (s:Shared) (Q:Value->Shared->Prop) (E:Value->Shared->Prop),Q (.int (g i j) s.toks) {s with toks:=s.toks+1}->wpAny (model X.prog X.w) X.A (f (.int i t) (.int j u)) Q E s) :
  OpR X f (HG λi j=>.int (g i j)):=by
 intro af s σ H x y v u Q I rx ry h;obtain⟨i,j,rfl,rfl,q⟩:=h;obtain⟨t,rfl⟩:=rx;obtain⟨t',rfl⟩:=ry;exact rule i j t t' s _ _ ⟨.int (g i j),H,I.tok _,⟨_,rfl⟩,q⟩
def IA{f:Value->Value->Sem Value}{g:Int->Int->Bool}
  (rule:∀(i j:Int) (t u:Tok) (s:Shared) (Q:Value->Shared->Prop) (E:Value->Shared->Prop),Q (.bool (g i j)) s->wpAny (model X.prog X.w) X.A (f (.int i t) (.int j u)) Q E s) :
  OpR X f (HG λi j=>.bl (g i j)):=by
 intro af s σ H x y v u Q I rx ry h;obtain⟨i,j,rfl,rfl,q⟩:=h;obtain⟨t,rfl⟩:=rx;obtain⟨t',rfl⟩:=ry;exact rule i j t t' s _ _ ⟨.bl (g i j),H,I,rfl,q⟩
def V9(i j:Int):Prop:=0<j/\j<1073741824
def Wa(i j:Int):Prop:=0<=j/\j<=1000000/\i.natAbs<2^64
def IB(i j:Int):Prop:=(-(2^64)<i/\i<2^64)\/(-(2^64)<j/\j<2^64)
def IB.ok(h:IB i j):IntMulOk i j:=by
 rcases h with⟨h1,h2⟩ | ⟨h1,h2⟩
 ·exact .of_left (intBits_le_64 h1 h2)
 ·exact .of_right (intBits_le_64 h1 h2)
def MM:OpR X (binaryOp .Add) (HG λi j=>.int (i+j)):=ML λ_ _ _ _ _ _ _ q=>add_int q
def MN:OpR X (binaryOp .Sub) (HG λi j=>.int (i-j)):=ML λ_ _ _ _ _ _ _ q=>sub_int q
def MO:OpR X (binaryOp .Mult) (rI IB λi j=>.int (i*j)):=Ra λ_ _ _ _ _ _ _ hc q=>mul_int q hc.ok
def IC:OpR X (binaryOp .FloorDiv) (rI V9 λi j=>.int (i/j)):=Ra λi j _ _ _ _ _ hc q=>by
 have h1:=hc.1;have h2:=hc.2;exact floordiv_int (by lia) (by rw[Int.fdiv_eq_ediv_of_nonneg i (by lia)];exact q) (.inl (PyProof.noPylong_small (by lia)))
def MP:OpR X (binaryOp .Mod) (rI (λ_ j=>0<j) λi j=>.int (i%j)):=Ra λi j _ _ _ _ _ hc q=>by
 have h1:=hc;exact mod_int' (by lia) (by rw[Int.fmod_eq_emod_of_nonneg i (by lia)];exact q)
def MQ:OpR X (binaryOp .Pow) (rI Wa λi j=>.int (i^j.toNat)):=Ra λ_ _ _ _ _ _ _ hc q=>pow_int_small hc.1 hc.2.1 hc.2.2 q
def ID:OpR X (inplaceOp .Add) (HG λi j=>.int (i+j)):=ML λ_ _ _ _ _ _ _ q=>iadd_int q
def unI{f:Value->Sem Value}{g:Int->Int}
  (rule:∀(i:Int) (t:Tok) (s:Shared) (Q:Value->Shared->Prop) (E:Value->Shared->Prop),Q (.int (g i) s.toks) {s with toks:=s.toks+1}->wpAny (model X.prog X.w) X.A (f (.int i t)) Q E s) :
  UnR X f (rU λi=>.int (g i)):=by
 intro af s σ H x v Q I rx h;obtain⟨i,rfl,q⟩:=h;obtain⟨t,rfl⟩:=rx;exact rule i t s _ _ ⟨.int (g i),H,I.tok _,⟨_,rfl⟩,q⟩
def MR:UnR X (unaryOp .USub) (rU λi=>.int (-i)):=unI λ_ _ _ _ _ q=>neg_int q
end
section
variable {X:Cx} {a b c:Expr} {ta tb tc:TE} {pos:Pos}
def El{af:List (Addr×Obj)}{σ:St}{H:Hp}{s:Shared}{Q:VK}{k k':Bool}(I:Inv X af σ H s)(q:Q (.bl k) H)(e:k=k'):EP X af σ Q (.bool k') s:=by
 subst e;exact⟨.bl k,H,I,rfl,q⟩
def Rb:OpR X (compareOp .Lt) (HG λi j=>.bl (decide (i<j))):=IA λ_ _ _ _ _ _ _ q=>lt_int q
def Rc:OpR X (compareOp .LtE) (HG λi j=>.bl (decide (i<=j))):=IA λ_ _ _ _ _ _ _ q=>le_int q
def Rf:OpR X (compareOp .Gt) (HG λi j=>.bl (decide (j<i))):=IA λ_ _ _ _ _ _ _ q=>gt_int q
def Rg:OpR X (compareOp .GtE) (HG λi j=>.bl (decide (j<=i))):=IA λ_ _ _ _ _ _ _ q=>ge_int q
def MS:OpR X (compareOp .Is) (λx y H Q=>y=.az/\Q (.bl (decide (x=.az))) H):=by
 intro af s σ H x y v u Q I rx ry h;obtain⟨rfl,q⟩:=h;cases ry;refine is_none_gen (El I q ?_);cases x<;>first
  | (cases rx;rfl)
  | (obtain⟨t,rfl⟩:=rx;rfl)
def IE:OpR X (compareOp .IsNot) (λx y H Q=>y=.az/\Q (.bl (!decide (x=.az))) H):=by
 intro af s σ H x y v u Q I rx ry h;obtain⟨rfl,q⟩:=h;cases ry;refine isnot_none_gen (El I q ?_);cases x<;>first
  | (cases rx;rfl)
  | (obtain⟨t,rfl⟩:=rx;rfl)
def IF(ho:OpR X (compareOp op) r)(ha:PE X a ta)(hb:PE X b tb)(hm:behindInMarks op b=false):PE X (.Compare a [op] [b] pos) (Q7 r ta tb):=by
 intro af s σ H Q I h;exact wpAny_Compare1 (MK ha hb I h λv u s2 x y H2 I2 rx ry q=>ho af s2 σ H2 x y v u Q I2 rx ry q) hm
def K4(t:TE):TT:=λσ H Q=>t σ H λx H'=>∃k,x=.bl k/\Q k H'
def IG(ho:OpR X (compareOp op) r)(ha:PE X a ta)(hb:PE X b tb)(hm:behindInMarks op b=false):PT X (.Compare a [op] [b] pos) (K4 (Q7 r ta tb)):=by
 intro af s σ H Q I h;refine wpAny_isTrue_Compare1 (thn (ha af s σ H _ I h) λv s1 ⟨x,H1,I1,r1,q1⟩=>thn (hb af s1 σ H1 _ I1 q1) λu s2 ⟨y,H2,I2,r2,q2⟩ =>
  thn (ho af s2 σ H2 x y v u _ I2 r1 r2 q2) λc s3 ⟨z,H3,I3,r3,k,e,q3⟩=>?_) hm
 subst e;cases r3;exact kh ⟨H3,I3,q3⟩
def yL(r r':R2)(ta tb tc:TE):TE:=λσ H Q=>ta σ H λx H1=>tb σ H1 λy H2=>r x y H2 λz H3=>∃k,z=.bl k /\
 (if k=true then tc σ H3 λw' H4=>r' y w' H4 Q else Q (.bl false) H3)
def Em(ho:OpR X (compareOp op) r)(o9:OpR X (compareOp vA) r')(ha:PE X a ta)(hb:PE X b tb)(hc:PE X c tc)
  (hm:lastMarks [op,vA] [b,c]=false:=by with_unfolding_all rfl):PE X (.Compare a [op,vA] [b,c] pos) (yL r r' ta tb tc):=by
 intro af s σ H Q I h;refine Compare_chain (thn (ha af s σ H _ I h) λv s1 ⟨x,H1,I1,r1,q1⟩=>chain_link (thn (hb af s1 σ H1 _ I1 q1) λu s2 ⟨y,H2,I2,r2,q2⟩ =>
  thn (ho af s2 σ H2 x y v u _ I2 r1 r2 q2) λd s3 ⟨z,H3,I3,r3,k,e,q3⟩=>?_)) hm
 subst e;cases r3;refine kh ?_;cases k with
 | false=>exact ite_ff ⟨.bl false,H3,I3,rfl,q3⟩
 | true=>exact ite_tt (chain_last (thn (hc af s3 σ H3 _ I3 q3) (by rintro w' s4 ⟨z',H4,I4,r4,q4⟩;exact o9 af s4 σ H4 y z' u w' Q I4 r2 r4 q4)))
def En(ho:OpR X (compareOp op) r)(o9:OpR X (compareOp vA) r')(ha:PE X a ta)(hb:PE X b tb)(hc:PE X c tc)
  (hm:lastMarks [op,vA] [b,c]=false:=by with_unfolding_all rfl):PT X (.Compare a [op,vA] [b,c] pos) (K4 (yL r r' ta tb tc)):=by
 intro af s σ H Q I h;refine isTrue_chain (thn (ha af s σ H _ I h) λv s1 ⟨x,H1,I1,r1,q1⟩=>test_link (thn (hb af s1 σ H1 _ I1 q1) λu s2 ⟨y,H2,I2,r2,q2⟩ =>
  thn (ho af s2 σ H2 x y v u _ I2 r1 r2 q2) λd s3 ⟨z,H3,I3,r3,k,e,q3⟩=>?_)) hm
 subst e;cases r3;refine kh ?_;cases k with
 | false =>
  obtain⟨k',e',q'⟩:=q3;cases e';exact ite_ff ⟨H3,I3,q'⟩
 | true =>
  refine ite_tt (test_last (thn (hc af s3 σ H3 _ I3 q3) λw' s4 ⟨z',H4,I4,r4,q4⟩=>thn (o9 af s4 σ H4 y z' u w' _ I4 r2 r4 q4) λd' s5 z9=>?_))
  obtain⟨z2,H5,I5,r5,k2,e2,q5⟩:=z9;subst e2;cases r5;exact kh ⟨H5,I5,q5⟩
def IH(K:W.Frag)(x:V)(H:Hp)(k:Bool):Prop :=
 match x with
 | .az=>k=false
 | .bl b=>k=b
 | .int i=>k=(i != 0)
 | .str y=>y.length<=sizeLine/\k=((y.length:Int) != 0)
 | .P5 y=>y.size<=sizeLine/\k=((y.size:Int) != 0)
 | .ref p=>(∃xs,uj K H p xs/\k = !xs.isEmpty)\/(∃xs,gw K H p xs/\k = !xs.isEmpty)\/∃kvs,H p=some (.dK kvs)/\k = !kvs.isEmpty
 | _=>False
def yM{κ:Type}{kvs:List (κ×V)}{vs:List (κ×Value)}(r:KV kvs vs):(!vs.isEmpty) = !kvs.isEmpty:=by
 cases r<;>rfl
def pq(r:Vals xs ar):(!ar.toArray.isEmpty) = !xs.isEmpty:=by
 cases r<;>simp
def kA:(sizeLine:Nat)<2^63:=by rw[kr];decide
def Eo:V8 X (λx H Q=>∃k,IH X.K x H k/\Q k H):=by
 intro af s σ H x v Q I rx h;obtain⟨k,e,q⟩:=h;have hl:=kA;have hs:=kr;cases x with
 | az =>
  cases rx;have e':=e;subst e';exact truthy_none ⟨H,I,q⟩
 | bl b =>
  cases rx;have e':=e;subst e';exact kh ⟨H,I,q⟩
 | int i =>
  obtain⟨t,rfl⟩:=rx;have e':=e;subst e';exact PySem.P.truthy_int ⟨H,I,q⟩
 | str y =>
  obtain⟨t,rfl⟩:=rx;obtain⟨hy,e'⟩:y.length<=sizeLine/\k=((y.length:Int) != 0):=e;subst e';exact PySem.P.truthy_str (by lia) ⟨H,I.tok _,q⟩
 | P5 y =>
  obtain⟨t,rfl⟩:=rx;obtain⟨hy,e'⟩:y.size<=sizeLine/\k=((y.size:Int) != 0):=e;subst e';exact W.truthy_bytes (by lia) ⟨H,I.tok _,q⟩
 | ref p =>
  cases rx;have e':=e;rcases e' with⟨xs,hx,e'⟩ | ⟨xs,hx,e'⟩ | ⟨kvs,hx,e'⟩
  ·subst e';obtain⟨ar,r,pl,hz⟩:=I.list hx;have dI:=r.length;exact wpAny_truthy_list pl.isList (by grind) ⟨H,I.tok _,by rw[pq r];exact q⟩
  ·subst e';obtain⟨ar,r,pl,hz⟩:=I.tuple hx;have dI:=r.length;exact truthy_tuple pl (by grind) ⟨H,I.tok _,by rw[pq r];exact q⟩
  ·subst e';obtain⟨hz,hS,vs,r,m⟩:kvs.length<=sizeLine/\(p==sysModules)=false/\∃vs,KV kvs vs/\s.heap.DictOf (dC X.prog X.w) p vs:=I.hok p _ hx
   have dI:=mD r;exact wpAny_truthy_dict hS m (by lia) ⟨H,I.tok _,by rw[yM r];exact q⟩
 | _=>exact(e).elim
def Ep(ha:PE X a ta)(he:∀iL,isTrue a X.env iL=(do let v <-iL;standAt a.pos;holding [v] (truthy v))) :
  PT X a (λσ H Q=>ta σ H λx H'=>∃k,IH X.K x H' k/\Q k H'):=by
 intro af s σ H Q I h;exact isTrue_plain (thn (ha af s σ H _ I h) (by rintro v s1 ⟨x,H1,I1,r1,q1⟩;exact Eo af s1 σ H1 x v Q I1 r1 q1)) (he _)
def yN:OpR X (binaryOp .Add) (λx y H Q=>∃i j,x=.str i/\y=.str j/\i.length+j.length<=sizeLine/\Q (.str (i++j)) H):=by
 intro af s σ H x y v u Q I rx ry h;obtain⟨i,j,rfl,rfl,hz,q⟩:=h;obtain⟨t,rfl⟩:=rx;obtain⟨t',rfl⟩:=ry;exact add_str (λt' tk=>⟨.str (i++j),H,I.tok _,⟨_,rfl⟩,q⟩) hz
def jV(r:Vals [x] us):∃u,us=[u]/\RelV x u:=by
 cases r with
 | cons r1 r2=>cases r2;exact⟨_,rfl,r1⟩
def Er(r:Vals [x,y] us):∃u w',us=[u,w']/\RelV x u/\RelV y w':=by
 cases r with
 | cons r1 r2 =>
  cases r2 with
  | cons r3 r4=>cases r4;exact⟨_,_,rfl,r1,r3⟩
def rK:jU X (.type "int") (λxs H Q=>(∃i,xs=[.int i]/\Q (.int i) H)\/∃k,xs=[.bl k]/\Q (.int (if k then 1 else 0)) H):=by
 intro af s σ H xs us Q I r h;rcases h with⟨i,rfl,q⟩ | ⟨k,rfl,q⟩
 ·obtain⟨u,rfl,t,rfl⟩:=jV r;exact call_int_int ⟨.int i,H,I,⟨_,rfl⟩,q⟩
 ·obtain⟨u,rfl,r1⟩:=jV r;cases r1;exact call_int_bool ⟨.int (if k then 1 else 0),H,I.tok _,⟨_,rfl⟩,q⟩
def um:jU X (.type "str") (λxs H Q=>∃i,xs=[.int i]/\i.natAbs.log2<1920/\Q (.str (toString i)) H):=by
 intro af s σ H xs us Q I r h;obtain⟨i,rfl,hz,q⟩:=h;obtain⟨u,rfl,t,rfl⟩:=jV r;exact PySem.P.str_of_int hz ⟨.str _,H,I.tok _,⟨_,rfl⟩,q⟩
end
structure yO (h:Heap) (x dx C:Addr) (mA:Str->Option Value):Prop where
 obj:h.get? x=some (W.instObj C dx)
 ns:h.Ns1 dx mA
 ne:dx≠x
def Cg{h:Heap}{mA:Str->Option Value}(n:h.Ns1 dx mA):∃od,h.get? dx=some od/\∀name,W.lookIn name od=some (mA name):=by
 obtain⟨o,es,ep,ho,hd,hk,_,hm⟩:=n;refine⟨o,ho,λname=>?_⟩
 have e:=hm name;unfold nsFind findBy at e;rw[<-Array.find?_toList]at e;unfold W.lookIn;rw[hd];dsimp only
 split
 ·grind
 ·rename_i q;rw[q]at e;have a:es.toList.any (·.refKey)=false:=by
   rw[List.any_eq_false];intro y hy;obtain⟨z,t,MT⟩:=hk y (Array.mem_toList_iff.mp hy);simp[DictEntry.refKey,MT]
  have a':¬es.toList.any (·.refKey)=true:=by grind
  rw[if_neg a'];exact fT some e
def yO.kB(I:yO h x dx C mA):∃od,W.InstAt h x (W.instObj C dx) C (some od)/\∀name,W.lookIn name od=some (mA name) :=
 let ⟨od,ho,hl⟩:=Cg I.ns
 ⟨od,⟨I.obj,rfl,rfl,ho⟩,hl⟩
section
variable {prog:Program} {w:World} {A:Around} {E:Value->Shared->Prop} {s:Shared} {K:W.Frag} {x dx C f:Addr} {mA:Str->Option Value} {name:Str} {v:Value}
def II(X:K.In s.heap)(I:yO s.heap x dx C mA)(hg:W.plainGet K C name=true)(hh:W.hasDictIn K C=true)
  (ha:W.findIn K (.ref C) name=some none) (hv:mA name=some v) (hv':W.handedIn v=true) (h:Q v {s with toks:=s.toks+1}) :
  wpAny (model prog w) A (getAttr (.ref x) name expr) Q E s:=by
 obtain⟨od,J,hl⟩:=I.kB;exact W.get_value X J (W.plainGet_of hg).1 (W.findObj_own hh ha rfl (by rw[hl,hv])) hv' h
def IJ(X:K.In s.heap)(I:yO s.heap x dx C mA)
  (hs:W.findIn K (.ref C) "__setattr__"=some (some (.builtin "object.__setattr__"))) (hp:W.plainOver K C=true) (ht:W.takerIn K C name=some none) (hh:W.hasDictIn K C=true)
  (hw:PySem.Within mA ns) (hsz:ns.length<=sizeLine)
  (h:∀h',yO h' x dx C (λy=>if y=name then some v else mA y)->Heap.SameBut dx s.heap h'->Q () {s with heap:=h',toks:=s.toks+2}) :
  wpAny (model prog w) A (setAttr (.ref x) name v) Q E s:=by
 obtain⟨od,J,hl⟩:=I.kB;refine W.set_plain X J hs (W.osa_open X J hp ht λb=>?_)
 obtain⟨cd,hc,QN⟩:=W.any_some hh;have hx:=I.obj;refine ag (aq (ag (ag (wpAny_loadPart hx (ag (W.Looks.here (W.looks_clsIn X hc) ?_))))));rw[QN];refine aq (ag (aq (ag ?_)));refine wpAny_nsSet1 I.ns λh' Rh K5=>?_
 obtain⟨oD,esD,epD,hoD,hdD,hcD⟩:=Rh.count (PySem.Within.cons name v hw);refine ag (wpAny_lookBehind hoD (by rw[hdD];exact pastItsLine_dict (aP hcD (by grind))) ?_)
 exact aq (h _ ⟨(K5.2 _ (bZ I.ne)).trans I.obj,Rh,I.ne⟩ K5)
def Es(X:K.In s.heap)(hm:W.makesIn K C=true)
  (hi:W.findIn K (.ref C) "__init__"=some (some (.ref f))) (hf:W.typeIn K (.ref f)=some (.type "function"))
  (h:codeAny (model prog w) (A.under (.builtin "type.__call__" ⟨.ref C::vs,kw⟩)) (.call (.ref f) ⟨.ref (s.heap.objs.size+1)::vs,kw⟩) (W.InitBack (s.heap.objs.size+1) R)
   {s with heap:=(s.heap.push W.emptyDict).push (W.instObj C s.heap.objs.size)}) :
  codeAny (model prog w) A (.call (.ref C) ⟨vs,kw⟩) R s:=by
 obtain⟨hh,g,d,t,os⟩:=s;exact W.make_core (W.makes_of X hm) (W.looks_findIn X hi) (λself=>W.bind_fn X self hf) (.inl rfl) h
end
noncomputable def gQ(f:Str)(v:V):List (Str×V)->List (Str×V)
 | []=>[(f,v)]
 | (g,x)::r=>if g=f then(g,v)::r else(g,x)::gQ f v r
theorem ny(f g:Str)(v:V):∀fs:List (Str×V),(gQ f v fs).lookup g=if g=f then some v else fs.lookup g
 | []=>by
  show List.lookup g [(f,v)]=_;by_cases h:g=f
  ·grind
  ·grind
 | (k,x)::r=>by
  have ih:=ny f g v r;rw[show gQ f v ((k,x)::r)=(if k=f then(k,v)::r else(k,x)::gQ f v r)from rfl]
  by_cases hk:k=f
  ·grind
  ·grind
theorem mK(f:Str)(v:V):∀fs:List (Str×V),f∈(gQ f v fs).map (·.1)/\∀g,g∈fs.map (·.1)->g∈(gQ f v fs).map (·.1)
 | []=>⟨by simp[gQ],λg h=>by simp at h⟩
 | (k,x)::r=>by
  obtain⟨i1,i2⟩:=mK f v r;rw[show gQ f v ((k,x)::r)=(if k=f then(k,v)::r else(k,x)::gQ f v r)from rfl]
  by_cases hk:k=f
  ·grind
  ·grind
theorem nz(f:Str)(v:V):∀fs:List (Str×V),(gQ f v fs).length<=fs.length+1
 | []=>by simp[gQ]
 | (k,x)::r=>by
  have ih:=nz f v r;rw[show gQ f v ((k,x)::r)=(if k=f then(k,v)::r else(k,x)::gQ f v r)from rfl]
  by_cases hk:k=f
  ·grind
  ·grind
def nL.IK(r:nL (some v) o):∃u,o=some u/\RelV v u:=by
 cases o with
 | none=>exact(r).elim
 | some u=>exact⟨u,rfl,r⟩
def nL.none_of(r:nL none o):o=none:=by
 cases o with
 | none=>rfl
 | some u=>exact(r).elim
def Ci(r:RelV v u):W.handedIn u=true:=by
 cases v with
 | az=>cases(r);rfl
 | bl b=>cases(r);rfl
 | int i=>obtain⟨t,e⟩:=(r);cases e;rfl
 | str x=>obtain⟨t,e⟩:=(r);cases e;rfl
 | P5 b=>obtain⟨t,e⟩:=(r);cases e;rfl
 | UH b=>obtain⟨t,e⟩:=(r);cases e;rfl
 | ref a=>cases(r);rfl
 | ty n=>cases(r);rfl
section
variable {P:Program} {w:World} {H H':Hp} {h h':Heap} {a C dx:Addr} {fs KW:List (Str×V)}
def uo(hok:kW P w H h)(e:H a=some (.ins C dx fs)):∃mA,yO h a dx C mA/\(∀f,nL (fs.lookup f) (mA f))/\PySem.Within mA (fs.map (·.1))/\fs.length<=1000/\H dx=some (.own a):=by
 obtain⟨d,z,ne,ob,mA,n,r,q⟩:=(hok a _ e);exact⟨mA,⟨ob,n,ne⟩,r,q,z,d⟩
end
def qS.get{K:W.Frag}{C:Addr}(c:qS K C)(f:Str):W.plainGet K C f=true:=c.pg
def gP.Rj{K:W.Frag}{C:Addr}{f:Str}(n:gP K C f):W.takerIn K C f=some none:=by
 unfold W.takerIn;rw[show W.findIn K (.ref C) f=some none from n]
 rfl
section
variable {X:Cx} {af:List (Addr×Obj)} {σ:St} {H:Hp} {s:Shared} {a C dx:Addr} {fs:List (Str×V)} {f:Str} {v:V} {A:Around} {E:Value->Shared->Prop}
def pw(I:Inv X af σ H s)(e:H a=some (.ins C dx fs))(c:qS X.K C)(n:gP X.K C f)(l:fs.lookup f=some v)
  (h:∀u s',Inv X af σ H s'->RelV v u->Q u s'):wpAny (model X.prog X.w) A (getAttr (.ref a) f b) Q E s:=by
 obtain⟨mA,O,r,_,_,_⟩:=uo I.hok e;obtain⟨u,hu,ru⟩:=nL.IK (by rw[<-l];exact r f)
 exact II I.mJ O (c.get f) c.hd n hu (Ci ru) (h u _ (I.tok _) ru)
def px(I:Inv X af σ H s)(e:H a=some (.ins C dx fs))(c:qS X.K C)(n:gP X.K C f)(hl:fs.length<1000)(ry:RelV y u)
  (h:∀s',Inv X af σ (cK H a (.ins C dx (gQ f y fs))) s'->Q () s'):wpAny (model X.prog X.w) A (setAttr (.ref a) f u) Q E s:=by
 obtain⟨mA,O,r,wi,_,ho⟩:=uo I.hok e;have hz:(fs.map (·.1)).length<=sizeLine:=by rw[aM,kr];lia
 refine IJ I.mJ O c.sa c.po n.Rj c.hd wi hz λh' O' sb=>h _ ?_
 have hd:∃o,h'.get? dx=some o:=let ⟨o,_,_,e',_⟩:=O'.ns;⟨o,e'⟩
 refine I.write (by rw[e];exact True.intro) (.inr ho) (λb q hb z=>(sb.2 b hb).trans z) hd ?_
 refine⟨by rw[aK O.ne];exact ho,?_,O.ne,O'.obj,_,O'.ns,λg=>?_,λg hg=>?_⟩
 ·have:=nz f y fs;lia
 ·rw[ny];by_cases q:g=f
  ·rw[if_pos q,if_pos q];exact ry
  ·rw[if_neg q,if_neg q];exact r g
 ·by_cases q:g=f
  ·rw[q];exact(mK f y fs).1
  ·refine(mK f y fs).2 g (wi g λz=>hg ?_)
   show(if g=f then some u else mA g)=none
   rw[if_neg q];exact z
def Inv.made(I:Inv X af σ H s):Inv X af σ (cK (cK H s.heap.objs.size (.own (s.heap.objs.size+1))) (s.heap.objs.size+1) (.ins C s.heap.objs.size []))
  {s with heap:=(s.heap.push W.emptyDict).push (W.instObj C s.heap.objs.size)}:=by
 have e1:(s.heap.push W.emptyDict).get? s.heap.objs.size=some W.emptyDict:=bE s.heap rfl;have e2:((s.heap.push W.emptyDict).push (W.instObj C s.heap.objs.size)).get? (s.heap.objs.size+1)=some (W.instObj C s.heap.objs.size):=by
  have:=bE (s.heap.push W.emptyDict) (o:=W.instObj C s.heap.objs.size) rfl
  rwa [dF]at this
 have e3:(s.heap.push W.emptyDict).Ns s.heap.objs.size (λ_=>none):=⟨W.emptyDict,#[],_,e1,rfl,(λe he=>absurd he (by simp)),λ_=>rfl⟩
 have I1:=I.laid (o:=.own (s.heap.objs.size+1)) (t':=s.toks) (λb u q=>aH _ q) (aD _) ⟨_,e1⟩
 refine I1.laid (t':=s.toks) (λb u q=>aH _ q) (i9 (dF _ _)) ?_
 have ne:s.heap.objs.size≠s.heap.objs.size+1:=by grind
 refine⟨by rw[aK ne,aw],ja _,ne,e2,λ_=>none,(Heap.Ns1.of_empty e3).at λo q=>aH _ q,λ_=>True.intro,λy hy=>absurd rfl hy⟩
def IL(hb:attributeBase e f env (eval e env)=eval e env)
  (h:wpAny (model prog w) A (eval e env) (λo s₁=>wpAny (model prog w) A (getAttr o f true) Q E s₁) E s):wpAny (model prog w) A (eval (.Attribute e f pos) env) Q E s :=
 Attribute_any_ h (by rw[arm_eval_Attribute,hb])
end
def Wb(K:W.Frag)(ta:TE)(f:Str):TE:=λσ H Q=>ta σ H λx H1=>∃a C dx fs v,x=.ref a/\H1 a=some (.ins C dx fs)/\qS K C/\gP K C f/\fs.lookup f=some v/\Q v H1
def Wc(K:W.Frag)(ta tv:TE)(f:Str):TS:=λD σ H=>tv σ H λy H1=>ta σ H1 λx H2=>∃a C dx fs,x=.ref a/\H2 a=some (.ins C dx fs)/\qS K C/\gP K C f/\fs.length<1000 /\
 D.nx σ (cK H2 a (.ins C dx (gQ f y fs)))
section
variable {X:Cx} {o e value:Expr} {f:Str} {pos nN pA:Pos} {ta tv:TE}
def MU(he:PE X e ta)(hb:attributeBase e f X.env (eval e X.env)=eval e X.env):PE X (.Attribute e f pos) (Wb X.K ta f):=by
 intro af s σ H Q I h;refine IL hb (thn (he af s σ H _ I h) λu s1 z9=>?_)
 obtain⟨x,H1,I1,rx,a,C,dx,fs,v,ex,ea,c,n,l,q⟩:=z9;subst ex;obtain rfl:u=Value.ref a:=rx;exact pw I1 ea c n l λu' s2 I2 ru=>⟨v,H1,I2,ru,q⟩
def MV(ha:PE X o ta)(hv:PE X value tv)(hs:swapsWith value (some (.Attribute o f nN)) pos.line X.env=pure false):PS X (.Assign [.Attribute o f nN] value pos) (Wc X.K ta tv f):=by
 intro af s σ H D I h;refine plainObj_wpAny_Assign_Attribute (thn (hv af s σ H _ I h) λu s1 ⟨y,H1,I1,ry,q⟩=>thn (ha af s1 σ H1 _ I1 q) λov s2 z9=>?_) hs
 obtain⟨x,H2,I2,rx,a,C,dx,fs,ex,ea,c,n,l,q2⟩:=z9;subst ex;obtain rfl:ov=Value.ref a:=rx;exact px I2 ea c n l ry λs3 I3=>⟨σ,_,I3,q2⟩
end
structure cS (k:Nat) (A:Around):Prop where
 hd:A.handled=none
 dp:A.depth+3*k+5<recursionLimit
 un:A.units+16*k+1200<cLine
def cS.mono(r:cS k A)(h:j<=k):cS j A:=⟨r.hd,by have:=r.dp;lia,by have:=r.un;lia⟩
def cS.deeper(r:cS (k+1) A)(env:Env):cS k (A.deeper env) :=
 ⟨r.hd,by have:=r.dp;show A.depth+1+3*k+5<_;lia,by have:=r.un;show A.units+3+16*k+1200<_;lia⟩
def yP{A:Around}:(A.under (.builtin "type.__call__" ⟨.ref C::us,kw⟩)).depth=A.depth+1:=by
 first | rfl | simp[Around.under,Code.weight,Code.isCreation,Code.isGuard,Code.isCaller,Code.frames,Code.isFrame,guardIds]
def yQ{A:Around}:(A.under (.builtin "type.__call__" ⟨.ref C::us,kw⟩)).units=A.units+1:=by
 first | rfl | simp[Around.under,Code.cUnits,Code.frames,Code.isFrame]
def cS.make(r:cS (k+1) A)(C:Addr)(us:List Value)(kw:List (Str×Value)):cS k (A.under (.builtin "type.__call__" ⟨.ref C::us,kw⟩)) :=
 ⟨r.hd,by have:=r.dp;rw[yP];lia,by have:=r.un;rw[yQ];lia⟩
def cS.depth(r:cS k A):A.depth<recursionLimit:=by have:=r.dp;lia
def MW:TA:=λ_ H Q=>Q [] H
def Rk(ta:TE)(tr:TA):TA:=λσ H Q=>ta σ H λx H1=>tr σ H1 λxs H2=>Q (x::xs) H2
section
variable {X:Cx} {e:Expr} {es:List Expr} {te:TE} {t:TA} {pos:Pos}
def pB:PA X [] MW:=λ_ _ _ _ H Q I h=>Calls.spliced_nil ⟨[],H,I,.nil,h⟩
def gC(ha:PE X e te)(hr:PA X es t)(hs:starEach (e::es) X.env=(false,eval e X.env)::starEach es X.env:=by rfl):PA X (e::es) (Rk te t):=by
 intro pos af s σ H Q I h;rw[hs];refine Calls.spliced_cons (thn (ha af s σ H _ I h) λu s1 ⟨x,H1,I1,r1,q1⟩=>?_)
 exact thn (hr pos af s1 σ H1 _ I1 q1) (by rintro us s2 ⟨xs,H2,I2,r2,q2⟩;exact⟨x::xs,H2,I2,.cons r1 r2,q2⟩)
def Wd(t:TA):TE:=λσ H Q=>t σ H λxs H1=>xs.length<=sizeLine/\∀p,H1 p=none->Q (.ref p) (cK H1 p (.aj xs))
def We(t:TA):TE:=λσ H Q=>t σ H λxs H1=>xs.length<=sizeLine/\∀p,H1 p=none->Q (.ref p) (cK H1 p (.lst xs))
def MX{x1}(h:PA X es t):PE X (.Tuple es x1 pos) (Wd t):=by
 intro af s σ H Q I hq;refine wpAny_Tuple_spliced (thn (h pos af s σ H _ I hq) λus s1 ⟨xs,H1,I1,r,z,q⟩=>⟨by rw[<-r.length];exact z,?_⟩)
 have hf:=I1.hok.fresh (aD _);refine⟨.ref s1.heap.objs.size,cK H1 s1.heap.objs.size (.aj xs),I1.laid (λb u e=>aH _ e) (aD _) ?_,rfl,q _ hf⟩
 exact⟨z,us,r,nM.new _ _⟩
def Et(h:PA X es t):PE X (.List es pos) (We t):=by
 intro af s σ H Q I hq;refine wpAny_List_spliced (thn (h pos af s σ H _ I hq) λus s1 ⟨xs,H1,I1,r,z,q⟩=>⟨by rw[<-r.length];exact z,?_⟩)
 have hf:=I1.hok.fresh (aD _);refine⟨.ref s1.heap.objs.size,cK H1 s1.heap.objs.size (.lst xs),I1.laid (λb u e=>aH _ e) (aD _) ?_,rfl,q _ hf⟩
 exact⟨z,us,0,r,bE _ rfl⟩
end
abbrev Sp:=List V->Hp->VK->XK->Prop
abbrev BX:=List Env->Hp->Shared->XK->Value->Shared->Prop
structure Env0 (P:Program) (w:World) (K:W.Frag) (mg:Str->Option Value) (base:Heap) (A:Around) (ax:List Env) (s:Shared) (H:Hp):Prop where
 frames:A.frames=some ax
 mod:Mod K mg base
 bs:∀b o,base.get? b=some o->s.heap.get? b=some o/\H b=none
 bsz:base.objs.size<=s.heap.objs.size
 funs:s.heap.FunFrames base ax
 frf:∀b∈eW ax,H b=none
 hok:kW P w H s.heap
 bare:AllBare s.gens
 tabs:o8 K H
def CE(ax:List Env)(P:Program)(w:World)(H:Hp)(s:Shared)(Q:VK)(u:Value)(s':Shared):Prop :=
 ∃v H',s'.os=s.os/\AllBare s'.gens/\Un (eW ax) [] H H' s.heap s'.heap/\kW P w H' s'.heap/\RelV v u/\Q v H'
def CR(CX:BX)(ax:List Env)(P:Program)(w:World)(H:Hp)(s:Shared)(Q:VK)(E:XK)(r:Result)(s':Shared):Prop :=
 match r with
 | .ok (.ret u)=>CE ax P w H s Q u s'
 | .ok _=>False
 | .error e=>CX ax H s E e s'
structure FnOk (P:Program) (w:World) (K:W.Frag) (mg:Str->Option Value) (base:Heap) (CX:BX) (k:Nat) (f:Addr) (fd:FuncData) (ps:List Str) (sp:Sp):Prop where
 len:∀vs H Q E,sp vs H Q E->vs.length=ps.length
 run:∀(A:Around) (ax:List Env) (s:Shared) (H:Hp) (args:Args) (us:List Value) (vs:List V) (Q:VK) (E:XK),cS k A->Env0 P w K mg base A ax s H->BindsTo s fd args (ps.zip us)->Vals vs us->sp vs H Q E ->
  codeAny (model P w) A (.call (.ref f) args) (CR CX ax P w H s Q E) s
def Env0.make{P:Program}{w:World}{K:W.Frag}{mg:Str->Option Value}{base:Heap}{A:Around}{ax:List Env}{s:Shared}{H:Hp}(e:Env0 P w K mg base A ax s H)(C:Addr)(us:List Value)(kw:List (Str×Value)) :
  Env0 P w K mg base (A.under (.builtin "type.__call__" ⟨.ref C::us,kw⟩)) ax s H:=⟨by first | exact e.frames | (simpa[Around.under,Code.envs,Code.isFrame,pushEnvs]using e.frames),e.mod,e.bs,e.bsz,e.funs,e.frf,e.hok,e.bare,e.tabs⟩
section
variable {X:Cx} {af:List (Addr×Obj)} {σ:St} {H:Hp} {s s':Shared}
def Inv.MY(I:Inv X af σ H s):Env0 X.prog X.w X.K X.mg X.base X.A X.stack s H :=
 ⟨I.ok.frames,I.ok.mod,I.bs,aP I.ok.bsz I.sz,I.stack,I.uh,I.hok,I.bare,I.tabs⟩
def Inv.after(I:Inv X af σ H s)(h:CE X.stack X.prog X.w H s Q u s'):EP X af σ Q u s':=by
 obtain⟨v,H',os,bare,un,hok,r,q⟩:=h;obtain⟨hh,g,d,t,Rl⟩:=s';obtain rfl:Rl=s.os:=os;exact⟨v,H',I.call un hok bare (λb z=>absurd z (by simp)),r,q⟩
end
def Az(C:Addr)(sp:Sp)(jb:List V)(E:XK)(t:TA):TE:=λσ H Q=>t σ H λvs H1=>∀x dx,H1 x=none->H1 dx=none->dx≠x ->
 sp (.ref x::(vs++jb)) (cK (cK H1 dx (.own x)) x (.ins C dx [])) (λv H2=>v=.az/\Q (.ref x) H2) E
def uq(CX:BX)(X:Cx)(E:XK):Prop:=∀(af:List (Addr×Obj)) (σ:St) (H:Hp) (s:Shared) (e:Value) (s':Shared),Inv X af σ H s->CX X.stack H s E e s'->X.xe e s'
section
variable {X:Cx} {CX:BX} {k:Nat} {f C:Addr} {fd:FuncData} {ps:List Str} {sp:Sp} {jb:List V} {ds:List Value} {E:XK} {x m:Str} {p pos d8:Pos} {e o:Expr} {es:List Expr} {ta:TE} {t:TA}
def vP{af:List (Addr×Obj)}{σ:St}{H:Hp}{s:Shared}{Q:VK}{us:List Value}{vs:List V}(M:Mk X.K C f)(F:FnOk X.prog X.w X.K X.mg X.base CX k f fd ps sp)(hr:cS (k+1) X.A)(hb:cE X.K fd ps ds)(hd:Vals jb ds)
  (hx:uq CX X E) (I:Inv X af σ H s) (r:Vals vs us)
  (h:∀x dx,H x=none->H dx=none->dx≠x->sp (.ref x::(vs++jb)) (cK (cK H dx (.own x)) x (.ins C dx [])) (λv H2=>v=.az/\Q (.ref x) H2) E) :
  wpAny (model X.prog X.w) X.A (call (.ref C) us) (EP X af σ Q) X.xe s:=by
 have hq:=h (s.heap.objs.size+1) s.heap.objs.size (I.hok.fresh (Nat.le_succ _)) (I.hok.fresh (aD _)) (br (mv _));have I2:=Inv.made (C:=C) I;have r2:Vals (V.ref (s.heap.objs.size+1)::(vs++jb)) (Value.ref (s.heap.objs.size+1)::(us++ds)):=.cons rfl (r.append hd);have hl:(Value.ref (s.heap.objs.size+1)::us++ds).length=ps.length:=by
  have e:=r2.length;rw[F.len _ _ _ _ hq]at e;exact e.symm
 refine wpAny_call (Es I.mJ M.makes M.init (mG.mp M.fn) (oQ (F.run _ X.stack _ _ ⟨Value.ref (s.heap.objs.size+1)::us,[]⟩ (Value.ref (s.heap.objs.size+1)::(us++ds)) _ _ E (hr.make C us [])
  (I2.MY.make C us []) (hb _ (Value.ref (s.heap.objs.size+1)::us) I2.mJ hl) r2 hq) λr s' AA=>?_))
 cases r with
 | error e=>exact hx af σ _ _ e s' I2 AA
 | ok fl =>
  cases fl with
  | ret u =>
   obtain⟨v,H',I3,rv,ev,q3⟩:=I2.after AA;subst ev;exact⟨rv,⟨V.ref (s.heap.objs.size+1),H',I3,rfl,q3⟩⟩
  | next=>exact False.elim AA
  | brk=>exact False.elim AA
  | cont=>exact False.elim AA
def IM(M:Mk X.K C f)(F:FnOk X.prog X.w X.K X.mg X.base CX k f fd ps sp)(hr:cS (k+1) X.A)(hg:Gl X x)(hm:X.mg x=some (.ref C))(hb:cE X.K fd ps ds)(hd:Vals jb ds)(hx:uq CX X E)
  (ha:PA X (e::es) t) (yR:(x==("__debug__":Str))=false:=by decide) (he:starEach (e::es) X.env=(false,eval e X.env)::starEach es X.env:=by rfl) (o7:(backTo pos (starEach es X.env)).any (·.1)=false:=by rfl) :
  PE X (.Call (.Name x p) (e::es) [] pos) (Az C sp jb E t):=by
 intro af s σ H Q I h;refine kd (ld_glob I hg hm ?_ yR);refine W.callWith_K I.ok.mod.kin M.kp (thn (ha pos af s σ H _ I h) λus s1 ⟨vs,H1,I1,r,q⟩=>⟨I1.mJ,?_⟩) he o7
 exact vP M F hr hb hd hx I1 r q
end
theorem rL{kindOf:Str->Option NameKind}:∀{vQ:List (Str×Value)} {m:Str->Option Value},(∀v,(x,v)∉vQ)->bindL kindOf vQ m x=m x
 | [],_,_=>rfl
 | (n,v)::r,m,h=>by
  unfold bindL;rw[rL λw hw=>h w (cO _ hw)]
  split
  ·grind
  ·rfl
theorem rM{kindOf:Str->Option NameKind}:∀{vQ:List (Str×Value)} {m:Str->Option Value},(∀v,(x,v)∉vQ)->bindC kindOf vQ m x=m x
 | [],_,_=>rfl
 | (n,v)::r,m,h=>by
  unfold bindC;rw[rM λw hw=>h w (cO _ hw)]
  split
  ·rfl
  ·grind
theorem rN{kindOf:Str->Option NameKind}:∀{P:List Str} {vs:List Value} {i:Nat} {m:Str->Option Value},P.Nodup->P[i]?=some x->vs[i]?=some v->kindOf x=some .local ->
  bindL kindOf (P.zip vs) m x=some v
 | [],_,_,_,_,h,_,_=>by simp at h
 | _::_,[],_,_,_,_,h,_=>by simp at h
 | p::P,w::vs,0,m,nd,h1,h2,hk=>by
  simp at h1 h2;subst h1;subst h2;show bindL kindOf ((p,w)::P.zip vs) m p=_;unfold bindL;rw[rL λv hv=>(mz.mp nd).1 (yt hv).1,if_pos hk]
  simp
 | p::P,w::vs,i+1,m,nd,h1,h2,hk=>by
  unfold bindL;exact rN (mz.mp nd).2 (by simpa using h1) (by grind) hk
theorem rO{kindOf:Str->Option NameKind}:∀{P:List Str} {vs:List Value} {i:Nat} {m:Str->Option Value},P.Nodup->P[i]?=some x->vs[i]?=some v->kindOf x≠some .local ->
  bindC kindOf (P.zip vs) m x=some v
 | [],_,_,_,_,h,_,_=>by simp at h
 | _::_,[],_,_,_,_,h,_=>by simp at h
 | p::P,w::vs,0,m,nd,h1,h2,hk=>by
  simp at h1 h2;subst h1;subst h2;show bindC kindOf ((p,w)::P.zip vs) m p=_;unfold bindC;rw[rM λv hv=>(mz.mp nd).1 (yt hv).1,if_neg hk]
  simp
 | p::P,w::vs,i+1,m,nd,h1,h2,hk=>by
  unfold bindC;exact rO (mz.mp nd).2 (by simpa using h1) (by grind) hk
noncomputable def start(N:List Str)(vs:List V):St:=vs.map some++List.replicate (N.length-vs.length) none
noncomputable def eM(CX:BX)(P:Program)(w:World)(K:W.Frag)(mg:Str->Option Value)(base:Heap)(N:List Str)(qual:Str)(scope:Scope)(f:Addr)(cd:Value)(A:Around)(ax:List Env)(s:Shared)(H:Hp)(E:XK):Cx where
 prog:=P
 w:=w
 K:=K
 mg:=mg
 base:=base
 A:=A.deeper (envOfC qual scope s.heap.objs.size f cd)
 N:=N
 s₀:=s
 aa:=H
 env:=envOfC qual scope s.heap.objs.size f cd
 ax:=ax
 stack:=envOfC qual scope s.heap.objs.size f cd::ax
 ex:=[]
 calm:=true
 fn:=λ_=>true
 pn:=[]
 xe:=λe s'=>wpAny (model P w) (A.deeper (envOfC qual scope s.heap.objs.size f cd)) (leaving (envOfC qual scope s.heap.objs.size f cd) e) (λ_ Rm=>CX ax H s E e Rm) (λe' Rm=>CX ax H s E e' Rm) s'
def vS{sc:Scope}(h:sc.names.lookup x=some .cell):∃c,(cellsFrom n sc.names []).lookup x=some c:=by
 have q:=W.cellsFrom_some sc.names n [] (.inl h);exact Option.isSome_iff_exists.mp q
def Cj{CX:BX}{P:Program}{w:World}{K:W.Frag}{mg:Str->Option Value}{base:Heap}{N ps:List Str}{qual:Str}{scope:Scope}{f:Addr}{cd:Value}{A:Around}{ax:List Env}{s s1:Shared}{H:Hp}{E:XK}{us:List Value}{vs:List V}
  (S:cF N ps scope) (hd:A.handled=none) (e0:Env0 P w K mg base A ax s H) (hl:vs.length=ps.length) (r:Vals vs us)
  (x:InCallC s s.heap.objs.size (bindL (envOfC qual scope s.heap.objs.size f cd).kindOf (ps.zip us) λ_=>none) (cellsFrom (s.heap.objs.size+1) scope.names []) (bindC (envOfC qual scope s.heap.objs.size f cd).kindOf (ps.zip us) λ_=>none) s1) :
  Inv (eM CX P w K mg base N qual scope f cd A ax s H E) [] (start N vs) H s1:=by
 have o7:ps.length<=N.length:=by have:=fT List.length S.pre;rw[mw]at this;lia
 obtain⟨h1,tk,rfl,hk⟩:=x.done;have noA:∀b:Addr,b∉(eM CX P w K mg base N qual scope f cd A ax s H E).ex:=λb z=>absurd (show b∈([]:List Addr)from z) (by simp)
 refine⟨⟨e0.mod,S.kind,rfl,rfl,aD _,λy z c h1 h2=>?_,λy hy=>?_,λy c _ h=>?_,λ_=>hd,Around.frames_deeper e0.frames,.inr ⟨rfl,rfl⟩,λb z=>absurd z (noA b),e0.bs,e0.bsz,λb _ _=>noA b,λb z=>absurd z (noA b),e0.funs,e0.frf,e0.tabs⟩,
  rfl,e0.bare,Un.kept hk,⟨_,x.toInCall.ns,λi y v h1 h2 h3=>?_⟩,λy c h=>⟨_,x.cell y c h⟩,e0.hok.fresh (aD _),λy c h=>?_,λp hp=>absurd (show p∈([]:List (Addr×Obj))from hp) (by simp),e0.hok.kept hk,?_⟩
 ·exact name_of_addr x.apart (eR h1) (eR h2)
 ·have hy:=hy;rcases hy with hy | hy
  ·exact vS hy
  ·exact absurd rfl (S.nofree _ (eR hy))
 ·exact uc (x.above y c (eR h))
 ·have hi:i<vs.length:=by
   unfold start at h2;by_cases hi:i<vs.length
   ·exact hi
   ·grind
  have ha:vs[i]?=some v:=by
   unfold start at h2;rw[fy (by grind),bB]at h2
   cases e:vs[i]? with
   | none=>rw[e]at h2;cases h2
   | some a=>rw[e]at h2;cases h2;rfl
  obtain⟨u,hu,rv⟩:=r.get ha;have hp:ps[i]?=some y:=by
   rw[<-S.pre,List.getElem?_take_of_lt (by lia)];exact h1
  have YK:ps.Nodup:=by rw[<-S.pre];exact S.nd.sublist (List.take_sublist _ _)
  refine⟨u,rv,?_⟩;rcases S.par y (cP hp)with k | k
  ·exact .inl ⟨k,rN YK hp hu k⟩
  ·obtain⟨c,e⟩:=vS k;refine .inr ⟨.inl k,c,e,?_⟩;have q:=x.cell y c e;rw[rO YK hp hu (by show scope.names.lookup y≠_;rw[k];decide)]at q
   exact q
 ·exact e0.hok.fresh (uc (x.above y c (eR h)))
 ·unfold start;show _=N.length;rw[bX,aM,List.length_replicate]
  lia
def K6{CX:BX}{P:Program}{w:World}{K:W.Frag}{mg:Str->Option Value}{base:Heap}{k:Nat}{f:Addr}{name qual:Str}{pq9:Arguments}{body:List Stmt}{scope:Scope}{dV kV doc pm cM ct oc:Value}{an od:Option Addr}
  {oW:Array (Option Value)} {N ps:List Str} {sp:Sp} (lk:K.lookup f=some ⟨oc,od,.func (W.fnOf name qual pq9 body scope dV kV doc pm an cM ct),oW⟩) (xG:W.codeIn K cM qual=true) (S:cF N ps scope)
  (len:∀vs H Q E,sp vs H Q E->vs.length=ps.length)
  (hbody:∀(A:Around) (ax:List Env) (s:Shared) (H:Hp) (vs:List V) (Q:VK) (E:XK),cS k (A.deeper (envOfC qual scope s.heap.objs.size f cM))->sp vs H Q E ->
   ∃t,PSs (eM CX P w K mg base N qual scope f cM A ax s H E) body t/\t {nx:=λ_ H'=>Q .az H',rt:=Q} (start N vs) H) :
  FnOk P w K mg base CX (k+1) f (W.fnOf name qual pq9 body scope dV kV doc pm an cM ct) ps sp:=by
 refine⟨len,λA ax s H args us vs Q E hr e0 hb r K7=>?_⟩
 have hl:=len _ _ _ _ K7;have KX:=e0.mod.kin.keeps λb o e=>(e0.bs b o e).1
 have lim:=e0.mod.nolimit.keeps λb o e=>(e0.bs b o e).1
 have Rq:∀y∈ps.zip us,scope.names.lookup y.1=some .local\/(scope.names.lookup y.1=some .cell/\((cellsFrom (s.heap.objs.size+1) scope.names []).lookup y.1).isSome=true):=by
  rintro⟨n,v⟩ hy
  rcases S.par n (yt hy).1 with q | q
  ·grind
  ·exact .inr ⟨q,W.cellsFrom_some _ _ _ (.inl q)⟩
 refine codeAny_call_function hr.depth (KX _ _ lk) rfl S.co S.gen rfl (W.codeRec_of KX xG) (hb _ _ _ _ ?_);refine wpAny_newFunctionEnv_cells S.kind Rq λenv he s1 x=>?_
 subst he;refine⟨lim.keeps x.toInCall.keep,codeAny_func ?_⟩;obtain⟨t,ht,hq⟩:=hbody A ax s H vs Q E (hr.deeper _) K7;have I:Inv (eM CX P w K mg base N qual scope f cM A ax s H E) [] (start N vs) H s1:=Cj S hr.hd e0 hl r x;refine oV (ht [] s1 (start N vs) H _ I hq) (λfl s' hs=>?_) λe s' hs=>hs
 have hJ:∀{bD:St} {H':Hp} {v:V} {u:Value},Inv (eM CX P w K mg base N qual scope f cM A ax s H E) [] bD H' s'->RelV v u->Q v H'->CE ax P w H s Q u s' :=
  λ{bD H' v u} J rv q=>⟨v,H',J.os,J.bare,J.base,J.hok,rv,q⟩
 cases fl with
 | ret u =>
  obtain⟨v,bD,H',J,rv,q⟩:=hs;exact hJ J rv q
 | next =>
  obtain⟨bD,H',J,q⟩:=hs;exact hJ (v:=V.az) J rfl q
 | brk =>
  obtain⟨_,_,_,q⟩:=hs;exact False.elim q
 | cont =>
  obtain⟨_,_,_,q⟩:=hs;exact False.elim q
section
variable {X:Cx} {x:Str} {p pos:Pos} {e:Expr} {es:List Expr} {t:TA} {id T:String} {r:List V->Hp->VK->Prop}
def Wf(r:List V->Hp->VK->Prop)(t:TA):TE:=λσ H Q=>t σ H λvs H1=>r vs H1 Q
def pC(hc:jU X (.builtin id) r)(hg:Gl X x)(hm:X.mg x=none)(hv:bootBuiltins x=some (.builtin id))(ha:PA X (e::es) t)(hn:x≠"__name__":=by decide)(yR:(x==("__debug__":Str))=false:=by decide)
  (he:starEach (e::es) X.env=(false,eval e X.env)::starEach es X.env:=by rfl) (o7:(backTo pos (starEach es X.env)).any (·.1)=false:=by rfl):PE X (.Call (.Name x p) (e::es) [] pos) (Wf r t):=by
 intro af s σ H Q I h;refine kd (ld_blt I hg hm hv ?_ hn yR);exact PyProof.Rows.callWith_builtin1 (thn (ha pos af s σ H _ I h) (by rintro us s1 ⟨vs,H1,I1,r1,q1⟩;exact hc af s1 σ H1 vs us Q I1 r1 q1)) he o7
def mL(hc:jU X (.type T) r)(hg:Gl X x)(hm:X.mg x=none)(hv:bootBuiltins x=some (.type T))(ha:PA X (e::es) t)(hn:x≠"__name__":=by decide)(yR:(x==("__debug__":Str))=false:=by decide)
  (he:starEach (e::es) X.env=(false,eval e X.env)::starEach es X.env:=by rfl) (o7:(backTo pos (starEach es X.env)).any (·.1)=false:=by rfl):PE X (.Call (.Name x p) (e::es) [] pos) (Wf r t):=by
 intro af s σ H Q I h;refine kd (ld_blt I hg hm hv ?_ hn yR);exact j5 (thn (ha pos af s σ H _ I h) (by rintro us s1 ⟨vs,H1,I1,r1,q1⟩;exact hc af s1 σ H1 vs us Q I1 r1 q1)) he o7
end
end L2
namespace HT
open PySem PyProof.Rows
section
variable {prog:Program} {w:World} {A:Around} {E:Value->Shared->Prop} {s:Shared}
def IP(ht:IsTup s.heap t vs.toArray)(hb:IsTup s.heap b ws.toArray)(hv:vs≠[])
  (h1:ws=[]->Q (.ref t) s) (h2:ws≠[]->Q (.ref s.heap.objs.size) {s with heap:=s.heap.push {cls:=.type "tuple",data:=.seq (vs++ws).toArray}})
  (hsz:vs.length+ws.length<=sizeLine):wpAny (model prog w) A (binaryOp .Add (.ref t) (.ref b)) Q E s:=by
 obtain⟨⟨cls,dd,data,sl⟩,ho,hc,n,hd⟩:=id ht;obtain⟨⟨Wg,UW,Rt,Qb⟩,MZ,M0,n2,hd2⟩:=id hb;simp only at hc hd M0 hd2;subst hc hd M0 hd2;have e:vs.toArray++ws.toArray=(vs++ws).toArray:=by simp
 by_cases hw:ws=[]
 ·exact concat_meets ⟨_,ho,rfl⟩ ⟨_,MZ,rfl⟩ yn seq_tuple_add xX xU (xS _ _)
   (tuple_addW1 t b vs.toArray ws.toArray n n2 dd UW sl Qb (by grind) (by simp[hw])) ⟨ho,MZ,h1 hw⟩
 ·refine concat_meets ⟨_,ho,rfl⟩ ⟨_,MZ,rfl⟩ yn seq_tuple_add xX xU (xS _ _)
   (tuple_addW2 t b vs.toArray ws.toArray n n2 dd UW sl Qb (by grind) (by grind) (by grind)) ⟨ho,MZ,?_⟩
  rw[e];exact h2 hw
noncomputable def dM(n d:Nat):Option Int->Nat
 | none=>d
 | some v=>if v<0 then(v+(n:Int)).toNat else min v.toNat n
def pE(n d:Nat):dM n d none=d:=rfl
def lj(n d k:Nat):dM n d (some (k:Int))=min k n:=by
 show(if(k:Int)<0 then((k:Int)+(n:Int)).toNat else min (k:Int).toNat n)=min k n
 rw[if_neg (by lia),iZ]
def M3(n d:Nat)(hd:d<=n)(o:Option Int):dM n d o<=n:=by
 cases o with
 | none=>exact hd
 | some v =>
  show(if v<0 then(v+(n:Int)).toNat else min v.toNat n)<=n
  by_cases hv:v<0
  ·grind
  ·grind
def AB(v:Int)(n d:Nat):(if v<0 then max (v+(n:Int)) 0 else min v (n:Int))=((dM n d (some v):Nat):Int):=by
 show(if v<0 then max (v+(n:Int)) 0 else min v (n:Int))=(((if v<0 then(v+(n:Int)).toNat else min v.toNat n):Nat):Int)
 by_cases hv:v<0
 ·grind
 ·grind
def yS(lo hi:Option Int)(n:Nat):Builtin.Slice.sliceAdjust lo hi 1 (n:Int)=(((dM n 0 lo:Nat):Int),((dM n n hi:Nat):Int)):=by
 have h1:¬(1<0):=by lia
 unfold Builtin.Slice.sliceAdjust;simp only[h1,fF];refine Prod.ext ?_ ?_
 ·cases lo with
  | none=>rfl
  | some v=>exact AB v n 0
 ·cases hi with
  | none=>rfl
  | some v=>exact AB v n n
def yT(i j:Nat):Builtin.Slice.slicePlaces (i:Int) (j:Int) 1=j-i:=by
 unfold Builtin.Slice.slicePlaces;have h1:1>0:=by lia
 simp only[h1,fU,Int.ediv_one];split<;>lia
def pF(p:IsPart v o)(h:Q o s):wpAny (model prog w) A (Builtin.Slice.slicePartIndex v) Q E s:=by
 cases p with
 | none=>exact slicePart_none h
 | int i t=>exact slicePart_int h
def hZ{vl vu:Value}{lo hi:Option Int}{n:Nat}{Q:Int×Int×Nat->Shared->Prop}(hs:s.heap.IsSliceOf sl vl vu .none)(pl:IsPart vl lo)(pu:IsPart vu hi)
  (h:Q (((dM n 0 lo:Nat):Int),1,dM n n hi-dM n 0 lo) s):wpAny (model prog w) A (Builtin.Slice.sliceApplied (.ref sl) (pure (n:Int))) Q E s:=by
 obtain⟨os,HH,UX,Ru⟩:=id hs;unfold Builtin.Slice.sliceApplied Builtin.Slice.sliceFields;refine ag (ag (cD HH Ru rfl (ag (cD HH Ru rfl (ag (cD HH Ru rfl (aq ?_)))))));refine ag (slicePart_none ?_);rw[if_neg (by decide)]
 refine ag (pF pl (ag (pF pu (ag (aq ?_)))));show wpAny _ _ (match Builtin.Slice.sliceAdjust lo hi 1 (n:Int)with | (lo,hi)=>pure (lo,(1:Int),Builtin.Slice.slicePlaces lo hi 1)) _ _ s
 rw[yS lo hi n];show wpAny _ _ (pure (((dM n 0 lo:Nat):Int),(1:Int),Builtin.Slice.slicePlaces ((dM n 0 lo:Nat):Int) ((dM n n hi:Nat):Int) 1)) _ _ s;rw[yT];exact aq h
def Eu(xs:Array Value)(i k:Nat):((List.range k).filterMap fun(m:Nat)=>xs[((i:Int)+(m:Int)*1).toNat]?).toArray=((xs.toList.drop i).take k).toArray:=by
 have e:(fun(m:Nat)=>xs[(i+(m:Int)*1).toNat]?)=λm=>xs[i+m]?:=by
  grind
 rw[e];have:=pick_run xs i k;rw[List.filterMap_map]at this;have e2:((λx=>xs[x]?) ∘ λx=>i+x)=λm=>xs[i+m]?:=rfl
 rw[e2]at this;rw[this]
def lp{items:Array Value}{vl vu:Value}{lo hi:Option Int}{Q:Value->Shared->Prop}(ht:IsTup s.heap t items)(hs:s.heap.IsSliceOf sl vl vu .none)(pl:IsPart vl lo)(pu:IsPart vu hi)
  (hw:¬(dM items.size 0 lo=0/\dM items.size items.size hi=items.size))
  (h:Q (.ref s.heap.objs.size) {s with heap:=s.heap.push {cls:=.type "tuple",data:=.seq ((items.toList.drop (dM items.size 0 lo)).take (dM items.size items.size hi-dM items.size 0 lo)).toArray}})
  (hsz:items.size<=sizeLine):wpAny (model prog w) A (getItem (.ref t) (.ref sl)) Q E s:=by
 have AD:sizeOk (.seq ((items.toList.drop (dM items.size 0 lo)).take (dM items.size items.size hi-dM items.size 0 lo)).toArray):=by
  show((items.toList.drop (dM items.size 0 lo)).take (dM items.size items.size hi-dM items.size 0 lo)).toArray.size<=sizeLine;rw[cy,mw,tO,oI]
  lia
 have hj:dM items.size items.size hi<=items.size:=M3 _ _ (aD _) hi;obtain⟨os,HH,UX,Ru⟩:=id hs;have hTs:s.TypeIs (.ref sl) "slice":=⟨os,HH,UX⟩;unfold getItem
 try with_reducible refine dY ?_
 first | refine ag (aq ?_) | skip
 refine ag (wpAny_sequenceKey ht.typeIs (by decide) ?_)
 refine ag (fA ht.typeIs mh
  (fR mh ht.typeIs entry_tuple_getitem ?_ (args_tuple_getitem _ _)))
 show wpAny _ _ (Builtin.Tuple.tupleItemsOf (.ref t) >>= _) _ _ s;refine ag (tupleItemsOf_ ht ?_);refine ag (mE hTs ?_);rw[if_pos (by decide)]
 refine ag (hZ hs pl pu ?_);have hno:¬((((dM items.size 0 lo:Nat):Int)==0&&(1:Int)==1&&(dM items.size items.size hi-dM items.size 0 lo)==items.size)=true):=by
  grind
 show wpAny _ _ (if(((dM items.size 0 lo:Nat):Int)==0&&(1:Int)==1&&(dM items.size items.size hi-dM items.size 0 lo)==items.size)=true then _ else _) _ _ s
 rw[if_neg hno,Eu]
 first
  | exact ag (m:=Builtin.Tuple.tupleExact _) (kf (aq ⟨_,rfl,aq h⟩) AD)
  | exact ag (m:=Builtin.Tuple.tupleExact _) (kf (ag (aq (aq ⟨_,rfl,aq h⟩))) AD)
  | exact ag (ag (m:=Builtin.Tuple.tupleExact _) (kf (aq (aq ⟨_,rfl,aq h⟩)) AD))
  | exact ag (ag (m:=Builtin.Tuple.tupleExact _) (kf (aq ⟨_,rfl,aq h⟩) AD))
end
end HT
namespace L2
open PySem PySem.Spec PyProof.Rows
abbrev TO:=St->Hp->(Option Int->Hp->Prop)->Prop
def PO(X:Cx)(e:Option Expr)(t:TO):Prop :=
 ∀(af:List (Addr×Obj)) (s:Shared) (σ:St) (H:Hp) (Q:Option Int->Hp->Prop),Inv X af σ H s->t σ H Q ->
  wpAny (model X.prog X.w) X.A (evalPart e X.env) (λu s'=>∃o H',Inv X af σ H' s'/\IsPart u o/\Q o H') X.xe s
def IQ:TO:=λ_ H Q=>Q none H
def Rv(t:TE):TO:=λσ H Q=>t σ H λx H1=>∃i,x=.int i/\Q (some i) H1
def yU:∀{us:List Value},Vals (ns.map V.int) us->IntsAre us ns:=by
 induction ns with
 | nil=>intro us r;rw[eu]at r;cases r;exact .nil
 | cons n ns ih =>
  intro us r;rw[aQ]at r;cases r with
  | cons r1 r2 =>
   obtain⟨t,e⟩:=r1;subst e;exact .cons n t (ih r2)
section
variable {X:Cx} {e:Expr} {te:TE} {lo hi:Option Expr} {tl th:TO} {pos p2:Pos}
def IS:PO X none IQ:=by
 intro af s σ H Q I h;rw[evalPart_none];exact aq ⟨none,H,I,.none,h⟩
def IT(h:PE X e te):PO X (some e) (Rv te):=by
 intro af s σ H Q I hw;rw[evalPart_some];refine thn (h af s σ H _ I hw) λu s1 ⟨x,H1,I1,r1,q1⟩=>?_
 obtain⟨i,rfl,q⟩:=q1;obtain⟨t,rfl⟩:=r1;exact⟨some i,H1,I1,.int i t,q⟩
def UY(X:Cx)(r:V->Option Int->Option Int->Hp->VK->Prop):Prop :=
 ∀(af:List (Addr×Obj)) (s:Shared) (σ:St) (H:Hp) (x:V) (v vl vu:Value) (lo hi:Option Int) (sl:Addr) (Q:VK),Inv X af σ H s->RelV x v->s.heap.IsSliceOf sl vl vu .none->IsPart vl lo->IsPart vu hi->r x lo hi H Q ->
  ∃T id,typeLookup (.type T) "__getitem__"=pure (some (.builtin id))/\s.TypeIs v T/\wpAny (model X.prog X.w) X.A (getItem v (.ref sl)) (EP X af σ Q) X.xe s
def YL(r:V->Option Int->Option Int->Hp->VK->Prop)(te:TE)(tl th:TO):TE:=λσ H Q=>te σ H λx H1=>tl σ H1 λl H2=>th σ H2 λu H3=>r x l u H3 Q
def Ew{r:V->Option Int->Option Int->Hp->VK->Prop}(hr:UY X r)(he:PE X e te)(hl:PO X lo tl)(hu:PO X hi th):PE X (.Subscript e (.Slice lo hi none p2) pos) (YL r te tl th):=by
 intro af s σ H Q I h;refine Subscript_ (thn (he af s σ H _ I h) λv s1 ⟨x,H1,I1,r1,q1⟩=>?_)
 refine wpAny_Slice (thn (hl af s1 σ H1 _ I1 q1) λvl s2 ⟨l,H2,I2,pl,q2⟩=>thn (hu af s2 σ H2 _ I2 q2) λvu s3 ⟨u,H3,I3,pu,q3⟩=>?_)
 rw[evalPart_none];refine aq ?_;have I4:Inv X af σ H3 {s3 with heap:=s3.heap.push {cls:=.type "slice",data:=.fields #[vl,vu,.none]}}:=I3.kept λb ob q=>aH _ q
 obtain⟨T,id,hT,ht,hg⟩:=hr af {s3 with heap:=s3.heap.push {cls:=.type "slice",data:=.fields #[vl,vu,.none]}} σ H3 x v vl vu l u s3.heap.objs.size Q I4 r1 (Heap.IsSliceOf.new ..) pl pu q3
 show wpAny (model X.prog X.w) X.A (subscriptTail e (.Slice lo hi none p2) v (.ref s3.heap.objs.size)) (EP X af σ Q) X.xe {s3 with heap:=s3.heap.push {cls:=.type "slice",data:=.fields #[vl,vu,.none]}}
 exact mH ht hT hg (by with_unfolding_all rfl)
def vT(xs:List V)(lo hi:Option Int):List V:=(xs.drop (HT.dM xs.length 0 lo)).take (HT.dM xs.length xs.length hi-HT.dM xs.length 0 lo)
def nA(xs:List V)(lo hi:Option Int):(vT xs lo hi).length<=xs.length:=by
 unfold vT;rw[mw,tO]
 lia
def Wh(K:W.Frag):V->Option Int->Option Int->Hp->VK->Prop:=λx lo hi H Q=>∃a xs,x=.ref a/\gw K H a xs /\
 ¬(HT.dM xs.length 0 lo=0/\HT.dM xs.length xs.length hi=xs.length)/\∀p,H p=none->Q (.ref p) (cK H p (.aj (vT xs lo hi)))
def M4:UY X (Wh X.K):=by
 intro af s σ H x v vl vu lo hi sl Q I rx hs pl pu h;obtain⟨a,xs,rfl,hx,hw,q⟩:=h;cases rx;obtain⟨ar,r,ht,hz⟩:=I.tuple hx;have dI:ar.toArray.size=xs.length:=by rw[cy];exact r.length.symm
 refine⟨"tuple",_,mh.lookup,ht.typeIs,?_⟩;refine HT.lp ht hs pl pu (by grind) ?_ (by grind)
 rw[dI];refine⟨.ref s.heap.objs.size,_,I.laid (λb ob q=>aH _ q) (aD _) ?_,rfl,q _ (I.hok.fresh (aD _))⟩
 exact⟨aP (nA xs lo hi) hz,_,(r.drop (HT.dM xs.length 0 lo)).take (HT.dM xs.length xs.length hi-HT.dM xs.length 0 lo),nM.new _ _⟩
def Rx(K:W.Frag):R2:=λx y H Q=>∃a b xs ys,x=.ref a/\y=.ref b/\gw K H a xs/\gw K H b ys/\xs≠[]/\xs.length+ys.length<=sizeLine /\
 (ys=[]->Q (.ref a) H)/\(ys≠[]->∀p,H p=none->Q (.ref p) (cK H p (.aj (xs++ys))))
def Vals.uu(r:Vals xs us):us=[]↔xs=[]:=by
 cases r with
 | nil=>simp
 | cons _ _=>simp
def IU:OpR X (binaryOp .Add) (Rx X.K):=by
 intro af s σ H x y v u Q I rx ry h;obtain⟨a,b,xs,ys,rfl,rfl,ha,hb,hx,hz,q1,q2⟩:=h;cases rx;cases ry;obtain⟨ar,r1,p1,_⟩:=I.tuple ha;obtain⟨eN,r2,p2,_⟩:=I.tuple hb;refine HT.IP p1 p2 (λz=>hx (r1.uu.mp z)) (λz=>⟨.ref a,H,I,rfl,q1 (r2.uu.mp z)⟩) (λz=>?_) (by rw[<-r1.length,<-r2.length];exact hz)
 refine⟨.ref s.heap.objs.size,_,I.laid (λb ob q=>aH _ q) (aD _) ?_,rfl,q2 (λw=>z (r2.uu.mpr w)) _ (I.hok.fresh (aD _))⟩
 exact⟨by grind,_,r1.append r2,nM.new _ _⟩
end
noncomputable def AE(n:Nat)(i:Int):Option Nat:=if 0<=i then(if i<n then some i.toNat else none)else if -(n:Int)<=i then some (i+n).toNat else none
def qN{α:Type}(xs:List α)(i:Int):Option α:=(AE xs.length i).bind λj=>xs[j]?
def AF(h:AE n i=some j):seqIndex? i n=some j/\j<n /\ -(n:Int)<=i/\i<n:=by
 unfold AE at h;by_cases h0:0<=i
 ·rw[if_pos h0]at h;by_cases h1:i<n
  ·rw[if_pos h1]at h;have e:=bJ h;exact⟨by rw[seqIndex_of h0 h1,e],by lia,by lia,h1⟩
  ·grind
 ·rw[if_neg h0]at h;by_cases h1:-n<=i
  ·rw[if_pos h1]at h;have e:=bJ h;exact⟨by rw[seqIndex_neg (by lia) h1,e],by lia,h1,by lia⟩
  ·grind
def uv{α:Type}{xs:List α}{i:Int}{v:α}(h:qN xs i=some v):∃j,seqIndex? i xs.length=some j/\xs[j]?=some v/\j<xs.length /\ -(xs.length:Int)<=i/\i<xs.length:=by
 unfold qN at h;cases e:AE xs.length i with
 | none=>rw[e]at h;cases h
 | some j =>
  rw[e]at h;obtain⟨h1,h2,h3,h4⟩:=AF e;exact⟨j,h1,h,h2,h3,h4⟩
def atI_nat{α:Type}{xs:List α}{j:Nat}{v:α}(h:xs[j]?=some v):qN xs (j:Int)=some v:=by
 have hj:=(c8.mp h).1;have e:AE xs.length j=some j:=by
  unfold AE;rw[if_pos (by lia),if_pos (by lia)];simp
 unfold qN;rw[e];exact h
def lq(b:Expr):Prop:=∀o i,subscripted b false o i=operate [o,i] (getItem o i)
def Qc(X:Cx)(r:R2):Prop :=
 ∀(value slice:Expr) (af:List (Addr×Obj)) (s:Shared) (σ:St) (H:Hp) (x y:V) (v u:Value) (Q:VK),Inv X af σ H s->RelV x v->RelV y u->r x y H Q ->
  subscripted slice false v u=operate [v,u] (getItem v u)->wpAny (model X.prog X.w) X.A (subscriptTail value slice v u) (EP X af σ Q) X.xe s
def YM(X:Cx)(id:String)(r:V->List V->Hp->VK->Prop):Prop :=
 ∀(af:List (Addr×Obj)) (s:Shared) (σ:St) (H:Hp) (x:V) (xs:List V) (v:Value) (us:List Value) (Q:VK),Inv X af σ H s->RelV x v->Vals xs us->r x xs H Q ->
  wpAny (model X.prog X.w) X.A (call (.builtin id) (v::us)) (EP X af σ Q) X.xe s
section
variable {X:Cx} {a b:Expr} {ta tb:TE} {pos:Pos}
def Ex(hr:Qc X r)(ha:PE X a ta)(hb:PE X b tb)(hs:lq b):PE X (.Subscript a b pos) (Q7 r ta tb):=by
 intro af s σ H Q I h;exact Subscript_ (MK ha hb I h λv u s2 x y H2 I2 rx ry q=>hr a b af s2 σ H2 x y v u Q I2 rx ry q (hs _ _))
def Wi(K:W.Frag):R2:=λx y H Q=>∃p xs i v,x=.ref p/\y=.int i/\uj K H p xs/\qN xs i=some v/\Q v H
def Wj(K:W.Frag):R2:=λx y H Q=>∃p xs i v,x=.ref p/\y=.int i/\gw K H p xs/\qN xs i=some v/\Q v H
def Wk:R2:=λx y H Q=>∃z i c,x=.str z/\y=.int i/\z.length<=sizeLine/\qN z.cps.toList i=some c/\Q (.str ⟨#[c]⟩) H
def IV:Qc X (Wi X.K):=by
 intro value slice af s σ H x y v u Q I rx ry h hs;obtain⟨p,xs,i,z,rfl,rfl,hq,he,q⟩:=h;cases rx;obtain⟨t,rfl⟩:=ry;obtain⟨ar,r,pl,hz⟩:=I.list hq;obtain⟨j,h1,h2,h3,h4,h5⟩:=uv he;obtain⟨w,ew,IW⟩:=r.get h2;have hl:=r.length;have hn:=kA;have hJ:EP X af σ Q w s:=⟨z,H,I,IW,q⟩;by_cases h0:0<=i
 ·have hj:i.toNat=j:=by
   rw[seqIndex_of h0 h5]at h1;exact bJ h1
  exact item_listR pl.isList h0 (by lia) (by grind) hJ hs
 ·have hj:(i+(ar.toArray.size:Int)).toNat=j:=by
   rw[seqIndex_neg (by lia) h4]at h1
   rw[cy,<-hl];exact bJ h1
  exact subscriptTail_builtinR pl.isList.typeIs slot_list_getitem.lookup
   (wpAny_getItem_list_neg pl.isList (by lia) (by grind) (by lia) (by grind) ⟨rfl,hJ⟩) hs
def M5:Qc X (Wj X.K):=by
 intro value slice af s σ H x y v u Q I rx ry h hs;obtain⟨p,xs,i,z,rfl,rfl,hq,he,q⟩:=h;cases rx;obtain⟨t,rfl⟩:=ry;obtain⟨ar,r,pl,hz⟩:=I.tuple hq;obtain⟨j,h1,h2,h3,h4,h5⟩:=uv he;obtain⟨w,ew,IW⟩:=r.get h2;have hl:=r.length;have hn:=kA;have hJ:EP X af σ Q w s:=⟨z,H,I,IW,q⟩;exact subscriptTail_builtinR pl.typeIs slot_tuple_getitem.lookup
  (getItem_tuple pl (by lia) (by lia) (by rw[cy,<-hl];exact h1) (by grind) ⟨rfl,hJ⟩) hs
def M6:Qc X Wk:=by
 intro value slice af s σ H x y v u Q I rx ry h hs;obtain⟨z,i,c,rfl,rfl,hz,he,q⟩:=h;obtain⟨t,rfl⟩:=rx;obtain⟨t',rfl⟩:=ry;obtain⟨j,h1,h2,h3,h4,h5⟩:=uv he;have hl:z.cps.toList.length=z.length:=by simp[Str.length]
 rw[hl]at h1 h4 h5;have hn:=kA;exact mH (typeIs_str s z t) slot_str_getitem.lookup (getItem_str (by
  grind) (by grind) ⟨.str ⟨#[c]⟩,H,I.tok _,⟨_,rfl⟩,q⟩) hs
def yV(ar:List Value)(n j:Nat)(u:Value):Obj.mapSeq (·.setIfInBounds j u) {cls:=.type "list",data:=.seq ar.toArray n}={cls:=.type "list",data:=.seq (ar.set j u).toArray n}:=by
 simp[Obj.mapSeq]
def Inv.lst{af:List (Addr×Obj)}{σ:St}{H:Hp}{s:Shared}{p:Addr}{xs:List V}(I:Inv X af σ H s)(h:H p=some (.lst xs)) :
  ∃(ar:List Value) (n:Nat),Vals xs ar/\s.heap.get? p=some {cls:=.type "list",data:=.seq ar.toArray n}/\xs.length<=sizeLine:=by
 obtain⟨z,ar,n,r,e⟩:=I.hok p _ h;exact⟨ar,n,r,e,z⟩
def Inv.M7{af:List (Addr×Obj)}{σ:St}{H:Hp}{s:Shared}{p:Addr}{xs ys:List V}{ar its':List Value}{n n':Nat}{f:Obj->Obj}(I:Inv X af σ H s)(h:H p=some (.lst xs))
  (ho:s.heap.get? p=some {cls:=.type "list",data:=.seq ar.toArray n}) (hf:f {cls:=.type "list",data:=.seq ar.toArray n}={cls:=.type "list",data:=.seq its'.toArray n'}) (r:Vals ys its') (hz:ys.length<=sizeLine) (t:Nat) :
  Inv X af σ (cK H p (.lst ys)) {s with heap:=s.heap.update p f,toks:=t}:=by
 have e:(s.heap.update p f).get? p=some {cls:=.type "list",data:=.seq its'.toArray n'}:=by
  rw[mj f ho (by rw[hf]<;>rfl),hf]
 refine I.write (by rw[h];trivial) (.inl rfl) (λb u hb q=>(iX _ _ (bZ hb)).trans q) ⟨_,e⟩ ?_
 exact⟨hz,its',n',r,e⟩
def Ry:V->V->V->Hp->(Hp->Prop)->Prop:=λo i v H Q=>∃p xs k j,o=.ref p/\i=.int k/\H p=some (.lst xs)/\AE xs.length k=some j/\Q (cK H p (.lst (xs.set j v)))
def Ey:Ed X Ry:=by
 intro af s σ H o i v ov iv u Q I ro ri rv h;obtain⟨p,xs,k,j,rfl,rfl,hp,hj,q⟩:=h;cases ro;obtain⟨t,rfl⟩:=ri;obtain⟨ar,n,r,ho,hz⟩:=I.lst hp;obtain⟨h1,h2,h3,h4⟩:=AF hj;have hl:=r.length;have hn:=kA;have I':Inv X af σ (cK H p (.lst (xs.set j v))) {s with heap:=s.heap.update p (Obj.mapSeq (·.setIfInBounds j u))} :=
  I.M7 hp ho (yV ar n j u) (r.set rv j) (by grind) s.toks
 by_cases h0:0<=k
 ·have hk:k.toNat=j:=by
   rw[seqIndex_of h0 h4]at h1;exact bJ h1
  exact W.ki_setAt ho h0 (by lia) (by grind) (by grind)
 ·have hk:(k+(ar.toArray.size:Int)).toNat=j:=by
   rw[seqIndex_neg (by lia) h3]at h1
   rw[cy,<-hl];exact bJ h1
  exact W.ki_setBack ho (by lia) (by grind) (by lia) (by grind)
def uw(lo hi:Option Int)(n:Nat):(sliceBounds lo hi none n).1=((HT.dM n 0 lo:Nat):Int)/\(sliceBounds lo hi none n).2.1=((HT.dM n n hi:Nat):Int)/\(sliceBounds lo hi none n).2.2=1:=by
 refine⟨?_,?_,rfl⟩
 ·cases lo with
  | none=>simp[sliceBounds,HT.dM]
  | some i =>
   simp only[sliceBounds,HT.dM,yo,show 1>0 by decide,fU]
   by_cases h:i<0
   ·grind
   ·grind
 ·cases hi with
  | none=>simp[sliceBounds,HT.dM]
  | some i =>
   simp only[sliceBounds,HT.dM,yo,show 1>0 by decide,fU]
   by_cases h:i<0
   ·grind
   ·grind
def qW(ar:List Value)(lo hi:Option Int):slicePick ar.toArray lo hi none=((ar.drop (HT.dM ar.length 0 lo)).take (HT.dM ar.length ar.length hi-HT.dM ar.length 0 lo)).toArray:=by
 obtain⟨h1,h2,h3⟩:=uw lo hi ar.toArray.size;unfold slicePick;rw[h1,h2,h3];simp only[sliceRange_one,pick_run,cy]<;>rfl
def Wl(K:W.Frag):V->Option Int->Option Int->Hp->VK->Prop:=λx lo hi H Q=>∃a xs,x=.ref a/\uj K H a xs/\∀p,H p=none->Q (.ref p) (cK H p (.lst (vT xs lo hi)))
def IX:UY X (Wl X.K):=by
 intro af s σ H x v vl vu lo hi sl Q I rx hs pl pu h;obtain⟨a,xs,rfl,hx,q⟩:=h;cases rx;obtain⟨ar,r,ht,hz⟩:=I.list hx;have dI:=r.length;refine⟨"list",_,slot_list_getitem.lookup,ht.isList.typeIs,?_⟩;refine wpAny_getItem_list_slice ht.isList hs pl pu .none (by simp) ?_ (by grind)
 rw[qW,<-dI];refine⟨.ref s.heap.objs.size,_,I.laid (λb ob q=>aH _ q) (aD _) ?_,rfl,q _ (I.hok.fresh (aD _))⟩
 exact⟨aP (nA xs lo hi) hz,_,0,(r.drop (HT.dM xs.length 0 lo)).take (HT.dM xs.length xs.length hi-HT.dM xs.length 0 lo),bE _ rfl⟩
def lr:jU X (.builtin "len") (λxs H Q=>∃p ys,xs=[.ref p]/\(uj X.K H p ys\/gw X.K H p ys)/\Q (.int ys.length) H):=by
 intro af s σ H xs us Q I r h;obtain⟨p,ys,rfl,hq,q⟩:=h;obtain⟨u,rfl,rx⟩:=jV r;cases rx;have hn:=kA;rcases hq with hq | hq
 ·obtain⟨ar,r',pl,hz⟩:=I.list hq;have dI:=r'.length;exact Calls.call_len_list pl.isList (by grind) ⟨.int ys.length,H,I.tok _,⟨s.toks+1,by grind⟩,q⟩
 ·obtain⟨ar,r',pl,hz⟩:=I.tuple hq;have dI:=r'.length;exact len_tuple pl (by grind) ⟨.int ys.length,H,I.tok _,⟨s.toks+1,by grind⟩,q⟩
def ux:jU X (.builtin "len") (λxs H Q=>∃z,xs=[.str z]/\z.length<=sizeLine/\Q (.int z.length) H):=by
 intro af s σ H xs us Q I r h;obtain⟨z,rfl,hz,q⟩:=h;obtain⟨u,rfl,t,rfl⟩:=jV r;have hn:=kA;exact len_str (by lia) ⟨.int z.length,H,I.tok _,⟨_,rfl⟩,q⟩
def jW:jU X (.type "tuple") (λxs H Q=>∃p ys,xs=[.ref p]/\((uj X.K H p ys/\∀l,H l=none->Q (.ref l) (cK H l (.aj ys)))\/(gw X.K H p ys/\Q (.ref p) H))):=by
 intro af s σ H xs us Q I r h;obtain⟨p,ys,rfl,h⟩:=h;obtain⟨u,rfl,rx⟩:=jV r;cases rx;rcases h with⟨hq,q⟩ | ⟨hq,q⟩
 ·obtain⟨ar,r',pl,hz⟩:=I.list hq;have dI:=r'.length;refine call_tuple_list pl.isList (λh' kp=>?_) (by grind)
  have I1:=I.kept (t':=s.toks) kp;have I2:Inv X af σ (cK H h'.objs.size (.aj ys)) {s with heap:=h'.push {cls:=.type "tuple",data:=.seq ar.toArray}} :=
   I1.laid (λb o e=>aH _ e) (aD _) (⟨hz,ar,r',nM.new _ _⟩)
  exact⟨.ref h'.objs.size,_,I2,rfl,q _ (I1.hok.fresh (aD _))⟩
 ·obtain⟨ar,r',pl,hz⟩:=I.tuple hq;exact call_tuple_same pl ⟨.ref p,H,I,rfl,q⟩
def tyV(K:W.Frag)(T:String)(x:V)(H:Hp):Prop:=match x with
 | .str _=>T="str"
 | .int _=>T="int"
 | .ref p=>(T="list"/\∃xs,uj K H p xs)\/(T="tuple"/\∃o,K.lookup p=some o/\o.cls=.type "tuple"/\o.dict=none) \/
   (T="dict"/\((∃kvs,H p=some (.dK kvs))\/∃kvs,H p=some (.dT kvs)))\/(T="set"/\∃S n,H p=some (.set S n))
 | _=>False
def Ez{af:List (Addr×Obj)}{σ:St}{H:Hp}{s:Shared}{T:String}{x:V}{v:Value}(I:Inv X af σ H s)(r:RelV x v)(ty:tyV X.K T x H) :
  s.TypeIs v T/\∀a,v=.ref a->∃ob,s.heap.get? a=some ob/\ob.dict=none:=by
 cases x with
 | str z =>
  obtain⟨t,rfl⟩:=r;cases(ty);exact⟨typeIs_str s z t,λ_ e=>nomatch e⟩
 | int i =>
  obtain⟨t,rfl⟩:=r;cases(ty);exact⟨oU s i t,λ_ e=>nomatch e⟩
 | ref p =>
  cases r;rcases ty with⟨rfl,xs,hq⟩ | ⟨rfl,o,hk,hc,hd⟩ | ⟨rfl,hk⟩ | ⟨rfl,S,n,hk⟩
  ·obtain⟨ar,_,pl,_⟩:=I.list hq;refine⟨pl.isList.typeIs,λa e=>?_⟩
   cases e;obtain⟨o,n,e,c,hd,_⟩:=pl;exact⟨o,e,hd⟩
  ·refine⟨⟨o,I.mJ p o hk,hc⟩,λa e=>?_⟩
   cases e;exact⟨o,I.mJ _ o hk,hd⟩
  ·have z:∃o,s.heap.get? p=some o/\o.ExactDict:=by
    rcases hk with⟨kvs,hk⟩ | ⟨kvs,hk⟩
    ·obtain⟨_,_,_,_,o,_,_,e,ex,_⟩:=I.hok p _ hk;exact⟨o,e,ex⟩
    ·obtain⟨_,_,o,_,_,e,ex,_⟩:=(I.hok p _ hk);exact⟨o,e,ex⟩
   obtain⟨o,e,ex⟩:=z;refine⟨⟨o,e,ex.1⟩,λa e2=>?_⟩
   cases e2;exact⟨o,e,ex.2.1⟩
  ·obtain⟨o,_,_,_,e,ex,_⟩:=I.hok p _ hk;refine⟨⟨o,e,ex.1⟩,λa e2=>?_⟩
   cases e2;exact⟨o,e,ex.2.1⟩
 | _=>exact False.elim ty
def Rz(K:W.Frag)(T:String)(r:V->List V->Hp->VK->Prop)(to:TE):TE:=λσ H Q=>to σ H λx H1=>tyV K T x H1/\r x [] H1 Q
def YN(K:W.Frag)(T:String)(r:V->List V->Hp->VK->Prop)(to:TE)(t:TA):TE:=λσ H Q=>to σ H λx H1=>tyV K T x H1/\t σ H1 λxs H2=>r x xs H2 Q
variable {o e:Expr} {es:List Expr} {to:TE} {t:TA} {name:Str} {d8 iB:Pos} {T id:String} {r:V->List V->Hp->VK->Prop}
def M8(pa:PlainAttrs T)(slot:Slot T name id)(Wm:typeOf (.builtin id)=pure (.type "method_descriptor"))(hm:YM X id r)(ho:PE X o to)
  (lu:attributeBase o name X.env (eval o X.env)=eval o X.env:=by rfl) (lx:(d8.endLine==iB.line)=true:=by rfl):PE X (.Call (.Attribute o name d8) [] [] iB) (Rz X.K T r to):=by
 intro af s σ H Q I h;refine wpAny_Call_method0_late lu lx (thn (ho af s σ H _ I h) λv s1 z9=>?_)
 obtain⟨x,H1,I1,r1,ty,q1⟩:=z9;obtain⟨h1,h2⟩:=Ez I1 r1 ty;exact⟨T,id,pa,slot,Wm,h1,h2,Calls.callWith_builtin rfl (PySem.evalArgs_none (hm af s1 σ H1 x [] v [] Q I1 r1 .nil q1))⟩
def K8(pa:PlainAttrs T)(slot:Slot T name id)(Wm:typeOf (.builtin id)=pure (.type "method_descriptor"))(hm:YM X id r)(ho:PE X o to)(ha:PA X (e::es) t)
  (lu:attributeBase o name X.env (eval o X.env)=eval o X.env:=by rfl)
  (IY:((backTo iB (starEach (e::es) X.env)).all (λx=>!x.1)&&(backToKw iB (keywordEach [] X.env)).all (λx=>x.1.isSome)
   && decide ((e::es).length+([]:List Keyword).length+(if([]:List Keyword).isEmpty then 0 else 1)<30))=true:=by rfl)
  (lx:(d8.endLine==iB.line)=true:=by rfl) (hs:starEach (e::es) X.env=(false,eval e X.env)::starEach es X.env:=by rfl) (Wn:(backTo iB (starEach es X.env)).any (·.1)=false:=by rfl) :
  PE X (.Call (.Attribute o name d8) (e::es) [] iB) (YN X.K T r to t):=by
 intro af s σ H Q I h;refine wpAny_Call_method_late lu IY lx rfl (thn (ho af s σ H _ I h) λv s1 z9=>?_)
 obtain⟨x,H1,I1,r1,ty,q1⟩:=z9;obtain⟨h1,h2⟩:=Ez I1 r1 ty;refine⟨T,id,pa,slot,Wm,h1,h2,?_⟩;have hA:=ha iB af s1 σ H1 _ I1 q1;rw[hs]at hA ⊢;refine Calls.callWith_builtin (by grind) (Calls.evalArgs_plain ?_)
 exact thn hA (by rintro us s2 ⟨vs,H2,I2,r2,q2⟩;exact hm af s2 σ H2 x vs v us Q I2 r1 r2 q2)
end
def Wo(X:Cx)(id:String)(r:V->List V->Hp->VK->Prop):Prop :=
 ∀(af:List (Addr×Obj)) (s:Shared) (σ:St) (H:Hp) (x:V) (xs:List V) (v:Value) (us:List Value) (Q:VK),Inv X af σ H s->RelV x v->Vals xs us->r x xs H Q ->
  wpAny (model X.prog X.w) X.A (call (.builtin id) (v::us)) (EP X af σ Q) X.xe s
theorem Vals.one:∀{x:V} {us:List Value},Vals [x] us->∃u,us=[u]/\RelV x u
 | _,_,.cons r .nil=>⟨_,rfl,r⟩
def Vals.two{x y:V}{us:List Value}(h:Vals [x,y] us):∃u v,us=[u,v]/\RelV x u/\RelV y v:=by
 cases h with
 | cons r h=>cases h with
  | cons q h=>cases h;exact⟨_,_,rfl,r,q⟩
theorem Vals.zero:∀{us:List Value},Vals [] us->us=[]
 | _,.nil=>rfl
section
variable {X:Cx} {af:List (Addr×Obj)} {σ:St} {H:Hp} {s:Shared} {l b:Addr} {xs ys zs:List V}
def Inv.M9{ar its':List Value}{n:Nat}{f:Array Value->Array Value}{t':Nat}(I:Inv X af σ H s)(hH:H l=some (.lst xs))
  (e:s.heap.get? l=some {cls:=.type "list",data:=.seq ar.toArray n}) (hf:f ar.toArray=its'.toArray) (hv:Vals ys its') (hz:ys.length<=sizeLine) :
  Inv X af σ (cK H l (.lst ys)) {s with heap:=s.heap.update l (Obj.mapSeq f),toks:=t'}:=by
 have q:=PySem.IsL.update e f;rw[hf]at q;refine I.write (by rw[hH];exact trivial) (.inl rfl) (λb' u hb hu=>(iX s.heap (Obj.mapSeq f) (bZ hb)).trans hu) ⟨_,q⟩ ?_
 exact⟨hz,its',_,hv,q⟩
def Inv.RA(I:Inv X af σ H s)(hv:Vals ys ar)(hz:ys.length<=sizeLine) :
  Inv X af σ (cK H s.heap.objs.size (.lst ys)) {s with heap:=s.heap.push {cls:=.type "list",data:=.seq ar.toArray},toks:=t'} :=
 I.laid (λ_ _ q=>aH _ q) (aD _) ⟨hz,ar,0,hv,bE _ rfl⟩
def Inv.fresh(I:Inv X af σ H s):H s.heap.objs.size=none:=I.hok.fresh (aD _)
def Inv.fH(I:Inv X af σ H s)(hH:H l=some (.lst xs)):xs.length<=sizeLine/\∃(ar:List Value) (n:Nat),Vals xs ar/\xs.length=ar.length/\s.heap.get? l=some {cls:=.type "list",data:=.seq ar.toArray n}:=by
 obtain⟨z,ar,n,r,e⟩:=I.hok l _ hH;exact⟨z,ar,n,r,r.length,e⟩
def vU(h:n<=sizeLine):Builtin.List.listTooLong n=false:=by
 unfold Builtin.List.listTooLong;exact cz (by lia)
end
section
variable {X:Cx}
def AG:V->List V->Hp->VK->Prop:=λx vs H Q=>∃l xs y,x=.ref l/\vs=[y]/\H l=some (.lst xs)/\xs.length<sizeLine/\Q .az (cK H l (.lst (xs++[y])))
def Ck:Wo X "list.append" AG:=by
 intro af s σ H x vs v us Q I rx rv h;obtain⟨l,xs,y,rfl,rfl,hH,hz,q⟩:=h;cases rx;obtain⟨u,rfl,ru⟩:=rv.one;obtain⟨z,ar,n,r,hl,e⟩:=I.fH hH;refine fE F.slot_list_append ⟨_,e,rfl⟩ F.entry_list_append (F.args_list_append_2 _ _) (PySem.list_append l ar.toArray n u (by grind)) ⟨e,?_⟩
 refine⟨.az,_,I.M9 hH e (by simp) (r.append (.cons ru .nil)) ?_,rfl,q⟩
 rw[bX,List.length_singleton]
 lia
end
end L2
namespace YO
open PySem PySem.W PySem.Calls PyProof.Rows
def nP:∀(ns:List Int) (vs:List Value),WellAll P h vs (ns.map WData.int)->IntsAre vs ns:=by
 intro ns;induction ns with
 | nil =>
  intro vs w;rw[eu]at w;cases w;exact .nil
 | cons n ns ih =>
  intro vs w;rw[aQ]at w;cases w with
  | cons a b =>
   cases a;exact .cons _ _ (ih _ b)
def Cm{l:OpenLaw}(hn:l.most=some n) 
  (IZ:l.row.toRowW.claim.pre args=true) (Wq:WellAll P h RB args) :
  ∃a vs ns,RB=[Value.ref a]/\args=[WData.list (ns.map WData.int)]/\h.get? a=some {cls:=.type "list",data:=.seq vs.toArray}/\IntsAre vs ns/\ns.length<=n:=by
 have hsh:=(pre_splitW IZ).1;have hc:l.pre.holds [] {args:=args}=true:=(pre_splitW IZ).2
 obtain⟨d,r,rfl,h1,h2⟩:=hasAllW_cons hsh;obtain rfl:=hasAllW_nil h2;obtain⟨xs,rfl,h3⟩:=hasW_list h1;obtain⟨ns,rfl⟩:=items_int h3;have dI:ns.length<=n:=by
  unfold OpenLaw.pre at hc;have h4:(WTm.not (.lt (.lit (.int n)) (.len (.arg 0)))).holds [] {args:=[.list (ns.map .int)]}=true:=by
   have h4:=(holds_andW hc).1;rw[hn]at h4;exact h4
  have h5:=condW_of h4 (w_not (w_lt w_lit (w_len_list (w_arg rfl))));rw[aM]at h5;refine yl λq=>?_
  have q':n<(ns.length:Nat):=by lia
  first
   | (rw[dX q']at h5;exact absurd h5 (by decide))
   | (simp at h5;lia)
 cases Wq with
 | cons w1 w2 =>
  cases w2;cases w1 with
  | list ho EA=>exact⟨_,_,ns,rfl,rfl,ho,nP ns _ EA,dI⟩
def Cn(l:OpenLaw)(args:List WData):l.row.toRowW.claim.post args (.bool true) args=true :=
 postW_of
  (show WShape.has [] (.bool true) .bool=true by first | rfl | decide | simp[WShape.has,WShape.arms,WShape.armsAll])
  (w_eq_bool (w_res rfl) w_lit) rfl
def vV{l:OpenLaw}{n:Nat}{loose:List Str}{XP:(Str->Option Value)->Heap->Prop}{YP:World->Heap->Prop}{d:DefRec}
  (hn:l.most=some n) (QJ:d.params.defaults=[])
  (call:∀(w:World) (s₀ s₁:Shared) (mg mb:Str->Option Value) (fa:Addr) (o:Obj) (pm cd doc:Value) (a:Addr) (vs:List Value) (ns:List Int),
   Ground q loose [] XP w s₀ mg mb s₁.heap->YP w s₁.heap ->
   s₁.heap.get? fa=some o->o.data=.func (docDef d.name d.params d.body d.scope pm cd doc)->s₁.heap.CodeRec cd d.name->mg d.name=some (.ref fa) ->
   s₁.heap.get? a=some {cls:=.type "list",data:=.seq vs.toArray}->IntsAre vs ns->ns.length<=n->s₁.gens=#[] ->
   codeAny (model l.prog w) callerA (.call (.ref fa) ⟨[.ref a],[]⟩) (λr s'=>r=.ok (.ret (.bool true))/\OldK s₁.heap s'.heap/\s'.os=s₁.os/\AllBare s'.gens) s₁) :
  WalkO q loose XP YP l.row.toRowW d [] (λf vs=>PySem.call f vs):=by
 intro w s₀ s₁ mg mb G Y fa o pm cd doc dV kV ho hd xG hD Qd hg args RB as IZ aaQ K9 Wq hlo;obtain rfl:dV=.none:=Dflts.none hD QJ;obtain rfl:kV=.none:=Dflts.noKw hD;obtain⟨a,vs,ns,rfl,rfl,EB,EC,dI⟩:=Cm hn IZ Wq;refine enter_call (oQ (call w s₀ s₁ mg mb fa o pm cd doc a vs ns G Y ho (fd_plain hd) xG Qd EB EC dI hg) λr s' hq=>?_)
 obtain⟨rfl,h2,h3,h4⟩:=hq;exact⟨.inl ⟨.bool true,.bool true,[],rfl,λ_=>rfl,.bool true,Cn l _,λ_=>⟨List.Pairwise.nil,λ_ hm=>(nomatch hm)⟩⟩,h2,h3,h4⟩
end YO
namespace L2
open PySem PySem.Spec PyProof.Rows
theorem rP:∀{vs:List Value} {ns:List Int},IntsAre vs ns->Vals (ns.map V.int) vs
 | _,_,.nil=>.nil
 | _,_,.cons n t h=>.cons ⟨t,rfl⟩ (rP h)
def Co{P:Program}{w:World}{K:W.Frag}{mg mb:Str->Option Value}{CX:BX}{k:Nat}{fa a:Addr}{fd:FuncData}{x:Str}{sp:Sp}{s₁:Shared}{vs:List Value}{ns:List Int}{tabs:List (Addr×Str)}
  (KX:K.In s₁.heap) (Du:s₁.heap.Ns mainGlobals mg) (hb:s₁.heap.Ns builtinsNs mb) (Qe:∀x:Str,x≠"__name__"->mb x=bootBuiltins x) (yW:s₁.heap.NoLimit) (hg:s₁.gens=#[])
  (hT:∀b q,tabs.lookup b=some q->s₁.heap.get? b=some {cls:=.none,data:=.fields #[]}/\isCodeTable s₁.heap b/\K.lookup b=none) (hTI:∀H:Hp,(∀b q,tabs.lookup b=some q->H b=some (.yx q))->o8 K H)
  (ha:s₁.heap.get? a=some {cls:=.type "list",data:=.seq vs.toArray}) (hi:IntsAre vs ns) (hl:ns.length<=sizeLine) (hr:cS k callerA)
  (F:∀base:Heap,K.In base->base.Ns mainGlobals mg->FnOk P w K mg base CX k fa fd [x] sp) (RC:∀(s:Shared) (u:Value),BindsTo s fd ⟨[u],[]⟩ [(x,u)])
  (K7:∀H:Hp,iJ K H a (ns.map V.int)->sp [.ref a] H (λv _=>v=.bl true) λ_ _ _=>False) (hCX:∀H e s',CX [] H s₁ (λ_ _ _=>False) e s'->False) :
  codeAny (model P w) callerA (.call (.ref fa) ⟨[.ref a],[]⟩) (λr s'=>r=.ok (.ret (.bool true))/\OldK s₁.heap s'.heap/\s'.os=s₁.os/\AllBare s'.gens) s₁:=by
 have rv:=rP hi;have fj:=hi.length
 let oa:Obj:={cls:=.type "list",data:=.seq vs.toArray}
 let H:Hp:=λb=>if b=a/\K.lookup a=none then some (.vE oa (.lst (ns.map V.int)))else(tabs.lookup b).map HO.yx
 have Wr:∀b,H b=if b=a/\K.lookup a=none then some (.vE oa (.lst (ns.map V.int)))else(tabs.lookup b).map HO.yx:=λ_=>rfl
 have hHt:∀b q,tabs.lookup b=some q->H b=some (.yx q):=λb q e=>by
  grind
 have hH:∀b u,H b=some u->(b=a/\K.lookup a=none/\u=.vE oa (.lst (ns.map V.int)))\/∃q,tabs.lookup b=some q/\u=.yx q:=λb u e=>by
  rw[Wr]at e;by_cases h:b=a/\K.lookup a=none
  ·grind
  ·rw[if_neg h]at e;cases z:tabs.lookup b with
   | none=>rw[z]at e;cases e
   | some q=>rw[z]at e;cases e;exact .inr ⟨q,rfl,rfl⟩
 have hS:iJ K H a (ns.map V.int):=by
  cases hk:K.lookup a with
  | some o =>
   have e:=KX a o hk;rw[ha]at e;cases e;exact .inr ⟨vs,_,hk,by grind,rv⟩
  | none=>exact .inl (.inr ⟨oa,by grind⟩)
 have hok:kW P w H s₁.heap:=λb u e=>by
  rcases hH b u e with⟨rfl,_,rfl⟩ | ⟨q,hq,rfl⟩
  ·exact⟨ha,by grind,vs,_,rv,ha⟩
  ·exact⟨#[],(hT b q hq).1,trivial,λpos cv z=>by cases z⟩
 have noD:∀{b:Addr} {o:Obj} {es:Array DictEntry} {ep:Nat},s₁.heap.get? b=some o->o.data=.dict es ep->H b=none:=λ{b o es ep} e d=>by
  cases q:H b with
  | none=>rfl
  | some u =>
   rcases hH b u q with⟨rfl,_,_⟩ | ⟨t,ht,_⟩
   ·grind
   ·grind
 have UZ:∀{b:Addr} {m:Str->Option Value},s₁.heap.Ns b m->(vK s₁.heap H).Ns b m:=λ{b m} ⟨o,es,ep,e,d,r⟩=>⟨o,es,ep,hidT_get e (noD e d),d,r⟩
 have YQ:K.In (vK s₁.heap H):=λb o e=>hidT_get (KX b o e) (by
  cases q:H b with
  | none=>rfl
  | some u =>
   rcases hH b u q with⟨rfl,z,_⟩ | ⟨t,ht,_⟩
   ·grind
   ·rw[(hT b t ht).2.2]at e;cases e)
 have hM:Mod K mg (vK s₁.heap H):=⟨YQ,UZ Du,⟨mb,UZ hb,Qe⟩,let ⟨mc,h1,h2⟩:=yW;⟨mc,UZ h1,h2⟩⟩
 have e0:Env0 P w K mg (vK s₁.heap H) callerA [] s₁ H:=⟨rfl,hM,λb o e=>of_hidT e,i9 (B9 _ _),trivial,λb hb=>absurd (show b∈([]:List Addr)from hb) (by simp),hok,.of_eq hg,hTI H hHt⟩
 refine oQ ((F _ YQ (UZ Du)).run callerA [] s₁ H ⟨[.ref a],[]⟩ [.ref a] [.ref a] _ _ hr e0 (RC s₁ (.ref a)) (.cons rfl .nil) (K7 H hS)) λr s' h=>?_
 cases r with
 | error e=>exact(hCX H e s' h).elim
 | ok fl =>
  cases fl with
  | next=>exact False.elim h
  | brk=>exact False.elim h
  | cont=>exact False.elim h
  | ret u =>
   obtain⟨v,H',os,bare,un,RD,r',q⟩:=h;have q':=q;subst q';obtain rfl:u=Value.bool true:=r';have noF:∀b:Addr,b∉eW []:=λb z=>absurd (show b∈([]:List Addr)from z) (by simp)
   refine⟨rfl,⟨λb o e=>?_,λb o e=>un.there b o e (by simp)⟩,os,bare⟩
   cases q:H b with
   | none=>exact .inl (un.keep b o e q (noF b) (by simp))
   | some u =>
    rcases hH b u q with⟨rfl,_,rfl⟩ | ⟨t,ht,rfl⟩
    ·obtain⟨e2,_⟩:=RD b _ (un.frzs b _ _ q);rw[ha]at e;cases e;exact .inl e2
    ·obtain⟨h1,h2,_⟩:=hT b t ht;obtain⟨ps,e2,_⟩:=(RD b _ (un.tbls b _ q));rw[h1]at e;cases e;exact .inr (.inl ⟨h2,rfl,#[],ps,rfl,by grind⟩)
abbrev E0:XK:=λ_ _ _=>False
def b8(H H':Hp):Prop:=∀b o,H b=some o->H' b=some o
def b8.refl(H:Hp):b8 H H:=λ_ _ h=>h
def b8.trans(a:b8 H H1)(b:b8 H1 H2):b8 H H2:=λc o h=>b c o (a c o h)
def b8.free(e:b8 H H')(h:H' l=Option.none):H l=Option.none:=by
 cases q:H l with
 | none=>rfl
 | some o =>
  rw[e l o q]at h;cases h
def b8.seq{K:W.Frag}{H H':Hp}{a:Addr}{xs:List V}(e:b8 H H')(h:uj K H a xs):uj K H' a xs:=by
 rcases h with(h | ⟨o,h⟩) | h
 ·exact .inl (.inl (e _ _ h))
 ·exact .inl (.inr ⟨o,e _ _ h⟩)
 ·exact .inr h
section
variable {κ:Type} [DecidableEq κ]
noncomputable def nQ(kvs:List (κ×V))(k:κ):Option V:=(kvs.find? λkv=>decide (kv.1=k)).map (·.2)
noncomputable def putK(kvs:List (κ×V))(k:κ)(v:V):List (κ×V) :=
 if(kvs.any λkv=>decide (kv.1=k))=true then kvs.map (λkv=>if kv.1=k then(kv.1,v)else kv)else kvs++[(k,v)]
def ly{p:κ×V}{r:List (κ×V)}{k:κ}(e:p.1=k):nQ (p::r) k=some p.2:=by simp[nQ,oO,e]
def lz{p:κ×V}{r:List (κ×V)}{k:κ}(e:¬p.1=k):nQ (p::r) k=nQ r k:=by simp[nQ,oO,e]
theorem vW(k:κ):∀kvs:List (κ×V),(kvs.any λkv=>decide (kv.1=k))=(nQ kvs k).isSome
 | []=>rfl
 | p::r=>by
  rw[mC];by_cases e:p.1=k
  ·simp only[ly e,dX e,Bool.true_or,Option.isSome_some]
  ·rw[lz e,cz e,Bool.false_or];exact vW k r
def nL.rQ{o:Option V}{u:Option Value}(r:nL o u):o.isSome=u.isSome:=by
 cases o with
 | none=>cases u with
  | none=>rfl
  | some _=>exact(show False from r).elim
 | some _=>cases u with
  | none=>exact(show False from r).elim
  | some _=>rfl
def KV.val{kvs:List (κ×V)}{vs:List (κ×Value)}(r:KV kvs vs)(k:κ):nL (nQ kvs k) (valueAt vs k):=by
 unfold KV at r;induction r with
 | nil=>exact True.intro
 | @cons p q ps qs h t ih =>
  obtain⟨h1,h2⟩:=h;by_cases e:p.1=k
  ·have e':q.1=k:=by grind
   have b:valueAt (q::qs) k=some q.2:=by simp[valueAt,oO,e']
   rw[ly e,b];exact h2
  ·have e':¬q.1=k:=by grind
   have b:valueAt (q::qs) k=valueAt qs k:=by simp[valueAt,oO,e']
   rw[lz e,b];exact ih
def KV.any{kvs:List (κ×V)}{vs:List (κ×Value)}(r:KV kvs vs)(k:κ):(kvs.any λkv=>decide (kv.1=k))=vs.any λkv=>decide (kv.1=k):=by
 unfold KV at r;induction r with
 | nil=>rfl
 | cons h t ih=>rw[mC,mC,ih,h.1]
def KV.Ws{kvs:List (κ×V)}{vs:List (κ×Value)}(r:KV kvs vs)(k:κ){y:V}{u:Value}(ry:RelV y u) :
  KV (kvs.map λkv=>if kv.1=k then(kv.1,y)else kv) (vs.map λkv=>if kv.1=k then(kv.1,u)else kv):=by
 unfold KV at r ⊢;induction r with
 | nil=>exact .nil
 | @cons p q ps qs h t ih =>
  rw[aQ,aQ];refine .cons ?_ ih;obtain⟨h1,h2⟩:=h;by_cases e:p.1=k
  ·grind
  ·grind
def KV.put{kvs:List (κ×V)}{vs:List (κ×Value)}(r:KV kvs vs)(k:κ){y:V}{u:Value}(ry:RelV y u):KV (putK kvs k y) (stored vs k u):=by
 unfold putK stored;rw[r.any k];by_cases e:(vs.any λkv=>decide (kv.1=k))=true
 ·rw[if_pos e,if_pos e];exact r.Ws k ry
 ·rw[if_neg e,if_neg e];exact Paired.snoc r ⟨rfl,ry⟩
theorem KV.length{kvs:List (κ×V)}{vs:List (κ×Value)}(r:KV kvs vs):kvs.length=vs.length:=mD r
end
def rR{P:Program}{w:World}{k:dG}{u:Value}(r:RelV (kV k) u):(dC P w).is k u=true:=by
 cases k with
 | inl i=>obtain⟨t,e⟩:=(show ∃t,u=Value.int i t from r);subst e;exact vH P w i t
 | inr x=>obtain⟨t,e⟩:=(show ∃t,u=Value.str x t from r);subst e;exact vI P w x t
theorem rS{P:Program}{w:World}:∀{ks:List dG} {us:List Value},Vals (ks.map kV) us->ItemsAre (dC P w) ks us
 | [],_,r=>by rw[eu]at r;cases r;exact .nil
 | k::ks,_,r=>by
  rw[aQ]at r;cases r with
  | cons h t=>exact .cons (rR h) (rS t)
section
variable {P:Program} {w:World} {H:Hp} {h:Heap} {a:Addr}
def La{u:HO}(ok:kW P w H h)(e:Rd H a u):fg P w H h a u:=e.ok ok
def AH{kvs:List (dG×V)}(ok:kW P w H h)(e:Rd H a (.dK kvs)):kvs.length<=sizeLine/\(a==sysModules)=false/\∃vs,KV kvs vs/\h.DictOf (dC P w) a vs :=
 show fg P w H h a (.dK kvs)from La ok e
def RE{kvs:List (dG×V)}(ok:kW P w H h)(e:H a=some (.dK kvs)):kvs.length<=sizeLine/\(a==sysModules)=false/\∃vs,KV kvs vs/\h.DictOf (dC P w) a vs:=AH ok (.inl e)
end
section
variable {X:Cx} {af:List (Addr×Obj)} {σ:St} {H:Hp} {s:Shared} {a b:Addr} {k:List dG} {v:V} {r:Value} {A:Around} {E:Value->Shared->Prop} {xs:List (List dG×Addr×Value)}
def key_is(I:Inv X af σ H s)(e:gw X.K H a (k.map kV)):(tupleKind (dC X.prog X.w)).is s.heap k a:=by
 obtain⟨ar,r,⟨o,h1,h2,n,h3⟩,_⟩:=I.tuple e;exact⟨o,ar.toArray,n,h1,h2,h3,by simpa using rS r⟩
def vX(I:Inv X af σ H s)(e:Rd H a (.dT xs))(hk:fG X.K H xs):xs.length<=sizeLine/\(a==sysModules)=false/\s.heap.DictOfH (tupleKind (dC X.prog X.w)) a xs:=by
 obtain⟨z,y,o,es,ep,h1,h2,h3,h4,h5⟩:=(show fg X.prog X.w H s.heap a (.dT xs)from La I.hok e)
 exact⟨z,y,o,es,ep,h1,h2,h3,h4,λx hx=>key_is I (hk x hx),h5⟩
def RF{Q:Value->Shared->Prop}(hu:A.units+1<cLine)(I:Inv X af σ H s)(e:Rd H a (.dT xs))(hk:fG X.K H xs)(eb:gw X.K H b (k.map kV))(h:∀s',Inv X af σ H s'->Q (.bool (atKey xs k).isSome) s') :
  wpAny (model X.prog X.w) A (compareOp .In (.ref b) (.ref a)) Q E s:=by
 obtain⟨_,hd,dd⟩:=vX I e hk;exact wpAny_in_heap (tH hu) (key_is I eb) hd dd (h _ (I.tok _))
def RG{Q:Value->Shared->Prop}(hu:A.units+1<cLine)(I:Inv X af σ H s)(e:Rd H a (.dT xs))(hk:fG X.K H xs)(eb:gw X.K H b (k.map kV)) (h:∀s',Inv X af σ H s'->Q (.bool (!(atKey xs k).isSome)) s') :
  wpAny (model X.prog X.w) A (compareOp .NotIn (.ref b) (.ref a)) Q E s:=by
 obtain⟨_,hd,dd⟩:=vX I e hk;exact wpAny_notIn_heap (tH hu) (key_is I eb) hd dd (h _ (I.tok _))
def RH{Q:Value->Shared->Prop}{p:Addr×Value}(hu:A.units+1<cLine)(I:Inv X af σ H s)(e:Rd H a (.dT xs))(hk:fG X.K H xs)(eb:gw X.K H b (k.map kV))(hp:atKey xs k=some p)(h:∀s',Inv X af σ H s'->Q p.2 s') :
  wpAny (model X.prog X.w) A (getItem (.ref a) (.ref b)) Q E s:=by
 obtain⟨_,hd,dd⟩:=vX I e hk;exact wpAny_getItem_heap (tH hu) (key_is I eb) dd hp (h _ (I.tok _))
def yX{κ:Type} [DecidableEq κ] (xs:List (κ×Addr×Value)) (k:κ) (a:Addr) (v:Value):(storedH xs k a v).length<=xs.length+1:=by
 unfold storedH;split
 ·grind
 ·grind
def Na{Q:Unit->Shared->Prop}(hu:A.units+1<cLine)(I:Inv X af σ H s)(e:H a=some (.dT xs))(hk:fG X.K H xs)(eb:gw X.K H b (k.map kV))(hl:xs.length<sizeLine)
  (h:∀s',Inv X af σ (cK H a (.dT (storedH xs k b r))) s'->Q () s'):wpAny (model X.prog X.w) A (setItem (.ref a) (.ref b) r) Q E s:=by
 obtain⟨_,hd,dd⟩:=vX I (.inl e) hk;refine wpAny_setItem_heap (hsz:=uc hl) (tH hu) (key_is I eb) dd λh' U0 hs=>h _ ?_
 obtain⟨q,es,ep,hq,h2,h3,h4,_,h5⟩:=U0;exact I.write (x:=a) (e:=a) (by rw[e];exact True.intro) (.inl rfl) (λc q' hc z=>(hs.2 c hc).trans z) ⟨q,hq⟩ ⟨(by have:=yX xs k b r;lia),hd,q,es,ep,hq,h2,h3,h4,h5⟩
def pG(I:Inv X af σ H s):sysModules<s.heap.objs.size:=ko (by decide) (show mainGlobals<s.heap.objs.size from(I.mod.glob.keeps I.bk).lt)
def Lb(o:HO):TE:=λ_ H Q=>∀p,H p=none->Q (.ref p) (cK H p o)
def I0{pos:Pos}:PE X (.Dict [] [] pos) (Lb (.dT [])):=λaf s σ H Q I h =>
 wpAny_Dict_empty ⟨.ref s.heap.objs.size,_,I.laid (a:=s.heap.objs.size) (o:=.dT []) (t':=s.toks) (λ_ _ q=>aH _ q) (aD _)
  ⟨ja _,bI.mpr (bZ (br (pG I))),_,#[],0,bE _ rfl,⟨rfl,rfl,rfl⟩,rfl,rfl,tU⟩,rfl,h _ (I.hok.fresh (aD _))⟩
def Cp{κ:Type} [DecidableEq κ] (xs:List (κ×Addr×Value)) (k:κ):(atKey xs k).isSome=(xs.map (·.1)).any λj=>decide (j=k):=by
 unfold atKey;rw[Option.isSome_map,List.any_map,List.isSome_find?];rfl
end
def ED(mg:Str->Option Value)(base:Heap):Prop:=∃bm o,mg "__builtins__"=some (.ref bm)/\bm≠builtinsNs/\bm≠mainGlobals/\base.get? bm=some o/\o.cls=.type "module"/\o.dict=some builtinsNs/\o.data=.plain
end L2
namespace L2.U
open PySem PySem.Spec PyProof.Rows
noncomputable abbrev PV.lst (ps:List PV):PV:=.nd .lst ps
structure Gr (F F':Fz):Prop where
 s:b8 F.F F'.F
 m:∀(n:Nat) (a:Addr),F.μ[n]?=some a->F'.μ[n]?=some a
def Gr.refl(F:Fz):Gr F F:=⟨b8.refl _,λ_ _ h=>h⟩
def Gr.trans(a:Gr F F1)(b:Gr F1 F2):Gr F F2:=⟨a.s.trans b.s,λn c h=>b.m n c (a.m n c h)⟩
def bC{K:W.Frag}(e:b8 H H')(h:gw K H a xs):gw K H' a xs:=by
 rcases h with(h | ⟨o,h⟩) | h
 ·exact .inl (.inl (e _ _ h))
 ·exact .inl (.inr ⟨o,e _ _ h⟩)
 ·exact .inr h
def Ja(e:b8 H H')(h:Rd H a u):Rd H' a u:=h.imp (e _ _) (by rintro⟨o,q⟩;exact⟨o,e _ _ q⟩)
def jf{K:W.Frag}(e:b8 H H')(h:iJ K H a xs):iJ K H' a xs:=h.imp (Ja e) id
def _root_.L2.iJ.of{K:W.Frag}(h:H a=some (.lst xs)):iJ K H a xs:=.inl (.inl h)
section
variable {K:W.Frag} {F F':Fz}
def kx.to(h:kx K G H a x k vs)(g:b8 G G')(e:∀o,H a=some o->H' a=some o)(hy:y=true->x=true):kx K G' H' a y k vs:=by
 have keys:∀{xs:List (List dG×Addr×Value)},fG K G xs->fG K G' xs:=λhk z hz=>bC g (hk z hz)
 match k,h with
 | .aj,⟨h1,h2⟩ =>
  refine⟨?_,?_⟩
  ·grind
  ·rcases h2 with(h2 | ⟨o,h2⟩) | h2
   ·exact .inl (.inl (e _ h2))
   ·exact .inl (.inr ⟨o,e _ h2⟩)
   ·exact .inr h2
 | .lst,h =>
  cases y with
  | true=>rw[hy rfl]at h;exact e _ h
  | false =>
   cases x with
   | true=>exact iJ.of (e _ h)
   | false =>
    rcases(h)with(h | ⟨o,h⟩) | h
    ·exact .inl (.inl (e _ h))
    ·exact .inl (.inr ⟨o,e _ h⟩)
    ·exact .inr h
 | .ins C ns,⟨Ca,dx,fs,h1,h2,h3,h4,h5⟩=>exact⟨Ca,dx,fs,h1,h2,h3,e _ h4,h5⟩
 | .eV false ks,⟨kvs,h1,h2⟩=>exact⟨kvs,e _ h1,h2⟩
 | .eV true ks,⟨xs,h1,h2,h3⟩=>exact⟨xs,e _ h1,keys h2,h3⟩
mutual
theorem bu.mono(e:Gr F F'):∀{p:PV} {v:V},bu K F p v->bu K F' p v
 | .az,_,h=>by simpa only[bu]using h
 | .bl _,_,h=>by simpa only[bu]using h
 | .int _,_,h=>by simpa only[bu]using h
 | .str _,_,h=>by simpa only[bu]using h
 | .fn _,_,h=>by simpa only[bu]using h
 | .ref n,_,h=>by
  simp only[bu]at h ⊢;obtain⟨a,h1,h2⟩:=h;exact⟨a,e.m _ _ h1,h2⟩
 | .nd k ps,_,h=>by
  simp only[bu]at h ⊢;obtain⟨a,vs,h1,h2,h3⟩:=h;exact⟨a,vs,h1,h2.to e.s (λo q=>e.s _ _ q) id,au.mono e h3⟩
theorem au.mono(e:Gr F F'):∀{ps:List PV} {vs:List V},au K F ps vs->au K F' ps vs
 | [],_,h=>by simpa only[au]using h
 | _::_,_,h=>by
  simp only[au]at h ⊢;obtain⟨v,r,h1,h2,h3⟩:=h;exact⟨v,r,h1,h2.mono e,au.mono e h3⟩
end
def au.bT(h:au K F (p::ps) vs):∃v r,vs=v::r/\bu K F p v/\au K F ps r:=by
 simpa only[au]using h
def au.cB(h:au K F [] vs):vs=[]:=by simpa only[au]using h
theorem pH:∀{ps:List PV} {vs:List V},au K F ps vs↔Paired (bu K F) ps vs
 | [],vs=>⟨λh=>by rw[h.cB];exact .nil,λh=>by cases h;exact .nil⟩
 | p::ps,vs=>⟨λh=>by obtain⟨v,r,rfl,h1,h2⟩:=h.bT;exact .cons h1 (pH.mp h2),λh=>by cases h with | cons h1 h2=>exact .cons h1 (pH.mpr h2)⟩
def au.length(h:au K F ps vs):ps.length=vs.length:=mD (pH.mp h)
theorem au.append:∀{ps qs:List PV} {vs ws:List V},au K F ps vs->au K F qs ws->au K F (ps++qs) (vs++ws)
 | [],_,_,_,h,t=>by rw[h.cB];exact t
 | _::_,_,_,_,h,t=>by
  obtain⟨v,r,rfl,h1,h2⟩:=h.bT;exact .cons h1 (h2.append t)
theorem au.get:∀{ps:List PV} {vs:List V} {i:Nat} {p:PV},au K F ps vs->ps[i]?=some p->∃v,vs[i]?=some v/\bu K F p v
 | [],_,_,_,_,e=>by cases e
 | _::_,_,0,_,h,e=>by
  obtain⟨v,r,rfl,h1,_⟩:=h.bT;cases e;exact⟨v,rfl,h1⟩
 | _::_,_,_+1,_,h,e=>by
  obtain⟨v,r,rfl,_,h2⟩:=h.bT;exact h2.get e
theorem au.take:∀{ps:List PV} {vs:List V} (n:Nat),au K F ps vs->au K F (ps.take n) (vs.take n)
 | _,_,0,_=>by simp only[List.take_zero];exact .nil
 | [],_,_+1,h=>by rw[h.cB];simp only[List.take_nil];exact .nil
 | _::_,_,n+1,h=>by
  obtain⟨v,r,rfl,h1,h2⟩:=h.bT;exact .cons h1 (h2.take n)
theorem au.drop:∀{ps:List PV} {vs:List V} (n:Nat),au K F ps vs->au K F (ps.drop n) (vs.drop n)
 | _,_,0,h=>h
 | [],_,_+1,h=>by rw[h.cB];simp only[List.drop_nil];exact .nil
 | _::_,_,n+1,h=>by
  obtain⟨v,r,rfl,_,h2⟩:=h.bT;exact h2.drop n
theorem au.set(r:bu K F p v):∀{ps:List PV} {vs:List V} (i:Nat),au K F ps vs->au K F (ps.set i p) (vs.set i v)
 | [],_,_,h=>by rw[h.cB];exact .nil
 | _::_,_,0,h=>by
  obtain⟨v,r',rfl,_,h2⟩:=h.bT;exact .cons r h2
 | _::_,_,i+1,h=>by
  obtain⟨v,r',rfl,h1,h2⟩:=h.bT;exact .cons h1 (h2.set r i)
def de:bu K F (.ref n) v↔∃a,F.μ[n]?=some a/\v=.ref a:=by simp only[bu]
def pK:bu K F (.fn x) v↔∃a,v=.ref a/\W.nsIn K mainGlobals x=some (some (.ref a)):=by simp only[bu]
def dg:bu K F (.lst ps) v↔∃a vs,v=.ref a/\iJ K F.F a vs/\au K F ps vs:=iy
end
structure ah where
 k:Kd
 ps:List PV
structure cb where
 ρ:List (Option PV)
 h:List ah
noncomputable def live(c:ah):Bool:=match c.k with | .aj=>false | _=>true
structure kX (K:W.Frag) (aa:Hp) (ae F:Fz) (h:List ah) (H:Hp):Prop where
 sub:b8 F.F H
 keep:b8 aa H
 base:Gr ae F
 fresh:∀a o,F.F a=some o->ae.F a=some o\/aa a=none
 new:∀(n:Nat) (a:Addr),F.μ[n]?=some a->aa a=none/\∃o,H a=some o
 hl:h.length=F.μ.length
 nd:F.μ.Nodup
 cell:∀(n:Nat) (c:ah) (a:Addr),h[n]?=some c->F.μ[n]?=some a->live c=true->F.F a=none/\∃vs,kx K F.F H a true c.k vs/\au K F c.ps vs
structure Lc (K:W.Frag) (F:Fz) (ρ:List (Option PV)) (σ:St):Prop where
 av:∀(i:Nat) (p:PV),ρ[i]?=some (some p)->∃v,σ[i]?=some (some v)/\bu K F p v
 len:ρ.length=σ.length
structure Rep (K:W.Frag) (aa:Hp) (ae F:Fz) (st:cb) (σ:St) (H:Hp):Prop where
 c:kX K aa ae F st.h H
 l:Lc K F st.ρ σ
def eE(h:H p=none):b8 H (cK H p o):=λb u q=>by rw[aK (cX q h)];exact q
section
variable {K:W.Frag} {aa H H':Hp} {ae F F':Fz} {h:List ah} {st:cb} {σ:St}
def Lc.mono(L:Lc K F ρ σ)(e:Gr F F'):Lc K F' ρ σ:=⟨λi p z=>let ⟨v,h1,h2⟩:=L.av i p z;⟨v,h1,h2.mono e⟩,L.len⟩
def kX.after(R:kX K aa ae F h H)(e:b8 H H')(f:b8 F.F F'.F)(m:F'.μ=F.μ)(s:b8 F'.F H')(n:∀a o,F'.F a=some o->F.F a=some o\/H a=none):kX K aa ae F' h H' where
 sub:=s
 keep:=R.keep.trans e
 base:=R.base.trans ⟨f,λ_ _ q=>by rw[m];exact q⟩
 fresh:=λa o q=>by
  rcases n a o q with z | z
  ·exact R.fresh a o z
  ·exact .inr (R.keep.free z)
 new:=λn a q=>by rw[m]at q;obtain⟨h1,o,h2⟩:=R.new n a q;exact⟨h1,o,e _ _ h2⟩
 hl:=by rw[m];exact R.hl
 nd:=by rw[m];exact R.nd
 cell:=λi c a hc ha hk=>by
  rw[m]at ha;obtain⟨h1,vs,h2,h3⟩:=R.cell i c a hc ha hk;refine⟨?_,vs,h2.to f (λo q=>e _ _ q) id,h3.mono ⟨f,λ_ _ q=>by rw[m];exact q⟩⟩
  obtain⟨_,o,ho⟩:=R.new i a ha;cases q:F'.F a with
  | none=>rfl
  | some u =>
   rcases n a u q with z | z
   ·rw[h1]at z;cases z
   ·rw[ho]at z;cases z
def Rep.after(R:Rep K aa ae F st σ H)(e:b8 H H')(f:b8 F.F F'.F)(m:F'.μ=F.μ)(s:b8 F'.F H')(n:∀a o,F'.F a=some o->F.F a=some o\/H a=none):Rep K aa ae F' st σ H' :=
 ⟨R.c.after e f m s n,R.l.mono ⟨f,λ_ _ q=>by grind⟩⟩
def Rep.sub(R:Rep K aa ae F st σ H):b8 F.F H:=R.c.sub
def Rep.laid(R:Rep K aa ae F st σ H)(o:HO)(hp:H p=none):Rep K aa ae ⟨cK F.F p o,F.μ⟩ st σ (cK H p o)/\Gr F ⟨cK F.F p o,F.μ⟩:=by
 have fp:=R.sub.free hp;refine⟨R.after (eE hp) (eE fp) rfl (λb u q=>?_) (λb u q=>?_),eE fp,λ_ _ q=>q⟩
 ·by_cases hb:b=p
  ·subst hb;rw[show(Fz.mk (cK F.F b o) F.μ).F b=cK F.F b o b from rfl,aw]at q;rw[aw];exact q
  ·rw[show(Fz.mk (cK F.F p o) F.μ).F b=cK F.F p o b from rfl,aK hb]at q;rw[aK hb];exact R.sub _ _ q
 ·by_cases hb:b=p
  ·grind
  ·rw[show(Fz.mk (cK F.F p o) F.μ).F b=cK F.F p o b from rfl,aK hb]at q;exact .inl q
def kX.alloc(R:kX K aa ae F h H)(hp:H p=none)(hn:kx K F.F (cK H p o) p true c.k vs)(hb:au K F c.ps vs) :
  kX K aa ae ⟨F.F,F.μ++[p]⟩ (h++[c]) (cK H p o)/\Gr F ⟨F.F,F.μ++[p]⟩/\(F.μ++[p])[h.length]?=some p:=by
 have g:Gr F ⟨F.F,F.μ++[p]⟩:=⟨b8.refl _,λn a q=>by
  grind⟩
 have U1:∀n a,(F.μ++[p])[n]?=some a->F.μ[n]?=some a\/n=F.μ.length/\a=p:=λn a q=>by
  grind
 have no:∀n a,F.μ[n]?=some a->a≠p:=λn a q z=>by
  subst z;obtain⟨_,o,ho⟩:=R.new n a q;rw[hp]at ho;cases ho
 refine⟨⟨λb u q=>by rw[aK (cX (R.sub _ _ q) hp)];exact R.sub _ _ q,R.keep.trans (eE hp),R.base.trans g,R.fresh,λn a q=>?_,by simp[R.hl],?_,λn d a hd ha hk=>?_⟩,g,by rw[R.hl];simp⟩
 ·rcases U1 n a q with z | ⟨_,rfl⟩
  ·obtain⟨h1,u,h2⟩:=R.new n a z;exact⟨h1,u,eE hp _ _ h2⟩
  ·exact⟨R.keep.free hp,o,aw⟩
 ·rw[yh];refine⟨R.nd,by simp,λa ha b hb z=>?_⟩
  obtain⟨n,hn⟩:=tw.mp ha;rw[cm]at hb;exact no n a hn (z.trans hb)
 ·rcases U1 n a ha with z | ⟨rfl,rfl⟩
  ·rw[fy (by rw[R.hl];exact(c8.mp z).1)]at hd
   obtain⟨h1,ws,h2,h3⟩:=R.cell n d a hd z hk;exact⟨h1,ws,h2.to (b8.refl _) (λu q=>eE hp _ _ q) id,h3.mono g⟩
  ·rw[<-R.hl,iw (aD _),Nat.sub_self]at hd;cases hd;exact⟨R.sub.free hp,vs,hn,hb.mono g⟩
def kX.write(R:kX K aa ae F h H)(hc:h[n]?=some c)(hl:live c=true)(ha:F.μ[n]?=some a)(hn:kx K F.F (cK H a o) a true d.k vs)(hb:au K F d.ps vs) :
  kX K aa ae F (h.set n d) (cK H a o):=by
 obtain⟨hF,_⟩:=R.cell n c a hc ha hl;refine⟨λb u q=>by rw[aK (λz=>by grind)];exact R.sub _ _ q,λb u q=>?_,R.base,R.fresh,λm b q=>?_,by rw[my];exact R.hl,R.nd,λm e b he jD hk=>?_⟩
 ·rw[aK (λz=>by subst z;rw[(R.new n b ha).1]at q;cases q)];exact R.keep _ _ q
 ·obtain⟨h1,u,h2⟩:=R.new m b q;refine⟨h1,?_⟩;by_cases hb:b=a
  ·subst hb;exact⟨o,aw⟩
  ·exact⟨u,by rw[aK hb];exact h2⟩
 ·by_cases hm:n=m
  ·grind
  ·rw[aL hm]at he;obtain⟨h1,ws,h2,h3⟩:=R.cell m e b he jD hk;have ne:b≠a:=λz=>by
    subst z;obtain⟨l1,e1⟩:=c8.mp jD;obtain⟨l2,e2⟩:=c8.mp ha;exact hm ((List.getElem_inj R.nd).mp (e2.trans e1.symm))
   exact⟨h1,ws,h2.to (b8.refl _) (λu q=>by rw[aK ne];exact q) id,h3⟩
end
def _root_.L2.PE.imp(h:PE X e t)(hi:∀σ H Q,t' σ H Q->t σ H Q):PE X e t':=λaf s σ H Q I hw=>h af s σ H Q I (hi _ _ _ hw)
def _root_.L2.PT.imp(h:PT X e t)(hi:∀σ H Q,t' σ H Q->t σ H Q):PT X e t':=λaf s σ H Q I hw=>h af s σ H Q I (hi _ _ _ hw)
def _root_.L2.PW.imp(h:PW X e t)(hi:∀σ H Q,t' σ H Q->t σ H Q):PW X e t':=λw af s σ H Q I hw=>h w af s σ H Q I (hi _ _ _ hw)
def _root_.L2.PA.imp(h:PA X e t)(hi:∀σ H Q,t' σ H Q->t σ H Q):PA X e t':=λpos af s σ H Q I hw=>h pos af s σ H Q I (hi _ _ _ hw)
def _root_.L2.PS.imp{st:Stmt}(h:PS X st t)(hi:∀D σ H,t' D σ H->t D σ H):PS X st t':=λaf s σ H D I hw=>h af s σ H D I (hi _ _ _ hw)
def _root_.L2.PSs.imp{st:List Stmt}(h:PSs X st t)(hi:∀D σ H,t' D σ H->t D σ H):PSs X st t':=λaf s σ H D I hw=>h af s σ H D I (hi _ _ _ hw)
def _root_.L2.PG.imp(h:PG X e t)(hi:∀v σ H Q,t' v σ H Q->t v σ H Q):PG X e t':=λaf s σ H v u Q I r hw=>h af s σ H v u Q I r (hi _ _ _ _ hw)
def _root_.L2.PGs.imp(h:PGs X e t)(hi:∀v σ H Q,t' v σ H Q->t v σ H Q):PGs X e t':=λaf s σ H v u Q I r hw=>h af s σ H v u Q I r (hi _ _ _ _ hw)
def _root_.L2.PI.imp(h:PI X tg e t)(hi:∀σ H Q,t' σ H Q->t σ H Q):PI X tg e t':=λaf s σ H R I hw=>h af s σ H R I (hi _ _ _ hw)
inductive Rs (α:Type) where
 | ok (a:α) | ex (m:Bool) (C:Str)
abbrev Gx(α:Type):=cb->Option (Rs α×cb)
noncomputable def Nb{α β:Type}(k:α->Gx β):Rs α×cb->Option (Rs β×cb)
 | (.ok a,st)=>k a st
 | (.ex m C,st)=>some (.ex m C,st)
def bnd{α β:Type}(f:Gx α)(k:α->Gx β):Gx β:=λst=>(f st).bind (Nb k)
noncomputable def cx{α:Type}(a:α):Gx α:=λst=>some (.ok a,st)
noncomputable def hp{α:Type}(g:List ah->Option α):Gx α:=λst=>(g st.h).map λa=>(.ok a,st)
noncomputable def jE{α:Type}(o:Option α):Gx α:=λst=>o.map λa=>(.ok a,st)
def Dm(H H':Hp):Prop:=∀b o,H b=some o->∃o',H' b=some o'
def g7(P:Program)(w:World):BX:=λax H s E e s'=>∃a cls a0 B H',e=.ref a/\s'.os=s.os/\AllBare s'.gens/\Un (eW ax) [] H H' s.heap s'.heap/\kW P w H' s'.heap/\Dm H H'/\E cls none H' /\
 Heap.FlyingW B ax a cls a0 s'.heap/\(∀b o,H' b=some o->∃ob,B.get? b=some ob)/\∀b ob,s.heap.get? b=some ob->H b=none->b∉eW ax->B.get? b=some ob
def rV:uq (g7 P w) X E0:=(by rintro _ _ _ _ _ _ _ ⟨_,_,_,_,_,_,_,_,_,_,_,h,_⟩;exact h.elim)
def EE(X:Cx)(aa:Hp)(ae F:Fz)(C:Str)(st:cb):Bool->Prop
 | true=>∀F' bD H' af s h1 a cls vs,Rep X.K aa ae F' st bD H'->Gr F F'->Inv X af bD H' s->ClsAt X.K C cls->Heap.MadeExcOf s.heap h1 a cls vs->X.xe (.ref a) {s with heap:=h1}
 | false=>∀bD af H1 s1 e s',Inv X af bD H1 s1->g7 X.prog X.w X.stack H1 s1 (λcls _ H2=>ClsAt X.K C cls/\∃F',Rep X.K aa ae F' st bD H2/\Gr F F') e s'->X.xe e s'
section
variable {X:Cx} {aa H:Hp} {ae F F1:Fz} {st st1:cb} {σ:St} {α β γ δ:Type}
def EE.mono(h:EE X aa ae F C st m)(s:Gr F F1):EE X aa ae F1 C st m:=by
 cases m with
 | true=>exact λF' bD H' af s1 h1 a cls vs R z=>h F' bD H' af s1 h1 a cls vs R (s.trans z)
 | false =>
  rintro bD af H1 s1 e s' I ⟨a,cls,a0,B,H',h1,h2,h3,h4,h5,h6,⟨c,F',R,z⟩,h8⟩
  exact h bD af H1 s1 e s' I ⟨a,cls,a0,B,H',h1,h2,h3,h4,h5,h6,⟨c,F',R,s.trans z⟩,h8⟩
def EF(X:Cx)(aa:Hp)(ae F:Fz)(P:α->cb->Prop):Rs α×cb->Prop
 | (.ok a,st)=>P a st
 | (.ex m C,st)=>EE X aa ae F C st m
def At(X:Cx)(aa:Hp)(ae F:Fz)(st:cb)(f:Gx α)(P:α->cb->Prop):Prop:=∃r,f st=some r/\EF X aa ae F P r
def EF.imp(h:EF X aa ae F P r)(g:Gr F F1)(i:∀a st',P a st'->P' a st'):EF X aa ae F1 P' r:=by
 match r,h with
 | (.ok a,st),h=>exact i a st h
 | (.ex m C,st),h=>exact EE.mono h g
def At.imp(h:At X aa ae F st f P)(g:Gr F F1)(i:∀a st',P a st'->P' a st'):At X aa ae F1 st f P' :=
 let ⟨r,h1,h2⟩:=h;⟨r,h1,h2.imp g i⟩
def aN(h:o.bind f=some b):∃a,o=some a/\f a=some b:=by
 cases o with
 | none=>cases h
 | some a=>exact⟨a,rfl,h⟩
def aO(h:o.map f=some b):∃a,o=some a/\f a=b:=by
 simp_all
def At.bnd(h:At X aa ae F st (bnd f k) P):At X aa ae F st f (λa st1=>At X aa ae F st1 (k a) P):=by
 obtain⟨r,h1,h2⟩:=h;obtain⟨q,e1,e2⟩:=aN h1;refine⟨q,e1,?_⟩
 match q,e2 with
 | (.ok a,s1),e2=>exact⟨r,e2,h2⟩
 | (.ex m C,s1),e2=>cases e2;exact h2
def At.cx(h:At X aa ae F st (cx a) P):P a st:=by
 obtain⟨r,h1,h2⟩:=h;cases h1;exact h2
def At.hp(h:At X aa ae F st (hp g) P):∃a,g st.h=some a/\P a st:=by
 obtain⟨r,h1,h2⟩:=h;obtain⟨a,e1,e2⟩:=aO h1;subst e2;exact⟨a,e1,h2⟩
def At.jE(h:At X aa ae F st (jE g) P):∃a,g=some a/\P a st:=by
 obtain⟨r,h1,h2⟩:=h;obtain⟨a,e1,e2⟩:=aO h1;subst e2;exact⟨a,e1,h2⟩
def Tx(X:Cx)(aa:Hp)(ae:Fz)(rl:Fz->α->β->Prop)(F:Fz)(st:cb)(f:Gx α)(σ:St)(Q:β->Hp->Prop):Prop :=
 At X aa ae F st f λa st'=>∀b H' F',Rep X.K aa ae F' st' σ H'->Gr F F'->rl F' a b->Q b H'
def tX(X:Cx)(aa:Hp)(ae:Fz)(rl:Fz->α->β->Prop)(f:Gx α):St->Hp->(β->Hp->Prop)->Prop:=λσ H Q=>∃F st,Rep X.K aa ae F st σ H/\Tx X aa ae rl F st f σ Q
def Tx.mono(h:Tx X aa ae rl F st f σ Q)(g:Gr F F1)(i:∀b H',Q b H'->Q' b H'):Tx X aa ae rl F1 st f σ Q' :=
 At.imp h g λa st' q b H' F' R s r=>i _ _ (q b H' F' R (g.trans s) r)
def Tx.bnd(h:Tx X aa ae rl' F st (bnd f k) σ Q)
  (i:∀a b F1 st1 H1,Rep X.K aa ae F1 st1 σ H1->Gr F F1->rl F1 a b->Tx X aa ae rl' F1 st1 (k a) σ Q->Q' b H1):Tx X aa ae rl F st f σ Q' :=
 At.imp (At.bnd h) (Gr.refl F) λa st1 q b H1 F1 R1 g1 r1=>i a b F1 st1 H1 R1 g1 r1 (Tx.mono (q) g1 λ_ _ z=>z)
def Tx.cx(h:Tx X aa ae rl F st (cx a) σ Q):∀b H' F',Rep X.K aa ae F' st σ H'->Gr F F'->rl F' a b->Q b H':=At.cx h
def Tx.hp(h:Tx X aa ae rl F st (hp g) σ Q):∃a,g st.h=some a/\∀b H' F',Rep X.K aa ae F' st σ H'->Gr F F'->rl F' a b->Q b H':=At.hp h
def Tx.jE(h:Tx X aa ae rl F st (jE g) σ Q):∃a,g=some a/\∀b H' F',Rep X.K aa ae F' st σ H'->Gr F F'->rl F' a b->Q b H':=At.jE h
end
abbrev rB:Fz->Bool->Bool->Prop:=λ_ a b=>a=b
abbrev tE(X:Cx)(aa:Hp)(ae:Fz)(f:Gx PV):TE:=tX X aa ae (bu X.K) f
abbrev tT(X:Cx)(aa:Hp)(ae:Fz)(f:Gx Bool):TT:=tX X aa ae rB f
abbrev tA(X:Cx)(aa:Hp)(ae:Fz)(f:Gx (List PV)):TA:=tX X aa ae (au X.K) f
section
variable {X:Cx} {aa:Hp} {ae:Fz} {a b c e:Expr} {es rest:List Expr} {fa fb fc:Gx PV} {ga gb:Gx Bool} {ts:Gx (List PV)} {pos:Pos}
noncomputable def rd(i:Nat):Gx PV:=λst=>(st.ρ[i]?).join.map λp=>(.ok p,st)
def RI(i:Nat)(h:PE X (.Name x pos) (Mq i)):PE X (.Name x pos) (tE X aa ae (rd i)):=h.imp <| by
 rintro σ H Q ⟨F,st,R,r,h1,h2⟩
 obtain⟨p,e1,e2⟩:=aO h1;subst e2;cases z:st.ρ[i]? with
 | none=>rw[z]at e1;cases e1
 | some o =>
  rw[z]at e1;cases o with
  | none=>cases e1
  | some p' =>
   cases e1;obtain⟨v,h3,h4⟩:=R.l.av i p z;exact⟨v,h3,h2 v H F R (Gr.refl F) h4⟩
def vY(h:PE X e (tC v))(hb:∀F,bu X.K F p v):PE X e (tE X aa ae (cx p)):=h.imp (by rintro σ H Q ⟨F,st,R,q⟩;exact q.cx v H F R (Gr.refl F) (hb F))
def RJ{j pos}:PE X (.Constant (.int i) j pos) (tE X aa ae (cx (.int i))):=vY Mr λ_=>aC.mpr rfl
def Wt{j pos}:PE X (.Constant (.bool i) j pos) (tE X aa ae (cx (.bl i))):=vY QU λ_=>aZ.mpr rfl
def RK{j pos}:PE X (.Constant .none j pos) (tE X aa ae (cx .az)):=vY Ms λ_=>cN.mpr rfl
def RL{j pos}:PE X (.Constant (.str i) j pos) (tE X aa ae (cx (.str i))):=vY Mt λ_=>bH.mpr rfl
abbrev G2:=List ah->PV->PV->Option PV
def rT(K:W.Frag)(g:G2):R2:=λx y H Q=>∃aa ae F st τ pa pb p,g st.h pa pb=some p/\Rep K aa ae F st τ H/\bu K F pa x/\bu K F pb y/\∀v H' F',Rep K aa ae F' st τ H'->Gr F F'->bu K F' p v->Q v H'
abbrev oj(X:Cx)(f:Value->Value->Sem Value)(g:G2):Prop:=OpR X f (rT X.K g)
def op2(g:G2)(fa fb:Gx PV):Gx PV:=bnd fa λx=>bnd fb λy=>hp λh=>g h x y
def om(h:tE X aa ae (op2 g fa fb) σ H Q):Q7 (rT X.K g) (tE X aa ae fa) (tE X aa ae fb) σ H Q:=by
 obtain⟨F,st,R,h⟩:=h;refine⟨F,st,R,h.bnd λp v F1 st1 H1 R1 g1 b1 h1=>⟨F1,st1,R1,h1.bnd λq w F2 dH H2 R2 g2 b2 h2=>?_⟩⟩
 obtain⟨o,e,z⟩:=h2.hp;exact⟨aa,ae,F2,dH,σ,p,q,o,e,R2,b1.mono g2,b2,z⟩
def Wu(ho:oj X (binaryOp op) g)(ha:PE X a (tE X aa ae fa))(hb:PE X b (tE X aa ae fb)):PE X (.BinOp a op b pos) (tE X aa ae (op2 g fa fb)):=(Q8 ho ha hb).imp λ_ _ _ h=>om h
def RM(ho:oj X (compareOp op) g)(ha:PE X a (tE X aa ae fa))(hb:PE X b (tE X aa ae fb))(hm:behindInMarks op b=false):PE X (.Compare a [op] [b] pos) (tE X aa ae (op2 g fa fb)):=(IF ho ha hb hm).imp λ_ _ _ h=>om h
noncomputable def EG:PV->Option Bool | .bl b=>some b | _=>none
def pM{b:Bool}(h:EG p=some b):p=.bl b:=by
 cases p<;>first | (cases h;rfl) | cases h
def toB(f:Gx PV):Gx Bool:=bnd f λp=>jE (EG p)
def toB_imp(h:tT X aa ae (toB fa) σ H Q):tE X aa ae fa σ H λv H1=>∃k,v=.bl k/\Q k H1:=by
 obtain⟨F,st,R,h⟩:=h;refine⟨F,st,R,h.bnd λp v F1 st1 H1 R1 g1 b1 h1=>?_⟩
 obtain⟨k,e,z⟩:=h1.jE;rw[pM e]at b1;exact⟨k,aZ.mp b1,z k H1 F1 R1 (Gr.refl _) rfl⟩
def RN(ho:oj X (compareOp op) g)(ha:PE X a (tE X aa ae fa))(hb:PE X b (tE X aa ae fb))(hm:behindInMarks op b=false):PT X (.Compare a [op] [b] pos) (tT X aa ae (toB (op2 g fa fb))) :=
 (IG ho ha hb hm).imp λ_ _ _ h=>om (toB_imp h)
def chain(g g':G2)(fa fb fc:Gx PV):Gx PV:=bnd fa λx=>bnd fb λy=>bnd (hp λh=>(g h x y).bind EG) λk=>if k=true then bnd fc λz=>hp λh=>g' h y z else cx (.bl false)
def rW(h:tE X aa ae (chain g g' fa fb fc) σ H Q):yL (rT X.K g) (rT X.K g') (tE X aa ae fa) (tE X aa ae fb) (tE X aa ae fc) σ H Q:=by
 obtain⟨F,st,R,h⟩:=h;refine⟨F,st,R,h.bnd λp v F1 st1 H1 R1 g1 b1 h1=>⟨F1,st1,R1,h1.bnd λq w F2 dH H2 R2 g2 b2 h2=>?_⟩⟩
 obtain⟨k,e,z⟩:=At.hp (At.bnd h2);obtain⟨o,e1,e2⟩:=aN e;rw[pM e2]at e1;refine⟨aa,ae,F2,dH,σ,p,q,_,e1,R2,b1.mono g2,b2,λu H3 F3 R3 g3 b3=>⟨k,aZ.mp b3,?_⟩⟩
 cases k with
 | true =>
  have z:Tx X aa ae (bu X.K) F2 dH (bnd fc λz=>hp λh=>g' h q z) σ Q:=z
  refine⟨F3,dH,R3,(z.mono g3 λ_ _ y=>y).bnd λt o F4 HI H4 R4 g4 b4 h4=>?_⟩
  obtain⟨o,e,z⟩:=h4.hp;exact⟨aa,ae,F4,HI,σ,q,t,o,e,R4,b2.mono (g3.trans g4),b4,z⟩
 | false=>exact Tx.cx z _ H3 F3 R3 g3 (aZ.mpr rfl)
def Jb(ho:oj X (compareOp op) g)(o9:oj X (compareOp vA) g')(ha:PE X a (tE X aa ae fa))(hb:PE X b (tE X aa ae fb))(hc:PE X c (tE X aa ae fc))
  (hm:lastMarks [op,vA] [b,c]=false):PE X (.Compare a [op,vA] [b,c] pos) (tE X aa ae (chain g g' fa fb fc)):=(Em ho o9 ha hb hc hm).imp λ_ _ _ h=>rW h
end
def cR(h:List ah):PV->Option (Kd×List PV)
 | .nd k ps=>some (k,ps)
 | .ref n=>(h[n]?).bind λc=>if live c=true then some (c.k,c.ps)else none
 | _=>none
def bL{α:Type}{c:Prop} [Decidable c] {x:Option α} {y:α} (h:(if c then x else none)=some y):c/\x=some y:=by
 grind
def aA{α:Type}{c:Prop} [Decidable c] {x y:α} (h:(if c then some x else none)=some y):c/\x=y:=by
 grind
section
variable {K:W.Frag} {aa H:Hp} {ae F:Fz} {st:cb} {σ:St}
def Rep.at(R:Rep K aa ae F st σ H){p:PV}{k:Kd}{ps:List PV}{v:V}(e:cR st.h p=some (k,ps))(b:bu K F p v):∃a vs,v=.ref a/\kx K F.F H a false k vs/\au K F ps vs:=by
 cases p with
 | nd k' vB =>
  cases e;obtain⟨a,vs,h1,h2,h3⟩:=iy.mp b;exact⟨a,vs,h1,h2.to (b8.refl _) (λo q=>R.sub _ _ q) id,h3⟩
 | ref n =>
  obtain⟨c,e1,e2⟩:=aN e;obtain⟨hl,e3⟩:=aA e2;cases e3;obtain⟨a,h1,h2⟩:=de.mp b;obtain⟨_,vs,h3,h4⟩:=R.c.cell n c a e1 h1 hl;exact⟨a,vs,h2,h3.to (b8.refl _) (λo q=>q) (λz=>by cases z),h4⟩
 | _=>cases e
def EH(h:List ah)(p:PV):Option (List PV):=match cR h p with
 | some (.aj,ps)=>some ps
 | some (.lst,ps)=>some ps
 | _=>none
def Rep.seq(R:Rep K aa ae F st σ H){p:PV}{ps:List PV}{v:V}(e:EH st.h p=some ps)(b:bu K F p v):∃a vs,v=.ref a/\(gw K H a vs\/iJ K H a vs)/\au K F ps vs:=by
 unfold EH at e;split at e
 ·rename_i z;cases e;obtain⟨a,vs,h1,h2,h3⟩:=R.at z b;exact⟨a,vs,h1,.inl h2.2,h3⟩
 ·rename_i z;cases e;obtain⟨a,vs,h1,h2,h3⟩:=R.at z b;exact⟨a,vs,h1,.inr h2,h3⟩
 ·cases e
def kC(h:List ah):PV->Option Bool
 | .az=>some false
 | .bl b=>some b
 | .int i=>some (i != 0)
 | p=>match cR h p with
  | some (.aj,ps)=>some !ps.isEmpty
  | some (.lst,ps)=>some !ps.isEmpty
  | some (.eV false _,ps)=>some !ps.isEmpty
  | _=>none
def pN{ps:List PV}{vs:List V}(h:au K F ps vs):ps.isEmpty=vs.isEmpty:=by
 cases ps with
 | nil=>rw[h.cB];rfl
 | cons p ps=>obtain⟨v,r,rfl,_,_⟩:=h.bT;rfl
def Rep.YR(R:Rep K aa ae F st σ H){p:PV}{k:Bool}{v:V}(e:kC st.h p=some k)(b:bu K F p v):IH K v H k:=by
 have more:(match cR st.h p with
  | some (.aj,ps)=>some !ps.isEmpty
  | some (.lst,ps)=>some !ps.isEmpty
  | some (.eV false _,ps)=>some !ps.isEmpty
  | _=>none)=some k->IH K v H k:=λe=>by
  split at e
  ·rename_i z;cases e;obtain⟨a,vs,rfl,h2,h3⟩:=R.at z b;exact .inr (.inl ⟨vs,h2.2,by rw[pN h3]⟩)
  ·rename_i z;cases e;obtain⟨a,vs,rfl,h2,h3⟩:=R.at z b;exact .inl ⟨vs,iJ.sq h2,by rw[pN h3]⟩
  ·rename_i z;cases e;obtain⟨a,vs,rfl,⟨kvs,h2,_,h4⟩,h3⟩:=R.at z b;refine .inr (.inr ⟨kvs,h2,?_⟩);rw[pN h3,<-h4,List.isEmpty_map]
  ·cases e
 cases p with
 | az=>rw[cN.mp b];exact(bJ e).symm
 | bl c=>rw[aZ.mp b];exact(bJ e).symm
 | int i=>rw[aC.mp b];exact(bJ e).symm
 | str x=>exact more e
 | ref n=>exact more e
 | fn x=>exact more e
 | nd k ps=>exact more e
end
section
variable {X:Cx} {aa:Hp} {ae:Fz} {a b c e:Expr} {es rest:List Expr} {fa fb fc:Gx PV} {ga gb:Gx Bool} {ts:Gx (List PV)} {pos:Pos}
def qX(f:Gx PV):Gx Bool:=bnd f λp=>hp λh=>kC h p
def RO(h:PE X e (tE X aa ae fa))(he:∀iL,isTrue e X.env iL=(do let v <-iL;standAt e.pos;holding [v] (truthy v))):PT X e (tT X aa ae (qX fa)) :=
 (Ep h he).imp λσ H Q ⟨F,st,R,h⟩=>⟨F,st,R,h.bnd λp v F1 st1 H1 R1 g1 b1 h1=>by
  obtain⟨k,e,z⟩:=h1.hp;exact⟨k,R1.YR e b1,z k H1 F1 R1 (Gr.refl _) rfl⟩⟩
def Jc{op vA:CmpOp}{g g':G2}(ho:oj X (compareOp op) g)(o9:oj X (compareOp vA) g')(ha:PE X a (tE X aa ae fa))(hb:PE X b (tE X aa ae fb))(hc:PE X c (tE X aa ae fc))
  (hm:lastMarks [op,vA] [b,c]=false):PT X (.Compare a [op,vA] [b,c] pos) (tT X aa ae (toB (chain g g' fa fb fc))):=(En ho o9 ha hb hc hm).imp λ_ _ _ h=>rW (toB_imp h)
def nR{α:Type}(gc:Gx Bool)(f g:Gx α):Gx α:=bnd gc λx=>if x=true then f else g
def uy{α β:Type}{rl:Fz->α->β->Prop}{f g:Gx α}{σ:St}{H:Hp}{Q:β->Hp->Prop}(h:tX X aa ae rl (nR ga f g) σ H Q):tT X aa ae ga σ H λc H1=>if c=true then tX X aa ae rl f σ H1 Q else tX X aa ae rl g σ H1 Q:=by
 obtain⟨F,st,R,h⟩:=h;refine⟨F,st,R,h.bnd λx y F1 st1 H1 R1 g1 b1 h1=>?_⟩
 cases b1;cases x with
 | true=>exact⟨F1,st1,R1,h1⟩
 | false=>exact⟨F1,st1,R1,h1⟩
def uz{α β:Type}{rl:Fz->α->β->Prop}{a:α}{b:β}{σ:St}{H:Hp}{Q:β->Hp->Prop}(h:tX X aa ae rl (cx a) σ H Q)(hb:∀F,rl F a b):Q b H:=by
 obtain⟨F,st,R,h⟩:=h;exact h.cx b H F R (Gr.refl _) (hb F)
def vZ{P P' Q Q':Prop}{c:Bool}(h:if c=true then P else Q)(h1:P->P')(h2:Q->Q'):if c=true then P' else Q':=by
 grind
def AI{α β:Type}{rl:Fz->α->β->Prop}{f:Gx α}{σ:St}{H:Hp}{Q Q':β->Hp->Prop}(h:tX X aa ae rl f σ H Q)(i:∀b H',Q b H'->Q' b H'):tX X aa ae rl f σ H Q':=let ⟨F,st,R,h⟩:=h;⟨F,st,R,h.mono (Gr.refl _) i⟩
def RP(ha:PT X a (tT X aa ae ga))(hb:PW X (.BoolOp .And (b::rest) pos) (tT X aa ae gb)):PW X (.BoolOp .And (a::b::rest) pos) (tT X aa ae (nR ga gb (cx false))) :=
 (Mv ha hb).imp λσ H Q h=>AI (uy h) λ_ _ z=>vZ z id λz=>uz z λ_=>rfl
def Wv(ha:PT X a (tT X aa ae ga))(hb:PW X (.BoolOp .Or (b::rest) pos) (tT X aa ae gb)):PW X (.BoolOp .Or (a::b::rest) pos) (tT X aa ae (nR ga (cx true) gb)) :=
 (QV ha hb).imp λσ H Q h=>AI (uy h) λ_ _ z=>vZ z (λz=>uz z λ_=>rfl) id
def Jd(f:Gx Bool):Gx Bool:=bnd f λx=>cx !x
def RQ(ha:PT X a (tT X aa ae ga)):PT X (.UnaryOp .Not a pos) (tT X aa ae (Jd ga)):=(Mw ha).imp λσ H Q ⟨F,st,R,h⟩=>⟨F,st,R,h.bnd λx y F1 st1 H1 R1 g1 b1 h1=>by
 cases b1;exact h1.cx _ H1 F1 R1 (Gr.refl _) rfl⟩
def Nc(fa fb:Gx PV):Gx PV:=bnd fa λx=>bnd (hp λh=>kC h x) λk=>if k=true then fb else cx x
def U2(fa fb:Gx PV):Gx PV:=bnd fa λx=>bnd (hp λh=>kC h x) λk=>if k=true then cx x else fb
def EI{f g:PV->Gx PV}{af:List (Addr×Obj)}{s:Shared}{σ:St}{H:Hp}{Q:VK}(ha:PE X a (tE X aa ae fa))(I:Inv X af σ H s)
  (h:tE X aa ae (bnd fa λx=>bnd (hp λh=>kC h x) λk=>if k=true then f x else g x) σ H Q) :
  wpAny (model X.prog X.w) X.A (eval a X.env) (λv s1=>wpAny (model X.prog X.w) X.A (truthy v) (λk s2=>∃p xv F1 st1 H1,Inv X af σ H1 s2/\RelV xv v/\Rep X.K aa ae F1 st1 σ H1/\bu X.K F1 p xv/\Tx X aa ae (bu X.K) F1 st1 (if k=true then f p else g p) σ Q) X.xe s1) X.xe s:=by
 obtain⟨F,st,R,h⟩:=h;refine thn (ha af s σ H (λv H1=>∃F1 st1 p,Rep X.K aa ae F1 st1 σ H1/\bu X.K F1 p v/\Tx X aa ae (bu X.K) F1 st1 (bnd (hp λh=>kC h p) λk=>if k=true then f p else g p) σ Q) I
  ⟨F,st,R,h.bnd λp v F1 st1 H1 R1 g1 b1 h1=>⟨F1,st1,p,R1,b1,h1⟩⟩) λv s1 ⟨xv,H1,I1,r1,F1,st1,p,R1,b1,h1⟩=>?_
 obtain⟨k,e,z⟩:=At.hp (At.bnd h1);exact thn (Eo af s1 σ H1 xv v (λk' H'=>k'=k/\H'=H1) I1 r1 ⟨k,R1.YR e b1,rfl,rfl⟩) <| by
  rintro c s2 ⟨H2,I2,ec,eh⟩
  subst ec eh;exact⟨p,xv,F1,st1,H2,I2,r1,R1,b1,z⟩
def Ww(ha:PE X a (tE X aa ae fa))(hb:PE X (.BoolOp .Or (b::rest) pos) (tE X aa ae fb)):PE X (.BoolOp .Or (a::b::rest) pos) (tE X aa ae (U2 fa fb)):=λaf s σ H Q I h =>
 BoolOp_or (thn (EI ha I h) λv s1 z=>thn z <| by
  rintro k s2 ⟨p,xv,F1,st1,H1,I1,r1,R1,b1,z⟩
  cases k with
  | true=>exact⟨xv,H1,I1,r1,Tx.cx (z) _ H1 F1 R1 (Gr.refl _) b1⟩
  | false=>exact hb af s2 σ H1 Q I1 ⟨F1,st1,R1,z⟩)
def RR(ha:PE X a (tE X aa ae fa))(hb:PE X (.BoolOp .And (b::rest) pos) (tE X aa ae fb)):PE X (.BoolOp .And (a::b::rest) pos) (tE X aa ae (Nc fa fb)):=λaf s σ H Q I h =>
 BoolOp_and (thn (EI ha I h) λv s1 z=>thn z <| by
  rintro k s2 ⟨p,xv,F1,st1,H1,I1,r1,R1,b1,z⟩
  cases k with
  | false=>exact⟨xv,H1,I1,r1,Tx.cx (z) _ H1 F1 R1 (Gr.refl _) b1⟩
  | true=>exact hb af s2 σ H1 Q I1 ⟨F1,st1,R1,z⟩)
def Nd(fa:Gx PV):Gx PV:=bnd (toB fa) λx=>cx (.bl !x)
def RS(ha:PE X a (tE X aa ae fa)):PE X (.UnaryOp .Not a pos) (tE X aa ae (Nd fa)):=(Mx ha).imp λσ H Q ⟨F,st,R,h⟩ =>
 toB_imp ⟨F,st,R,h.bnd λx y F1 st1 H1 R1 g1 b1 h1=>by
  cases b1;exact h1.cx _ H1 F1 R1 (Gr.refl _) (aZ.mpr rfl)⟩
def Wx(hc:PT X c (tT X aa ae ga))(ha:PE X a (tE X aa ae fa))(hb:PE X b (tE X aa ae fb)):PE X (.IfExp c a b pos) (tE X aa ae (nR ga fa fb)):=(D9 hc ha hb).imp λ_ _ _ h=>uy h
def jX(f:Gx PV)(g:Gx (List PV)):Gx (List PV):=bnd f λx=>bnd g λxs=>cx (x::xs)
def RT:PA X [] (tA X aa ae (cx [])):=pB.imp λσ H Q h=>uz h λ_=>.nil
def Nf(ha:PE X e (tE X aa ae fa))(hr:PA X es (tA X aa ae ts))(hs:starEach (e::es) X.env=(false,eval e X.env)::starEach es X.env:=by rfl):PA X (e::es) (tA X aa ae (jX fa ts)) :=
 (gC ha hr hs).imp (by rintro σ H Q ⟨F,st,R,h⟩;exact⟨F,st,R,h.bnd λp v F1 st1 H1 R1 g1 b1 h1=>⟨F1,st1,R1,h1.bnd λps vs F2 dH H2 R2 g2 b2 h2=>h2.cx _ H2 F2 R2 (Gr.refl _) (.cons (b1.mono g2) b2)⟩⟩)
noncomputable def gy:Nat:=4000000
def eF{n:Nat}(h:n<=gy):n<=sizeLine:=aP h (by decide)
def small(ps:List PV)(p:PV):Option PV:=if ps.length<=gy then some p else none
def Ng(k:Kd)(ts:Gx (List PV)):Gx PV:=bnd ts λps=>jE (small ps (.nd k ps))
def RU{x1}(h:PA X es (tA X aa ae ts)):PE X (.Tuple es x1 pos) (tE X aa ae (Ng .aj ts)):=(MX h).imp λσ H Q ⟨F,st,R,h⟩=>⟨F,st,R,h.bnd λps vs F1 st1 H1 R1 g1 b1 h1=>by
 obtain⟨p,e,z⟩:=h1.jE;obtain⟨hl,rfl⟩:=aA e;refine⟨eF (by rw[<-b1.length];exact hl),λa hn=>?_⟩
 obtain⟨R2,s2⟩:=R1.laid (.aj vs) hn;exact z _ _ _ R2 s2 (bN.mpr ⟨a,vs,rfl,gw.of aw,b1.mono s2⟩)⟩
def RV(h:PA X es (tA X aa ae ts)):PE X (.List es pos) (tE X aa ae (Ng .lst ts)):=(Et h).imp λσ H Q ⟨F,st,R,h⟩=>⟨F,st,R,h.bnd λps vs F1 st1 H1 R1 g1 b1 h1=>by
 obtain⟨p,e,z⟩:=h1.jE;obtain⟨hl,rfl⟩:=aA e;refine⟨eF (by rw[<-b1.length];exact hl),λa hn=>?_⟩
 obtain⟨R2,s2⟩:=R1.laid (.lst vs) hn;exact z _ _ _ R2 s2 (dg.mpr ⟨a,vs,rfl,iJ.of aw,b1.mono s2⟩)⟩
noncomputable def iS(c:ah):Gx PV:=λst=>some (.ok (.ref st.h.length),⟨st.ρ,st.h++[c]⟩)
def Tx.iS{c:ah}{F:Fz}{st:cb}{σ:St}{H:Hp}{Q:VK}{p:Addr}{o:HO}{vs:List V}(h:Tx X aa ae (bu X.K) F st (iS c) σ Q)(R:Rep X.K aa ae F st σ H)(hp:H p=none)
  (hn:kx X.K F.F (cK H p o) p true c.k vs) (hb:au X.K F c.ps vs):Q (.ref p) (cK H p o):=by
 obtain⟨r,h1,h2⟩:=h;cases h1;obtain⟨C,g,hm⟩:=R.c.alloc hp hn hb;exact h2 _ _ _ ⟨C,R.l.mono g⟩ g (de.mpr ⟨p,hm,rfl⟩)
def Cq(ts:Gx (List PV)):Gx PV:=bnd ts λps=>bnd (jE (small ps .az)) λ_=>iS ⟨.lst,ps⟩
def Nh(h:PA X es (tA X aa ae ts)):PE X (.List es pos) (tE X aa ae (Cq ts)):=(Et h).imp λσ H Q ⟨F,st,R,h⟩=>⟨F,st,R,h.bnd λps vs F1 st1 H1 R1 g1 b1 h1=>by
 obtain⟨p,e,z⟩:=At.jE (At.bnd h1);obtain⟨hl,rfl⟩:=aA e;exact⟨eF (by rw[<-b1.length];exact hl),λa hn=>Tx.iS z R1 hn aw b1⟩⟩
end
inductive dJ where
 | nx | bk | ct | rt (p:PV)
def v5(X:Cx)(aa:Hp)(ae F:Fz)(D:vN):dJ->cb->Prop
 | .nx,st=>∀F' bD H',Rep X.K aa ae F' st bD H'->Gr F F'->D.nx bD H'
 | .bk,st=>∀F' bD H',Rep X.K aa ae F' st bD H'->Gr F F'->D.bk bD H'
 | .ct,st=>∀F' bD H',Rep X.K aa ae F' st bD H'->Gr F F'->D.ct bD H'
 | .rt p,st=>∀v F' H',kX X.K aa ae F' st.h H'->Gr F F'->bu X.K F' p v->D.rt v H'
def Sa(X:Cx)(aa:Hp)(ae F:Fz)(D:vN)(st:cb)(f:Gx dJ):Prop:=At X aa ae F st f (v5 X aa ae F D)
def tS(X:Cx)(aa:Hp)(ae:Fz)(f:Gx dJ):TS:=λD σ H=>∃F st,Rep X.K aa ae F st σ H/\Sa X aa ae F D st f
section
variable {X:Cx} {aa:Hp} {ae F F1:Fz} {D:vN} {st:cb} {α β:Type}
theorem v5.mono(g:Gr F F1):∀(o:dJ) (st:cb),v5 X aa ae F D o st->v5 X aa ae F1 D o st
 | .nx,_,h=>λF' bD H' R z=>h F' bD H' R (g.trans z)
 | .bk,_,h=>λF' bD H' R z=>h F' bD H' R (g.trans z)
 | .ct,_,h=>λF' bD H' R z=>h F' bD H' R (g.trans z)
 | .rt _,_,h=>λv F' H' R z=>h v F' H' R (g.trans z)
def Sa.mono(h:Sa X aa ae F D st f)(g:Gr F F1):Sa X aa ae F1 D st f:=At.imp h g (v5.mono g)
def Sa.bnd(h:Sa X aa ae F D st (bnd f k))
  (i:∀a b F1 st1 H1,Rep X.K aa ae F1 st1 σ H1->Gr F F1->rl F1 a b->Sa X aa ae F1 D st1 (k a)->Q b H1):Tx X aa ae rl F st f σ Q :=
 At.imp (At.bnd h) (Gr.refl F) λa st1 q b H1 F1 R1 g1 r1=>i a b F1 st1 H1 R1 g1 r1 (Sa.mono q g1)
end
section
variable {X:Cx} {aa:Hp} {ae:Fz} {a b c e tg iter:Expr} {es:List Expr} {fe:Gx PV} {gc:Gx Bool} {pos:Pos} {s:Stmt} {ss body:List Stmt} {f g fb:Gx dJ}
def onK(g:Gx dJ):dJ->Gx dJ
 | .nx=>g
 | .bk=>cx .bk
 | .ct=>cx .ct
 | .rt p=>cx (.rt p)
def yY(f g:Gx dJ):Gx dJ:=bnd f (onK g)
def Ni:PSs X [] (tS X aa ae (cx .nx)):=Io.imp (by rintro D σ H ⟨F,st,R,h⟩;exact At.cx h F σ H R (Gr.refl F))
def Je(h1:PS X s (tS X aa ae f))(h2:PSs X ss (tS X aa ae g)):PSs X (s::ss) (tS X aa ae (yY f g)):=(Ea h1 h2).imp λD σ H ⟨F,st,R,h⟩ =>
 ⟨F,st,R,At.imp (At.bnd h) (Gr.refl F) λo st1 q=>match o,q with
  | .nx,q=>λF1 iz H1 R1 g1=>⟨F1,st1,R1,Sa.mono q g1⟩
  | .bk,q=>λF' bD H'=>At.cx q F' bD H'
  | .ct,q=>λF' bD H'=>At.cx q F' bD H'
  | .rt p,q=>λv F' H'=>At.cx q v F' H'⟩
def Nj(h1:PS X s (tS X aa ae f)):PSs X [s] (tS X aa ae f):=Ip h1
def Nk:PS X (.Pass pos) (tS X aa ae (cx .nx)):=Iq.imp (by rintro D σ H ⟨F,st,R,h⟩;exact At.cx h F σ H R (Gr.refl F))
def Jf:PS X (.Break pos) (tS X aa ae (cx .bk)):=Eb.imp (by rintro D σ H ⟨F,st,R,h⟩;exact At.cx h F σ H R (Gr.refl F))
def Nl:PS X (.Continue pos) (tS X aa ae (cx .ct)):=vO.imp (by rintro D σ H ⟨F,st,R,h⟩;exact At.cx h F σ H R (Gr.refl F))
def EJ(fe:Gx PV):Gx dJ:=bnd fe λp=>cx (.rt p)
def Ld(he:PE X e (tE X aa ae fe)):PS X (.Return (some e) pos) (tS X aa ae (EJ fe)):=(MA he).imp (by rintro D σ H ⟨F,st,R,h⟩;exact⟨F,st,R,h.bnd λp v F1 st1 H1 R1 g1 b1 h1=>At.cx h1 v F1 H1 R1.c (Gr.refl _) b1⟩)
def Nn:PS X (.Return none pos) (tS X aa ae (cx (.rt .az))):=Iu.imp (by rintro D σ H ⟨F,st,R,h⟩;exact At.cx h _ F H R.c (Gr.refl _) (cN.mpr rfl))
def Wy(hc:PT X c (tT X aa ae gc))(ha:PSs X p (tS X aa ae f))(hb:PSs X r (tS X aa ae g)):PS X (.If c p r pos) (tS X aa ae (nR gc f g)) :=
 (Q3 hc ha hb).imp λD σ H ⟨F,st,R,h⟩=>⟨F,st,R,h.bnd λx y F1 st1 H1 R1 g1 b1 h1=>by
  cases b1;cases x with
  | true=>exact⟨F1,st1,R1,h1⟩
  | false=>exact⟨F1,st1,R1,h1⟩⟩
def AJ(fe:Gx PV):Gx dJ:=bnd fe λ_=>cx .nx
def Np(he:PE X e (tE X aa ae fe))(hs:swapsWith e none pos.line X.env=pure false:=by rfl):PS X (.Expr e pos) (tS X aa ae (AJ fe)):=(Ir he hs).imp λD σ H ⟨F,st,R,h⟩ =>
 ⟨F,st,R,h.bnd λp v F1 st1 H1 R1 g1 b1 h1=>At.cx h1 F1 σ H1 R1 (Gr.refl _)⟩
abbrev Tg:=PV->cb->Option cb
abbrev Qf:=List PV->cb->Option cb
def tG(K:W.Frag)(aa:Hp)(ae:Fz)(g:Tg):TG:=λv σ H Q=>∃F st p st',Rep K aa ae F st σ H/\bu K F p v/\g p st=some st'/\∀bD H' F',Rep K aa ae F' st' bD H'->Gr F F'->Q bD H'
def RW(K:W.Frag)(aa:Hp)(ae:Fz)(g:Qf):K3:=λvs σ H Q=>∃F st ps st',Rep K aa ae F st σ H/\au K F ps vs/\g ps st=some st'/\∀bD H' F',Rep K aa ae F' st' bD H'->Gr F F'->Q bD H'
noncomputable def dc(i:Nat):Tg:=λp st=>if i<st.ρ.length then some ⟨st.ρ.set i (some p),st.h⟩else none
def Lc.set{K:W.Frag}(L:Lc K F ρ σ)(hi:i<ρ.length)(hb:bu K F p v):Lc K F (ρ.set i (some p)) (σ.set i (some v)) where
 av:=λj q e=>by
  by_cases h:i=j
  ·subst h;rw[tq hi]at e;cases e;exact⟨v,tq (by rw[<-L.len];exact hi),hb⟩
  ·rw[aL h]at e;rw[aL h];exact L.av j q e
 len:=by rw[my,my];exact L.len
def Nq(i:Nat)(h:PG X (.Name x pos) (gName i)):PG X (.Name x pos) (tG X.K aa ae (dc i)):=h.imp <| by
 rintro v σ H Q ⟨F,st,p,st',R,hb,hf,q⟩
 obtain⟨hi,rfl⟩:=aA hf;exact q _ _ _ ⟨R.c,R.l.set hi hb⟩ (Gr.refl F)
noncomputable def Cr:Qf:=λps st=>match ps with | []=>some st | _=>none
noncomputable def pO(g:Tg)(r:Qf):Qf:=λps st=>match ps with | p::ps=>(g p st).bind λst'=>r ps st' | []=>none
def Nr:PGs X [] (RW X.K aa ae Cr):=Iw.imp <| by
 rintro vs σ H Q ⟨F,st,ps,st',R,hb,hf,q⟩
 cases ps with
 | nil=>cases hf;exact⟨hb.cB,q _ _ _ R (Gr.refl F)⟩
 | cons _ _=>cases hf
def Jg(h1:PG X e (tG X.K aa ae t))(h2:PGs X es (RW X.K aa ae u))(hs:(assignEach (e::es) X.env).map (·.2)=assign e X.env::(assignEach es X.env).map (·.2):=by rfl) :
  PGs X (e::es) (RW X.K aa ae (pO t u)):=(Ee h1 h2 hs).imp <| by
 rintro vs σ H Q ⟨F,st,ps,st',R,hb,hf,q⟩
 cases ps with
 | nil=>cases hf
 | cons p ps =>
  obtain⟨v,r,rfl,b1,b2⟩:=hb.bT;obtain⟨st1,e1,e2⟩:=aN hf;exact⟨v,r,rfl,F,st,p,st1,R,b1,e1,λiz H1 F1 R1 s1=>⟨F1,st1,ps,st',R1,b2.mono s1,e2,λAy H2 F2 R2 s2=>q Ay H2 F2 R2 (s1.trans s2)⟩⟩
def _root_.L2.Inv.pP{s:Shared}{a:Addr}(I:Inv X af σ H s)(h:iJ X.K H a xs):∃(ar:List Value) (n:Nat),Vals xs ar/\s.heap.get? a=some {cls:=.type "list",data:=.seq ar.toArray n}/\xs.length<=sizeLine:=by
 rcases h with h | ⟨ar,n,e,z,r⟩
 ·obtain⟨z,ar,n,r,e⟩:=h.ok I.hok;exact⟨ar,n,r,e,z⟩
 ·exact⟨ar,n,r,I.mJ a _ e,by rw[r.length];exact z⟩
def Nt{es:List Expr}{k:Nat}{t:K3}{n:Nat}(hc:X.calm=true)(h:PGs X es t)
 (hn:(assignEach es X.env).length=n:=by rfl) (qM:(assignEach es X.env).findIdx? (·.1)=none:=by rfl):PG X (.Tuple es k pos) (λv σ H Q=>∃a xs,v=.ref a/\iJ X.K H a xs/\xs.length=n/\t xs σ H Q):=by
 intro af s σ H v u Q I r hw;obtain⟨a,xs,e1,hq,hl,hw⟩:=hw;subst e1;cases r;obtain⟨ar,m,rv,e,hz⟩:=I.pP hq;rw[PyProof.Rows.assign_Tuple];refine ag (ua ?_);unfold unpack;rw[show(assignEach es X.env).length=ar.toArray.size by simp[hn,<-hl,rv.length],qM]
 refine ag (dY (W.kun_itemsOf (I.ok.hd hc) ⟨_,e,rfl,_,rfl⟩ λh' hx=>?_))
 have I1:=I.kept (t':=s.toks) λb o e=>hx b o (br (aG e)) e
 exact h af _ σ H xs _ Q I1 (by grind) hw
noncomputable def yZ(n:Nat)(t:Qf):Tg:=λp st=>match p with | .nd .aj ps=>if ps.length=n then t ps st else none | .nd .lst ps=>if ps.length=n then t ps st else none | _=>none
def RX(hc:X.calm=true)(h:PGs X es (RW X.K aa ae t))(hn:(assignEach es X.env).length=n:=by rfl)(qM:(assignEach es X.env).findIdx? (·.1)=none:=by rfl) :
  PG X (.Tuple es k pos) (tG X.K aa ae (yZ n t)):=by
 rintro af s σ H v u Q I r ⟨F,st,p,st',R,hb,hf,q⟩
 unfold yZ at hf;split at hf
 ·obtain⟨hl,hf⟩:=bL hf;obtain⟨a,vs,rfl,hs,pQ⟩:=bN.mp hb;exact MB hc h hn qM af s σ H _ u Q I r ⟨a,vs,rfl,bC R.sub hs,by rw[<-pQ.length];exact hl,F,st,_,st',R,pQ,hf,q⟩
 ·obtain⟨hl,hf⟩:=bL hf;obtain⟨a,vs,rfl,hs,pQ⟩:=dg.mp hb;exact Nt hc h hn qM af s σ H _ u Q I r ⟨a,vs,rfl,jf R.sub hs,by rw[<-pQ.length];exact hl,F,st,_,st',R,pQ,hf,q⟩
 ·cases hf
noncomputable def stp(g:cb->Option cb):Gx dJ:=λst=>(g st).map λst'=>(.ok .nx,st')
def Sa.stp{st:cb}{g:cb->Option cb}(h:Sa X aa ae F D st (stp g)):∃st',g st=some st'/\∀F' bD H',Rep X.K aa ae F' st' bD H'->Gr F F'->D.nx bD H':=by
 obtain⟨r,h1,h2⟩:=h;obtain⟨st',e1,e2⟩:=aO h1;subst e2;exact⟨st',e1,h2⟩
def lA(fe:Gx PV)(g:Tg):Gx dJ:=bnd fe λp=>stp (g p)
def Jh{g:Tg}(h:tS X aa ae (lA fe g) D σ H):Iy (tE X aa ae fe) (tG X.K aa ae g) D σ H:=by
 obtain⟨F,st,R,h⟩:=h;refine⟨F,st,R,h.bnd λp v F1 st1 H1 R1 g1 b1 h1=>?_⟩
 obtain⟨st',e,z⟩:=h1.stp;exact⟨F1,st1,p,st',R1,b1,e,λAy H2 F2 R2 s2=>z F2 Ay H2 R2 s2⟩
def RY{g:Tg}(he:PE X e (tE X aa ae fe))(hg:PG X tg (tG X.K aa ae g))(hs:swapsWithSole [tg] e pos.line X.env=pure false:=by rfl)(hw:swappedStores [tg] e X.env=pure none:=by rfl)
  (h1:(assignEach [tg] X.env).map (·.2)=[assign tg X.env]:=by rfl):PS X (.Assign [tg] e pos) (tS X aa ae (lA fe g)):=(Ef he hg hs hw h1).imp λ_ _ _ h=>Jh h
def Walk(K:W.Frag)(F:Fz)(ps:List PV)(J:It):Prop:=∀(aa:Hp) (ae F':Fz) (st:cb) (σ:St) (H:Hp),Rep K aa ae F' st σ H->Gr F F'->∀i:Nat,
 (∀p,ps[i]?=some p->J.go i H/\∀x H',J.yld i H x H'->∃EK,Rep K aa ae EK st σ H'/\Gr F' EK/\bu K EK p x)/\(ps[i]?=none->J.stop i H)
abbrev tI(X:Cx)(aa:Hp)(ae:Fz)(f:Gx (List PV)):TI:=tX X aa ae (Walk X.K) f
def pS(r:Gx dJ):dJ->Gx dJ
 | .nx=>r
 | .ct=>r
 | .bk=>cx .nx
 | .rt p=>cx (.rt p)
def fO(g:Tg)(body:Gx dJ):List PV->Gx dJ
 | []=>cx .nx
 | p::ps=>bnd (stp (g p)) λ_=>bnd body (pS (fO g body ps))
def Sa.pe{st:cb}(N:St->Hp->Prop)(hN:∀F1 st1 iz H1,Rep X.K aa ae F1 st1 iz H1->Gr F F1->Sa X aa ae F1 D st1 r->N iz H1)(h:Sa X aa ae F D st (U.bnd fb (pS r))):Sa X aa ae F {D with nx:=N,ct:=N,bk:=D.nx} st fb :=
 At.imp (At.bnd h) (Gr.refl F) λo st1 q=>match o,q with
  | .nx,q=>λF1 iz H1 R1 g1=>hN F1 st1 iz H1 R1 g1 (Sa.mono q g1)
  | .ct,q=>λF1 iz H1 R1 g1=>hN F1 st1 iz H1 R1 g1 (Sa.mono q g1)
  | .bk,q=>λF' bD H'=>At.cx q F' bD H'
  | .rt p,q=>λv F' H'=>At.cx q v F' H'
def kD(gc:Gx Bool)(body:Gx dJ):Nat->Gx dJ
 | 0=>λ_=>none
 | n+1=>bnd gc λc=>if c=true then bnd body (pS (kD gc body n))else cx .nx
def Ji(n:Nat)(hp:PassesOwn (model X.prog X.w) X.A X.env X.xe)(hc:PT X c (tT X aa ae gc))(hb:PSs X body (tS X aa ae fb)):PS X (.While c body [] pos) (tS X aa ae (kD gc fb n)) :=
 (Eg hp hc hb).imp <| by
 rintro D σ H ⟨F,st,R,h⟩
 refine⟨λm bD H'=>∃F' st',Rep X.K aa ae F' st' bD H'/\Sa X aa ae F' D st' (kD gc fb m),⟨n,F,st,R,h⟩,λm bD H' ⟨F',st',R',h'⟩=>?_⟩
 cases m with
 | zero=>obtain⟨r,e,_⟩:=h';cases e
 | succ m =>
  refine⟨F',st',R',Sa.bnd h' λx y F1 st1 H1 R1 g1 b1 h1=>?_⟩
  cases b1;cases x with
  | false=>exact At.cx h1 F1 bD H1 R1 (Gr.refl _)
  | true=>exact⟨λAy H2=>∃F2 dH,Rep X.K aa ae F2 dH Ay H2/\Sa X aa ae F2 D dH (kD gc fb m),λAy H2 n2=>⟨m,mv m,n2⟩,F1,st1,R1,Sa.pe _ (λF4 HI Le H4 R4 g4 z=>⟨F4,HI,R4,z⟩) h1⟩
end
def sizeOk(n:Nat)(p:PV):Option PV:=if n<=gy then some p else none
def jg(h:sizeOk n p=some q):n<=sizeLine/\p=q:=by
 obtain⟨h1,h2⟩:=aA h;exact⟨eF h1,h2⟩
def y0(h:List ah)(p:PV):Option (List PV):=match cR h p with | some (.lst,ps)=>some ps | _=>none
def ia(e:y0 h p=some ps):cR h p=some (.lst,ps):=by
 unfold y0 at e;split at e
 ·grind
 ·cases e
def cY:G2:=λh p q=>match p,q with
 | .int i,.int j=>some (.int (i+j))
 | .str x,.str y=>sizeOk (x.length+y.length) (.str (x++y))
 | .nd .aj xs,.nd .aj ys=>sizeOk (xs.length+ys.length) (.aj (xs++ys))
 | p,q=>(y0 h p).bind λxs=>(y0 h q).bind λys=>sizeOk (xs.length+ys.length) (.lst (xs++ys))
noncomputable def mM(c:Int->Int->Bool)(f:Int->Int->PV):G2:=λ_ p q=>match p,q with
 | .int i,.int j=>if c i j=true then some (f i j)else none
 | _,_=>none
def nS:Int:=18446744073709551616
def RZ:G2:=mM (λ_ _=>true) λi j=>.int (i-j)
def R6:G2:=mM (λi j=>decide ((-nS<i/\i<nS)\/(-nS<j/\j<nS))) λi j=>.int (i*j)
def fM:G2:=mM (λ_ j=>decide (0<j/\j<1073741824)) λi j=>.int (i/j)
def cA:G2:=mM (λ_ j=>decide (0<j)) λi j=>.int (i%j)
def Nu:G2:=mM (λi j=>decide (0<=j/\j<=1000/\i.natAbs<1000)) λi j=>.int (i^j.toNat)
def Lf:G2:=mM (λ_ _=>true) λi j=>.bl (decide (i<j))
def YS:G2:=mM (λ_ _=>true) λi j=>.bl (decide (i<=j))
def U3:G2:=mM (λ_ _=>true) λi j=>.bl (decide (j<=i))
section
variable {X:Cx}
def EL{ws:List Value}(ht:IsTup s.heap t ([]:List Value).toArray)(hb:IsTup s.heap b ws.toArray)(h1:Q (.ref b) s):wpAny (model prog w) A (binaryOp .Add (.ref t) (.ref b)) Q E s:=by
 obtain⟨⟨cls,dd,data,sl⟩,ho,hc,n,hd⟩:=id ht;obtain⟨⟨Wg,UW,Rt,Qb⟩,MZ,M0,n2,hd2⟩:=id hb;simp only at hc hd M0 hd2;subst hc hd M0 hd2;exact concat_meets ⟨_,ho,rfl⟩ ⟨_,MZ,rfl⟩ yn seq_tuple_add xX xU (xS _ _) (tuple_addW0 t b _ ws.toArray n n2 dd UW sl Qb (by simp)) ⟨ho,MZ,h1⟩
def Jj:oj X (binaryOp .Add) cY:=by
 rintro af s σ H x y v u Q I rx ry ⟨aa,ae,F,st,τ,pa,pb,p,e,R,ba,bb,k⟩
 unfold cY at e;split at e
 ·cases e;rw[aC.mp ba]at rx;rw[aC.mp bb]at ry;exact MM af s σ H _ _ v u Q I rx ry ⟨_,_,rfl,rfl,k _ H F R (Gr.refl F) (aC.mpr rfl)⟩
 ·obtain⟨hz,rfl⟩:=jg e;rw[bH.mp ba]at rx;rw[bH.mp bb]at ry;exact yN af s σ H _ _ v u Q I rx ry ⟨_,_,rfl,rfl,hz,k _ H F R (Gr.refl F) (bH.mpr rfl)⟩
 ·rename_i xs ys;obtain⟨hz,rfl⟩:=jg e;obtain⟨a,vs,rfl,ha,ib⟩:=bN.mp ba;obtain⟨b,ws,rfl,hb,Nv⟩:=bN.mp bb;have R7:=bC R.sub ha;have jD:=bC R.sub hb;cases xs with
  | nil =>
   rw[ib.cB]at R7;cases rx;cases ry;obtain⟨ar,r1,p1,_⟩:=I.tuple R7;obtain⟨eN,r2,p2,_⟩:=I.tuple jD;cases r1;exact EL p1 p2 ⟨.ref b,H,I,rfl,k _ H F R (Gr.refl F) (bN.mpr ⟨b,ws,rfl,hb,Nv⟩)⟩
  | cons x0 xr =>
   refine IU af s σ H _ _ v u Q I rx ry ⟨a,b,vs,ws,rfl,rfl,R7,jD,?_,by rw[<-ib.length,<-Nv.length];exact hz,λz=>?_,λz q hq=>?_⟩
   ·intro z;have:=ib.length;rw[z]at this;cases this
   ·subst z;have hy:=mi Nv.length;subst hy;rw[dE]at k;exact k _ H F R (Gr.refl F) (bN.mpr ⟨a,vs,rfl,ha,ib⟩)
   ·obtain⟨R2,s2⟩:=R.laid (.aj (vs++ws)) hq;exact k _ _ _ R2 s2 (bN.mpr ⟨q,_,rfl,gw.of aw,(ib.append Nv).mono s2⟩)
 ·obtain⟨xs,e1,e⟩:=aN e;obtain⟨ys,e2,e⟩:=aN e;obtain⟨hz,rfl⟩:=jg e;obtain⟨a,vs,rfl,ha,ib⟩:=R.at (ia e1) ba;obtain⟨b,ws,rfl,hb,Nv⟩:=R.at (ia e2) bb;cases rx;cases ry;obtain⟨ar,n,r,e1,z1⟩:=I.pP ha;obtain⟨eN,n2,r2,e2,z2⟩:=I.pP hb;have hl:=r.length;have HJ:=r2.length;have hz':vs.length+ws.length<=sizeLine:=by rw[<-ib.length,<-Nv.length];exact hz
  refine PySem.P.add_list e1 e2 ?_ (by grind)
  have ea:ar.toArray++eN.toArray=(ar++eN).toArray:=by simp
  rw[ea];obtain⟨R2,s2⟩:=R.laid (.lst (vs++ws)) I.fresh;exact⟨.ref _,_,I.RA (r.append r2) (by grind),rfl,k _ _ _ R2 s2 (dg.mpr ⟨_,_,rfl,iJ.of aw,(ib.append Nv).mono s2⟩)⟩
def eG(ho:OpR X f (rI C h))(hc:∀i j,c i j=true->C i j)(hg:∀i j F,bu X.K F (g i j) (h i j)):oj X f (mM c g):=by
 rintro af s σ H x y v u Q I rx ry ⟨aa,ae,F,st,τ,pa,pb,p,e,R,ba,bb,k⟩
 unfold mM at e;split at e
 ·obtain⟨h1,rfl⟩:=aA e;rw[aC.mp ba]at rx;rw[aC.mp bb]at ry;exact ho af s σ H _ _ v u Q I rx ry ⟨_,_,rfl,rfl,hc _ _ h1,k _ H F R (Gr.refl F) (hg _ _ F)⟩
 ·cases e
def rX(ho:OpR X f (HG h)):OpR X f (rI (λ_ _=>True) h):=(by rintro af s σ H x y v u Q I rx ry ⟨i,j,h1,h2,_,q⟩;exact ho af s σ H x y v u Q I rx ry ⟨i,j,h1,h2,q⟩)
end
def Nw:Operator->Option G2
 | .Add=>some cY
 | .Sub=>some RZ
 | .Mult=>some R6
 | .FloorDiv=>some fM
 | .Mod=>some cA
 | .Pow=>some Nu
 | _=>none
def Jk(h:Nw op=some g):oj X (binaryOp op) g:=by
 unfold Nw at h;split at h<;>cases h
 ·exact Jj
 ·exact eG (rX MN) (by grind) λ_ _ _=>aC.mpr rfl
 ·exact eG MO (λi j e=>show(-nS<i/\i<nS)\/(-nS<j/\j<nS)from gN e) λ_ _ _=>aC.mpr rfl
 ·exact eG IC (λ_ j e=>show 0<j/\j<1073741824 from gN e) λ_ _ _=>aC.mpr rfl
 ·exact eG MP (λ_ _ e=>gN e) λ_ _ _=>aC.mpr rfl
 ·exact eG MQ (λ_ _ e=>let ⟨h1,h2,h3⟩:=gN e;⟨h1,by lia,ko h3 (by decide)⟩) λ_ _ _=>aC.mpr rfl
inductive Tr where
 | az | bl (b:Bool) | int (i:Int) | str (x:Str) | aj (xs:List Tr) | lst (xs:List Tr)
mutual
def eqT:Tr->Tr->Bool
 | .az,.az=>true
 | .bl a,.bl b=>a==b
 | .bl a,.int b=>(if a then 1 else 0)==b
 | .int a,.bl b=>a==(if b then 1 else 0)
 | .int a,.int b=>a==b
 | .str a,.str b=>a==b
 | .aj xs,.aj ys=>v7 xs ys
 | .lst xs,.lst ys=>v7 xs ys
 | _,_=>false
def v7:List Tr->List Tr->Bool
 | [],[]=>true
 | x::xs,y::ys=>eqT x y&&v7 xs ys
 | _,_=>false
end
mutual
def dep:Tr->Nat
 | .aj xs=>jK xs+1
 | .lst xs=>jK xs+1
 | _=>0
def jK:List Tr->Nat
 | []=>0
 | x::xs=>max (dep x) (jK xs)
end
mutual
theorem jh:∀p:Tr,eqT p p=true
 | .az=>rfl
 | .bl b=>i5 b
 | .int b=>i5 b
 | .str b=>i5 b
 | .aj xs=>mN xs
 | .lst xs=>mN xs
theorem mN:∀ps:List Tr,v7 ps ps=true
 | []=>rfl
 | x::xs=>oH.mpr ⟨jh x,mN xs⟩
end
theorem lB:∀{xs ys:List Tr},xs.length≠ys.length->v7 xs ys=false
 | [],[],h=>absurd rfl h
 | [],_::_,_=>rfl
 | _::_,[],_=>rfl
 | x::xs,y::ys,h=>by show(eqT x y&&v7 xs ys)=false;rw[lB (by simpa using h),ay]
noncomputable def pT(xs ys:List Tr)(j:Nat):Bool:=match xs[j]?,ys[j]? with
 | some x,some y=>eqT x y
 | _,_=>true
theorem lC:∀{xs ys:List Tr},xs.length=ys.length->(List.range xs.length).all (pT xs ys)=v7 xs ys
 | [],[],_=>rfl
 | [],_::_,h=>by cases h
 | _::_,[],h=>by cases h
 | x::xs,y::ys,h=>by
  have ih:=lC (by simpa using h)
  rw[cJ,List.range_succ_eq_map,i7,List.all_map];have e0:pT (x::xs) (y::ys) 0=eqT x y:=rfl;have e1:(pT (x::xs) (y::ys) ∘ Nat.succ)=pT xs ys:=by
   funext j
   simp[pT,Function.comp]
  rw[e0,e1,ih];rfl
def AK(h1:xs.length=m)(h2:ys.length=n):((List.range (min m n)).all (pT xs ys)&&(m==n))=v7 xs ys:=by
 subst h1 h2;by_cases h:xs.length=ys.length
 ·rw[<-h,Nat.min_self,lC h];simp
 ·rw[lB h];simp[h]
mutual
def cZ(s:Shared):Tr->Value->Prop
 | .az,u=>u=.none
 | .bl b,u=>u=.bool b
 | .int i,u=>∃t,u=.int i t
 | .str x,u=>∃t,u=.str x t
 | .aj ts,u=>∃a ar,u=.ref a/\s.heap.IsTuple a ar.toArray/\bQ s ts ar
 | .lst ts,u=>∃a ar,u=.ref a/\s.heap.IsList a ar.toArray/\bQ s ts ar
def bQ(s:Shared):List Tr->List Value->Prop
 | [],us=>us=[]
 | t::ts,us=>∃u r,us=u::r/\cZ s t u/\bQ s ts r
end
section
variable {A:Around} {s:Shared}
theorem bQ.len:∀{ts:List Tr} {us:List Value},bQ s ts us->ts.length=us.length
 | [],_,h=>by simp only[bQ]at h;rw[h];rfl
 | _::_,_,h=>by
  simp only[bQ]at h;obtain⟨u,r,rfl,_,h⟩:=h;simp[bQ.len h]
def jC(h1:s.heap.IsTuple a x)(h2:s.heap.IsTuple a y):x=y:=by
 obtain⟨o,e,_,n,d⟩:=h1;obtain⟨o',e',_,n',d'⟩:=h2;rw[e]at e';cases e';rw[d]at d';cases d';rfl
def lg(h1:s.heap.IsList a x)(h2:s.heap.IsList a y):x=y:=by
 obtain⟨o,e,_,n,d⟩:=h1;obtain⟨o',e',_,n',d'⟩:=h2;rw[e]at e';cases e';rw[d]at d';cases d';rfl
def pU(h1:s.heap.IsTuple a x)(h2:s.heap.IsList a y):False:=by
 obtain⟨o,e,c,n,d⟩:=h1;obtain⟨o',e',c',n',d'⟩:=h2;rw[e]at e';cases e';rw[c]at c';simp at c'
mutual
theorem cZ.inj:∀{p q:Tr} {u:Value},cZ s p u->cZ s q u->p=q
 | .az,q,u,h,h'=>by cases q<;>simp_all [cZ]
 | .bl b,q,u,h,h'=>by cases q<;>simp_all [cZ]
 | .int b,q,u,h,h'=>by
  simp only[cZ]at h;obtain⟨t,rfl⟩:=h;cases q<;>simp_all [cZ]
 | .str b,q,u,h,h'=>by
  simp only[cZ]at h;obtain⟨t,rfl⟩:=h;cases q<;>simp_all [cZ]
 | .aj xs,q,u,h,h'=>by
  simp only[cZ]at h;obtain⟨a,ar,rfl,h1,h2⟩:=h;cases q with
  | aj ys =>
   simp only[cZ]at h';obtain⟨b,R8,e,g1,g2⟩:=h';cases e;have:=jC h1 g1;have e:ar=R8:=by simpa using this
   subst e;rw[bQ.inj h2 g2]
  | lst ys =>
   simp only[cZ]at h';obtain⟨b,R8,e,g1,g2⟩:=h';cases e;exact(pU h1 g1).elim
  | _=>simp[cZ]at h'
 | .lst xs,q,u,h,h'=>by
  simp only[cZ]at h;obtain⟨a,ar,rfl,h1,h2⟩:=h;cases q with
  | lst ys =>
   simp only[cZ]at h';obtain⟨b,R8,e,g1,g2⟩:=h';cases e;have:=lg h1 g1;have e:ar=R8:=by simpa using this
   subst e;rw[bQ.inj h2 g2]
  | aj ys =>
   simp only[cZ]at h';obtain⟨b,R8,e,g1,g2⟩:=h';cases e;exact(pU g1 h1).elim
  | _=>simp[cZ]at h'
theorem bQ.inj:∀{ps qs:List Tr} {us:List Value},bQ s ps us->bQ s qs us->ps=qs
 | [],qs,us,h,h'=>by
  simp only[bQ]at h;subst h;cases qs with
  | nil=>rfl
  | cons _ _=>simp[bQ]at h'
 | p::ps,qs,us,h,h'=>by
  simp only[bQ]at h;obtain⟨u,r,rfl,h1,h2⟩:=h;cases qs with
  | nil=>simp[bQ]at h'
  | cons q qs =>
   simp only[bQ]at h';obtain⟨u',r',e,g1,g2⟩:=h';cases e;rw[cZ.inj h1 g1,bQ.inj h2 g2]
end
def pV(h:b=c)(r:SeqAt.RcAt A s u w b):SeqAt.RcAt A s u w c:=h▸r
def kE(h:b = !c)(r:SeqAt.RcNeAt A s u w b):SeqAt.RcNeAt A s u w (!c):=h▸r
def AL(hf:∀x t,u≠.float x t)(h:SeqAt.RcAt A s u w b)(hb:u=w->b=true):SeqAt.EqAt A s u w b:=λprog v E Q hq=>by
 unfold eqBool;refine dY ?_;refine wpAny_ite_split (λz=>?_) (λ_=>?_)
 ·rw[hb (aU z)]at hq;exact ag (ku (aq hq))
 ·cases u with
  | float x t=>exact absurd rfl (hf x t)
  | _=>exact ag (h prog v E _ (kh hq))
def cZ.Lg(h:cZ s p u):∀y t,u≠.float y t:=λy t z=>by
 subst z;cases p<;>simp[cZ]at h
mutual
theorem uA:∀(p q:Tr) (A:Around) (u w:Value),cZ s p u->cZ s q w->A.units+dep p<cLine->SeqAt.RcAt A s u w (eqT p q)/\SeqAt.RcNeAt A s u w (!(eqT p q))
 | .az,q,A,u,w,ha,hb,hu=>by
  have fY:A.units<cLine := ‹_›;subst ha;cases q with
  | az=>cases hb;exact⟨.none_none,.none_none⟩
  | bl=>cases hb;exact⟨(.none_bool _),(.none_bool _)⟩
  | int=>obtain⟨t,rfl⟩:=hb;exact⟨(.none_int _ _),(.none_int _ _)⟩
  | str=>obtain⟨t,rfl⟩:=hb;exact⟨(.none_str _ _),(.none_str _ _)⟩
  | aj=>obtain⟨a,ar,rfl,pR,_⟩:=hb;exact⟨(.none_tuple pR fY),(.none_tuple pR fY)⟩
  | lst=>obtain⟨a,ar,rfl,pR,_⟩:=hb;exact⟨(.none_list pR fY),(.none_list pR fY)⟩
 | .bl k,q,A,u,w,ha,hb,hu=>by
  have fY:A.units<cLine := ‹_›;subst ha;cases q with
  | az=>cases hb;exact⟨(.bool_none _),(.bool_none _)⟩
  | bl=>cases hb;exact⟨(.bool_bool _ _),(.bool_bool _ _)⟩
  | int=>obtain⟨t,rfl⟩:=hb;exact⟨(.bool_int _ _ _),(.bool_int _ _ _)⟩
  | str=>obtain⟨t,rfl⟩:=hb;exact⟨(.bool_str _ _ _),(.bool_str _ _ _)⟩
  | aj=>obtain⟨a,ar,rfl,pR,_⟩:=hb;exact⟨(.bool_tuple _ pR fY),(.bool_tuple _ pR fY)⟩
  | lst=>obtain⟨a,ar,rfl,pR,_⟩:=hb;exact⟨(.bool_list _ pR fY),(.bool_list _ pR fY)⟩
 | .int k,q,A,u,w,ha,hb,hu=>by
  have fY:A.units<cLine := ‹_›;obtain⟨tk,rfl⟩:=ha;cases q with
  | az=>cases hb;exact⟨(.int_none _ _),(.int_none _ _)⟩
  | bl=>cases hb;exact⟨(.int_bool _ _ _),(.int_bool _ _ _)⟩
  | int=>obtain⟨t,rfl⟩:=hb;exact⟨(.int_int _ _ _ _),(.int_int _ _ _ _)⟩
  | str=>obtain⟨t,rfl⟩:=hb;exact⟨(.int_str _ _ _ _),(.int_str _ _ _ _)⟩
  | aj=>obtain⟨a,ar,rfl,pR,_⟩:=hb;exact⟨(.int_tuple _ _ pR fY),(.int_tuple _ _ pR fY)⟩
  | lst=>obtain⟨a,ar,rfl,pR,_⟩:=hb;exact⟨(.int_list _ _ pR fY),(.int_list _ _ pR fY)⟩
 | .str k,q,A,u,w,ha,hb,hu=>by
  have fY:A.units<cLine := ‹_›;obtain⟨tk,rfl⟩:=ha;cases q with
  | az=>cases hb;exact⟨(.str_none _ _),(.str_none _ _)⟩
  | bl=>cases hb;exact⟨(.str_bool _ _ _),(.str_bool _ _ _)⟩
  | int=>obtain⟨t,rfl⟩:=hb;exact⟨(.str_int _ _ _ _),(.str_int _ _ _ _)⟩
  | str=>obtain⟨t,rfl⟩:=hb;exact⟨(.str_str _ _ _ _),(.str_str _ _ _ _)⟩
  | aj=>obtain⟨a,ar,rfl,pR,_⟩:=hb;exact⟨(.str_tuple _ _ pR fY),(.str_tuple _ _ pR fY)⟩
  | lst=>obtain⟨a,ar,rfl,pR,_⟩:=hb;exact⟨(.str_list _ _ pR fY),(.str_list _ _ pR fY)⟩
 | .aj xs,q,A,u,w,ha,hb,hu=>by
  have fY:A.units<cLine:=by lia
  obtain⟨al,Jl,rfl,pL,tL⟩:=ha;cases q with
  | az=>cases hb;exact⟨(.tuple_none pL fY),(.tuple_none pL fY)⟩
  | bl=>cases hb;exact⟨(.tuple_bool _ pL fY),(.tuple_bool _ pL fY)⟩
  | int=>obtain⟨t,rfl⟩:=hb;exact⟨(.tuple_int _ _ pL fY),(.tuple_int _ _ pL fY)⟩
  | str=>obtain⟨t,rfl⟩:=hb;exact⟨(.tuple_str _ _ pL fY),(.tuple_str _ _ pL fY)⟩
  | lst=>obtain⟨a,ar,rfl,pR,_⟩:=hb;exact⟨(.tuple_list pL pR fY),(.tuple_list pL pR fY)⟩
  | aj ys =>
   obtain⟨a,Jm,rfl,pR,tR⟩:=hb;have e1:xs.length=Jl.toArray.size:=by rw[cy,tL.len]
   have e2:ys.length=Jm.toArray.size:=by rw[cy,tR.len]
   have el:=λj (h1:j<Jl.toArray.size) (h2:j<Jm.toArray.size)=>uB xs ys A.in1 Jl Jm tL tR (by rw[tN];have hu:_+(jK _+1)<_:=hu;lia) j (by simpa using h1) (by simpa using h2)
   exact⟨pV (AK e1 e2) (.tuples pL pR fY el),kE (by rw[AK e1 e2];rfl) (.tuples pL pR fY el)⟩
 | .lst xs,q,A,u,w,ha,hb,hu=>by
  have fY:A.units<cLine:=by lia
  obtain⟨al,Jl,rfl,pL,tL⟩:=ha;cases q with
  | az=>cases hb;exact⟨(.list_none pL fY),(.list_none pL fY)⟩
  | bl=>cases hb;exact⟨(.list_bool _ pL fY),(.list_bool _ pL fY)⟩
  | int=>obtain⟨t,rfl⟩:=hb;exact⟨(.list_int _ _ pL fY),(.list_int _ _ pL fY)⟩
  | str=>obtain⟨t,rfl⟩:=hb;exact⟨(.list_str _ _ pL fY),(.list_str _ _ pL fY)⟩
  | aj=>obtain⟨a,ar,rfl,pR,_⟩:=hb;exact⟨(.list_tuple pL pR fY),(.list_tuple pL pR fY)⟩
  | lst ys =>
   obtain⟨a,Jm,rfl,pR,tR⟩:=hb;have e1:Jl.toArray.size=xs.length:=by rw[cy,tL.len]
   have e2:Jm.toArray.size=ys.length:=by rw[cy,tR.len]
   by_cases hl:xs.length=ys.length
   ·have sz:Jl.toArray.size=Jm.toArray.size:=by rw[e1,e2];exact hl
    have el:=λj (h1:j<Jl.toArray.size) (h2:j<Jm.toArray.size)=>uB xs ys A.in1 Jl Jm tL tR (by rw[tN];have hu:_+(jK _+1)<_:=hu;lia) j (by simpa using h1) (by simpa using h2)
    exact⟨pV (by rw[e1,lC hl];rfl) (.lists pL pR sz fY el),kE (by rw[e1,lC hl];rfl) (.lists pL pR sz fY el)⟩
   ·have sz:(Jl.toArray.size != Jm.toArray.size)=true:=by rw[e1,e2];simpa using hl
    exact⟨pV (lB hl).symm (.lists_lengths pL pR sz fY),kE (fT not (lB hl)).symm (.lists_lengths pL pR sz fY)⟩
theorem uB:∀(ps qs:List Tr) A (us zs:List Value),bQ s ps us->bQ s qs zs->A.units+jK ps<cLine ->
  ∀j h1 (h2:j<zs.length),SeqAt.EqAt A s us[j] zs[j] (pT ps qs j)
 | [],qs,A,us,zs,b1,b2,hu=>λj h1 h2=>by
  simp only[bQ]at b1;subst b1;cases h1
 | p::ps,qs,A,us,zs,b1,b2,hu=>λj h1 h2=>by
  simp only[bQ]at b1;obtain⟨u,ur,rfl,c1,d1⟩:=b1;cases qs with
  | nil =>
   simp only[bQ]at b2;subst b2;cases h2
  | cons q qs =>
   simp only[bQ]at b2;obtain⟨z,zr,rfl,c2,d2⟩:=b2;have hm:A.units+dep p<cLine/\A.units+jK ps<cLine:=by
    simp only[jK]at hu
    lia
   cases j with
   | zero =>
    refine AL c1.Lg (uA p q A _ _ c1 c2 hm.1).1 λe=>?_
    simp only[List.getElem_cons_zero]at e;rw[e]at c1;rw[c1.inj c2];exact jh q
   | succ j=>exact uB ps qs A _ _ d1 d2 hm.2 j (by simpa using h1) (by simpa using h2)
end
def Nx(b1:cZ s p u)(b2:cZ s q w)(hu:A.units+dep p<cLine):SeqAt.EqAt A s u w (eqT p q):=by
 refine AL b1.Lg (uA p q A _ _ b1 b2 hu).1 λz=>?_
 rw[z]at b1;rw[b1.inj b2];exact jh q
end
noncomputable def dq{α β:Type}(f:α->Option β):List α->Option (List β)
 | []=>some []
 | x::xs=>(f x).bind λy=>(dq f xs).map λys=>y::ys
noncomputable def Qg:Kd->List Tr->Option Tr
 | .aj,ts=>some (.aj ts)
 | .lst,ts=>some (.lst ts)
 | _,_=>none
def toT(h:List ah):Nat->PV->Option Tr
 | 0,_=>none
 | n+1,p=>match p with
  | .az=>some .az
  | .bl b=>some (.bl b)
  | .int i=>some (.int i)
  | .str x=>some (.str x)
  | .fn _=>none
  | p=>(cR h p).bind λq=>(dq (toT h n) q.2).bind (Qg q.1)
def eX(h:dq f (x::xs)=some ys):∃y r,f x=some y/\dq f xs=some r/\ys=y::r:=by
 obtain⟨y,h1,h2⟩:=aN h;obtain⟨r,h3,h4⟩:=aO h2;exact⟨y,r,h1,h3,h4.symm⟩
theorem uC(h:List ah):∀(n:Nat) (p:PV) (t:Tr),toT h n p=some t->dep t<=n
 | 0,_,_,e=>by cases e
 | n+1,p,t,e=>by
  have go:((cR h p).bind λq=>(dq (toT h n) q.2).bind (Qg q.1))=some t->dep t<=n+1:=λe=>by
   obtain⟨q,_,e⟩:=aN e;obtain⟨ts,e1,e2⟩:=aN e;have hd:∀ps ts,dq (toT h n) ps=some ts->jK ts<=n:=by
    intro ps;induction ps with
    | nil=>intro ts z;cases z;simp[jK]
    | cons p ps ih =>
     intro ts z;obtain⟨y,r,h1,h2,rfl⟩:=eX z;have:=uC h n p y h1;have:=ih r h2;simp only[jK];lia
   have:=hd _ _ e1;unfold Qg at e2;split at e2<;>cases e2<;>simp only[dep]<;>lia
  unfold toT at e;split at e<;>first | (cases e;simp[dep];done) | (cases e;done) | exact go e
section
variable {X:Cx} {af:List (Addr×Obj)} {σ τ:St} {s:Shared} {aa H:Hp} {ae F:Fz} {st:cb}
theorem Rep.tree(R:Rep X.K aa ae F st τ H)(I:Inv X af σ H s):∀(n:Nat) (p:PV) (t:Tr) (v:V) (u:Value),toT st.h n p=some t->bu X.K F p v->RelV v u->cZ s t u
 | 0,_,_,_,_,e,_,_=>by cases e
 | n+1,p,t,v,u,e,b,r=>by
  have go:((cR st.h p).bind λq=>(dq (toT st.h n) q.2).bind (Qg q.1))=some t->cZ s t u:=λe=>by
   obtain⟨⟨k,ps⟩,e0,e⟩:=aN e;obtain⟨ts,e1,e2⟩:=aN e;obtain⟨a,vs,rfl,h2,h3⟩:=R.at e0 b;have hd:∀ps ts vs us,dq (toT st.h n) ps=some ts->au X.K F ps vs->Vals vs us->bQ s ts us:=by
    intro ps;induction ps with
    | nil=>intro ts vs us z b r;cases z;rw[b.cB]at r;cases r;simp[bQ]
    | cons p ps ih =>
     intro ts vs us z b r;obtain⟨y,q,h1,h2,rfl⟩:=eX z;obtain⟨v,w,rfl,b1,b2⟩:=b.bT;cases r with
     | cons ra rr =>
      simp only[bQ];exact⟨_,_,rfl,R.tree I n p y v _ h1 b1 ra,ih q w _ h2 b2 rr⟩
   cases r
   match k,e2,h2 with
   | .aj,e2,h2 =>
    cases e2;obtain⟨ar,rr,pl,_⟩:=I.tuple h2.2;simp only[cZ];exact⟨a,ar,rfl,pl,hd _ _ _ _ e1 h3 rr⟩
   | .lst,e2,h2 =>
    cases e2;obtain⟨ar,rr,pl,_⟩:=I.list (iJ.sq h2);simp only[cZ];exact⟨a,ar,rfl,pl.isList,hd _ _ _ _ e1 h3 rr⟩
  unfold toT at e;split at e
  ·cases e;rw[cN.mp b]at r;cases r;simp[cZ]
  ·cases e;rw[aZ.mp b]at r;cases r;simp[cZ]
  ·cases e;rw[aC.mp b]at r;obtain⟨t,rfl⟩:=r;simp[cZ]
  ·cases e;rw[bH.mp b]at r;obtain⟨t,rfl⟩:=r;simp[cZ]
  ·cases e
  ·exact go e
end
def jL:Nat:=1000
def Wz(h:List ah)(p q:PV):Option Bool:=(toT h jL p).bind λx=>(toT h jL q).map λy=>eqT x y
def qO:G2:=λh p q=>(Wz h p q).map .bl
def Qh:G2:=λh p q=>(Wz h p q).map λb=>.bl !b
def EM:PV->Bool
 | .az=>true
 | _=>false
noncomputable def WA(b:Bool):PV->Option Bool
 | .bl a=>some (a==b)
 | _=>none
def wa(h:WA b p=some c):∃a,p=.bl a/\c=(a==b):=by
 cases p<;>cases h
 exact⟨_,rfl,rfl⟩
def U4:G2:=λ_ p q=>match q with | .az=>some (.bl (EM p)) | .bl b=>(WA b p).map .bl | _=>none
def WB(h:List ah)(p:PV)(ps:List PV):Option Bool:=(toT h jL p).bind λx=>(dq (toT h jL) ps).map λys=>ys.any λy=>eqT y x
section
variable {X:Cx}
def wb(e:Wz h p q=some b):∃x y,toT h jL p=some x/\toT h jL q=some y/\b=eqT x y:=by
 obtain⟨x,e1,e⟩:=aN e;obtain⟨y,e2,e3⟩:=aO e;exact⟨x,y,e1,e2,e3.symm⟩
def Ny(hu:X.A.units+1150<cLine):oj X (compareOp .Eq) qO:=by
 rintro af s σ H x y v u Q I rx ry ⟨aa,ae,F,st,τ,pa,pb,p,e,R,ba,bb,k⟩
 obtain⟨b,e',rfl⟩:=aO e;obtain⟨ta,tb,e1,e2,rfl⟩:=wb e';have hd:=uC _ _ _ _ e1;exact(uA ta tb X.A v u (R.tree I _ _ _ _ _ e1 ba rx) (R.tree I _ _ _ _ _ e2 bb ry) (by unfold jL at hd;lia)).1 X.prog X.w X.xe _ ⟨.bl _,H,I,rfl,k _ H F R (Gr.refl F) (aZ.mpr rfl)⟩
def Nz(hu:X.A.units+1150<cLine):oj X (compareOp .NotEq) Qh:=by
 rintro af s σ H x y v u Q I rx ry ⟨aa,ae,F,st,τ,pa,pb,p,e,R,ba,bb,k⟩
 obtain⟨b,e',rfl⟩:=aO e;obtain⟨ta,tb,e1,e2,rfl⟩:=wb e';have hd:=uC _ _ _ _ e1;exact(uA ta tb X.A v u (R.tree I _ _ _ _ _ e1 ba rx) (R.tree I _ _ _ _ _ e2 bb ry) (by unfold jL at hd;lia)).2 X.prog X.w X.xe _ ⟨.bl _,H,I,rfl,k _ H F R (Gr.refl F) (aZ.mpr rfl)⟩
def AM{K:W.Frag}(b:bu K F p x):decide (x=.az)=EM p:=by
 cases p with
 | az=>rw[cN.mp b];rfl
 | bl _=>rw[aZ.mp b];rfl
 | int _=>rw[aC.mp b];rfl
 | str _=>rw[bH.mp b];rfl
 | ref _=>obtain⟨_,_,rfl⟩:=de.mp b;rfl
 | fn _=>obtain⟨_,rfl,_⟩:=pK.mp b;rfl
 | nd _ _=>obtain⟨_,_,rfl,_⟩:=iy.mp b;rfl
def NA:oj X (compareOp .Is) U4:=by
 rintro af s σ H x y v u Q I rx ry ⟨aa,ae,F,st,τ,pa,pb,p,e,R,ba,bb,k⟩
 unfold U4 at e;split at e
 ·cases e;exact MS af s σ H x y v u Q I rx ry ⟨cN.mp bb,k _ H F R (Gr.refl F) (aZ.mpr (by rw[AM ba]))⟩
 ·rename_i b;obtain⟨c,e1,rfl⟩:=aO e;obtain⟨a,rfl,rfl⟩:=wa e1;rw[aZ.mp ba]at rx;rw[aZ.mp bb]at ry;cases rx;cases ry;exact wpAny_is_plain rfl ⟨.bl _,H,I,(by cases a<;>cases b<;>rfl),k _ H F R (Gr.refl F) (aZ.mpr rfl)⟩
 ·cases e
open Classical in
noncomputable def lD (s:Shared) (p:Tr) (u:Value):Bool:=if h:∃q,cZ s q u then eqT h.choose p else false
def AN(b:cZ s q u):lD s p u=eqT q p:=by
 have h:∃q,cZ s q u:=⟨q,b⟩
 unfold lD;rw[dif_pos h,cZ.inj h.choose_spec b]
theorem uD:∀{ts:List Tr} {us:List Value},bQ s ts us->us.any (lD s p)=ts.any λy=>eqT y p
 | [],_,b=>by simp only[bQ]at b;subst b;rfl
 | q::ts,_,b=>by
  simp only[bQ]at b;obtain⟨u,r,rfl,c1,d1⟩:=b;rw[mC,mC,AN c1,uD d1]
theorem uE(bp:cZ s p w):∀{ts:List Tr} {us:List Value},bQ s ts us->A.units+jK ts<cLine->∀u∈us,SeqAt.EqAt A s u w (lD s p u)
 | [],_,b,_=>λu hu=>by simp only[bQ]at b;subst b;cases hu
 | q::ts,_,b,hz=>λu hu=>by
  simp only[bQ]at b;obtain⟨u',r,rfl,c1,d1⟩:=b;simp only[jK]at hz;rcases bh.mp hu with rfl | hu
  ·rw[AN c1];exact Nx c1 bp (by lia)
  ·exact uE bp d1 (by lia) u hu
theorem Rep.trees{st:cb}(R:Rep X.K aa ae F st τ H)(I:Inv X af σ H s)(n:Nat):∀(ps:List PV) (ts:List Tr) (vs:List V) (us:List Value),dq (toT st.h n) ps=some ts->au X.K F ps vs->Vals vs us->bQ s ts us/\jK ts<=n
 | [],ts,vs,us,z,b,r=>by cases z;rw[b.cB]at r;cases r;simp[bQ,jK]
 | p::ps,ts,vs,us,z,b,r=>by
  obtain⟨y,q,h1,h2,rfl⟩:=eX z;obtain⟨v,w,rfl,b1,b2⟩:=b.bT;cases r with
  | cons ra rr =>
   obtain⟨h3,h4⟩:=R.trees I n ps q w _ h2 b2 rr;have:=uC _ _ _ _ h1;simp only[jK];exact⟨⟨_,_,rfl,R.tree I n p y v _ h1 b1 ra,h3⟩,by lia⟩
def EN(e:WB h p ps=some b):∃x ys,toT h jL p=some x/\dq (toT h jL) ps=some ys/\b=ys.any λy=>eqT y x:=by
 obtain⟨x,e1,e⟩:=aN e;obtain⟨y,e2,e3⟩:=aO e;exact⟨x,y,e1,e2,e3.symm⟩
def EO(hu:X.A.units+1150<cLine){st:cb}(I:Inv X af σ H s)(rx:RelV x v)(ry:RelV y u)(R:Rep X.K aa ae F st τ H)(ba:bu X.K F pa x)(bb:bu X.K F pb y)
  (es:EH st.h pb=some ps) (eb:WB st.h pa ps=some b) :
  (Q (.bl b) H->wpAny (model X.prog X.w) X.A (compareOp .In v u) (EP X af σ Q) X.xe s)/\(Q (.bl !b) H->wpAny (model X.prog X.w) X.A (compareOp .NotIn v u) (EP X af σ Q) X.xe s):=by
 obtain⟨t,ts,e1,e2,rfl⟩:=EN eb;obtain⟨a,vs,rfl,hs,hb⟩:=R.seq es bb;have tp:=R.tree I _ _ _ _ _ e1 ba rx;cases ry;rcases hs with hs | hs
 ·obtain⟨ar,r,pl,_⟩:=I.tuple hs;obtain⟨h1,h2⟩:=R.trees I _ _ _ _ _ e2 hb r;have ml:=λw (hw:w∈ar.toArray)=>uE (A:=X.A.in1) tp h1 (by rw[tN];unfold jL at h2;lia) w (by grind)
  have ea:ar.toArray.any (lD s t)=ts.any λy=>eqT y t:=by rw[show ar.toArray.any (lD s t)=ar.any (lD s t) by simp,uD h1]
  exact⟨λq=>SeqAt.in_tupleAt (lD s t) pl ml ⟨.bl _,H,I,rfl,by grind⟩,λq=>SeqAt.notIn_tupleAt (lD s t) pl ml ⟨.bl _,H,I,rfl,by grind⟩⟩
 ·obtain⟨ar,r,pl,_⟩:=I.list hs.sq;obtain⟨h1,h2⟩:=R.trees I _ _ _ _ _ e2 hb r;have ml:=λw (hw:w∈ar.toArray)=>uE (A:=X.A.in1) tp h1 (by rw[tN];unfold jL at h2;lia) w (by grind)
  have ea:ar.toArray.any (lD s t)=ts.any λy=>eqT y t:=by rw[show ar.toArray.any (lD s t)=ar.any (lD s t) by simp,uD h1]
  exact⟨λq=>SeqAt.in_listAt (lD s t) pl.isList ml ⟨.bl _,H,I,rfl,by grind⟩,λq=>SeqAt.notIn_listAt (lD s t) pl.isList ml ⟨.bl _,H,I,rfl,by grind⟩⟩
end
section
variable {K:W.Frag} {F:Fz}
def au.qN{ps:List PV}{vs:List V}{i:Int}{p:PV}(h:au K F ps vs)(e:L2.qN ps i=some p):∃v,L2.qN vs i=some v/\bu K F p v:=by
 unfold L2.qN at e ⊢;rw[<-h.length];cases z:AE ps.length i with
 | none=>rw[z]at e;cases e
 | some j =>
  rw[z]at e;exact h.get e
def ic(xs:List PV)(lo hi:Option Int):List PV:=(xs.drop (HT.dM xs.length 0 lo)).take (HT.dM xs.length xs.length hi-HT.dM xs.length 0 lo)
def au.NB{ps:List PV}{vs:List V}(h:au K F ps vs)(lo hi:Option Int):au K F (ic ps lo hi) (vT vs lo hi):=by
 unfold ic vT;rw[h.length];exact(h.drop _).take _
def dS{p:PV}{vs:List V}(b:au K F [p] vs):∃v,vs=[v]/\bu K F p v:=by
 obtain⟨v,r,rfl,c,d⟩:=b.bT;rw[d.cB];exact⟨v,rfl,c⟩
def Jn{p q:PV}{vs:List V}(b:au K F [p,q] vs):∃v w,vs=[v,w]/\bu K F p v/\bu K F q w:=by
 obtain⟨v,r,rfl,c,d⟩:=b.bT;obtain⟨w,rfl,e⟩:=dS d;exact⟨v,w,rfl,c,e⟩
end
def lE{prog:Program}{w:World}{A:Around}{E:Value->Shared->Prop}{s:Shared}{t sl:Addr}{ar:Array Value}{vl vu:Value}{lo hi:Option Int}{Q:Value->Shared->Prop}(ht:IsTup s.heap t ar)(hs:s.heap.IsSliceOf sl vl vu .none)(pl:IsPart vl lo)(pu:IsPart vu hi)
  (h0:HT.dM ar.size 0 lo=0) (h1:HT.dM ar.size ar.size hi=ar.size) (h:Q (.ref t) s):wpAny (model prog w) A (getItem (.ref t) (.ref sl)) Q E s:=by
 obtain⟨os,HH,UX,Ru⟩:=id hs;have hT:s.TypeIs (.ref sl) "slice":=⟨os,HH,UX⟩;unfold getItem
 try with_reducible refine dY ?_
 first | refine ag (aq ?_) | skip
 refine ag (wpAny_sequenceKey ht.typeIs (by decide) ?_)
 refine ag (fA ht.typeIs mh (fR mh ht.typeIs entry_tuple_getitem ?_ (args_tuple_getitem _ _)));show wpAny _ _ (Builtin.Tuple.tupleItemsOf (.ref t) >>= _) _ _ s;refine ag (tupleItemsOf_ ht (ag (mE hT ?_)));refine ag (HT.hZ hs pl pu ?_);have hc:(((HT.dM ar.size 0 lo:Nat):Int)==0&&(1:Int)==1&&(HT.dM ar.size ar.size hi-HT.dM ar.size 0 lo)==ar.size)=true:=by
  rw[h0,h1];simp
 show wpAny _ _ (if(((HT.dM ar.size 0 lo:Nat):Int)==0&&1==1&&(HT.dM ar.size ar.size hi-HT.dM ar.size 0 lo)==ar.size)=true then _ else _) _ _ s
 rw[if_pos hc];unfold Builtin.Tuple.tupleIsExact;refine ag (ag (mE ht.typeIs (aq ?_)));exact ag (ku (aq ⟨_,rfl,aq h⟩))
def xH(h:List ah)(lo hi:Option Int)(p:PV):Option PV:=match cR h p with
 | some (.lst,ps)=>some (.lst (ic ps lo hi))
 | some (.aj,ps)=>some (.aj (ic ps lo hi))
 | _=>none
section
variable {X:Cx} {aa:Hp} {ae:Fz} {a b e:Expr} {es:List Expr} {fa fb:Gx PV} {ts:Gx (List PV)} {pos p1 p2:Pos} {lo hi:Option Expr}
def rSl(K:W.Frag):V->Option Int->Option Int->Hp->VK->Prop:=λx lo hi H Q=>∃aa ae F st τ pa p,xH st.h lo hi pa=some p/\Rep K aa ae F st τ H/\bu K F pa x/\∀v H' F',Rep K aa ae F' st τ H'->Gr F F'->bu K F' p v->Q v H'
def slT:UY X (rSl X.K):=by
 rintro af s σ H x v vl vu lo hi sl Q I rx hs pl pu ⟨aa,ae,F,st,τ,pa,p,e,R,ba,k⟩
 unfold xH at e;split at e
 ·rename_i z;cases e;obtain⟨a,vs,rfl,ha,ib⟩:=R.at z ba;refine IX af s σ H _ v vl vu lo hi sl Q I rx hs pl pu ⟨a,vs,rfl,iJ.sq ha,λq hq=>?_⟩
  obtain⟨R2,s2⟩:=R.laid (.lst (vT vs lo hi)) hq;exact k _ _ _ R2 s2 (dg.mpr ⟨q,_,rfl,iJ.of aw,(ib.NB lo hi).mono s2⟩)
 ·rename_i ps z;cases e;cases pa with
  | nd kk pp =>
   cases z;obtain⟨a,vs,rfl,ha,ib⟩:=bN.mp ba;by_cases hw:HT.dM vs.length 0 lo=0/\HT.dM vs.length vs.length hi=vs.length
   ·cases rx;obtain⟨ar,r,ht,hz⟩:=I.tuple (bC R.sub ha);have dI:ar.toArray.size=vs.length:=by rw[cy];exact r.length.symm
    refine⟨"tuple",_,mh.lookup,ht.typeIs,?_⟩;refine lE ht hs pl pu (by grind) (by grind) ⟨.ref a,H,I,rfl,k _ H F R (Gr.refl F) ?_⟩
    have hc:ic ps lo hi=ps:=by
     unfold ic;rw[ib.length,hw.1,hw.2,List.drop_zero,Nat.sub_zero,<-ib.length,List.take_length]
    rw[hc];exact ba
   ·refine M4 af s σ H _ v vl vu lo hi sl Q I rx hs pl pu ⟨a,vs,rfl,bC R.sub ha,hw,λq hq=>?_⟩
    obtain⟨R2,s2⟩:=R.laid (.aj (vT vs lo hi)) hq;exact k _ _ _ R2 s2 (bN.mpr ⟨q,_,rfl,gw.of aw,(ib.NB lo hi).mono s2⟩)
  | ref n =>
   obtain⟨c,e1,e2⟩:=aN z;obtain⟨hl,e3⟩:=aA e2;have hk:c.k=.aj:=by grind
   unfold live at hl;rw[hk]at hl;cases hl
  | _=>cases z
 ·cases e
abbrev Jo(X:Cx)(aa:Hp)(ae:Fz)(f:Gx (Option Int)):TO:=tX X aa ae (λ_ a b=>a=b) f
def _root_.L2.PO.imp{X:Cx}{e:Option Expr}{t t':TO}(h:PO X e t)(hi:∀σ H Q,t' σ H Q->t σ H Q):PO X e t':=λaf s σ H Q I hw=>h af s σ H Q I (hi _ _ _ hw)
noncomputable def lG:PV->Option Int | .int i=>some i | _=>none
def eY{p:PV}{i:Int}(h:lG p=some i):p=.int i:=by
 cases p<;>first | (cases h;rfl) | cases h
def ER(fe:Gx PV):Gx (Option Int):=bnd fe λp=>jE ((lG p).map some)
def NC:PO X none (Jo X aa ae (cx none)):=IS.imp λσ H Q h=>uz h λ_=>rfl
def NF(h:PE X e (tE X aa ae fa)):PO X (some e) (Jo X aa ae (ER fa)):=(IT h).imp λσ H Q ⟨F,st,R,h⟩=>⟨F,st,R,h.bnd λp v F1 st1 H1 R1 g1 b1 h1=>by
 obtain⟨o,e,z⟩:=h1.jE;obtain⟨i,e1,rfl⟩:=aO e;rw[eY e1]at b1;exact⟨i,aC.mp b1,z _ H1 F1 R1 (Gr.refl _) rfl⟩⟩
def cutE(fa:Gx PV)(fl fh:Gx (Option Int)):Gx PV:=bnd fa λp=>bnd fl λl=>bnd fh λr=>hp λh=>xH h l r p
def R9{fl fh:Gx (Option Int)}(ha:PE X e (tE X aa ae fa))(hl:PO X lo (Jo X aa ae fl))(hh:PO X hi (Jo X aa ae fh)):PE X (.Subscript e (.Slice lo hi none p2) pos) (tE X aa ae (cutE fa fl fh)):=(Ew slT ha hl hh).imp λσ H Q ⟨F,st,R,h⟩ =>
 ⟨F,st,R,h.bnd λp v F1 st1 H1 R1 g1 b1 h1=>⟨F1,st1,R1,h1.bnd λl l' F2 dH H2 R2 g2 b2 h2=>⟨F2,dH,R2,h2.bnd λr r' F3 Iz H3 R3 g3 b3 h3=>by
  cases b2;cases b3;obtain⟨o,e,z⟩:=h3.hp;exact⟨aa,ae,F3,Iz,σ,p,o,e,R3,b1.mono (g2.trans g3),z⟩⟩⟩⟩
abbrev GC:=List ah->List PV->Option PV
def rC(K:W.Frag)(g:GC):List V->Hp->VK->Prop:=λxs H Q=>∃aa ae F st τ ps p,g st.h ps=some p/\Rep K aa ae F st τ H/\au K F ps xs/\∀v H' F',Rep K aa ae F' st τ H'->Gr F F'->bu K F' p v->Q v H'
abbrev ES(X:Cx)(f:Value)(g:GC):Prop:=jU X f (rC X.K g)
def Jp(g:GC)(ts:Gx (List PV)):Gx PV:=bnd ts λps=>hp λh=>g h ps
def lH{g:GC}{σ:St}{H:Hp}{Q:VK}(h:tE X aa ae (Jp g ts) σ H Q):Wf (rC X.K g) (tA X aa ae ts) σ H Q:=by
 obtain⟨F,st,R,h⟩:=h;refine⟨F,st,R,h.bnd λps vs F1 st1 H1 R1 g1 b1 h1=>?_⟩
 obtain⟨o,e,z⟩:=h1.hp;exact⟨aa,ae,F1,st1,σ,ps,o,e,R1,b1,z⟩
def Sb(h:List ah)(p:PV):Option Nat:=match cR h p with
 | some (.aj,ps)=>some ps.length
 | some (.lst,ps)=>some ps.length
 | some (.eV _ ks,_)=>some ks.length
 | _=>none
def fj:GC:=λh ps=>match ps with
 | [.str z]=>if z.length<=gy then some (.int z.length)else none
 | [p]=>(Sb h p).map λn=>.int n
 | _=>none
def wc:GC:=λh ps=>match ps with
 | [.nd .aj qs]=>some (.aj qs)
 | [p]=>(y0 h p).map λqs=>.aj qs
 | _=>none
noncomputable def ET:GC:=λ_ ps=>match ps with
 | [.int i]=>some (.int i)
 | [.bl b]=>some (.int (if b then 1 else 0))
 | _=>none
noncomputable def Jq:GC:=λ_ ps=>match ps with
 | [.int i]=>if 0<=i/\i<1000 then some (.str (toString i))else none
 | _=>none
def EU(ps:List PV):Option (List Int):=dq lG ps
def Jr:GC:=λh ps=>match ps with
 | [p]=>(y0 h p).bind λqs=>(EU qs).map λns=>.int ns.sum
 | _=>none
def we{A:Around}{E:Value->Shared->Prop}{s:Shared}{d:Addr}{o:Obj}{es:Array DictEntry}{ep n:Nat}{Q:Value->Shared->Prop}(hd:(d==sysModules)=false)(ho:s.heap.get? d=some o)(hc:o.ExactDict)(y7:o.data=.dict es ep)(hn:es.size=n)(Sd:(n:Int)<2^63)
  (h:Q (.int n (s.toks+1)) {s with toks:=s.toks+1+1}):wpAny (model X.prog X.w) A (call (.builtin "len") [.ref d]) Q E s:=by
 have ty:s.TypeIs (.ref d) "dict":=⟨o,ho,hc.1⟩;have hm:MeetsIn X.prog X.w (Builtin.«dict.__len__» ⟨[.ref d],[]⟩) (λ_ R s'=>s'.heap.get? d=some o/\R (.ok (.ret (.int n s'.toks))) {s' with toks:=s'.toks+1}):=.of_wp <| by
  rintro A R s' ⟨o9,hR⟩
  show wpAny _ _ (dictSize d >>= _) _ _ s';refine ag (ag (wpAny_dictEntries o9 y7 (aq ?_)));refine ag (wpAny_pendingCount_other hd ?_);refine wpAny_ret_mkInt ?_;rw[kq,hn];exact hR
 refine Calls.call_function_entry kind_len plain_len entry_len (args_len1 _) ?_;refine ag (aq ?_);refine ag (fA ty F.slot_dict_len (call_meetsIn F.slot_dict_len ty F.entry_dict_len (F.args_dict_len_1 _) hm ⟨ho,?_⟩));show wpAny _ _ _ _ _ {s with toks:=s.toks+1}
 refine ag (dY (aq ?_));refine ag (oT ?_);show wpAny _ _ (if((n:Nat):Int)>=2^63 then _ else _) _ _ _
 rw[if_neg (by lia)]
 exact ag (wpAny_mkInt (aq ⟨_,rfl,h⟩))
def AO{n:Nat}(h:n<=sizeLine):(n:Int)<2^63:=by
 have h1:n<=2^62:=aP h (by decide)
 have h62:2^62=4611686018427387904:=by decide
 lia
def Js{af:List (Addr×Obj)}{s:Shared}{σ:St}{H:Hp}{a:Addr}{t:Bool}{ks:List (List dG)}{vs:List V}{us:List Value}{Q:VK}{F:Hp}(I:Inv X af σ H s)(rs:Vals [V.ref a] us)(h:kx X.K F H a false (.eV t ks) vs)(q:Q (.int ks.length) H):wpAny (model X.prog X.w) X.A (call (.builtin "len") us) (λu s'=>∃v H',Inv X af σ H' s'/\RelV v u/\Q v H') X.xe s:=by
 obtain⟨u,rfl,ru⟩:=jV rs;cases ru;cases t with
 | false =>
  obtain⟨kvs,h1,h2,h3⟩:=h;obtain⟨z,y,ws,hk,o,es,ep,g1,g2,g3,g4,g5,g6⟩:=(I.hok a _ h1);have hl:ks.length=kvs.length:=by grind
  have hn:es.size=ks.length:=by rw[hl,mD hk,<-g5.length,oI]
  exact we y g1 g2 g3 hn (AO (by grind)) ⟨.int ks.length,H,I.tok _,⟨_,rfl⟩,q⟩
 | true =>
  obtain⟨xs,h1,_,h2,_⟩:=h;obtain⟨z,y,o,es,ep,g1,g2,g3,g4,g5⟩:=(I.hok a _ h1);have hl:ks.length=xs.length:=by grind
  exact we y g1 g2 g3 (by rw[<-oI,g4,aM,hl]) (AO (by grind)) ⟨.int ks.length,H,I.tok _,⟨_,rfl⟩,q⟩
def Cs:ES X (.builtin "len") fj:=by
 rintro af s σ H xs us Q I rs ⟨aa,ae,F,st,τ,ps,p,e,R,bs,k⟩
 unfold fj at e;split at e
 ·obtain⟨hz,rfl⟩:=aA e;obtain⟨v,rfl,b⟩:=dS bs;rw[bH.mp b]at rs;exact ux af s σ H _ us Q I rs ⟨_,rfl,eF hz,k _ H F R (Gr.refl F) (aC.mpr rfl)⟩
 ·obtain⟨n,e1,rfl⟩:=aO e;obtain⟨v,rfl,b⟩:=dS bs;unfold Sb at e1;split at e1
  ·rename_i z;cases e1;obtain⟨a,vs,rfl,ha,ib⟩:=R.at z b;exact lr af s σ H _ us Q I rs ⟨a,vs,rfl,.inr ha.2,k _ H F R (Gr.refl F) (aC.mpr (by rw[ib.length]))⟩
  ·rename_i z;cases e1;obtain⟨a,vs,rfl,ha,ib⟩:=R.at z b;exact lr af s σ H _ us Q I rs ⟨a,vs,rfl,.inl (iJ.sq ha),k _ H F R (Gr.refl F) (aC.mpr (by rw[ib.length]))⟩
  ·rename_i z;cases e1;obtain⟨a,vs,rfl,ha,ib⟩:=R.at z b;exact Js I rs ha (k _ H F R (Gr.refl F) (aC.mpr rfl))
  ·cases e1
 ·cases e
def Ct:ES X (.type "tuple") wc:=by
 rintro af s σ H xs us Q I rs ⟨aa,ae,F,st,τ,ps,p,e,R,bs,k⟩
 unfold wc at e;split at e
 ·cases e;obtain⟨v,rfl,b⟩:=dS bs;obtain⟨a,vs,rfl,ha,ib⟩:=bN.mp b;exact jW af s σ H _ us Q I rs ⟨a,vs,rfl,.inr ⟨bC R.sub ha,k _ H F R (Gr.refl F) b⟩⟩
 ·obtain⟨qs,e1,rfl⟩:=aO e;obtain⟨v,rfl,b⟩:=dS bs;obtain⟨a,vs,rfl,ha,ib⟩:=R.at (ia e1) b;refine jW af s σ H _ us Q I rs ⟨a,vs,rfl,.inl ⟨iJ.sq ha,λq hq=>?_⟩⟩
  obtain⟨R2,s2⟩:=R.laid (.aj vs) hq;exact k _ _ _ R2 s2 (bN.mpr ⟨q,_,rfl,gw.of aw,ib.mono s2⟩)
 ·cases e
def Cu:ES X (.type "int") ET:=by
 rintro af s σ H xs us Q I rs ⟨aa,ae,F,st,τ,ps,p,e,R,bs,k⟩
 unfold ET at e;split at e
 ·cases e;obtain⟨v,rfl,b⟩:=dS bs;rw[aC.mp b]at rs;exact rK af s σ H _ us Q I rs (.inl ⟨_,rfl,k _ H F R (Gr.refl F) (aC.mpr rfl)⟩)
 ·cases e;obtain⟨v,rfl,b⟩:=dS bs;rw[aZ.mp b]at rs;exact rK af s σ H _ us Q I rs (.inr ⟨_,rfl,k _ H F R (Gr.refl F) (aC.mpr rfl)⟩)
 ·cases e
def Cv:ES X (.type "str") Jq:=by
 rintro af s σ H xs us Q I rs ⟨aa,ae,F,st,τ,ps,p,e,R,bs,k⟩
 unfold Jq at e;split at e
 ·rename_i i;obtain⟨⟨h0,h1⟩,rfl⟩:=aA e;obtain⟨v,rfl,b⟩:=dS bs;rw[aC.mp b]at rs;exact um af s σ H _ us Q I rs ⟨i,rfl,(by
   by_cases h:i.natAbs=0
   ·simp_all
   ·exact mn (Nat.log2_le_self _) (by lia)),k _ H F R (Gr.refl F) (bH.mpr rfl)⟩
 ·cases e
theorem wj{K:W.Frag}{F:Fz}:∀{ps:List PV} {ns:List Int} {vs:List V},EU ps=some ns->au K F ps vs->vs=ns.map V.int
 | [],ns,vs,h,b=>by cases h;exact b.cB
 | p::r,ns,vs,h,b=>by
  obtain⟨i,ms,h1,h2,rfl⟩:=eX h;obtain⟨v,vr,rfl,c,d⟩:=b.bT;rw[eY h1]at c;rw[aC.mp c,wj h2 d];rfl
def Jt{af:List (Addr×Obj)}{σ:St}{H:Hp}{s:Shared}{F:Fz}(I:Inv X af σ H s){a:Addr}{vs:List V}{ps:List PV}{ns:List Int}(hn:EU ps=some ns)(ha:iJ X.K H a vs)(ib:au X.K F ps vs) :
  ∃xs:Array (Int×Tok),s.heap.IsList a (intItems xs)/\ns=xs.toList.map (·.1):=by
 obtain⟨ar,r,pl,_⟩:=I.list ha.sq;have ev:=wj hn ib;subst ev;have hi:=yU r;obtain⟨xs,ex⟩:=hi.allInts.items;exact⟨xs,by rw[<-ex];exact pl.isList,by rw[<-hi.numsOf,<-nums_intItems,<-ex]⟩
def Cw(hc:X.A.handled=none):ES X (.builtin "sum") Jr:=by
 rintro af s σ H xs us Q I rs ⟨aa,ae,F,st,τ,ps,p,e,R,bs,k⟩
 unfold Jr at e;split at e
 ·obtain⟨qs,e1,e⟩:=aN e;obtain⟨ns,e2,rfl⟩:=aO e;obtain⟨v,rfl,b⟩:=dS bs;obtain⟨a,vs,rfl,ha,ib⟩:=R.at (ia e1) b;obtain⟨xs,hl,hn⟩:=Jt I e2 ha ib;obtain⟨u,rfl,ru⟩:=jV rs;cases ru;refine sum_intListG hc hl λh' tk t' hk=>⟨.int ns.sum,H,I.kept hk,⟨t',?_⟩,k _ H F R (Gr.refl F) (aC.mpr rfl)⟩
  rw[preSum_eq,tm (by simp),hn]
 ·cases e
inductive Ty where
 | int | str | bool | tuple | list
noncomputable def Ty.nm:Ty->String
 | .int=>"int" | .str=>"str" | .bool=>"bool" | .tuple=>"tuple" | .list=>"list"
def Se(h:List ah):PV->Option String
 | .az=>some "NoneType"
 | .bl _=>some "bool"
 | .int _=>some "int"
 | .str _=>some "str"
 | p=>match cR h p with
  | some (.aj,_)=>some "tuple"
  | some (.lst,_)=>some "list"
  | _=>none
def NG(t:Ty)(y:String):Bool:=y==t.nm || (t.nm=="int"&&y=="bool")
def U5(t:Ty)(fa:Gx PV):Gx PV:=bnd fa λp=>hp λh=>(Se h p).map λy=>.bl (NG t y)
def rIs(K:W.Frag)(t:Ty):List V->Hp->VK->Prop:=λxs H Q=>∃aa ae F st τ p x y,xs=[x,.ty t.nm]/\Rep K aa ae F st τ H/\bu K F p x/\Se st.h p=some y/\Q (.bl (NG t y)) H
def Ju(t:Ty):jU X (.builtin "isinstance") (rIs X.K t):=by
 rintro af s σ H xs us Q I rs ⟨aa,ae,F,st,τ,p,x,y,ex,R,b,ey,q⟩
 subst ex;obtain⟨u,w,rfl,ru,IW⟩:=Er rs;cases IW;have hJ:∀tk,EP X af σ Q (.bool (NG t y)) {s with toks:=tk}:=λtk=>⟨.bl _,H,I.tok tk,rfl,q⟩
 have more:(match cR st.h p with
  | some (.aj,_)=>some "tuple"
  | some (.lst,_)=>some "list"
  | _=>none)=some y->wpAny (model X.prog X.w) X.A (call (.builtin "isinstance") [u,.type t.nm]) (EP X af σ Q) X.xe s:=λey=>by
  split at ey
  ·rename_i z;cases ey;obtain⟨a,vs,rfl,h2,h3⟩:=R.at z b;cases ru;obtain⟨ar,_,⟨o,h1,h2,_⟩,_⟩:=I.tuple h2.2;exact W.kia_one W.kitx_tuple I.mJ ⟨o,h1,h2⟩ (by cases t<;>kernel_rfl) (λz=>nomatch z) hJ
  ·rename_i z;cases ey;obtain⟨a,vs,rfl,h2,h3⟩:=R.at z b;cases ru;obtain⟨ar,n,_,h1,_⟩:=I.pP h2;exact W.kia_one W.kitx_list I.mJ ⟨_,h1,rfl⟩ (by cases t<;>kernel_rfl) (λz=>nomatch z) hJ
  ·cases ey
 cases p with
 | az =>
  cases ey;rw[cN.mp b]at ru;cases ru;exact W.kia_one W.kitx_none I.mJ True.intro (by cases t<;>kernel_rfl) (λz=>nomatch z) hJ
 | bl y =>
  cases ey;rw[aZ.mp b]at ru;cases ru;exact W.kia_one W.kitx_bool I.mJ True.intro (by cases t<;>kernel_rfl) (λz=>nomatch z) hJ
 | int i =>
  cases ey;rw[aC.mp b]at ru;obtain⟨tk,rfl⟩:=ru;exact W.kia_one W.kitx_int I.mJ True.intro (by cases t<;>kernel_rfl) (λz=>nomatch z) hJ
 | str y =>
  cases ey;rw[bH.mp b]at ru;obtain⟨tk,rfl⟩:=ru;exact W.kia_one W.kitx_str I.mJ True.intro (by cases t<;>kernel_rfl) (λz=>nomatch z) hJ
 | ref n=>exact more ey
 | fn x=>exact more ey
 | nd k ps=>exact more ey
def nT:bootBuiltins "isinstance"=some (.builtin "isinstance"):=by kernel_rfl
def lI(t:Ty):bootBuiltins (Str.ofString t.nm)=some (.type t.nm):=by cases t<;>kernel_rfl
noncomputable def tys:List Ty:=[.int,.str,.bool,.tuple,.list]
def AQ(x:Str):Option Ty:=tys.find? λt=>x==Str.ofString t.nm
def EV{x:Str}{t:Ty}(h:AQ x=some t):x=Str.ofString t.nm:=by
 have:=List.find?_some h;exact aU this
def WC{x:Str}{t:Ty}(ht:AQ x=some t)(hg:Gl X "isinstance")(hm:X.mg "isinstance"=none)(hg2:Gl X x)(Sf:X.mg x=none)(ha:PE X a (tE X aa ae fa))(hs:∀es,starEach (a::es) X.env=(false,eval a X.env)::starEach es X.env) :
  PE X (.Call (.Name "isinstance" p1) [a,.Name x p2] [] pos) (tE X aa ae (U5 t fa)):=by
 have hx:=EV ht;subst hx;refine(pC (Ju t) hg hm nT (gC ha (gC (Il (v:=.ty t.nm) hg2 Sf (lI t) rfl (by cases t<;>decide) (by cases t<;>decide)) pB rfl) (hs _)) (by decide) (by decide) (hs _)).imp λσ H Q ⟨F,st,R,h⟩=>?_
 refine⟨F,st,R,h.bnd λp v F1 st1 H1 R1 g1 b1 h1=>?_⟩
 obtain⟨o,e,z⟩:=h1.hp;obtain⟨y,e1,rfl⟩:=aO e;exact⟨aa,ae,F1,st1,σ,p,v,y,rfl,R1,b1,e1,z _ H1 F1 R1 (Gr.refl _) (aZ.mpr rfl)⟩
def NH(fa:Gx PV):Gx PV:=bnd fa λp=>jE ((lG p).map λi=>.int (-i))
def Sh(ha:PE X a (tE X aa ae fa)):PE X (.UnaryOp .USub a pos) (tE X aa ae (NH fa)):=(Q9 MR ha).imp λσ H Q ⟨F,st,R,h⟩=>⟨F,st,R,h.bnd λp v F1 st1 H1 R1 g1 b1 h1=>by
 obtain⟨o,e,z⟩:=h1.jE;obtain⟨i,e1,rfl⟩:=aO e;rw[eY e1]at b1;exact⟨i,aC.mp b1,z _ H1 F1 R1 (Gr.refl _) (aC.mpr rfl)⟩⟩
end
noncomputable def lJ(a m:Int)(n:Nat):List Nat:=sliceRange (sliceBounds (some a) none (some m) n).1 (sliceBounds (some a) none (some m) n).2.1 (sliceBounds (some a) none (some m) n).2.2
def ji{α:Type}(a m:Int)(ps:List α):List α:=(lJ a m ps.length).filterMap (ps[·]?)
def Cy(p:PV)(l m:Option Int):Option PV:=match p,l,m with
 | .nd .lst ps,some a,some b=>if(b != 0&&decide ((lJ a b ps.length).length<=gy))=true then some (.lst (ji a b ps))else none
 | _,_,_=>none
def NI(fa:Gx PV)(fl fm:Gx (Option Int)):Gx PV:=bnd fa λp=>bnd fl λl=>bnd fm λm=>jE (Cy p l m)
theorem mO{xs:List V}{us:List Value}(r:Vals xs us):∀is:List Nat,Vals (is.filterMap (xs[·]?)) (is.filterMap (us[·]?))
 | []=>.nil
 | i::is=>by
  cases h:xs[i]? with
  | none =>
   rw[tf h,tf (r.none_of h)];exact mO r is
  | some x =>
   obtain⟨u,h1,h2⟩:=r.get h;rw[tj h,tj h1];exact .cons h2 (mO r is)
theorem mP{K:W.Frag}{F:Fz}{ps:List PV}{vs:List V}(r:au K F ps vs):∀is:List Nat,au K F (is.filterMap (ps[·]?)) (is.filterMap (vs[·]?))
 | []=>.nil
 | i::is=>by
  cases h:ps[i]? with
  | none =>
   have h2:vs[i]?=none:=by
    have:=r.length;have:=gL.mp h;exact gL.mpr (by lia)
   rw[tf h,tf h2];exact mP r is
  | some p =>
   obtain⟨v,h1,h2⟩:=r.get h;rw[tj h,tj h1];exact .cons h2 (mP r is)
section
variable {X:Cx} {aa:Hp} {ae:Fz} {e:Expr} {fa:Gx PV} {pos p2:Pos} {lo:Option Expr} {hi:Expr}
def rSp(K:W.Frag):V->Option Int->Option Int->Hp->VK->Prop:=λx l m H Q=>∃c a b vs,x=.ref c/\l=some a/\m=some b/\iJ K H c vs/\b≠0/\(lJ a b vs.length).length<=gy/\∀q,H q=none->Q (.ref q) (cK H q (.lst (ji a b vs)))
def NJ{te:TE}{tl th:TO}(he:PE X e te)(hl:PO X lo tl)(hu:PO X (some hi) th):PE X (.Subscript e (.Slice lo none (some hi) p2) pos) (YL (rSp X.K) te tl th):=by
 intro af s σ H Q I h;refine Subscript_ (thn (he af s σ H _ I h) λv s1 ⟨x,H1,I1,r1,q1⟩=>?_)
 refine wpAny_Slice (thn (hl af s1 σ H1 _ I1 q1) λvl s2 ⟨l,H2,I2,pl,q2⟩=>?_)
 rw[evalPart_none];refine aq ?_;refine thn (hu af s2 σ H2 _ I2 q2) λvu s3 ⟨u,H3,I3,pu,q3⟩=>?_
 have I4:Inv X af σ H3 {s3 with heap:=s3.heap.push {cls:=.type "slice",data:=.fields #[vl,.none,vu]}}:=I3.kept λb ob q=>aH _ q
 show wpAny (model X.prog X.w) X.A (subscriptTail e (.Slice lo none (some hi) p2) v (.ref s3.heap.objs.size)) (EP X af σ Q) X.xe {s3 with heap:=s3.heap.push {cls:=.type "slice",data:=.fields #[vl,.none,vu]}}
 obtain⟨c,a,b,vs,rfl,rfl,rfl,hs,YT,pQ,q⟩:=q3;cases r1;obtain⟨ar,r,ht,hz⟩:=I4.list (iJ.sq hs);have dI:ar.toArray.size=vs.length:=by rw[cy];exact r.length.symm
 have hg:wpAny (model X.prog X.w) X.A (getItem (.ref c) (.ref s3.heap.objs.size)) (EP X af σ Q) X.xe {s3 with heap:=s3.heap.push {cls:=.type "slice",data:=.fields #[vl,.none,vu]}}:=by
  refine wpAny_getItem_list_slice ht.isList (Heap.IsSliceOf.new ..) pl .none pu (by simpa using YT) ?_ (by rw[dI];exact hz)
  have Si:slicePick ar.toArray (some a) none (some b)=((lJ a b vs.length).filterMap (ar[·]?)).toArray:=by
   unfold slicePick lJ;rw[dI];refine fT (λf=>(List.filterMap f _).toArray) (funext λi=>?_)
   rw[List.getElem?_toArray]
  rw[Si];refine⟨.ref _,_,I4.laid (o:=.lst (ji a b vs)) (λb ob q=>aH _ q) (aD _) ?_,rfl,q _ (I4.hok.fresh (aD _))⟩
  exact⟨aP (List.length_filterMap_le _ _) (aP pQ (by decide)),_,0,mO r _,bE _ rfl⟩
 exact mH (ops:=[.ref c,.ref s3.heap.objs.size]) ht.isList.typeIs slot_list_getitem.lookup hg (by with_unfolding_all rfl)
def Sj{fl fh:Gx (Option Int)}(ha:PE X e (tE X aa ae fa))(hl:PO X lo (Jo X aa ae fl))(hh:PO X (some hi) (Jo X aa ae fh)):PE X (.Subscript e (.Slice lo none (some hi) p2) pos) (tE X aa ae (NI fa fl fh)):=(NJ ha hl hh).imp λσ H Q ⟨F,st,R,h⟩ =>
 ⟨F,st,R,h.bnd λp v F1 st1 H1 R1 g1 b1 h1=>⟨F1,st1,R1,h1.bnd λl l' F2 dH H2 R2 g2 b2 h2=>⟨F2,dH,R2,h2.bnd λr r' F3 Iz H3 R3 g3 b3 h3=>by
  cases b2;cases b3;obtain⟨o,e,z⟩:=h3.jE;unfold Cy at e;split at e
  ·rename_i ps a b;obtain⟨hc,rfl⟩:=aA e;simp only[aF,bne_iff_ne,tJ]at hc;obtain⟨ad,vs,rfl,hs,hb⟩:=dg.mp (b1.mono (g2.trans g3));rw[hb.length]at hc;refine⟨ad,a,b,vs,rfl,rfl,rfl,jf R3.sub hs,hc.1,hc.2,λq hq=>?_⟩
   obtain⟨R4,s4⟩:=R3.laid (.lst (ji a b vs)) hq;refine z _ _ _ R4 s4 (dg.mpr ⟨q,_,rfl,iJ.of aw,?_⟩);unfold ji;rw[hb.length];exact(mP hb _).mono s4
  ·cases e⟩⟩⟩
end
noncomputable def EW:PV->Option dG
 | .int i=>some (.inl i)
 | .str x=>some (.inr x)
 | _=>none
def iM:Bool->PV->Option (List dG)
 | false,p=>(EW p).map λk=>[k]
 | true,.nd .aj ps=>if ps.length<1000 then dq EW ps else none
 | true,_=>none
noncomputable def jj(k:List dG)(ks:List (List dG)):Bool:=ks.any λj=>decide (j=k)
noncomputable def dO(k:List dG):List (List dG)->List PV->Option PV
 | j::ks,p::ps=>if j=k then some p else dO k ks ps
 | _,_=>none
noncomputable def mQ(k:List dG)(q:PV):List (List dG)->List PV->List PV
 | j::ks,p::ps=>(if j=k then q else p)::mQ k q ks ps
 | _,ps=>ps
def wm:mQ k q [] ps=ps:=by cases ps<;>rfl
def eO(t:Bool)(k:List dG)(q:PV)(ks:List (List dG))(ps:List PV):ah:=if jj k ks=true then⟨.eV t ks,mQ k q ks ps⟩else⟨.eV t (ks++[k]),ps++[q]⟩
section
variable {K:W.Frag} {F:Fz}
def pW(h:EW p=some k)(b:bu K F p v):v=kV k:=by
 cases p<;>cases h
 ·exact aC.mp b
 ·exact bH.mp b
theorem rY:∀{ps:List PV} {ks:List dG} {vs:List V},dq EW ps=some ks->au K F ps vs->vs=ks.map kV
 | [],_,_,h,b=>by cases h;exact b.cB
 | _::_,_,_,h,b=>by
  obtain⟨k,r,h1,h2,rfl⟩:=eX h;obtain⟨v,w,rfl,b1,b2⟩:=b.bT;rw[pW h1 b1,rY h2 b2];rfl
def lK(h:iM false p=some k)(b:bu K F p v):∃j,k=[j]/\v=kV j:=by
 obtain⟨j,e,rfl⟩:=aO h;exact⟨j,rfl,pW e b⟩
def lL(h:iM true p=some k)(b:bu K F p v):∃c,v=.ref c/\gw K F.F c (k.map kV):=by
 unfold iM at h;split at h
 ·grind
 ·obtain⟨_,h⟩:=bL h;obtain⟨c,vs,rfl,hs,hb⟩:=bN.mp b;rw[rY h hb]at hs;exact⟨c,rfl,hs⟩
 ·cases h
theorem uF(j:dG):∀kvs:List (dG×V),jj [j] (kvs.map λy=>[y.1])=(nQ kvs j).isSome
 | []=>rfl
 | (i,v)::r=>by
  have ih:=uF j r;unfold jj at ih ⊢;rw[aQ,mC,ih];by_cases h:i=j
  ·subst h;rw[ly rfl];simp
  ·rw[lz h];simp[h]
theorem AR:∀{kvs:List (dG×V)} {ps:List PV} {p:PV},dO [j] (kvs.map λy=>[y.1]) ps=some p->au K F ps (kvs.map (·.2))->∃v,nQ kvs j=some v/\bu K F p v
 | [],_,_,h,_=>by cases h
 | (i,v)::r,[],_,h,_=>by cases h
 | (i,v)::r,q::ps,p,h,b=>by
  obtain⟨v',w,e,b1,b2⟩:=b.bT;cases e;have h:(if [i]=[j]then some q else dO [j] (r.map λy=>[y.1]) ps)=some p:=h
  by_cases hi:i=j
  ·subst hi;rw[if_pos rfl]at h;cases h;exact⟨v,ly rfl,b1⟩
  ·rw[if_neg (by grind)]at h
   rw[lz hi];exact AR h b2
def EX(bq:bu K F q v)(b:au K F ps (kvs.map (·.2))) :
  ∃kY vB,eO false [j] q (kvs.map λy=>[y.1]) ps=⟨.eV false kY,vB⟩/\(putK kvs j v).map (λy=>[y.1])=kY/\au K F vB ((putK kvs j v).map (·.2)):=by
 unfold eO putK;rw[uF,vW];cases e:(nQ kvs j).isSome with
 | false=>exact⟨_,_,rfl,by simp,by simpa using b.append (.cons bq .nil)⟩
 | true =>
  refine⟨_,_,rfl,?_,?_⟩
  ·rw[if_pos rfl,mF];exact yd λy _=>by grind
  ·rw[if_pos rfl];clear e;induction kvs generalizing ps with
   | nil=>rw[eu,wm];exact b
   | cons y r ih =>
    cases ps with
    | nil=>have:=b.length;simp at this
    | cons p ps =>
     obtain⟨v',w,e,b1,b2⟩:=b.bT;simp only[aQ,yv]at e;obtain⟨rfl,rfl⟩:=e;have ih:=ih b2;by_cases hy:y.1=j
     ·simpa only[aQ,mQ,hy,fU]using au.cons bq ih
     ·have:¬ [y.1]=[j]:=by grind
      simpa only[aQ,mQ,hy,this,fF]using au.cons b1 ih
def za(k:List dG)(xs:List (List dG×Addr×Value)):jj k (xs.map (·.1))=(atKey xs k).isSome:=(Cp xs k).symm
theorem AS:∀{xs:List (List dG×Addr×Value)} {ps:List PV} {vs:List V} {p:PV},dO k (xs.map (·.1)) ps=some p->au K F ps vs->Vals vs (xs.map (·.2.2))->∃a r v,atKey xs k=some (a,r)/\RelV v r/\bu K F p v
 | [],_,_,_,h,_,_=>by cases h
 | x::r,[],_,_,h,_,_=>by cases h
 | x::r,q::ps,vs,p,h,b,rv=>by
  obtain⟨v',w,rfl,b1,b2⟩:=b.bT;cases rv with
  | cons r1 r2 =>
   have h:(if x.1=k then some q else dO k (r.map (·.1)) ps)=some p:=h
   by_cases hi:x.1=k
   ·rw[if_pos hi]at h;cases h;exact⟨x.2.1,x.2.2,v',by simp[atKey,hi],r1,b1⟩
   ·rw[if_neg hi]at h;obtain⟨a,r',v,h1,h2,h3⟩:=AS h b2 r2;exact⟨a,r',v,by unfold atKey at h1 ⊢;rw[oO,cz hi];exact h1,h2,h3⟩
def NK(bq:bu K F q v)(rq:RelV v r)(hc:gw K F.F c (k.map kV))(hk:fG K F.F xs)(b:au K F ps vs)(rv:Vals vs (xs.map (·.2.2))) :
  ∃kY vB vC,eO true k q (xs.map (·.1)) ps=⟨.eV true kY,vB⟩/\(storedH xs k c r).map (·.1)=kY/\fG K F.F (storedH xs k c r)/\au K F vB vC/\Vals vC ((storedH xs k c r).map (·.2.2)):=by
 unfold eO storedH;rw[za];cases e:(atKey xs k).isSome with
 | false =>
  refine⟨_,_,vs++[v],rfl,by simp,λx hx=>?_,b.append (.cons bq .nil),by simpa using rv.append (.cons rq .nil)⟩
  simp only[iY,fF,cW,cm]at hx;rcases hx with hx | rfl
  ·exact hk x hx
  ·exact hc
 | true =>
  simp only[fU];have hm:(xs.map (putAt k r)).map (·.1)=xs.map (·.1):=by
   rw[mF];exact yd λy _=>by simp only[Function.comp,putAt];split<;>rfl
  have key:fG K F.F (xs.map (putAt k r)):=λx hx=>by
   obtain⟨y,hy,rfl⟩:=ez.mp hx;have:=hk y hy;unfold putAt;split<;>exact this
  suffices h:∃vC,au K F (mQ k q (xs.map (·.1)) ps) vC/\Vals vC ((xs.map (putAt k r)).map (·.2.2)) by
   obtain⟨vC,h1,h2⟩:=h;exact⟨_,_,vC,rfl,hm,key,h1,h2⟩
  clear e hk hm key;induction xs generalizing ps vs with
  | nil=>exact⟨vs,by rw[eu,wm];exact b,rv⟩
  | cons x xs ih =>
   cases ps with
   | nil=>rw[b.cB]at rv;cases rv
   | cons p ps =>
    obtain⟨v',w,rfl,b1,b2⟩:=b.bT;cases rv with
    | cons r1 r2 =>
     obtain⟨vC,h1,h2⟩:=ih b2 r2;by_cases hx:x.1=k
     ·exact⟨v::vC,by simpa only[aQ,mQ,hx,fU]using au.cons bq h1,by simpa only[aQ,putAt,hx,fU]using Paired.cons rq h2⟩
     ·exact⟨v'::vC,by simpa only[aQ,mQ,hx,fF]using au.cons b1 h1,by simpa only[aQ,putAt,hx,fF]using Paired.cons r1 h2⟩
end
def aI:G2:=λh p q=>match p with
 | .str z=>(lG q).bind λi=>if z.length<=gy then(qN z.cps.toList i).map λc=>.str ⟨#[c]⟩else none
 | p=>match cR h p with
  | some (.aj,ps)=>(lG q).bind (qN ps)
  | some (.lst,ps)=>(lG q).bind (qN ps)
  | some (.eV t ks,ps)=>(iM t q).bind λk=>dO k ks ps
  | _=>none
section
variable {X:Cx} {aa:Hp} {ae:Fz} {a b e:Expr} {fa fb:Gx PV} {pos:Pos}
def ixT(hu:X.A.units+1150<cLine):Qc X (rT X.K aI):=by
 rintro value slice af s σ H x y v u Q I rx ry ⟨aa,ae,F,st,τ,pa,pb,p,e,R,ba,bb,k⟩ hs
 have more:(match cR st.h pa with
  | some (.aj,ps)=>(lG pb).bind (qN ps)
  | some (.lst,ps)=>(lG pb).bind (qN ps)
  | some (.eV t ks,ps)=>(iM t pb).bind λk=>dO k ks ps
  | _=>none)=some p->wpAny (model X.prog X.w) X.A (subscriptTail value slice v u) (EP X af σ Q) X.xe s:=λe=>by
  split at e
  ·rename_i z;obtain⟨i,e1,e2⟩:=aN e;rw[eY e1]at bb;rw[aC.mp bb]at ry;obtain⟨a,vs,rfl,ha,ib⟩:=R.at z ba;obtain⟨w,hw,bw⟩:=ib.qN e2;exact M5 value slice af s σ H _ _ v u Q I rx ry ⟨a,vs,_,w,rfl,rfl,ha.2,hw,k _ H F R (Gr.refl F) bw⟩ hs
  ·rename_i z;obtain⟨i,e1,e2⟩:=aN e;rw[eY e1]at bb;rw[aC.mp bb]at ry;obtain⟨a,vs,rfl,ha,ib⟩:=R.at z ba;obtain⟨w,hw,bw⟩:=ib.qN e2;exact IV value slice af s σ H _ _ v u Q I rx ry ⟨a,vs,_,w,rfl,rfl,iJ.sq ha,hw,k _ H F R (Gr.refl F) bw⟩ hs
  ·rename_i t ks ps z;obtain⟨kk,e1,e2⟩:=aN e;obtain⟨a,vs,rfl,ha,ib⟩:=R.at z ba;cases rx;cases t with
   | false =>
    obtain⟨kvs,g1,g2,g3⟩:=ha;obtain⟨j,rfl,rfl⟩:=lK e1 bb;subst g2 g3;obtain⟨w,hw,bw⟩:=AR e2 ib;obtain⟨_,hd,us,Lh,dd⟩:=AH I.hok (.inl g1);have hr:=Lh.val j;rw[hw]at hr;cases hv:valueAt us j with
    | none=>rw[hv]at hr;exact hr.elim
    | some u' =>
     rw[hv]at hr;exact mH dd.typeIs PySem.F.slot_dict_getitem.lookup (wpAny_getItem_of (rR ry) dd.mapOf hv ⟨w,H,I.tok _,hr,k _ H F R (Gr.refl F) bw⟩) hs
   | true =>
    obtain⟨xs,g1,g2,g3,g4⟩:=ha;obtain⟨c,rfl,hc⟩:=lL e1 bb;cases ry;subst g3;obtain⟨ad,r,w,hw,IW,bw⟩:=AS e2 ib g4;obtain⟨_,hd,dd⟩:=vX I (.inl g1) (λz hz=>bC R.sub (g2 z hz))
    obtain⟨o,_,_,ho,hx,_⟩:=id dd;refine mH ⟨o,ho,hx.1⟩ PySem.F.slot_dict_getitem.lookup (RH (by lia) I (.inl g1) (λz hz=>bC R.sub (g2 z hz)) (bC R.sub hc) hw λs' I'=>⟨w,H,I',IW,k _ H F R (Gr.refl F) bw⟩) hs
  ·cases e
 cases pa with
 | str z =>
  obtain⟨i,e1,e2⟩:=aN e;rw[eY e1]at bb;obtain⟨hz,e2⟩:=bL e2;obtain⟨c,e3,rfl⟩:=aO e2;rw[bH.mp ba]at rx;rw[aC.mp bb]at ry;exact M6 value slice af s σ H _ _ v u Q I rx ry ⟨z,i,c,rfl,rfl,eF hz,e3,k _ H F R (Gr.refl F) (bH.mpr rfl)⟩ hs
 | az=>exact more e
 | bl _=>exact more e
 | int _=>exact more e
 | ref _=>exact more e
 | fn _=>exact more e
 | nd _ _=>exact more e
def WD(hu:X.A.units+1150<cLine)(ha:PE X a (tE X aa ae fa))(hb:PE X b (tE X aa ae fb))(hs:lq b):PE X (.Subscript a b pos) (tE X aa ae (op2 aI fa fb)):=(Ex (ixT hu) ha hb hs).imp λ_ _ _ h=>om h
def Li(n:Bool):G2:=λh p q=>match cR h q with
 | some (.eV t ks,_)=>(iM t p).map λk=>.bl (if n=true then !jj k ks else jj k ks)
 | _=>(EH h q).bind λqs=>(WB h p qs).map λb=>.bl (if n=true then !b else b)
def NL(hu:X.A.units+1150<cLine):oj X (compareOp .In) (Li false):=by
 rintro af s σ H x y v u Q I rx ry ⟨aa,ae,F,st,τ,pa,pb,p,e,R,ba,bb,k⟩
 unfold Li at e;split at e
 ·rename_i t ks ps z;obtain⟨kk,e1,rfl⟩:=aO e;obtain⟨a,vs,rfl,ha,ib⟩:=R.at z bb;cases ry;cases t with
  | false =>
   obtain⟨kvs,g1,g2,g3⟩:=ha;obtain⟨j,rfl,rfl⟩:=lK e1 ba;obtain⟨_,hd,us,Lh,dd⟩:=AH I.hok (.inl g1);refine wpAny_in_of (rR rx) hd dd.mapOf ⟨.bl (nQ kvs j).isSome,H,I.tok _,?_,k _ H F R (Gr.refl F) (aZ.mpr ?_)⟩
   ·rw[(Lh.val j).rQ];rfl
   ·rw[<-g2,uF];rfl
  | true =>
   obtain⟨xs,g1,g2,g3,g4⟩:=ha;obtain⟨c,rfl,hc⟩:=lL e1 ba;cases rx;exact RF (by lia) I (.inl g1) (λz hz=>bC R.sub (g2 z hz)) (bC R.sub hc) λs' I'=>⟨.bl _,H,I',rfl,k _ H F R (Gr.refl F) (aZ.mpr (by rw[<-g3,za];rfl))⟩
 ·obtain⟨qs,e1,e⟩:=aN e;obtain⟨b,e2,rfl⟩:=aO e;exact(EO hu I rx ry R ba bb e1 e2).1 (k _ H F R (Gr.refl F) (aZ.mpr rfl))
def Cz(hu:X.A.units+1150<cLine):oj X (compareOp .NotIn) (Li true):=by
 rintro af s σ H x y v u Q I rx ry ⟨aa,ae,F,st,τ,pa,pb,p,e,R,ba,bb,k⟩
 unfold Li at e;split at e
 ·rename_i t ks ps z;obtain⟨kk,e1,rfl⟩:=aO e;obtain⟨a,vs,rfl,ha,ib⟩:=R.at z bb;cases ry;cases t with
  | false =>
   obtain⟨kvs,g1,g2,g3⟩:=ha;obtain⟨j,rfl,rfl⟩:=lK e1 ba;obtain⟨_,hd,us,Lh,dd⟩:=AH I.hok (.inl g1);refine wpAny_notIn_of (rR rx) hd dd.mapOf ⟨.bl (!(nQ kvs j).isSome),H,I.tok _,?_,k _ H F R (Gr.refl F) (aZ.mpr ?_)⟩
   ·rw[(Lh.val j).rQ];rfl
   ·rw[<-g2,uF];rfl
  | true =>
   obtain⟨xs,g1,g2,g3,g4⟩:=ha;obtain⟨c,rfl,hc⟩:=lL e1 ba;cases rx;exact RG (by lia) I (.inl g1) (λz hz=>bC R.sub (g2 z hz)) (bC R.sub hc) λs' I'=>⟨.bl _,H,I',rfl,k _ H F R (Gr.refl F) (aZ.mpr (by rw[<-g3,za];rfl))⟩
 ·obtain⟨qs,e1,e⟩:=aN e;obtain⟨b,e2,rfl⟩:=aO e;exact(EO hu I rx ry R ba bb e1 e2).2 (k _ H F R (Gr.refl F) (aZ.mpr rfl))
end
def EY:G2:=λ_ p q=>match q with | .az=>some (.bl (!EM p)) | .bl b=>(WA b p).map λc=>.bl (!c) | _=>none
def Jv:oj X (compareOp .IsNot) EY:=by
 rintro af s σ H x y v u Q I rx ry ⟨aa,ae,F,st,τ,pa,pb,p,e,R,ba,bb,k⟩
 unfold EY at e;split at e
 ·cases e;exact IE af s σ H x y v u Q I rx ry ⟨cN.mp bb,k _ H F R (Gr.refl F) (aZ.mpr (by rw[AM ba]))⟩
 ·rename_i b;obtain⟨c,e1,rfl⟩:=aO e;obtain⟨a,rfl,rfl⟩:=wa e1;rw[aZ.mp ba]at rx;rw[aZ.mp bb]at ry;cases rx;cases ry;exact wpAny_isNot_plain rfl ⟨.bl _,H,I,(by cases a<;>cases b<;>rfl),k _ H F R (Gr.refl F) (aZ.mpr rfl)⟩
 ·cases e
def YU:G2:=mM (λ_ _=>true) λi j=>.bl (decide (j<i))
def Jw:G2:=λh p q=>match p,q with
 | .str a,.str b=>some (.bl (!(decide (b.cps.toList<a.cps.toList))))
 | p,q=>YS h p q
def NM:oj X (compareOp .LtE) Jw:=by
 rintro af s σ H x y v u Q I rx ry ⟨aa,ae,F,st,τ,pa,pb,p,e,R,ba,bb,k⟩
 unfold Jw at e;split at e
 ·cases e;rw[bH.mp ba]at rx;rw[bH.mp bb]at ry;obtain⟨t1,rfl⟩:=rx;obtain⟨t2,rfl⟩:=ry;exact PySem.P.le_str ⟨.bl _,H,I,rfl,k _ H F R (Gr.refl F) (aZ.mpr rfl)⟩
 ·exact eG (rX Rc) (λ_ _ _=>trivial) (λ_ _ _=>aZ.mpr rfl) af s σ H x y v u Q I rx ry ⟨aa,ae,F,st,τ,pa,pb,p,e,R,ba,bb,k⟩
def zb:CmpOp->Option G2
 | .Eq=>some qO
 | .NotEq=>some Qh
 | .Lt=>some Lf
 | .LtE=>some Jw
 | .Gt=>some YU
 | .GtE=>some U3
 | .Is=>some U4
 | .IsNot=>some EY
 | .In=>some (Li false)
 | .NotIn=>some (Li true)
def jF(hu:X.A.units+1150<cLine)(h:zb op=some g):oj X (compareOp op) g:=by
 have nn:∀i j:Int,(λ_ _=>true) i j=true->(λ_ _=>True) i j:=by grind
 cases op<;>cases h
 ·exact Ny hu
 ·exact Nz hu
 ·exact eG (rX Rb) nn λ_ _ _=>aZ.mpr rfl
 ·exact NM
 ·exact eG (rX Rf) nn λ_ _ _=>aZ.mpr rfl
 ·exact eG (rX Rg) nn λ_ _ _=>aZ.mpr rfl
 ·exact NA
 ·exact Jv
 ·exact NL hu
 ·exact Cz hu
end L2.U
namespace L2
open PySem PySem.Spec PyProof.Rows
section
variable {X:Cx}
def EZ:PE X (.Dict [] [] pos) (Lb (.dK [])):=λaf s σ H Q I h =>
 wpAny_Dict_empty ⟨.ref s.heap.objs.size,_,I.laid (o:=.dK []) (λ_ _ q=>aH _ q) (aD _)
  ⟨ja _,bI.mpr (bZ (br (pG I))),[],.nil,Heap.DictOf.new s.heap⟩,rfl,h _ (I.hok.fresh (aD _))⟩
def NN(K:W.Frag):V->List V->Hp->VK->Prop:=λx vs H Q=>∃l b xs zs,x=.ref l/\vs=[.ref b]/\H l=some (.lst xs)/\(gw K H b zs\/iJ K H b zs)/\xs.length+zs.length<=sizeLine/\Q .az (cK H l (.lst (xs++zs)))
def uG(l:Addr)(ar:Array Value)(n:Nat)(b:Addr)(more:Array Value)(n2:Nat)(dd:Option Addr)(sl:Array (Option Value))(h0:¬(!ar.isEmpty&&Builtin.List.listTooLong (ar.size+more.size))=true)(h1:ar.size<=sizeLine)(h2:ar.size+more.size<=sizeLine+1) :
  Meets (Builtin.«list.extend» ⟨[.ref l,.ref b],[]⟩) (λ_ R s=>s.heap.get? l=some {cls:=.type "list",dict:=none,data:=.seq ar n,slots:=#[]}/\s.heap.get? b=some {cls:=.type "tuple",dict:=dd,data:=.seq more n2,slots:=sl} /\
   R (.ok (.ret Value.none)) {s with heap:=s.heap.update l (Obj.mapSeq λx=>x++more),toks:=s.toks}) :=
 .of_wp λprog w A R s h=>by
  obtain⟨hp,g,d,tk,os⟩:=s;obtain⟨hl,hb,h⟩:=h;have f1:=AutoSeq1.idx_int;have f2:=AutoSeq1.sub_tuple_tuple;have f3:=AutoSeq1.sub_list_list;have f4:=AutoSeq1.sub_tuple_list;have f5:=AutoSeq1.sub_list_tuple
  wp_walk using (oM hl rfl (_hz':=(by rw[Array.size_append];exact h2))),iW hl,iW hb
  exact⟨_,rfl,h⟩
def NO:Wo X "list.extend" (NN X.K):=by
 intro af s σ H x vs v us Q I rx rv h;obtain⟨l,b,xs,zs,rfl,rfl,hH,hB,hz,q⟩:=h;cases rx;obtain⟨u,rfl,ru⟩:=rv.one;cases ru;obtain⟨z,ar,n,r,hl,e⟩:=I.fH hH;have go:∀eN,Vals zs eN->(¬(!ar.toArray.isEmpty&&Builtin.List.listTooLong (ar.toArray.size+eN.toArray.size))=true/\ar.toArray.size<=sizeLine/\ar.toArray.size+eN.toArray.size<=sizeLine+1) /\
   EP X af σ Q Value.none {s with heap:=s.heap.update l (Obj.mapSeq λx=>x++eN.toArray),toks:=s.toks}:=λeN r2=>by
  have HJ:=r2.length;have hsz:ar.toArray.size+eN.toArray.size<=sizeLine:=by grind
  refine⟨⟨?_,by grind,(Nat.le_add_right_of_le ‹_›)⟩,.az,_,I.M9 hH e (by simp) (r.append r2) (by grind),rfl,q⟩
  rw[vU hsz,ay];exact cQ
 rcases hB with hB | hB
 ·obtain⟨eN,r2,⟨⟨cls,dd,dat,sl⟩,e2,hc,n2,hd⟩,_⟩:=I.tuple hB;simp only at hc hd;subst hc hd;obtain⟨⟨g1,g2,g3⟩,g4⟩:=go eN r2;exact fE F.slot_list_extend ⟨_,e,rfl⟩ F.entry_list_extend (F.args_list_extend_2 _ _) (uG l ar.toArray n b eN.toArray n2 dd sl g1 g2 g3) ⟨e,e2,g4⟩
 ·obtain⟨eN,n2,r2,e2,_⟩:=I.pP hB;obtain⟨⟨g1,g2,g3⟩,g4⟩:=go eN r2;exact fE F.slot_list_extend ⟨_,e,rfl⟩ F.entry_list_extend (F.args_list_extend_2 _ _) (AutoSeq1.list_extend_list_list_0 l ar.toArray n b eN.toArray n2 g1 g2 g3) ⟨e,e2,g4⟩
def AU(kvs:List (dG×V))(k:dG)(v:V):(putK kvs k v).length<=kvs.length+1:=by
 unfold putK;split
 ·grind
 ·grind
def Sk:Ec:=λo i v H Q=>∃a kvs k,o=.ref a/\i=kV k/\H a=some (.dK kvs)/\kvs.length<sizeLine/\Q (cK H a (.dK (putK kvs k v)))
def NP:Ed X Sk:=by
 rintro af s σ H o i v ov iv u Q I ro ri rv ⟨a,kvs,k,ex,ey,e1,e2,q⟩
 subst ex ey;cases ro;obtain⟨z,hd,vs,Lh,dd⟩:=RE I.hok e1;refine wpAny_setItem_pairs (rR ri) dd (λh' U0 Sl=>?_) (by rw[<-Lh.length];exact z)
 have WE:=Lh.put k rv;have he:∃q,h'.get? a=some q:=let ⟨q,_,_,hq,_⟩:=U0;⟨q,hq⟩
 exact⟨_,I.write (o:=.dK (putK kvs k v)) (by rw[e1];exact True.intro) (.inl rfl) (λc q' hc z=>(Sl.2 c hc).trans z) he ⟨by have:=AU kvs k v;lia,hd,_,WE,U0⟩,q⟩
def Sm(K:W.Frag):Ec:=λo i v H Q=>∃a b xs k,o=.ref a/\i=.ref b/\H a=some (.dT xs)/\fG K H xs/\gw K H b (k.map kV)/\xs.length<sizeLine/\∀r,RelV v r->Q (cK H a (.dT (storedH xs k b r)))
def NQ(hu:X.A.units+1<cLine):Ed X (Sm X.K):=by
 rintro af s σ H o i v ov iv u Q I ro ri rv ⟨a,b,xs,k,ex,ey,e1,e2,e3,e4,q⟩
 subst ex ey;cases ro;cases ri;exact Na hu I e1 e2 e3 e4 λs4 I4=>⟨_,I4,q u rv⟩
end
end L2
namespace L2.U
open PySem PySem.Spec PyProof.Rows
abbrev MG:=ah->List PV->Option (ah×PV)
def kF(h:List ah):PV->Option (Nat×ah)
 | .ref n=>(h[n]?).bind λc=>if live c=true then some (n,c)else none
 | _=>none
def fQ(e:kF h p=some (n,c)):p=.ref n/\h[n]?=some c/\live c=true:=by
 cases p with
 | ref m =>
  obtain⟨d,e1,e2⟩:=aN e;obtain⟨hl,e3⟩:=aA e2;cases e3;exact⟨rfl,e1,hl⟩
 | _=>cases e
def ie(g:MG)(p:PV)(as:List PV):Gx PV:=λst=>(kF st.h p).bind λc=>(g c.2 as).map λr=>(.ok r.2,⟨st.ρ,st.h.set c.1 r.1⟩)
section
variable {X:Cx} {aa H:Hp} {ae F:Fz} {st:cb} {σ:St}
def E2(K:W.Frag)(r:V->List V->Hp->VK->Prop)(g:MG):Prop:=∀(aa H:Hp) (ae F:Fz) (st:cb) (σ:St) (n:Nat) (c c':ah) (a:Addr) (as:List PV) (ws:List V) (q:PV) (Q:VK),
 Rep K aa ae F st σ H->st.h[n]?=some c->live c=true->F.μ[n]?=some a->g c as=some (c',q)->au K F as ws->(∀v F' H',Rep K aa ae F' ⟨st.ρ,st.h.set n c'⟩ σ H'->Gr F F'->bu K F' q v->Q v H')->r (.ref a) ws H Q
def Rep.put(R:Rep X.K aa ae F st σ H){c d:ah}(hc:st.h[n]?=some c)(hl:live c=true)(ha:F.μ[n]?=some a)(hn:kx X.K F.F (cK H a o) a true d.k vs)(hb:au X.K F d.ps vs) :
  Rep X.K aa ae F ⟨st.ρ,st.h.set n d⟩ σ (cK H a o):=⟨R.c.write hc hl ha hn hb,R.l⟩
noncomputable def fH(f:List PV->List PV->Option (List PV)):MG:=λc as=>match c.k with
 | .lst=>(f c.ps as).map λqs=>(⟨.lst,qs⟩,.az)
 | _=>none
def Jx
  (h:∀(H:Hp) (F:Fz) (ps as qs:List PV) (vs ws:List V) (a:Addr) (Q:VK) (h:List ah),b8 F.F H->f ps as=some qs->H a=some (.lst vs)->au X.K F ps vs->au X.K F as ws->(∀vC,au X.K F qs vC->Q .az (cK H a (.lst vC)))->r (.ref a) ws H Q):E2 X.K r (fH f):=by
 intro aa H ae F st σ n c c' a as ws q Q R hc hl ha hg hb k;unfold fH at hg;split at hg
 ·rename_i hk;obtain⟨qs,e1,e2⟩:=aO hg;cases e2;obtain⟨_,vs,h2,h3⟩:=R.c.cell n c a hc ha hl;rw[hk]at h2;exact h H F c.ps as qs vs ws a Q st.h R.sub e1 h2 h3 hb λvC b'=>k _ F _ (R.put hc hl ha aw b') (Gr.refl _) (cN.mpr rfl)
 ·cases hg
def iC:List PV->List PV->Option (List PV):=λps as=>match as with | [p]=>if ps.length<gy then some (ps++[p])else none | _=>none
def Jy:E2 X.K AG (fH iC):=Jx λH F ps as qs vs ws a Q h hs hf ha bp ba k=>by
 unfold iC at hf;split at hf
 ·obtain⟨hl,rfl⟩:=aA hf;obtain⟨v,rfl,b⟩:=dS ba;exact⟨a,vs,v,rfl,rfl,ha,by rw[<-bp.length];exact bM hl (eF (aD _)),k _ (bp.append ba)⟩
 ·cases hf
def qY(p:PV)(as:List PV):Gx PV:=λst=>match as with
 | [q]=>(EH st.h q).bind λrs=>ie (fH λps _=>if ps.length+rs.length<=gy then some (ps++rs)else none) p [] st
 | _=>none
def Tx.mut(hg:E2 X.K r g)(h:Tx X aa ae (bu X.K) F st (ie g p as) σ Q)(R:Rep X.K aa ae F st σ H)(bp:bu X.K F p v)(ba:au X.K F as ws):r v ws H Q:=by
 obtain⟨q,h1,h2⟩:=h;obtain⟨⟨n,c⟩,e1,e2⟩:=aN h1;obtain⟨⟨c',x⟩,e3,e4⟩:=aO e2;subst e4;obtain⟨rfl,hc,hl⟩:=fQ e1;obtain⟨a,ha,rfl⟩:=de.mp bp;exact hg aa H ae F st σ n c c' a as ws x Q R hc hl ha e3 ba λv F' H' R' g' b'=>h2 v H' F' R' g' b'
def Tx.ext{Q:VK}(h:Tx X aa ae (bu X.K) F st (qY p as) σ Q)(R:Rep X.K aa ae F st σ H)(bp:bu X.K F p v)(ba:au X.K F as ws):NN X.K v ws H Q:=by
 obtain⟨x,h1,h2⟩:=h;unfold qY at h1;split at h1
 ·rename_i q;obtain⟨rs,e0,h1⟩:=aN h1;obtain⟨w,rfl,bw⟩:=dS ba;obtain⟨b,zs,rfl,hs,hb⟩:=R.seq e0 bw;obtain⟨⟨n,c⟩,e1,e2⟩:=aN h1;obtain⟨⟨c',y⟩,e3,e4⟩:=aO e2;subst e4;obtain⟨rfl,hc,hl⟩:=fQ e1;obtain⟨a,ha,rfl⟩:=de.mp bp;unfold fH at e3;split at e3
  ·rename_i hk;obtain⟨qs,e5,e6⟩:=aO e3;cases e6;obtain⟨hz,rfl⟩:=aA e5;obtain⟨_,vs,g2,g3⟩:=R.c.cell n c a hc ha hl;rw[hk]at g2;exact⟨a,b,vs,zs,rfl,rfl,g2,hs,by rw[<-g3.length,<-hb.length];exact eF hz,h2 .az _ F (R.put hc hl ha aw (g3.append hb)) (Gr.refl _) (cN.mpr rfl)⟩
  ·cases e3
 ·cases h1
end
section
variable {prog:Program} {w:World} {A:Around} {R:Result->Shared->Prop} {s:Shared}
abbrev nb(prog:Program)(w:World)(A:Around)(env:Env)(R:Result->Shared->Prop):Value->Shared->Prop:=notedBy (model prog w) A env λe s'=>R (.error e) s'
noncomputable abbrev AV(ifs:List Expr)(env:Env):Sem Bool:=forIn ifs true λc r=>if r=true then do let ok <-isTrue c env (eval c env);pure (ForInStep.yield ok)else pure (ForInStep.yield r)
def CA(I:Nat->Shared->Prop)
  (pe:∀n s,I n s->wpAny (model prog w) A (pyNext it) (λr s1=>match r with
   | none=>R (.ok .next) s1
   | some v=>wpAny (model prog w) A (letOwnedTupleGo tg it v) (λ_ YV=>wpAny (model prog w) A (assign tg env v) (λ_ s2=>wpAny (model prog w) A (AV ifs env) (λok s3 =>
      if ok=true then wpAny (model prog w) A (eval elt env) (λx s4=>wpAny (model prog w) A (call (.builtin "list.append") [acc,x]) (λ_ s5=>∃m,m<n/\I m s5) (nb prog w A env R) s4) (nb prog w A env R) s3
      else ∃m,m<n/\I m s3) (nb prog w A env R) s2) (nb prog w A env R) YV) (nb prog w A env R) s1) (nb prog w A env R) s)
  (n:Nat) (h:I n s):codeAny (model prog w) A (.compLoop (.ListComp elt [⟨tg,iter,ifs,0⟩] scope pos) 0 it acc env) R s:=by
 refine codeAny_loop rfl I (λn s hI=>?_) n h
 refine wpAny_noted ?_;rw[compTurn_list];refine ag (ua (ag (thn (pe n s hI) λr s1 h1=>?_)))
 cases r with
 | none=>exact aq h1
 | some v =>
  refine ag (thn h1 λ_ YV h1'=>ag (thn h1' λ_ s2 h2=>ag (thn h2 λok s3 h3=>?_)))
  cases ok with
  | false=>exact aq ⟨rfl,h3⟩
  | true=>exact ag (ag (thn h3 λx s4 h4=>ag (thn h4 λ_ s5 h5=>aq (aq ⟨rfl,h5⟩))))
end
noncomputable def mR(env:Env):List (Str×NameKind)->List (Str×Addr)->List (Str×Addr)
 | [],cs=>cs
 | (n,k)::r,cs=>mR env r (if k==.free then(match env.cells.lookup n with | some c=>(n,c)::cs | none=>cs)else cs)
def zc(h:∀y∈scope.names,y.2=.free->∃c,env.cells.lookup y.1=some c):closureFor scope env=pure (mR env scope.names []):=by
 have all:∀(l:List (Str×NameKind)) (cs:List (Str×Addr)),(∀y∈l,y.2=.free->∃c,env.cells.lookup y.1=some c) ->
   (forIn l cs λx r=>(match x with | (name,kind)=>if(kind==NameKind.free)=true then do let a <-cellOf env name;pure (ForInStep.yield ((name,a)::r))else pure (ForInStep.yield r):Sem (ForInStep (List (Str×Addr)))))=pure (mR env l cs):=by
  intro l;induction l with
  | nil=>intro cs _;rfl
  | cons y l ih =>
   intro cs hl;obtain⟨n,k⟩:=y;rw[oP];by_cases hk:k=.free
   ·subst hk;obtain⟨c,hc⟩:=hl (n,.free) dk rfl;have yH:=hc;have e1:cellOf env n=pure c:=by unfold cellOf;rw[yH]
    simp only[e1,mR,yH];exact ih _ λy hy=>hl y (cO _ hy)
   ·have hb:(k==NameKind.free)=false:=by simpa using hk
    simp only[hb,mR];exact ih _ λy hy=>hl y (cO _ hy)
 unfold closureFor;have:=all scope.names [] h;simp only[bind_pure]at this ⊢;exact this
theorem wo:∀(l:List (Str×NameKind)) (cs:List (Str×Addr)) (p:Str×Addr),p∈mR env l cs->p∈cs\/env.cells.lookup p.1=some p.2
 | [],_,_,h=>.inl h
 | (n,k)::r,cs,p,h=>by
  unfold mR at h;rcases wo r _ p h with q | q
  ·grind
  ·grind
def dr(h:(mR env l []).lookup x=some c):env.cells.lookup x=some c:=by
 rcases wo l [] (x,c) (eR h)with q | q
 ·cases q
 ·exact q
theorem rZ:∀(l:List (Str×NameKind)) (cs:List (Str×Addr)),(∃c,(x,c)∈cs)->∃c,(x,c)∈mR env l cs
 | [],_,h=>h
 | (n,k)::r,cs,⟨c,h⟩=>by
  unfold mR;refine rZ r _ ⟨c,?_⟩;split
  ·grind
  ·exact h
theorem pX:∀(l:List (Str×NameKind)) (cs:List (Str×Addr)),(x,NameKind.free)∈l->(∃c,env.cells.lookup x=some c)->∃c,(x,c)∈mR env l cs
 | [],_,h,_=>by cases h
 | (n,k)::r,cs,h,hc=>by
  unfold mR;rcases bh.mp h with z | z
  ·cases z;obtain⟨c,e⟩:=hc;refine rZ r _ ⟨c,?_⟩;simp[e]
  ·exact pX r _ z hc
theorem gR:∀{l:List (Str×Addr)},(x,c)∈l->∃c',l.lookup x=some c'
 | [],h=>by cases h
 | (n,d)::r,h=>by
  rw[ek];cases hx:x==n with
  | true=>exact⟨d,rfl⟩
  | false =>
   rcases bh.mp h with z | z
   ·grind
   ·exact gR z
def cf(X:Cx)(N:List Str)(scope:Scope)(C:Addr)(s:Shared)(H:Hp)(fp:List Addr):Cx where
 prog:=X.prog
 w:=X.w
 K:=X.K
 mg:=X.mg
 base:=X.base
 A:=X.A
 N:=N
 s₀:=s
 aa:=H
 env:=compEnvC scope (mR X.env scope.names []) C X.env
 ax:=X.stack
 stack:=X.stack
 ex:=fp
 fn:=λ_=>false
 calm:=X.calm
 pn:=[]
 xe:=λ_ _=>False
theorem fZ{env:Env}:∀(names:List (Str×NameKind)) (x:Str),(names.map fun(n,k)=>if(k==NameKind.free&&env.scope.kind==.function&&env.kindOf n==some .cell)then(n,NameKind.cell)else(n,k)).lookup x =
  (names.lookup x).map λk=>if(k==NameKind.free&&env.scope.kind==.function&&env.kindOf x==some .cell)then NameKind.cell else k
 | [],_=>rfl
 | (n,j)::r,x=>by
  have e:(if(j==NameKind.free&&env.scope.kind==.function&&env.kindOf n==some .cell)=true then(n,NameKind.cell)else(n,j))=(n,if(j==NameKind.free&&env.scope.kind==.function&&env.kindOf n==some .cell)=true then NameKind.cell else j):=by split<;>rfl
  show List.lookup x ((if(j==NameKind.free&&env.scope.kind==.function&&env.kindOf n==some .cell)=true then(n,NameKind.cell)else(n,j))::_)=_
  rw[e,ek,ek];cases hx:x==n with
  | true =>
   have CB:=aU hx;subst CB;rfl
  | false=>exact fZ r x
def lM{env:Env}{names:List (Str×NameKind)}(h:(names.map fun(n,k)=>if(k==NameKind.free&&env.scope.kind==.function&&env.kindOf n==some .cell)then(n,NameKind.cell)else(n,k)).lookup x=some k) :
  names.lookup x=some k\/(k=.cell/\names.lookup x=some .free):=by
 rw[fZ]at h;cases z:names.lookup x with
 | none=>rw[z]at h;cases h
 | some j =>
  rw[z]at h;have h:(if(j==NameKind.free&&env.scope.kind==.function&&env.kindOf x==some .cell)=true then NameKind.cell else j)=k:=by grind
  split at h
  ·grind
  ·grind
def uH{env:Env}{names:List (Str×NameKind)}(h:names.lookup x=some .free) :
  (names.map fun(n,k)=>if(k==NameKind.free&&env.scope.kind==.function&&env.kindOf n==some .cell)then(n,NameKind.cell)else(n,k)).lookup x=some .cell \/
  (names.map fun(n,k)=>if(k==NameKind.free&&env.scope.kind==.function&&env.kindOf n==some .cell)then(n,NameKind.cell)else(n,k)).lookup x=some .free:=by
 rw[fZ,h];show some (if _ then _ else _)=_\/some (if _ then _ else _)=_
 split
 ·grind
 ·grind
structure ig (X:Cx) (N:List Str) (link:List (Option Nat)) (scope:Scope):Prop where
 kind:scope.kind=.function
 cell:∀y∈scope.names,y.2≠.cell
 names:∀y∈scope.names,y.2=.local->scope.names.lookup y.1=some .local
 free:∀y∈scope.names,y.2=.free->(X.env.kindOf y.1=some .cell\/X.env.kindOf y.1=some .free)
 len:link.length=N.length
 link:∀(i j:Nat) (x:Str),link[i]?=some (some j)->N[i]?=some x->X.N[j]?=some x/\scope.names.lookup x=some .free
noncomputable def iN(link:List (Option Nat))(σ:St):St:=link.map λo=>o.bind λj=>(σ[j]?).join
section
variable {X:Cx} {af:List (Addr×Obj)} {σ:St} {H:Hp} {s:Shared}
def Inv.adopt(I:Inv X af σ H s)(hn:H D=none)(h1:X.s₀.heap.objs.size<=D)(h2:D≠X.env.locals)(h3:∀x c,X.env.cells.lookup x=some c->c≠D)(h4:∀p∈X.pn++af,p.1≠D)
  (ho:fg X.prog X.w (cK H D o) s.heap D o):Inv X af σ (cK H D o) s:=by
 have ne:∀b u,H b=some u->b≠D:=λb u e z=>by rw[z,hn]at e;cases e
 refine I.step (ch:=[D]) (λb hb=>?_) (λb u _ _ _ e _=>e) (λb u _ _ _ e _=>⟨u.slots,e⟩) (λb u hc _ n=>?_) (λb u _ e=>⟨u,e⟩)
  (λb xs e=>by rw[aK (ne b _ e)];exact e) (λb u xs e=>by rw[aK (ne b _ e)];exact e) (λb ps e=>by rw[aK (ne b _ e)];exact e) (λm hm=>hm) (λb u e=>?_) I.bare
 ·have e:b=D:=by simpa using hb
  subst e;exact⟨.inr h1,h2,h3,h4⟩
 ·rw[aK (λz=>hc (by simp[z]))];exact n
 ·by_cases hb:b=D
  ·subst hb;rw[aw]at e;cases e;exact ho
  ·rw[aK hb]at e;exact(I.hok b u e).vJ (λ_ _ _ q=>q) (λc q=>by rw[aK (ne c _ q)];exact q) (λc xs q=>by rw[aK (ne c _ q)];exact q) λc ob v q=>by rw[aK (ne c _ q)];exact q
def zd{N:List Str}{link:List (Option Nat)}(S:ig X N link scope)(I:Inv X af σ H s)(U6:∀b∈fp,pf X af H b)
  (hC:s.heap.objs.size<=C) (ns:h.Ns C λ_=>none) (hk:∀b o,s.heap.get? b=some o->h.get? b=some o) (hex:∀b∈fp,∃o,s.heap.get? b=some o) :
  Inv (cf X N scope C s H fp) [] (iN link σ) H {s with heap:=h,toks:=tk}:=by
 have vM:∀y∈scope.names,y.2=.free->∃c,X.env.cells.lookup y.1=some c:=λy hy hf=>I.ok.has y.1 (S.free y hy hf)
 have WG:∀x c,X.env.cells.lookup x=some c->c<s.heap.objs.size:=λx c e=>let ⟨v,o,ho,_⟩:=I.cell x c e;aG ho
 refine⟨⟨I.ok.mod,S.kind,I.ok.glob,I.ok.blt,hC,λx y c h1 h2=>I.ok.inj x y c (dr h1) (dr h2),λx hx=>?_,λx c hx=>(by cases hx),I.ok.hd,I.ok.frames,.inl rfl,λb hb=>⟨?_,λx c e=>(U6 b hb).2.2.2.2.1 x c (dr e)⟩,I.bs,aP I.ok.bsz I.sz,
  λb o e hb=>?_,λb hb z=>?_,I.stack,I.uh,I.tabs⟩,rfl,I.bare,Un.kept hk,⟨_,ns,λi x v e1 e2 e3=>?_⟩,λx c e=>?_,I.hok.fresh hC,λx c e=>I.freeC x c (dr e),λp hp=>(by cases hp),I.hok.kept hk,by unfold iN;rw[aM];exact S.len⟩
 ·-- HW cells Vz there
  have CB:=hx;have hf:scope.names.lookup x=some .free:=by
   rcases CB with h1 | h1
   ·rcases lM h1 with q | ⟨_,q⟩
    ·exact absurd rfl (S.cell _ (eR q))
    ·exact q
   ·rcases lM h1 with q | ⟨z,_⟩
    ·exact q
    ·cases z
  have hm:=eR hf;obtain⟨c,hc⟩:=pX scope.names [] hm (vM _ hm rfl);exact gR hc
 ·intro z;obtain⟨o,ho⟩:=hex b hb;exact absurd (bM (aG ho) (aP hC (i9 z.symm))) (eU _)
 ·rcases(U6 b hb).2.2.2.1 with z | z
  ·exact I.ok.noex b o e z
  ·exact absurd (bM (aG e) (aP I.ok.bsz z)) (eU _)
 ·rcases bh.mp (I.ug b z)with q | q
  ·exact(U6 b hb).2.1 q
  ·exact(U6 b hb).2.2.1 q
 ·-- a slot: YW aa7 from HW WH
  have hi:i<link.length:=by
   have:=(c8.mp e2).1;unfold iN at this
   rwa [aM]at this
  unfold iN at e2;rw[bB,dW hi]at e2;have e2:=bJ e2;cases z:link[i]with
  | none=>rw[z]at e2;cases e2
  | some j =>
   rw[z]at e2;have e2:(σ[j]?).join=some v:=e2;obtain⟨hX,hf⟩:=S.link i j x (by rw[dW hi,z]) e1
   have hm:=eR hf;have YX:=S.free _ hm rfl;obtain⟨m,hn,hl⟩:=I.loc;obtain⟨u,r,l⟩:=hl j x v hX (by
    cases q:σ[j]? with
    | none=>rw[q]at e2;cases e2
    | some q'=>rw[q]at e2;cases q' with
     | none=>cases e2
     | some v'=>cases e2;rfl) (by rcases YX with q | q;exact .inr (.inl q);exact .inr (.inr q))
   refine⟨u,r,.inr ⟨uH hf,?_⟩⟩;obtain⟨c,hc⟩:=pX scope.names [] hm (vM _ hm rfl);obtain⟨c',yH⟩:=gR hc;refine⟨c',yH,?_⟩;rcases l with⟨lk,_⟩ | ⟨_,d,hd,rJ⟩
   ·rcases YX with q | q<;>(rw[show X.env.kindOf x=some .local from lk]at q;cases q)
   ·have:=dr yH;rw[hd]at this;cases this;exact rJ.keeps hk
 ·obtain⟨v,o,ho,hd⟩:=I.cell x c (dr e);exact⟨v,o,hk _ _ ho,hd⟩
end
abbrev TB:=V->St->Hp->(Option V->St->Hp->Prop)->Prop
def PB(X:Cx)(tg:Expr)(ifs:List Expr)(elt:Expr)(tb:TB):Prop :=
 ∀(af:List (Addr×Obj)) (s:Shared) (σ:St) (H:Hp) (v:V) (u:Value) (Q:Option V->St->Hp->Prop),Inv X af σ H s->RelV v u->tb v σ H Q ->
  wpAny (model X.prog X.w) X.A (assign tg X.env u) (λ_ s2=>wpAny (model X.prog X.w) X.A (AV ifs X.env) (λok s3 =>
   if ok=true then wpAny (model X.prog X.w) X.A (eval elt X.env) (λy s4=>∃v' bD H',Inv X af bD H' s4/\RelV v' y/\Q (some v') bD H') X.xe s3
   else ∃bD H',Inv X af bD H' s3/\Q none bD H') X.xe s2) X.xe s
def E3(hg:PG X tg g)(he:PE X elt te):PB X tg [] elt (λv σ H Q=>g v σ H λiz H1=>te iz H1 λy H2=>Q (some y) iz H2):=by
 intro af s σ H v u Q I r h;refine thn (hg af s σ H v u _ I r h) λ_ s2 ⟨iz,H1,I1,q1⟩=>aq ?_
 rw[if_pos rfl];exact thn (he af s2 iz H1 _ I1 q1) (by rintro y s4 ⟨v',H2,I2,r2,q2⟩;exact⟨v',iz,H2,I2,r2,q2⟩)
def Jz(hg:PG X tg g)(hc:PT X c tc)(he:PE X elt te) :
  PB X tg [c] elt (λv σ H Q=>g v σ H λiz H1=>tc iz H1 λb H2=>if b=true then te iz H2 λy H3=>Q (some y) iz H3 else Q none iz H2):=by
 intro af s σ H v u Q I r h;refine thn (hg af s σ H v u _ I r h) λ_ s2 ⟨iz,H1,I1,q1⟩=>?_
 refine wpAny_tests_one (thn (hc af s2 iz H1 _ I1 q1) λb s3 ⟨H2,I2,q2⟩=>?_)
 cases b with
 | true =>
  rw[if_pos rfl]at q2 ⊢;exact thn (he af s3 iz H2 _ I2 q2) (by rintro y s4 ⟨v',H3,I3,r3,q3⟩;exact⟨v',iz,H3,I3,r3,q3⟩)
 | false =>
  rw[if_neg cQ]at q2 ⊢;exact⟨iz,H2,I2,q2⟩
def r0(link:List (Option Nat))(wi:TI)(tb:TB):TE:=λσ H Q=>wi σ H λJ H1=>∃W:Nat->Nat->List V->St->Hp->Prop,(∃m,W 0 m [] (iN link σ) H1)/\∀i m acc bD H',W i m acc bD H' ->
 (J.stop i H'/\acc.length<=sizeLine/\∀D,H' D=none->Q (.ref D) (cK H' D (.lst acc))) \/
 (J.go i H'/\acc.length<sizeLine/\∀x H2,J.yld i H' x H2->tb x bD H2 λo nO H3=>∃m',m'<m/\W (i+1) m' (acc++o.toList) nO H3)
structure WI (X:Cx) (af:List (Addr×Obj)) (H:Hp) (C:Addr):Prop where
 free:H C=none
 above:X.s₀.heap.objs.size<=C
 loc:C≠X.env.locals
 cell:∀x c,X.env.cells.lookup x=some c->c≠C
 pin:∀p∈X.pn++af,p.1≠C
def r6(hc:X.calm=true)(S:ig X N link scope)(hi:PI X tg iter wi)
  (hb:∀(C:Addr) (s:Shared) (H:Hp) (fp:List Addr),PB (cf X N scope C s H fp) tg ifs elt tb) (hs:∀x,foldedSetIterable iter X.env x=pure x) (I:Inv X af σ H s) (h:r0 link wi tb σ H Q)
  (WJ:∀(s5:Shared) (D C:Addr) (H5:Hp) (m:Str->Option Value),Inv X af σ H5 s5->Q (.ref D) H5->s5.heap.Ns C m->WI X af H5 C->compPost (model X.prog X.w) X.A X.xe use Q' (.ref D) C (.ok .next) s5) :
  wpAny (model X.prog X.w) X.A (comprehension (.ListComp elt [⟨tg,iter,ifs,0⟩] scope pos) scope X.env nN (newList []) false (eval iter X.env) use) Q' X.xe s:=by
 have vM:∀y∈scope.names,y.2=.free->∃c,X.env.cells.lookup y.1=some c:=λy hy hf=>I.ok.has y.1 (S.free y hy hf)
 refine wpAny_comprehension_free rfl hs (zc vM) S.kind S.names (thn (hi af s σ H _ I h) λv s1 h1=>thn h1 λV2 s2 h2=>?_)
 obtain⟨it,fp,tn,J,H2,rfl,I2,T,dH,f2,W,⟨m0,w0⟩,pe⟩:=h2;refine kf (wpAny_newFunctionEnv S.cell (by grind) (λf9 ns sb=>?_) S.kind)
 dsimp only at ns sb ⊢
 generalize hD:s2.heap.push {cls:=.type "list",dict:=none,data:=.seq [].toArray}=HD at ns sb ⊢
 have hC:HD.objs.size=s2.heap.objs.size+1:=by rw[<-hD,dF]
 have U7:s2.heap.objs.size≠HD.objs.size:=by grind
 have E4:s2.heap.objs.size<=HD.objs.size:=by grind
 have old:∀b o,s2.heap.get? b=some o->f9.get? b=some o:=λb o e=>by
  have uI:=aG e;exact sb.extBut b o (br (bM uI E4)) (aH _ (by rw[<-hD];exact aH _ e))
 have WK:f9.get? s2.heap.objs.size=some {cls:=.type "list",data:=.seq [].toArray} :=
  sb.extBut _ _ U7 (aH _ (by rw[<-hD];exact bE _ rfl))
 generalize eD:s2.heap.objs.size=D at *
 generalize eC:HD.objs.size=C at *
 have YY:∀b∈fp,∃o,s2.heap.get? b=some o:=λb jD=>let ⟨o,e,_⟩:=T.obj _ _ dH b jD;⟨o,e⟩
 have I3:∀tk,Inv (cf X N scope C s2 H2 fp) [] (iN link σ) H2 {s2 with heap:=f9,toks:=tk}:=λtk =>
  zd S I2 f2 (by rw[eD];exact E4) ns old YY
 have YZ:∀b∈fp,b≠D:=λb jD z=>by
  obtain⟨o,e⟩:=YY b jD;have:=aG e;rw[z,<-eD]at this;exact eU _ this
 have yK:∀{H':Hp} {pl:List (Addr×Obj)},(∀b∈fp,H' b=none)->(∀p∈pl,p.1=D)->∀b∈fp,pf (cf X N scope C s2 H2 fp) pl H' b:=λ{H' pl} hn hp b jD=>by
  have K0:=(I3 0).ok.exf b jD;exact⟨hn b jD,K0.1,(I3 0).ok.exfs b jD,.inl jD,K0.2,λp CD z=>YZ b jD (z▸hp p (by simpa[cf]using CD))⟩
 have Sn:∀x c,(cf X N scope C s2 H2 fp).env.cells.lookup x=some c->c≠D:=λx c e z=>by
  obtain⟨v,o,ho,_⟩:=I2.cell x c (dr e);have:=aG ho;rw[z,<-eD]at this;exact eU _ this
 have fsD:D∉(cf X N scope C s2 H2 fp).fs:=λz=>by
  obtain⟨_,o,ho,_⟩:=I2.stack.mem z;have:=aG ho;rw[<-eD]at this;exact eU _ this
 have loop:∀s3:Shared,s3={s2 with heap:=f9,toks:=s2.toks+([]:List (Str×Value)).length} ->
   codeAny (model X.prog X.w) X.A (.compLoop (.ListComp elt [⟨tg,iter,ifs,0⟩] scope pos) 0 (.ref it) (.ref D) (cf X N scope C s2 H2 fp).env) (compPost (model X.prog X.w) X.A X.xe use Q' (.ref D) C) s3:=by
  rintro s3 rfl
  refine CA (λn s'=>∃i acc bD H' ar nn,Inv (cf X N scope C s2 H2 fp) [] bD H' s'/\tn i s'.heap/\(∀b∈fp,H' b=none)/\H' D=none/\s'.heap.get? D=some {cls:=.type "list",data:=.seq ar.toArray nn}/\Vals acc ar/\W i n acc bD H') ?_ m0
   ⟨0,[],_,H2,[],0,I3 _,T.keep _ _ _ dH λb jD o e=>old b o e,λb jD=>(f2 b jD).1,I2.hok.fresh (i9 eD),WK,.nil,w0⟩
  rintro n s4 ⟨i,acc,Le,H4,ar,nn,I4,HI,Y0,hD4,EB,hv,w4⟩
  have So:Inv (cf X N scope C s2 H2 fp) [(D,{cls:=.type "list",data:=.seq ar.toArray nn})] Le H4 s4:=I4.lb λp hp=>by
   have e:p=(D,{cls:=.type "list",data:=.seq ar.toArray nn}):=by simpa using hp
   subst e;exact⟨EB,hD4,U7,fsD,λv=>by simp⟩
  have E5:∀p∈[(D,({cls:=.type "list",data:=.seq ar.toArray nn}:Obj))],p.1=D:=λp hp=>by
   have e:p=(D,{cls:=.type "list",data:=.seq ar.toArray nn}):=by simpa using hp
   rw[e]
  rcases pe i n acc Le H4 w4 with⟨stop,hz,q⟩ | ⟨go,hz,step⟩
  ·refine thn (T.done (cf X N scope C s2 H2 fp) rfl rfl rfl hc i _ s4 Le H4 _ So (yK Y0 E5) HI stop) λr s5 ⟨hr,I5⟩=>?_
   subst hr;obtain⟨m,hn,_⟩:=I5.loc;have pD:=I5.pin (D,{cls:=.type "list",data:=.seq ar.toArray nn}) (eP _ (cm.mpr rfl))
   have ze:∀b o,s2.heap.get? b=some o->b≠D/\b≠C:=λb o e=>by
    have:=aG e;rw[eD]at this;exact⟨br this,br (bM this E4)⟩
   have Lj:X.env.locals≠D/\X.env.locals≠C:=by
    have:=I2.lt;rw[eD]at this;exact⟨br this,br (bM this E4)⟩
   have I6:=I2.K1 I5.os I5.base I5.hok I5.bare λb jD=>⟨(f2 b jD).2.2.2.1,(f2 b jD).2.1,(f2 b jD).2.2.2.2.1,(f2 b jD).2.2.2.2.2⟩
   have I7:=Inv.adopt (o:=.lst acc) I6 pD.2.1 (aP I2.sz (i9 eD)) (bZ Lj.1) (λx c e=>let ⟨v,o,ho,_⟩:=I2.cell x c e;(ze c o ho).1)
    (λp hp=>(ze p.1 p.2 (I2.pin p hp).1).1) ⟨hz,ar,nn,hv,pD.1⟩
   exact WJ s5 D C _ m I7 (q D pD.2.1) hn ⟨by rw[aK (bZ U7)];exact I5.free,aP (aP I2.sz (i9 eD)) E4,bZ Lj.2,λx c e=>let ⟨v,o,ho,_⟩:=I2.cell x c e;(ze c o ho).2,λp hp=>(ze p.1 p.2 (I2.pin p hp).1).2⟩
  ·refine thn (T.item (cf X N scope C s2 H2 fp) rfl rfl rfl hc i _ s4 Le H4 _ So (yK Y0 E5) HI go) λr s5 ⟨u,hr,h5⟩=>?_
   subst hr;refine thn h5 λ_ Y1 z9=>?_
   obtain⟨x,H5,I5,r5,y5,MJ,V6⟩:=z9;have V7:=I5.pinned (yK V6 E5) (T.obj _ _ MJ);have hJ:∀{o:Option V} {UU:St} {H6:Hp} {s6:Shared},Inv (cf X N scope C s2 H2 fp) ([(D,{cls:=.type "list",data:=.seq ar.toArray nn})]++ph fp Y1.heap) UU H6 s6 ->
     tn (i+1) s6.heap/\(∀b∈fp,H6 b=none)/\H6 D=none/\s6.heap.get? D=some {cls:=.type "list",data:=.seq ar.toArray nn}:=λ{o UU H6 s6} I6=>by
    have pD:=I6.pin (D,_) (eP _ (mm _ (cm.mpr rfl)));refine⟨T.keep _ _ _ MJ λb jD o e=>(I6.pin (b,o) (eP _ (eP _ (iA jD e)))).1,λb jD=>?_,pD.2.1,pD.1⟩
    obtain⟨o,e,d⟩:=T.obj _ _ MJ b jD;exact(I6.pin (b,o) (eP _ (eP _ (iA jD e)))).2.1
   refine oV (hb C s2 H2 fp _ Y1 Le H5 x u _ V7 r5 (step x H5 y5)) (λ_ s6 h6=>oV h6 (λok s7 h7=>?_) λ_ _ z=>False.elim z) λ_ _ z=>False.elim z
   cases ok with
   | false =>
    rw[if_neg cQ]at h7 ⊢;obtain⟨U8,H8,I8,m',WL,w8⟩:=h7;obtain⟨a1,a2,a3,a4⟩:=hJ (o:=none) I8;exact⟨m',WL,i+1,_,U8,H8,ar,nn,I8.lb (λp hp=>by cases hp),a1,a2,a3,a4,by simpa using hv,w8⟩
   | true =>
    rw[if_pos rfl]at h7 ⊢;refine oV h7 (λy s8 z9=>?_) λ_ _ z=>False.elim z
    obtain⟨v8,U8,H8,I8,r8,m',WL,w8⟩:=z9;obtain⟨a1,a2,a3,a4⟩:=hJ (o:=some v8) I8;have hl:=hv.length;refine fE F.slot_list_append ⟨_,a4,rfl⟩ F.entry_list_append (F.args_list_append_2 _ _) (PySem.list_append D ar.toArray nn y (by rw[cy];lia)) ⟨a4,?_⟩
    have I9:Inv (cf X N scope C s2 H2 fp) [] U8 H8 s8:=I8.lb (λp hp=>by cases hp)
    have qq:=PySem.IsL.update a4 λz=>z.push y
    have hp:ar.toArray.push y=(ar++[y]).toArray:=by simp
    rw[hp]at qq;refine⟨m',WL,i+1,_,U8,H8,ar++[y],_,I9.turned (λb o hne e=>(iX _ _ (bZ hne)).trans e) a3 U7 (.inr (i9 eD)) Sn (λp hp=>by simp[cf]at hp),T.keep _ _ _ a1 λb jD o e=>(iX _ _ (bZ (YZ b jD))).trans e,a2,a3,qq,hv.append (.cons r8 .nil),w8⟩
 exact codeAny_compStart_list (loop _ rfl) (T.self _ 0 _ _ _ (T.keep _ _ _ dH λb jD o e=>old b o e) (loop _ rfl))
def AW(hc:X.calm=true)(S:ig X N link scope)(hi:PI X tg iter wi)
  (hb:∀(C:Addr) (s:Shared) (H:Hp) (fp:List Addr),PB (cf X N scope C s H fp) tg ifs elt tb) (hs:∀x,foldedSetIterable iter X.env x=pure x:=by intro _;rfl) :
  PE X (.ListComp elt [⟨tg,iter,ifs,0⟩] scope pos) (r0 link wi tb):=by
 intro af s σ H Q I h;rw[eval_ListComp];refine r6 hc S hi hb hs I h λs5 D C H5 m I5 q hn L=>⟨m,hn,λh' sb=>?_⟩
 exact⟨.ref D,H5,I5.turned (λb o hne e=>(sb.2 b hne).trans e) L.free L.loc (.inr L.above) L.cell L.pin,rfl,q⟩
def AX(hc:X.calm=true)(hN:X.N.Nodup)(hx:X.N[i]?=some x)(hl:X.env.scope.names.lookup x=some .local)(S:ig X N link scope)(hi:PI X tg iter wi)
  (hb:∀(C:Addr) (s:Shared) (H:Hp) (fp:List Addr),PB (cf X N scope C s H fp) tg ifs elt tb) (hw:swapsWith (.ListComp elt [⟨tg,iter,ifs,0⟩] scope pos) (some (.Name x nN)) CF.line X.env=pure true) (hs:∀x,foldedSetIterable iter X.env x=pure x:=by intro _;rfl) :
  PS X (.Assign [.Name x nN] (.ListComp elt [⟨tg,iter,ifs,0⟩] scope pos) CF) (Iy (r0 link wi tb) (gName i)):=by
 intro af s σ H D I h;rw[exec_Assign_Name_used _ _ _ _ hw];refine ag (ua (ag ?_));refine ag (thn (r6 hc S hi hb hs I h λs5 a C H5 m I5 q hn L=>?_) λ_ s' q=>aq (aq q))
 refine wpAny_assign_Name (store_ok2 (v:=.ref a) I5 hN hx (.inl hl) rfl (λs6 I6 k=>?_) (.inr hl))
 refine⟨m,?_,λh' sb=>?_⟩
 ·obtain⟨o,es,ep,ho,r⟩:=hn;obtain⟨b,sb1,hor⟩:=k;have ne:C≠b:=λz=>by
   rcases hor with w | w
   ·exact L.loc (z.trans w)
   ·exact L.cell x b w z.symm
  exact⟨o,es,ep,(sb1.2 C ne).trans ho,r⟩
 ·exact⟨_,H5,I6.turned (λb o hne e=>(sb.2 b hne).trans e) L.free L.loc (.inr L.above) L.cell L.pin,q⟩
noncomputable def c6(link:List (Option Nat))(ρ:List (Option PV)):List (Option PV):=link.map λo=>o.bind λj=>(ρ[j]?).join
def KG(L:List Nat)(g:Tg):Prop:=∀p st st1,g p st=some st1->st1.ρ.length=st.ρ.length/\∀j:Nat,j∉L->st1.ρ[j]?=st.ρ[j]?
def Sq(L:List Nat)(g:Qf):Prop:=∀p st st1,g p st=some st1->st1.ρ.length=st.ρ.length/\∀j:Nat,j∉L->st1.ρ[j]?=st.ρ[j]?
def JA(i:Nat):KG [i] (dc i):=λp st st1 h=>by
 obtain⟨_,rfl⟩:=aA h;exact⟨my,λj hj=>aL (λz=>hj (by simp[z]))⟩
def JB:Sq [] Cr:=λp st st1 h=>by
 cases p with
 | nil=>cases h;exact⟨rfl,λ_ _=>rfl⟩
 | cons _ _=>cases h
def E6(h1:KG L g)(h2:Sq M r):Sq (L++M) (pO g r):=λp st st1 h=>by
 cases p with
 | nil=>cases h
 | cons p ps =>
  obtain⟨dH,e1,e2⟩:=aN h;obtain⟨l1,k1⟩:=h1 p st dH e1;obtain⟨l2,k2⟩:=h2 ps dH st1 e2;exact⟨l2.trans l1,λj hj=>(k2 j λz=>hj (eP _ z)).trans (k1 j λz=>hj (mm _ z))⟩
def NR(h:Sq L r):KG L (yZ n r):=λp st st1 e=>by
 unfold yZ at e;split at e
 ·obtain⟨_,e⟩:=bL e;exact h _ st st1 e
 ·obtain⟨_,e⟩:=bL e;exact h _ st st1 e
 ·cases e
section
variable {K:W.Frag} {F:Fz} {ρ:List (Option PV)} {σ:St}
def Lc.iN(L:Lc K F ρ σ)(link:List (Option Nat)):Lc K F (c6 link ρ) (iN link σ) where
 av:=λi p e=>by
  unfold c6 at e;rw[bB]at e;cases z:link[i]? with
  | none=>rw[z]at e;cases e
  | some o =>
   rw[z]at e;cases o with
   | none=>cases e
   | some j =>
    have e:(ρ[j]?).join=some p:=bJ e;cases w:ρ[j]? with
    | none=>rw[w]at e;cases e
    | some q =>
     rw[w]at e;cases e;obtain⟨v,h1,h2⟩:=L.av j p w;refine⟨v,?_,h2⟩;unfold L2.U.iN;rw[bB,z];show some ((σ[j]?).join)=_;rw[h1];rfl
 len:=by unfold c6 L2.U.iN;rw[aM,aM]
def Lc.back{L:List Nat}(R:Lc K F Lk σ)(hl:WM.length=σ.length)(h0:WM=c6 link ρ)(hk:∀j:Nat,j∉L->Lk[j]?=WM[j]?)(hL:∀i∈L,link[i]?=some none):Lc K F WM σ where
 av:=λi p e=>by
  refine R.av i p ?_;rw[hk i λhi=>?_]
  ·exact e
  ·rw[h0]at e;unfold c6 at e;rw[bB,hL i hi]at e;cases e
 len:=hl
end
noncomputable def WN{α:Type}:Rs α×cb->Option (α×List ah)
 | (.ok a,st)=>some (a,st.h)
 | _=>none
abbrev Bd:=List (Option PV)->PV->List ah->Option (Option PV×List ah)
def pY(g:Tg)(fe:Gx PV):Bd:=λρ p h=>(g p ⟨ρ,h⟩).bind λst1=>(fe st1).bind λr=>(WN r).map λx=>(some x.1,x.2)
def wq(g:Tg)(ft:Gx Bool)(fe:Gx PV):Bd:=λρ p h=>(g p ⟨ρ,h⟩).bind λst1=>(ft st1).bind λr=>match r with
 | (.ok b,dH)=>if b=true then(fe dH).bind λr=>(WN r).map λx=>(some x.1,x.2)else some (none,dH.h)
 | _=>none
noncomputable def d6(bd:PV->List ah->Option (Option PV×List ah)):List PV->List ah->Option (List PV×List ah)
 | [],h=>some ([],h)
 | p::ps,h=>(bd p h).bind λr=>(d6 bd ps r.2).map λs=>(r.1.toList++s.1,s.2)
section
variable {X:Cx} {aa:Hp} {ae:Fz} {N:List Str} {link:List (Option Nat)} {scope:Scope} {tg iter elt c:Expr} {pos:Pos} {fi:Gx (List PV)} {g:Tg} {fe:Gx PV} {ft:Gx Bool} {L:List Nat} {cl:Bool}
def wt(e:WN r=some (a,h)):∃st,r=(.ok a,st)/\st.h=h:=by
 obtain⟨r,st⟩:=r;cases r with
 | ok x=>cases e;exact⟨st,rfl,rfl⟩
 | ex m C=>cases e
def _root_.L2.U.PB.imp(h:PB Y tg ifs elt tb)(i:∀v σ H Q,tb' v σ H Q->tb v σ H Q):PB Y tg ifs elt tb':=λaf s σ H v u Q I r w=>h af s σ H v u Q I r (i _ _ _ _ w)
def Y2(X:Cx)(aa:Hp)(ae:Fz)(g:Tg)(fe:Gx PV):TB:=λv σ H Q=>tG X.K aa ae g v σ H λiz H1=>∀Y:Cx,Y.K=X.K->tE Y aa ae fe iz H1 λy H2=>Q (some y) iz H2
def Y3(X:Cx)(aa:Hp)(ae:Fz)(g:Tg)(ft:Gx Bool)(fe:Gx PV):TB:=λv σ H Q=>tG X.K aa ae g v σ H λiz H1=>∀Y:Cx,Y.K=X.K->tT Y aa ae ft iz H1 λt H2=>if t=true then tE Y aa ae fe iz H2 λy H3=>Q (some y) iz H3 else Q none iz H2
section
variable (ht:∀(C:Addr) (s:Shared) (H:Hp) (fp:List Addr),PG (cf X N scope C s H fp) tg (tG X.K aa ae g)) (he:∀(C:Addr) (s:Shared) (H:Hp) (fp:List Addr),PE (cf X N scope C s H fp) elt (tE (cf X N scope C s H fp) aa ae fe))
include ht he
def Y4(C:Addr)(s:Shared)(H:Hp)(fp:List Addr):PB (cf X N scope C s H fp) tg [] elt (Y2 X aa ae g fe) :=
 (E3 (ht C s H fp) (he C s H fp)).imp (by rintro v σ H Q ⟨F,st,p,st',R,b,e,q⟩;exact⟨F,st,p,st',R,b,e,λbD H' F' R' g'=>q bD H' F' R' g' _ rfl⟩)
def Y5(hw:∀(C:Addr) (s:Shared) (H:Hp) (fp:List Addr),PT (cf X N scope C s H fp) c (tT (cf X N scope C s H fp) aa ae ft))(C:Addr)(s:Shared)(H:Hp)(fp:List Addr):PB (cf X N scope C s H fp) tg [c] elt (Y3 X aa ae g ft fe) :=
 (Jz (ht C s H fp) (hw C s H fp) (he C s H fp)).imp (by rintro v σ H Q ⟨F,st,p,st',R,b,e,q⟩;exact⟨F,st,p,st',R,b,e,λbD H' F' R' g'=>q bD H' F' R' g' _ rfl⟩)
end
def oo(h:tS X aa ae (lA fe (dc i)) D σ H):tE X aa ae fe σ H λv H1=>D.nx (σ.set i (some v)) H1:=by
 obtain⟨F,st,R,h⟩:=h;refine⟨F,st,R,h.bnd λp v F1 st1 H1 R1 g1 b1 h1=>?_⟩
 obtain⟨st',e,z⟩:=h1.stp;obtain⟨hi,rfl⟩:=aA e;exact z F1 _ H1 ⟨R1.c,R1.l.set hi b1⟩ (Gr.refl _)
end
def SI(h:Heap)(it l:Addr)(k:Nat)(xs:Array Value):Prop:=(h.IsListIter it l k/\h.IsList l xs)\/(h.IsTupleIter it l k/\h.IsTuple l xs)
def SI.at{h h':Heap}{it l:Addr}{k:Nat}{xs:Array Value}(x:SI h it l k xs)(h1:∀o,h.get? it=some o->h'.get? it=some o)(h2:∀o,h.get? l=some o->h'.get? l=some o):SI h' it l k xs:=by
 rcases x with⟨⟨o,e,r⟩,⟨o',e',r'⟩⟩ | ⟨⟨o,e,r⟩,⟨o',e',r'⟩⟩
 ·exact .inl ⟨⟨o,h1 o e,r⟩,⟨o',h2 o' e',r'⟩⟩
 ·exact .inr ⟨⟨o,h1 o e,r⟩,⟨o',h2 o' e',r'⟩⟩
def SI.Ll{h:Heap}{it l:Addr}{k:Nat}{xs:Array Value}(x:SI h it l k xs):∃o,h.get? it=some o/\∃vs,o.data=.fields vs:=by
 rcases x with⟨⟨o,e,_,d⟩,_⟩ | ⟨⟨o,e,_,d⟩,_⟩
 ·grind
 ·grind
def SI.sq{h:Heap}{it l:Addr}{k:Nat}{xs:Array Value}(x:SI h it l k xs):∃o n,h.get? l=some o/\o.data=.seq xs n:=by
 rcases x with⟨_,⟨o,e,_,n,d⟩⟩ | ⟨_,⟨o,e,_,n,d⟩⟩
 ·grind
 ·grind
def SI.ne{h:Heap}{it l:Addr}{k:Nat}{xs:Array Value}(x:SI h it l k xs):l≠it:=λz=>by
 obtain⟨o,e,vs,d⟩:=x.Ll;obtain⟨o',n,e',d'⟩:=x.sq;subst z;rw[e]at e';cases e';rw[d]at d';cases d'
section
variable {prog:Program} {w:World} {A:Around} {E:Value->Shared->Prop} {s:Shared}
def zf{it t:Addr}{i:Nat}{ar:Array Value}{x:Value}{Q:Value->Shared->Prop}(NS:s.heap.IsTupleIter it t i)(ht:s.heap.IsTuple t ar)(hx:ar[i]?=some x)
  (hQ:∀h',h'.IsTupleIter it t (i+1)->Heap.SameBut it s.heap h'->Q x {s with heap:=h'}):wpAny (model prog w) A (Builtin.SmallTypes.nextOf (.ref it)) Q E s:=by
 obtain⟨o,ho,hc,hd⟩:=id NS;obtain⟨ol,WO,_,nl,NT⟩:=ht;refine ag (fA NS.typeIs td (fR td NS.typeIs DE (by
  show wpAny _ _ (field (.ref it) 0 >>= _) _ _ s;refine ag (cD ho hd rfl ?_);show wpAny _ _ (if(Value.ref t==Value.none)=true then _ else _) _ _ s
  rw[if_neg (show ¬((Value.ref t==Value.none)=true)from cQ)]
  show wpAny _ _ (field (.ref it) 1 >>= _) _ _ s;refine ag (cD ho hd (x:=.int i 0) rfl ?_);show wpAny _ _ (seqItems? (.ref t) >>= _) _ _ s;refine ag (fS WO NT ?_);simp only[iZ,hx];refine ag (wpAny_setField ho hd (by simp) (aq ⟨x,rfl,aq (hQ _ ⟨_,mj _ ho (Obj.isFreed_of_fields (Obj.data_mapFields hd _)),(Obj.cls_mapFields ..).trans hc,by rw[Obj.data_mapFields hd];simp[rawInt]⟩ (Heap.SameBut.update ..))⟩))) (DD _)))
def zg{it t:Addr}{i:Nat}{ar:Array Value}{Q:Value->Shared->Prop}(hh:A.handled=none)(NS:s.heap.IsTupleIter it t i)(ht:s.heap.IsTuple t ar)(hx:ar[i]?=none)
  (hE:∀h' e,Heap.ExtBut it s.heap h'->(∃o,h'.get? e=some o/\o.cls=.type "StopIteration")->E (.ref e) {s with heap:=h'}):wpAny (model prog w) A (Builtin.SmallTypes.nextOf (.ref it)) Q E s:=by
 obtain⟨o,ho,hc,hd⟩:=id NS;obtain⟨ol,WO,_,nl,NT⟩:=ht;refine ag (fA NS.typeIs td (fR td NS.typeIs DE (by
  show wpAny _ _ (field (.ref it) 0 >>= _) _ _ s;refine ag (cD ho hd rfl ?_);refine ag (cD ho hd (x:=.int i 0) rfl ?_);show wpAny _ _ (seqItems? (.ref t) >>= _) _ _ s;refine ag (fS WO NT ?_);simp only[iZ,hx];refine ag (ku (ag (wpAny_setField ho hd (by simp) ?_)))
  show wpAny _ _ (newExc (.type "StopIteration") [] >>= _) _ _ _;refine ag ?_;simp only[newExc,newTuple];refine ag (kf ?_ (by size_fits))
  refine ag (m:=firstArgMember _ _) (wpAny_of_eq (a:=Value.none) (by first | rfl | (simp only[firstArgMember];rfl)) ?_)
  refine kf ?_ (by size_fits)
  simp only[raiseNew];refine ag (wpAny_handled ?_)
  first | rw[show A.in1.handled=none from hh] | rw[hh]
  exact ag (aq (wpAny_throw (hE _ _ (((Heap.SameBut.update ..).extBut.push _).push _) ⟨_,bE _ rfl,rfl⟩)))) (DD _)))
def SI.next{it l:Addr}{k:Nat}{xs:Array Value}{x:Value}{Q:Value->Shared->Prop}(hi:SI s.heap it l k xs)(hx:xs[k]?=some x)(hQ:∀h',SI h' it l (k+1) xs->Heap.SameBut it s.heap h'->Q x {s with heap:=h'}) :
  wpAny (model prog w) A (Builtin.SmallTypes.nextOf (.ref it)) Q E s:=by
 have ne:=hi.ne;rcases hi with⟨h1,h2⟩ | ⟨h1,h2⟩
 ·exact wpAny_nextOf_list_item h1 h2 hx λh' a b=>hQ h' (.inl ⟨a,h2.extBut b.extBut ne⟩) b
 ·exact zf h1 h2 hx λh' a b=>hQ h' (.inr ⟨a,h2.extBut b.extBut ne⟩) b
def SI.stop{it l:Addr}{k:Nat}{xs:Array Value}{Q:Value->Shared->Prop}(hh:A.handled=none)(hi:SI s.heap it l k xs)(hx:xs[k]?=none)
  (hE:∀h' e,Heap.ExtBut it s.heap h'->(∃o,h'.get? e=some o/\o.cls=.type "StopIteration")->E (.ref e) {s with heap:=h'}):wpAny (model prog w) A (Builtin.SmallTypes.nextOf (.ref it)) Q E s:=by
 rcases hi with⟨h1,h2⟩ | ⟨h1,h2⟩
 ·exact wpAny_nextOf_list_end hh h1 h2 hx hE
 ·exact zg hh h1 h2 hx hE
end
def nl{a b:Nat}(h:a<b):@Ne Addr a b:=br h
section
variable {prog:Program} {w:World} {A:Around} {E:Value->Shared->Prop} {s:Shared} {z TI TO i1 i2 l1 l2:Nat} {k:Nat} {xs ys:Array Value}
def ij(h:Heap)(l:Addr)(xs:Array Value)(c:String):Prop:=(c="list_iterator"/\h.IsList l xs)\/(c="tuple_iterator"/\h.IsTuple l xs)
def jG{l:Addr}{xs:Array Value}{c:String}{Q:Value->Shared->Prop}(h:ij s.heap l xs c)(hQ:Q (.ref s.heap.objs.size) {s with heap:=s.heap.push {cls:=.type c,data:=.fields #[.ref l,.int 0 0]}}):wpAny (model prog w) A (pyIter (.ref l)) Q E s:=by
 rcases h with⟨rfl,h⟩ | ⟨rfl,h⟩
 ·exact yf h hQ
 ·exact wpAny_pyIter_tuple h hQ
end
def qP(K:W.Frag)(H:Hp)(c:Bool)(l:Addr)(vs:List V):Prop:=if c=true then uj K H l vs else gw K H l vs
def Dv(h:Heap)(c:Bool)(it l:Addr)(k:Nat):Prop:=if c=true then h.IsListIter it l k else h.IsTupleIter it l k
noncomputable def jM(c:Bool):String:=if c=true then "list_iterator" else "tuple_iterator"
section
variable {X:Cx} {af:List (Addr×Obj)} {σ:St} {H:Hp} {s:Shared}
def qP.get(I:Inv X af σ H s){c:Bool}{l:Addr}{vs:List V}(h:qP X.K H c l vs):∃ar:List Value,Vals vs ar/\ij s.heap l ar.toArray (jM c):=by
 unfold jM;cases c with
 | true =>
  obtain⟨ar,r,pl,_⟩:=I.list (h);exact⟨ar,r,.inl ⟨rfl,pl.isList⟩⟩
 | false =>
  obtain⟨ar,r,pl,_⟩:=I.tuple (h);exact⟨ar,r,.inr ⟨rfl,pl⟩⟩
def qP.inj(I:Inv X af σ H s){c:Bool}{l:Addr}{vs ws:List V}(h:qP X.K H c l vs)(h':qP X.K H c l ws):vs=ws:=by
 cases c with
 | true=>exact I.lg h h'
 | false=>exact I.jC h h'
def r9{h:Heap}{c:Bool}{it l:Addr}{k:Nat}{xs:Array Value}(h1:Dv h c it l k)(h2:ij h l xs (jM c)):SI h it l k xs:=by
 cases c with
 | true =>
  rcases h2 with⟨_,q⟩ | ⟨q,_⟩
  ·exact .inl ⟨h1,q⟩
  ·exact absurd q (by decide)
 | false =>
  rcases h2 with⟨q,_⟩ | ⟨_,q⟩
  ·exact absurd q (by decide)
  ·exact .inr ⟨h1,q⟩
def uJ{h:Heap}{c:Bool}{it l:Addr}{k k':Nat}{xs:Array Value}{h0:Heap}(h1:SI h it l k xs)(h2:ij h0 l xs (jM c))(kp:∀o,h0.get? l=some o->h.get? l=some o):Dv h c it l k:=by
 cases c with
 | true =>
  rcases h2 with⟨_,⟨o,e,hc,_⟩⟩ | ⟨q,_⟩
  ·rcases h1 with⟨a,_⟩ | ⟨_,⟨o',e',yH,_⟩⟩
   ·exact a
   ·grind
  ·exact absurd q (by decide)
 | false =>
  rcases h2 with⟨q,_⟩ | ⟨_,⟨o,e,hc,_⟩⟩
  ·exact absurd q (by decide)
  ·rcases h1 with⟨_,⟨o',e',yH,_⟩⟩ | ⟨a,_⟩
   ·grind
   ·exact a
def Inv.turns{t':Nat}{h':Heap}{ch:List Addr}(I:Inv X af σ H s)(hf:∀b∈ch,pf X af H b)(kp:∀b o,b∉ch->s.heap.get? b=some o->h'.get? b=some o):Inv X af σ H {s with heap:=h',toks:=t'}:=by
 have QQ:∀b u,H b=some u->b∉ch:=λb u e z=>by rw[(hf b z).1]at e;cases e
 refine I.step (λb hb=>⟨(hf b hb).2.2.2.1,(hf b hb).2.1,(hf b hb).2.2.2.2.1,(hf b hb).2.2.2.2.2⟩) (λb o _ _ hc e _=>kp b o hc e) (λb o _ _ hc e _=>⟨o.slots,kp b o hc e⟩) (λ_ _ _ _ n=>n)
  (λb o hc e=>⟨o,kp b o hc e⟩) (λ_ _ e=>e) (λ_ _ _ e=>e) (λ_ _ e=>e) (λm hm=>?_) (λb u e=>?_) I.bare
 ·obtain⟨o,es,ep,ho,r⟩:=hm;exact⟨o,es,ep,kp _ o (λz=>(hf _ z).2.1 rfl) ho,r⟩
 ·refine(I.hok b u e).vJ (λc v hc q=>kp c v ?_ q) (λ_ q=>q) (λ_ _ q=>q) λ_ _ _ q=>q
  rcases hc with z | z
  ·rw[z];exact QQ b u e
  ·exact QQ c _ z
end
def Dv.at{h h':Heap}{c:Bool}{it l:Addr}{k:Nat}(x:Dv h c it l k)(h1:∀o,h.get? it=some o->h'.get? it=some o):Dv h' c it l k:=by
 cases c with
 | true =>
  obtain⟨o,e,r⟩:=(x);exact(⟨o,h1 o e,r⟩)
 | false =>
  obtain⟨o,e,r⟩:=(x);exact(⟨o,h1 o e,r⟩)
def Dv.obj{h:Heap}{c:Bool}{it l:Addr}{k:Nat}(x:Dv h c it l k):∃o,h.get? it=some o/\∀v,o.data≠.cell v:=by
 unfold Dv at x;split at x
 ·obtain⟨o,e,_,d⟩:=x;exact⟨o,e,λv=>by grind⟩
 ·obtain⟨o,e,_,d⟩:=x;exact⟨o,e,λv=>by grind⟩
def E7{prog:Program}{w:World}{A:Around}{it l:Addr}{xs:Array Value}(hh:A.handled=none):Draws prog w A it [it,l] xs.size (λi x=>xs[i]?=some x) (λi h=>SI h it l i xs) where
 live:=λi h st=>by
  obtain⟨o,e,_⟩:=st.Ll;exact⟨o,e⟩
 frame:=λi h h' st k=>st.at (λo e=>k it (by simp) o e) (λo e=>k l (by simp) o e)
 item:=λi s Q E hi st hQ=>SI.next st (oF hi) λh' a b=>hQ _ h' s.toks (oF hi) a b
 done:=λs Q E st hE=>SI.stop hh st (j7 (aD _)) hE
set_option maxHeartbeats 2000000 in
theorem E8(l:Addr)(xs:Array Value)(c:String)(part:Obj) :
  Meets (Builtin.«enumerate.__new__» ⟨[.type "enumerate",.ref l],[]⟩) (λ_ R s=>ij s.heap l xs c/\s.heap.get? l=some part /\
   ∀h1 h2:Heap,h1=s.heap.push {cls:=.type c,data:=.fields #[.ref l,.int 0 0]}->h2=h1.push {cls:=.type "enumerate",data:=.fields #[.none,.bool false,.ref s.heap.objs.size,rawInt 0,.none,.none]}->R (.ok (.ret (.ref h1.objs.size))) {s with heap:=h2}) :=
 .of_wp λprog w A R s h=>by
  obtain⟨hp,g,d,tk,os⟩:=s;obtain⟨hl,hpt,h⟩:=h;have hL:ij (Shared.heap ⟨hp,g,d,tk,os⟩) l xs c:=hl;have JC:=sub_enumerate;rcases hl with⟨rfl,⟨o,e,hc,n,hd⟩⟩ | ⟨rfl,⟨o,e,hc,n,hd⟩⟩
  ·obtain⟨oc,od,WQ,Rl⟩:=o;replace hc:oc=.type "list":=hc;replace hd:WQ=.seq xs n:=hd
   wp_walk using iW e
   refine wpAny_stack_any λst=>aq ?_
   split
   ·rename_i c' _ _ _ _ _;cases(c'==Value.type "enumerate")<;>(wp_walk using iW e,jG hL)<;>exact⟨_,rfl,h _ _ rfl rfl⟩
   ·wp_walk using iW e,jG hL
    exact⟨_,rfl,h _ _ rfl rfl⟩
  ·obtain⟨oc,od,WQ,Rl⟩:=o;replace hc:oc=.type "tuple":=hc;replace hd:WQ=.seq xs n:=hd
   wp_walk using iW e
   refine wpAny_stack_any λst=>aq ?_
   split
   ·rename_i c' _ _ _ _ _;cases(c'==Value.type "enumerate")<;>(wp_walk using iW e,jG hL)<;>exact⟨_,rfl,h _ _ rfl rfl⟩
   ·wp_walk using iW e,jG hL
    exact⟨_,rfl,h _ _ rfl rfl⟩
def JD{prog:Program}{w:World}{A:Around}{E:Value->Shared->Prop}{s:Shared}{e it l:Addr}{k:Nat}{i:Int}{xs:Array Value}{old:Value}{Q:Option Value->Shared->Prop}(hh:A.handled=none)(a1:IsEnum s.heap e it i old)(st:SI s.heap it l k xs)(hx:xs[k]?=none)(hQ:∀h',Heap.ExtBut it s.heap h'->Q none {s with heap:=h'}):wpAny (model prog w) A (pyNext (.ref e)) Q E s:=by
 have ty:s.TypeIs (.ref e) "enumerate":=⟨_,a1,rfl⟩;unfold pyNext;refine ag (kn (fA ty F.slot_enumerate_next (fR F.slot_enumerate_next ty F.entry_enumerate_next (by
  show wpAny _ _ (field (.ref e) 2 >>= _) _ _ _;refine ag (cD a1 rfl rfl (ag (SI.stop hh st hx λh' y sb ⟨o,ho,hc⟩=>?_)))
  exact ag (tM ⟨o,ho,hc⟩ tY (aq (hQ _ sb)))) (F.args_enumerate_next_1 _))))
def Y6(K:W.Frag)(c:Bool)(l:Addr):It where
 go:=λi H=>∃vs v,qP K H c l vs/\vs[i]?=some v
 yld:=λi H x H'=>∃T v,H T=none/\x=.ref T/\H'=cK H T (.aj [.int i,v])/\∀vs,qP K H c l vs->vs[i]?=some v
 stop:=λi H=>∃vs,qP K H c l vs/\vs.length<=i
def eTn(e it l:Nat)(c:Bool)(i:Nat)(h:Heap):Prop:=(∃old,IsEnum h e it i old)/\Dv h c it l i
def JE{P:Program}{w:World}{K:W.Frag}{elts:List Expr}{x1:Nat}{pA:Pos}{e it l:Nat}{c:Bool}(ord:it<e)(o1:l<it) :
  Turn P w K (.Tuple elts x1 pA) (Y6 K c l) [e,it] e (eTn e it l c) where
 mem:=dk
 obj:=by
  rintro i h ⟨⟨_,a1⟩,a2⟩ b hb
  simp only[bh,c9,da]at hb;rcases hb with rfl | rfl
  ·exact⟨_,a1,λv=>by simp⟩
  ·exact a2.obj
 keep:=(by rintro i h h' ⟨⟨old,a1⟩,a2⟩ k;exact⟨⟨old,k e (by simp) _ a1⟩,a2.at λo x=>k it (by simp) o x⟩)
 item:=by
  rintro X hP hw hK hc i af s σ H E I hf ⟨⟨old,a1⟩,a2⟩ ⟨vs,v,hv,ev⟩
  subst hP hw hK;obtain⟨ar,r1,k1⟩:=hv.get I;obtain⟨x,ex,rx⟩:=r1.get ev;have ne:e≠it:=oS ord;have Y7:e≠l:=oS (ko o1 ord);have NT:X.A.in1.handled=none:=I.ok.hd hc;refine wpAny_pyNext_enum_itemD (E7 (xs:=ar.toArray) (l:=l) NT) a1 (r9 a2 k1) (by
   have:=(c8.mp ex).1;simpa using this) ne (by simp[ne,Y7]) λx' h' tk CB hO st hT Sl kp=>⟨_,rfl,?_⟩
  have xe:x'=x:=by
   have e1:ar.toArray[i]?=some x:=by simpa using ex
   rw[e1]at CB;cases CB;rfl
  subst xe;refine wpAny_letOwnedTupleGo_enum hO λHK WR sb=>?_
  have Sr:∀b∈[e,it],b<s.heap.objs.size:=λb hb=>by
   simp only[bh,c9,da]at hb;have h1:e<s.heap.objs.size:=aG a1;rcases hb with rfl | rfl<;>lia
  have eT:e≠s.heap.objs.size:=br (Sr e (by simp))
  have Ss:∀b o,b∉[e,it]->s.heap.get? b=some o->HK.get? b=some o:=λb o hb z=>by
   simp only[bh,c9,da,not_or]at hb;exact sb.extBut _ _ hb.1 (kp b o hb.1 hb.2 z)
  have I1:Inv X af σ H {s with heap:=HK,toks:=tk+1}:=Inv.turns I hf Ss
  have hn:H s.heap.objs.size=none:=I.fresh;have JF:=I.uk (H':=H) (aD _) hn;have pr:HK.get? s.heap.objs.size=some {cls:=.type "tuple",data:=.seq #[.int i tk,x']}:=sb.extBut _ _ (bZ eT) hT
  have I2:=Inv.adopt (D:=s.heap.objs.size) (o:=.aj [.int i,v]) I1 hn (by
    rcases JF.2.2.2.1 with q | q
    ·exact I.sz
    ·exact q) JF.2.1 JF.2.2.2.2.1 JF.2.2.2.2.2 ⟨(by show 2<=sizeLine;decide),[.int i tk,x'],.cons ⟨tk,rfl⟩ (.cons rx .nil),⟨_,pr,rfl,⟨0,rfl⟩,rfl⟩⟩
  refine⟨.ref s.heap.objs.size,_,I2,rfl,⟨s.heap.objs.size,v,hn,rfl,rfl,λvC h1=>?_⟩,⟨⟨_,WR⟩,?_⟩,λb hb=>?_⟩
  ·rw[<-qP.inj I hv h1];exact ev
  ·have nli:l≠it:=br o1;have q:=uJ (k':=i) st k1 λo z=>kp l o (bZ Y7) nli z
   exact q.at λo z=>sb.extBut _ _ (bZ ne) z
  ·rw[aK (br (Sr b hb))];exact(hf b hb).1
 done:=by
  rintro X hP hw hK hc i af s σ H E I hf ⟨⟨old,a1⟩,a2⟩ ⟨vs,hv,he⟩
  subst hP hw hK;obtain⟨ar,r1,k1⟩:=hv.get I;have hz:ar.toArray[i]?=none:=j7 (by rw[cy,<-r1.length];exact he)
  refine JD (I.ok.hd hc) a1 (r9 a2 k1) hz λh' sb=>⟨rfl,?_⟩
  exact Inv.turns (t':=s.toks) I hf λb o hb z=>by
   simp only[bh,c9,da,not_or]at hb;exact sb b o hb.2 z
 self:=(by rintro A i s Q E ⟨⟨_,a1⟩,_⟩ q;exact wpAny_pyIter_enum a1 q)
def AY:Expr->Bool
 | .Tuple _ _ _=>true
 | _=>false
noncomputable def nU:PV->Option (List PV)
 | .nd .aj ps=>some ps
 | .nd .lst ps=>some ps
 | _=>none
def fu(p q:PV):PV:=.aj [p,q]
def jk{K:W.Frag}(h:nU p=some ps)(b:bu K F p x):∃c l vs,x=.ref l/\qP K F.F c l vs/\au K F ps vs/\∀F',b8 F.F F'->qP K F' c l vs:=by
 unfold nU at h;split at h
 ·cases h;obtain⟨l,vs,rfl,h1,h2⟩:=bN.mp b;exact⟨false,l,vs,rfl,h1,h2,λF' s=>bC s h1⟩
 ·cases h;obtain⟨l,vs,rfl,h1,h2⟩:=dg.mp b;exact⟨true,l,vs,rfl,h1.sq,h2,λF' s=>(jf s h1).sq⟩
 ·cases h
def CG{K:W.Frag}(hs:uj K F.F a vs)(hb:au K F ps vs):Walk K F ps (US K a):=by
 intro aa ae F' st σ H R s i;have hq:=(s.s.trans R.sub).seq hs;refine⟨λp e=>?_,λe=>?_⟩
 ·obtain⟨v,e1,b1⟩:=hb.get e;refine⟨⟨vs,v,hq,e1⟩,λx H' ⟨hH,y⟩=>?_⟩
  subst hH;have:=y vs hq;rw[e1]at this;cases this;exact⟨F',R,Gr.refl _,b1.mono s⟩
 ·refine⟨vs,hq,?_⟩;rw[<-hb.length];exact gL.mp e
def E9{K:W.Frag}(hs:gw K F.F a vs)(hb:au K F ps vs):Walk K F ps (V3 K a):=by
 intro aa ae F' st σ H R s i;have hq:=bC (s.s.trans R.sub) hs;refine⟨λp e=>?_,λe=>?_⟩
 ·obtain⟨v,e1,b1⟩:=hb.get e;refine⟨⟨vs,v,hq,e1⟩,λx H' ⟨hH,y⟩=>?_⟩
  subst hH;have:=y vs hq;rw[e1]at this;cases this;exact⟨F',R,Gr.refl _,b1.mono s⟩
 ·refine⟨vs,hq,?_⟩;rw[<-hb.length];exact gL.mp e
noncomputable def Fb(lo:Int)(n:Nat):List PV:=(List.range n).map fun(i:Nat)=>.int (lo+i)
def zh{K:W.Frag}(lo:Int)(n:Nat):Walk K F (Fb lo n) (UT lo n):=by
 intro aa ae F' st σ H R s i;unfold Fb;refine⟨λp e=>?_,λe=>?_⟩
 ·rw[bB]at e;by_cases hi:i<n
  ·rw[ye hi]at e;cases e;exact⟨hi,λx H' ⟨hH,y⟩=>by subst hH y;exact⟨F',R,Gr.refl _,aC.mpr rfl⟩⟩
  ·rw[tu (by simpa using hi)]at e;cases e
 ·rw[bB]at e;by_cases hi:i<n
  ·rw[ye hi]at e;cases e
  ·exact yl hi
def iO:Nat->List PV->List PV
 | _,[]=>[]
 | k,p::r=>fu (.int k) p::iO (k+1) r
theorem mS:∀(ps:List PV) (k i:Nat),(iO k ps)[i]?=ps[i]?.map λp=>fu (.int ((k+i:Nat):Int)) p
 | [],k,i=>by simp[iO]
 | p::r,k,0=>by simp[iO]
 | p::r,k,i+1=>by
  simp only[iO,List.getElem?_cons_succ];rw[mS r (k+1) i,show k+1+i=k+(i+1) by lia]
def JG{K:W.Frag}(k1:∀F',b8 F.F F'->qP K F' c l vs)(b1:au K F ps vs):Walk K F (iO 0 ps) (Y6 K c l):=by
 intro aa ae F' st σ H R s i;have h1:=k1 H (s.s.trans R.sub);refine⟨λp e=>?_,λe=>?_⟩
 ·rw[mS]at e;cases z1:ps[i]? with
  | none=>rw[z1]at e;cases e
  | some p1 =>
   rw[z1]at e;cases e;obtain⟨v,e1,WS⟩:=b1.get z1;refine⟨⟨vs,v,h1,e1⟩,λx H' z9=>?_⟩
   obtain⟨T,v',hn,hx,hH,EA⟩:=z9;have g1:=EA vs h1;rw[e1]at g1;cases g1;subst hx hH;obtain⟨R2,s2⟩:=R.laid (.aj [.int i,v]) hn;refine⟨_,R2,s2,bN.mpr ⟨T,[.int i,v],rfl,gw.of aw,.cons ?_ (.cons (WS.mono (s.trans s2)) .nil)⟩⟩;rw[oR];exact aC.mpr rfl
 ·refine⟨vs,h1,?_⟩;rw[mS]at e;cases z1:ps[i]? with
  | none =>
   have:=gL.mp z1;rw[b1.length]at this;exact this
  | some p1=>rw[z1]at e;cases e
section
variable {X:Cx} {aa:Hp} {ae:Fz} {a b e tg:Expr} {fa fb:Gx PV} {ts:Gx (List PV)} {pos p:Pos}
noncomputable def NU(i j:Int):Bool:=decide (-(2^62)<=i/\i<2^62 /\ -(2^62)<=j/\j<2^62)
def nV:List PV->Option (List PV)
 | [.int j]=>if NU 0 j=true then some (Fb 0 j.toNat)else none
 | _=>none
def NV(g:List PV->Option (List PV))(ts:Gx (List PV)):Gx (List PV):=bnd ts λps=>jE (g ps)
def Fc(hg:Gl X "range")(hm:X.mg "range"=none)(ha:PA X [a] (tA X aa ae ts))(hs:starEach [a] X.env=[(false,eval a X.env)]:=by rfl):PI X tg (.Call (.Name "range" p) [a] [] pos) (tI X aa ae (NV nV ts)) :=
 (Ce hg hm ha hs).imp λσ H Rr ⟨F,st,R,h⟩=>⟨F,st,R,h.bnd λps vs F1 st1 H1 R1 g1 b1 h1=>by
  obtain⟨o,e,z⟩:=h1.jE;unfold nV at e;split at e
  ·obtain⟨hr,rfl⟩:=aA e;obtain⟨v,rfl,b⟩:=dS b1;obtain⟨_,_,h3,h4⟩:=gN hr;rw[aC.mp b];exact⟨_,rfl,h3,h4,z _ H1 F1 R1 (Gr.refl _) (zh 0 _)⟩
  ·cases e⟩
def AZ(fa:Gx PV):Gx (List PV):=bnd fa λp=>jE ((nU p).map λps=>iO 0 ps)
def WT(ht:AY tg=true)(hg:Gl X "enumerate")(hm:X.mg "enumerate"=none)(ha:PE X a (tE X aa ae fa))(hs:starEach [a] X.env=[(false,eval a X.env)]) :
  PI X tg (.Call (.Name "enumerate" p) [a] [] pos) (tI X aa ae (AZ fa)):=by
 rintro af s σ H R I ⟨F,st,Rp,h⟩
 have hA:=gC ha pB hs pos af s σ H (λvs H'=>∃F' st' x pa ps,vs=[x]/\Rep X.K aa ae F' st' σ H'/\bu X.K F' pa x/\nU pa=some ps/\∀b Su EK,Rep X.K aa ae EK st' σ Su->Gr F' EK->Walk X.K EK (iO 0 ps) b->R b Su) I
  ⟨F,st,Rp,h.bnd λp v F1 st1 H1 R1 g1 b1 h1=>by
   obtain⟨o,e,z⟩:=h1.jE;obtain⟨ps,e1,rfl⟩:=aO e;exact⟨F1,st1,v,p,ps,rfl,R1,b1,e1,z⟩⟩
 refine Call_ (ld_blt I hg hm boot_enumerate (j5 (thn hA λus s1 z9=>?_) hs rfl))
 obtain⟨vs,H1,I1,r1,F1,st1,x,pa,ps,ev,R1,b1,f3,q⟩:=z9;subst ev;obtain⟨u1,rfl,Sv⟩:=jV r1;obtain⟨c1,l1,Y8,rfl,q1,Qi,k1⟩:=jk f3 b1;cases Sv;obtain⟨ar,v1,JH⟩:=(k1 H1 R1.sub).get I1;obtain⟨part,Lm⟩:∃o,s1.heap.get? l1=some o:=by
  rcases JH with⟨_,⟨o,e,_⟩⟩ | ⟨_,⟨o,e,_⟩⟩
  ·grind
  ·grind
 have Sw:=aG Lm;refine callType_new PySem.F.called_enumerate (by decide) (PySem.F.typeCall_enumerate_1 _) (PySem.F.newCall_enumerate_1 _) (λobj=>PySem.F.args_object_init_2 obj _) PySem.F.entry_enumerate_new (E8 l1 ar.toArray (jM c1) part) ⟨JH,Lm,λh1 h2 e1 e2=>?_⟩
 have z1:h1.objs.size=s1.heap.objs.size+1:=by simp_all
 have p1:∀b o,s1.heap.get? b=some o->h1.get? b=some o:=λb o e=>by rw[e1];exact aH _ e
 have p2:∀b o,h1.get? b=some o->h2.get? b=some o:=λb o e=>by rw[e2];exact aH _ e
 have g2:IsEnum h2 h1.objs.size s1.heap.objs.size 0 .none:=by rw[e2];exact bE _ rfl
 have g1:=p2 _ _ (by rw[e1];exact bE _ rfl)
 have I2:Inv X af σ H1 {s1 with heap:=h2,toks:=s1.toks}:=I1.kept λb o e=>p2 _ _ (p1 _ _ e)
 have eW:∀b,s1.heap.objs.size<=b->H1 b=none:=λb hb=>I1.hok.fresh hb
 refine⟨⟨_,g2,rfl⟩,?_⟩;show wpAny _ _ (pyIter (.ref h1.objs.size)) _ _ {s1 with heap:=h2,toks:=s1.toks}
 refine wpAny_pyIter_enum g2 ?_;cases tg with
 | Tuple elts x1 pA =>
  refine⟨h1.objs.size,[h1.objs.size,s1.heap.objs.size],_,_,H1,rfl,I2,JE (by lia) Sw,⟨⟨_,g2⟩,(by
   cases c1 with
   | true=>exact(⟨_,g1,rfl,rfl⟩)
   | false=>exact(⟨_,g1,rfl,rfl⟩))⟩,λb hb=>?_,q _ H1 F1 R1 (Gr.refl _) (JG k1 Qi)⟩
  simp only[bh,c9,da]at hb;have Sx:s1.heap.objs.size<=b:=by rcases hb with rfl | rfl<;>lia
  exact I1.uk Sx (eW b Sx)
 | _=>cases ht
end
end L2.U
namespace L2
open PySem PySem.Spec PyProof.Rows
def WU(z:Str):It:=⟨λi _=>i<z.cps.size,λi H x H'=>H'=H/\∃c,z.cps[i]?=some c/\x=.str ⟨#[c]⟩,λi _=>z.cps.size<=i⟩
def Fe{P:Program}{w:World}{K:W.Frag}{tg:Expr}(z:Str)(t:Tok)(it:Addr):Turn P w K tg (WU z) [it] it (λi h=>h.IsStrIter it "str_ascii_iterator" z t i) where
 mem:=by simp
 obj:=λi h st b hb=>by
  have e:b=it:=by grind
  subst e;obtain⟨o,e,c,d⟩:=st;exact⟨o,e,λv z=>by grind⟩
 keep:=λi h h' st k=>let ⟨o,ho,r⟩:=st;⟨o,k it (by simp) o ho,r⟩
 item:=by
  intro X hP hw hK hc i af s σ H E I hf st hg;subst hP hw hK;have hx:z.cps[i]?=some z.cps[i]:=oF hg;obtain⟨f0,f1,f2,f3,f4,f5⟩:=hf it (by simp)
  refine wpAny_pyNext_ascii_item st hx λh' st' sb=>?_
  have I1:=I.turned (t':=s.toks+1) (λb o hb e=>(sb.2 b hb).trans e) f0 f1 f3 f4 f5
  obtain⟨o,e,c,d⟩:=id st';exact⟨_,rfl,Aw e c d (by decide) ⟨.str ⟨#[z.cps[i]]⟩,H,I1,⟨_,rfl⟩,⟨rfl,_,hx,rfl⟩,st',λb hb=>(hf b hb).1⟩⟩
 done:=by
  intro X hP hw hK hc i af s σ H E I hf st hg;subst hP hw hK;obtain⟨f0,f1,f2,f3,f4,f5⟩:=hf it (by simp)
  exact wpAny_pyNext_ascii_end (I.ok.hd hc) st (j7 hg) λh' eb=>⟨rfl,I.turned (λb o hb e=>eb b o hb e) f0 f1 f3 f4 f5⟩
 self:=λ_ _ _ _ _ st h=>wpAny_pyIter_striter_ascii st h
def WV(tl:TE):TI:=λσ H R=>tl σ H λx H1=>∃z,x=.str z/\z.cps.all (· < 128)=true/\R (WU z) H1
def NW{X:Cx}{tg l:Expr}{tl:TE}(hl:PE X l tl):PI X tg l (WV tl):=by
 intro af s σ H R I h;refine thn (hl af s σ H _ I h) λv s1 ⟨x,H1,I1,r1,q1⟩=>?_
 obtain⟨z,e,hz,q⟩:=q1;subst e;obtain⟨t,rfl⟩:=r1;refine wpAny_pyIter_ascii hz ?_;refine⟨s1.heap.objs.size,[s1.heap.objs.size],_,_,H1,rfl,I1.kept λb o e=>aH _ e,Fe z t _,⟨_,bE _ rfl,rfl,rfl⟩,λb hb=>?_,q⟩
 have e:b=s1.heap.objs.size:=by grind
 subst e;exact I1.uk (aD _) (I1.hok.fresh (aD _))
end L2
namespace L2.U
open PySem PySem.Spec PyProof.Rows
noncomputable def JI(z:Str):List PV:=z.cps.toList.map λc=>.str ⟨#[c]⟩
def Ff{K:W.Frag}{F:Fz}(z:Str):Walk K F (JI z) (WU z):=by
 intro aa ae F' st σ H R s i;refine⟨λp e=>?_,λe=>?_⟩
 ·unfold JI at e;rw[bB,xZ]at e;obtain⟨c,e1,rfl⟩:=aO e;have hi:i<z.cps.size:=(Array.getElem?_eq_some_iff.mp e1).1;refine⟨hi,λx H' ⟨hH,c',e2,e3⟩=>?_⟩
  subst hH e3;cases bJ (e1.symm.trans e2);exact⟨F',R,Gr.refl _,bH.mpr rfl⟩
 ·unfold JI at e;rw[bB,xZ]at e;show z.cps.size<=i
  grind
inductive A3 where
 | sq (ps:List PV) | cl (n:Nat)
def Sy(K:W.Frag)(F:Fz):A3->It->Prop
 | .sq ps,J=>Walk K F ps J
 | .cl n,J=>∃a,F.μ[n]?=some a/\J=US K a
abbrev Dw(X:Cx)(aa:Hp)(ae:Fz)(f:Gx A3):TI:=tX X aa ae (Sy X.K) f
def Qj(f:Gx (List PV)):Gx A3:=bnd f λps=>cx (.sq ps)
def Ln(n:Nat)(h:List ah)(i:Nat):Option (Option PV):=match cR h (.ref n)with
 | some (.lst,ps)=>some ps[i]?
 | _=>none
def Sz(h:List ah)(p:PV):Option A3:=match nU p with
 | some ps=>some (.sq ps)
 | none=>match p with
  | .ref n=>match cR h (.ref n)with
   | some (.lst,_)=>some (.cl n)
   | _=>none
  | .str z=>if z.cps.all (· < 128)=true then some (.sq (JI z))else none
  | _=>none
def zi(fe:Gx PV):Gx A3:=bnd fe λp=>hp λh=>Sz h p
def Fg(g:Tg)(body:Gx dJ)(n:Nat):Nat->Nat->Gx dJ
 | 0,_=>λ_=>none
 | f+1,i=>λst=>match Ln n st.h i with
  | some (some p)=>bnd (stp (g p)) (λ_=>bnd body (pS (Fg g body n f (i+1)))) st
  | some none=>some (.ok .nx,st)
  | none=>none
def WW(g:Tg)(body:Gx dJ):A3->Gx dJ
 | .sq ps=>fO g body ps
 | .cl n=>Fg g body n gy 0
def JJ(fi:Gx A3)(g:Tg)(body:Gx dJ):Gx dJ:=bnd fi (WW g body)
section
variable {X:Cx} {aa:Hp} {ae:Fz} {e tg iter:Expr} {fa:Gx PV} {fb:Gx dJ} {body:List Stmt} {pos:Pos}
def NX(h:PI X tg e (tI X aa ae f)):PI X tg e (Dw X aa ae (Qj f)):=(by rintro af s σ H R I ⟨F,st,Rp,hh⟩;exact h af s σ H R I ⟨F,st,Rp,hh.bnd λps J F1 st1 H1 R1 g1 b1 h1=>h1.cx J H1 F1 R1 (Gr.refl _) b1⟩)
def Fh{K:W.Frag}{st:cb}(R:Rep K aa ae F st σ H)(ha:F.μ[n]?=some a)(e:Ln n st.h i=some o):∃ps vs,o=ps[i]?/\uj K H a vs/\au K F ps vs:=by
 unfold Ln at e;split at e
 ·rename_i ps z;cases e;obtain⟨a',vs,e1,h1,h2⟩:=R.at z (de.mpr ⟨a,ha,rfl⟩);cases e1;exact⟨ps,vs,rfl,iJ.sq h1,h2⟩
 ·cases e
def Fj(he:PE X e (tE X aa ae fa)):PI X tg e (Dw X aa ae (zi fa)):=by
 rintro af s σ H R I ⟨F,st,Rp,h⟩
 obtain⟨r,e1,e2⟩:=At.bnd h
 match r,e2 with
 | (.ex m C,st1),e2 =>
  exact Eh he af s σ H R I ⟨F,st,Rp,_,e1,e2⟩
 | (.ok p,st1),e2 =>
  obtain⟨ps,e3,q⟩:=At.hp e2;unfold Sz at e3;split at e3
  ·rename_i qs e4;cases e3;unfold nU at e4;split at e4
   ·cases e4;refine Eh he af s σ H R I ⟨F,st,Rp,_,e1,λv H1 F1 R1 s1 b1=>?_⟩
    obtain⟨a,vs,rfl,hs,hb⟩:=bN.mp b1;exact⟨a,rfl,⟨vs,bC R1.sub hs⟩,q _ H1 F1 R1 s1 (E9 hs hb)⟩
   ·cases e4;refine Ax he af s σ H R I ⟨F,st,Rp,_,e1,λv H1 F1 R1 s1 b1=>?_⟩
    obtain⟨a,vs,rfl,hs,hb⟩:=dg.mp b1;exact⟨a,rfl,⟨vs,(jf R1.sub hs).sq⟩,q _ H1 F1 R1 s1 (CG hs.sq hb)⟩
   ·cases e4
  ·split at e3
   ·rename_i n _;split at e3
    ·rename_i qs z;cases e3;refine Ax he af s σ H R I ⟨F,st,Rp,_,e1,λv H1 F1 R1 s1 b1=>?_⟩
     obtain⟨a,vs,rfl,hs,hb⟩:=R1.at z b1;obtain⟨a',ha,e5⟩:=de.mp b1;cases e5;exact⟨a,rfl,⟨vs,iJ.sq hs⟩,q _ H1 F1 R1 s1 ⟨a,ha,rfl⟩⟩
    ·cases e3
   ·obtain⟨hz,rfl⟩:=aA e3;refine NW he af s σ H R I ⟨F,st,Rp,_,e1,λv H1 F1 R1 s1 b1=>?_⟩
    exact⟨_,bH.mp b1,hz,q _ H1 F1 R1 s1 (Ff _)⟩
   ·cases e3
def NY{fi:Gx A3}(hp:PassesOwn (model X.prog X.w) X.A X.env X.xe)(hc:X.calm=true)(hi:PI X tg iter (Dw X aa ae fi))(hg:PG X tg (tG X.K aa ae g))(hb:PSs X body (tS X aa ae fb))
  (hs:∀x,foldedSetIterable iter X.env x=pure x:=by intro _;rfl):PS X (.For tg iter body [] pos) (tS X aa ae (JJ fi g fb)):=(MI hp hc hi hg hb hs).imp <| by
 rintro D σ H ⟨F,st,R,h⟩
 refine⟨F,st,R,h.bnd λsr J F1 st1 H1 R1 g1 wk h1=>?_⟩
 cases sr with
 | sq ps =>
  refine⟨λi m bD H'=>m=ps.length-i/\i<=ps.length/\∃F' st',Rep X.K aa ae F' st' bD H'/\Gr F1 F'/\Sa X aa ae F' D st' (fO g fb (ps.drop i)),⟨ps.length,by simp,ja _,F1,st1,R1,Gr.refl _,h1⟩,?_⟩
  rintro i m bD H' ⟨rfl,hi,F',st',R',s',hr⟩
  obtain⟨wg,WX⟩:=wk aa ae F' st' bD H' R' s' i;by_cases uI:i<ps.length
  ·obtain⟨go,wy⟩:=wg ps[i] (dW uI);rw[xP uI]at hr;refine .inr ⟨go,λAy H2=>∃F2 dH,Rep X.K aa ae F2 dH Ay H2/\Gr F1 F2/\Sa X aa ae F2 D dH (fO g fb (ps.drop (i+1))),λAy H2 n2=>⟨ps.length-(i+1),by lia,rfl,uI,n2⟩,λx H2 y=>?_⟩
   obtain⟨F2,R2,s2,b2⟩:=wy x H2 y;obtain⟨r,e1,e2⟩:=At.bnd hr;obtain⟨SA,e3,e4⟩:=aO e1;subst e4;refine⟨F2,st',ps[i],SA,R2,b2,e3,λnO H3 F3 R3 s3=>⟨F3,SA,R3,?_⟩⟩
   exact Sa.pe _ (λF4 HI Le H4 R4 g4 z=>⟨F4,HI,R4,(s'.trans (s2.trans s3)).trans g4,z⟩) (Sa.mono (e2) (s2.trans s3))
  ·have e:i=ps.length:=by lia
   subst e;rw[List.drop_length]at hr;exact .inl ⟨WX (tu (aD _)),At.cx hr F' bD H' R' (Gr.refl _)⟩
 | cl n =>
  obtain⟨a,ha,rfl⟩:=wk;refine⟨λi m bD H'=>∃F' st',Rep X.K aa ae F' st' bD H'/\Gr F1 F'/\Sa X aa ae F' D st' (Fg g fb n m i),⟨gy,F1,st1,R1,Gr.refl _,h1⟩,?_⟩
  rintro i m bD H' ⟨F',st',R',s',hr⟩
  cases m with
  | zero=>obtain⟨r,e,_⟩:=hr;cases e
  | succ m =>
   obtain⟨r,e1,e2⟩:=hr;have e1:(match Ln n st'.h i with
    | some (some p)=>bnd (stp (g p)) (λ_=>bnd fb (pS (Fg g fb n m (i+1)))) st'
    | some none=>some (.ok .nx,st')
    | none=>none)=some r:=e1
   cases z:Ln n st'.h i with
   | none=>rw[z]at e1;cases e1
   | some o =>
    obtain⟨ps,vs,ho,hq,pQ⟩:=Fh R' (s'.m n a ha) z;cases o with
    | none =>
     rw[z]at e1;cases e1;refine .inl ⟨⟨vs,hq,?_⟩,e2 F' bD H' R' (Gr.refl _)⟩;rw[<-pQ.length];exact gL.mp ho.symm
    | some p =>
     rw[z]at e1;obtain⟨v,hv,bv⟩:=pQ.get ho.symm;refine .inr ⟨⟨vs,v,hq,hv⟩,λAy H2=>∃F2 dH,Rep X.K aa ae F2 dH Ay H2/\Gr F1 F2/\Sa X aa ae F2 D dH (Fg g fb n m (i+1)),λAy H2 n2=>⟨m,mv m,n2⟩,λx H2 ⟨hH,y⟩=>?_⟩
     subst hH;have:=y vs hq;rw[hv]at this;cases this;obtain⟨r',q1,q2⟩:=At.bnd (⟨r,e1,e2⟩);obtain⟨SA,e3,e4⟩:=aO q1;subst e4;refine⟨F',st',p,SA,R',bv,e3,λnO H3 F3 R3 s3=>⟨F3,SA,R3,?_⟩⟩
     exact Sa.pe _ (λF4 HI Le H4 R4 g4 z=>⟨F4,HI,R4,(s'.trans s3).trans g4,z⟩) (Sa.mono (q2) s3)
end
def A4(bd:PV->List ah->Option (Option PV×List ah))(n:Nat):Nat->Nat->List ah->Option (List PV×List ah)
 | 0,_,_=>none
 | f+1,i,h=>match Ln n h i with
  | some (some p)=>(bd p h).bind λr=>(A4 bd n f (i+1) r.2).map λs=>(r.1.toList++s.1,s.2)
  | some none=>some ([],h)
  | none=>none
def A5(bd:PV->List ah->Option (Option PV×List ah))(h:List ah):A3->Option (List PV×List ah)
 | .sq ps=>if ps.length<=gy then d6 bd ps h else none
 | .cl n=>A4 bd n gy 0 h
def A6(c:Bool)(ρ:List (Option PV))(r:List PV×List ah):Option (Rs PV×cb):=if c=true then iS ⟨.lst,r.1⟩ ⟨ρ,r.2⟩else some (.ok (.lst r.1),⟨ρ,r.2⟩)
def jl(c:Bool)(link:List (Option Nat))(fi:Gx A3)(bd:Bd):Gx PV:=bnd fi λs st=>(A5 (bd (c6 link st.ρ)) st.h s).bind (A6 c st.ρ)
section
variable {X:Cx} {aa:Hp} {ae:Fz} {N:List Str} {link:List (Option Nat)} {scope:Scope} {tg iter elt c:Expr} {pos:Pos} {fi:Gx A3} {g:Tg} {fe:Gx PV} {ft:Gx Bool} {L:List Nat} {cl:Bool}
def wu{st1:cb}{Q:VK}(R':kX X.K aa ae F' hf H')(L1:Lc X.K F1 st1.ρ σ)(g':Gr F1 F')(pQ:au X.K F' done acc)(hn:H' D=none)(e4:A6 cl st1.ρ (done,hf)=some r)(e2:EF X aa ae F1 (λa st'=>∀b H' F',Rep X.K aa ae F' st' σ H'->Gr F1 F'->bu X.K F' a b->Q b H') r):Q (.ref D) (cK H' D (.lst acc)):=by
 have Ro:Rep X.K aa ae F' ⟨st1.ρ,hf⟩ σ H':=⟨R',L1.mono g'⟩;cases cl with
 | true =>
  have e4:=e4;exact Tx.iS (Tx.mono ⟨r,e4,e2⟩ g' λ_ _ z=>z) Ro hn aw pQ
 | false =>
  have e4:=e4;cases e4;obtain⟨R2,s2⟩:=Ro.laid (.lst acc) hn;exact e2 _ _ _ R2 (g'.trans s2) (dg.mpr ⟨D,acc,rfl,iJ.of aw,pQ.mono s2⟩)
def se{Q:VK}
  (hb:∀(F2:Fz) (ρ:List (Option PV)) (p:PV) (h h':List ah) (o:Option PV) (x:V) (bD:St) (H2:Hp) (Q':Option V->St->Hp->Prop),bd (c6 link ρ) p h=some (o,h')->Rep X.K aa ae F2 ⟨c6 link ρ,h⟩ bD H2->bu X.K F2 p x ->
   (∀o' nO H3 F3,Rep X.K aa ae F3 ⟨c6 link ρ,h'⟩ nO H3->Gr F2 F3->au X.K F3 o.toList (Option.toList o')->Q' o' nO H3)->tb x bD H2 Q')
  (h:tE X aa ae (jl cl link fi bd) σ H Q):r0 link (Dw X aa ae fi) tb σ H Q:=by
 obtain⟨F,st,R,h⟩:=h;refine⟨F,st,R,h.bnd λsr J F1 st1 H1 R1 g1 wk h1=>?_⟩
 obtain⟨r,e1,e2⟩:=h1;obtain⟨⟨rs,hf⟩,e3,e4⟩:=aN e1;cases sr with
 | sq ps =>
  obtain⟨dI,e3⟩:=bL e3;refine⟨λi m acc bD H'=>m=ps.length-i/\i<=ps.length/\acc.length<=i/\∃F' h' done rest,Rep X.K aa ae F' ⟨c6 link st1.ρ,h'⟩ bD H'/\Gr F1 F'/\d6 (bd (c6 link st1.ρ)) (ps.drop i) h'=some (rest,hf)/\done++rest=rs/\au X.K F' done acc,
   ⟨ps.length,rfl,ja _,aD _,F1,st1.h,[],rs,⟨R1.c,R1.l.iN link⟩,Gr.refl _,e3,rfl,.nil⟩,?_⟩
  rintro i m acc bD H' ⟨rfl,hi,ha,F',h',done,rest,R',g',hr,hd,pQ⟩
  obtain⟨wg,WX⟩:=wk aa ae F' _ bD H' R' g' i;by_cases uI:i<ps.length
  ·rw[xP uI]at hr;obtain⟨⟨o,h2⟩,e5,e6⟩:=aN hr;obtain⟨⟨r2,h3⟩,e7,e8⟩:=aO e6;cases e8;obtain⟨go,wy⟩:=wg ps[i] (dW uI);refine .inr ⟨go,mn (aP ha hi) (mn dI (by decide)),λx H2 y=>?_⟩
   obtain⟨F2,R2,s2,b2⟩:=wy x H2 y;refine hb F2 st1.ρ ps[i] h' h2 o x bD H2 _ e5 R2 b2 λo' nO H3 F3 R3 s3 b3=>⟨ps.length-(i+1),by lia,rfl,uI,?_,F3,h2,done++o.toList,r2,R3,g'.trans (s2.trans s3),e7,by rw[<-hd,ej],(pQ.mono (s2.trans s3)).append b3⟩
   rw[bX];cases o'<;>simp <;> lia
  ·have e:i=ps.length:=by lia
   subst e;rw[List.drop_length]at hr;cases hr;rw[dE]at hd;subst hd;exact .inl ⟨WX (tu (aD _)),aP ha (eF dI),λD hn=>wu R'.c R1.l g' pQ hn e4 e2⟩
 | cl n =>
  obtain⟨a,hna,rfl⟩:=wk;refine⟨λi m acc bD H'=>i+m=gy/\acc.length<=i/\∃F' h' done rest,Rep X.K aa ae F' ⟨c6 link st1.ρ,h'⟩ bD H'/\Gr F1 F'/\A4 (bd (c6 link st1.ρ)) n m i h'=some (rest,hf)/\done++rest=rs/\au X.K F' done acc,
   ⟨gy,oR _,aD _,F1,st1.h,[],rs,⟨R1.c,R1.l.iN link⟩,Gr.refl _,e3,rfl,.nil⟩,?_⟩
  rintro i m acc bD H' ⟨hm,ha,F',h',done,rest,R',g',hr,hd,pQ⟩
  cases m with
  | zero=>cases hr
  | succ m =>
   have hr:(match Ln n h' i with
    | some (some p)=>(bd (c6 link st1.ρ) p h').bind λr=>(A4 (bd (c6 link st1.ρ)) n m (i+1) r.2).map λs=>(r.1.toList++s.1,s.2)
    | some none=>some ([],h')
    | none=>none)=some (rest,hf):=hr
   have yW:i<=gy:=by lia
   cases z:Ln n h' i with
   | none=>rw[z]at hr;cases hr
   | some o =>
    obtain⟨ps,vs,ho,hq,Y9⟩:=Fh R' (g'.m n a hna) z;rw[z]at hr;cases o with
    | none =>
     cases hr;rw[dE]at hd;subst hd;refine .inl ⟨⟨vs,hq,?_⟩,aP ha (eF yW),λD hn=>wu R'.c R1.l g' pQ hn e4 e2⟩
     rw[<-Y9.length];exact gL.mp ho.symm
    | some p =>
     obtain⟨⟨o,h2⟩,e5,e6⟩:=aN hr;obtain⟨⟨r2,h3⟩,e7,e8⟩:=aO e6;cases e8;obtain⟨v,hv,bv⟩:=Y9.get ho.symm;refine .inr ⟨⟨vs,v,hq,hv⟩,mn (aP ha yW) (by decide),λx H2 ⟨hH,y⟩=>?_⟩
     subst hH;have:=y vs hq;rw[hv]at this;cases this;refine hb F' st1.ρ p h' h2 o v bD H2 _ e5 R' bv λo' nO H3 F3 R3 s3 b3=>⟨m,mv m,by lia,?_,F3,h2,done++o.toList,r2,R3,g'.trans s3,e7,by rw[<-hd,ej],(pQ.mono s3).append b3⟩
     rw[bX];cases o'<;>simp <;> lia
def Fl(hg:KG L g)(hL:∀i∈L,link[i]?=some none)(h:tE X aa ae (jl cl link fi (pY g fe)) σ H Q):r0 link (Dw X aa ae fi) (Y2 X aa ae g fe) σ H Q :=
 se (λF2 ρ p h h' o x bD H2 Q' e R2 b2 k=>by
  obtain⟨st1,e1,e⟩:=aN e;obtain⟨r,e2,e⟩:=aN e;obtain⟨⟨a,hh⟩,e3,e4⟩:=aO e;cases e4;obtain⟨Iz,rfl,rfl⟩:=wt e3;obtain⟨l1,k1⟩:=hg _ _ _ e1;refine⟨F2,_,p,st1,R2,b2,e1,λnO H3 F3 R3 s3 Y hY=>⟨F3,st1,by grind,_,e2,λv H4 F4 R4 s4 b4=>?_⟩⟩
  rw[hY]at R4 b4;exact k (some v) nO H4 F4 ⟨R4.c,(R3.l.mono s4).back (l1.symm.trans R3.l.len) rfl k1 hL⟩ (s3.trans s4) (.cons b4 .nil)) h
def Fm(hg:KG L g)(hL:∀i∈L,link[i]?=some none)(h:tE X aa ae (jl cl link fi (wq g ft fe)) σ H Q):r0 link (Dw X aa ae fi) (Y3 X aa ae g ft fe) σ H Q :=
 se (λF2 ρ p h h' o x bD H2 Q' e R2 b2 k=>by
  obtain⟨st1,e1,e⟩:=aN e;obtain⟨r,e2,e⟩:=aN e;obtain⟨l1,k1⟩:=hg _ _ _ e1;refine⟨F2,_,p,st1,R2,b2,e1,λnO H3 F3 R3 s3 Y hY=>⟨F3,st1,by grind,r,e2,?_⟩⟩
  match r,e with
  | (.ok b,dH),e =>
   intro b' H4 F4 R4 s4 eb;cases eb;cases b with
   | true =>
    have e:=e;obtain⟨r,e5,e⟩:=aN e;obtain⟨⟨a,hh⟩,e6,e7⟩:=aO e;cases e7;obtain⟨Iz,rfl,rfl⟩:=wt e6;rw[if_pos rfl];refine⟨F4,dH,R4,_,e5,λv H5 F5 R5 s5 b5=>?_⟩
    rw[hY]at R5 b5;exact k (some v) nO H5 F5 ⟨R5.c,(R3.l.mono (s4.trans s5)).back (l1.symm.trans R3.l.len) rfl k1 hL⟩ (s3.trans (s4.trans s5)) (.cons b5 .nil)
   | false =>
    have e:=e;cases e;rw[hY]at R4;exact k none nO H4 F4 ⟨R4.c,(R3.l.mono s4).back (l1.symm.trans R3.l.len) rfl k1 hL⟩ (s3.trans s4) .nil) h
end
def gz:ah:=⟨.aj,[]⟩
section
variable {K:W.Frag} {aa H:Hp} {ae F F':Fz} {st:cb} {σ:St} {a:Addr} {n:Nat} {c:ah}
def SD{μ:List Addr}(hd:μ.Nodup)(h1:μ[n]?=some a)(h2:μ[m]?=some b)(hm:m≠n):b≠a:=λz=>by
 subst z;exact hm ((List.getElem?_inj (c8.mp h2).1 hd).mp (h2.trans h1.symm))
def Rep.lock(R:Rep K aa ae F st σ H)(ha:F.μ[n]?=some a)(hf:F.F a=none)(u:HO):Rep K aa ae ⟨cK F.F a u,F.μ⟩ ⟨st.ρ,st.h.set n gz⟩ σ (cK H a u)/\Gr F ⟨cK F.F a u,F.μ⟩:=by
 have g:Gr F ⟨cK F.F a u,F.μ⟩:=⟨eE hf,λ_ _ h=>h⟩
 have h0:=(R.c.new n a ha).1;refine⟨⟨⟨λb o e=>?_,λb o e=>?_,R.c.base.trans g,λb o e=>?_,λm b e=>?_,by simp[R.c.hl],R.c.nd,λm d b hd hb hl=>?_⟩,R.l.mono g⟩,g⟩
 ·have e:cK F.F a u b=some o:=e;by_cases hb:b=a
  ·subst hb;rw[aw]at e ⊢;exact e
  ·rw[aK hb]at e ⊢;exact R.c.sub _ _ e
 ·rw[aK (cX e h0)];exact R.c.keep _ _ e
 ·have e:cK F.F a u b=some o:=e;by_cases hb:b=a
  ·subst hb;exact .inr h0
  ·rw[aK hb]at e;exact R.c.fresh _ _ e
 ·obtain⟨h1,o,h2⟩:=R.c.new m b e;by_cases hb:b=a
  ·subst hb;exact⟨h1,u,aw⟩
  ·exact⟨h1,o,by rw[aK hb];exact h2⟩
 ·by_cases hm:m=n
  ·subst hm;rw[List.getElem?_set_self' ]at hd;cases z:st.h[m]? with
   | none=>rw[z]at hd;cases hd
   | some d'=>rw[z]at hd;cases hd;cases hl
  ·rw[aL (bZ hm)]at hd;have jD:=SD R.c.nd ha hb hm;obtain⟨h1,vs,h2,h3⟩:=R.c.cell m d b hd hb hl;exact⟨(aK jD).trans h1,vs,h2.to g.s (λo e=>by rw[aK jD];exact e) (λz=>z),h3.mono g⟩
end
noncomputable def qQ:dG->PV
 | .inl i=>.int i
 | .inr x=>.str x
noncomputable def A7:PV->Option (List PV)
 | .nd .lst qs=>some qs
 | _=>none
def abh(n:Nat)(ks:List (List dG))(ps:List PV)(p q:PV):Option (List PV):=match p with
 | .ref m=>if m=n then(iM true q).bind λk=>(dO k ks ps).bind A7 else none
 | _=>none
section
variable {X:Cx} {aa:Hp} {ae:Fz} {tg iter va vb:Expr} {fe fa fb:Gx PV} {f:Gx dJ} {body:List Stmt} {pos abi:Pos} {D:vN} {g:Tg}
def NZ(fe:Gx PV):Gx PV:=bnd fe λp st=>match p with
 | .ref n=>(kF st.h (.ref n)).bind λq=>match q.2.k with
  | .lst=>some (.ok (.lst q.2.ps),⟨st.ρ,st.h.set n gz⟩)
  | _=>none
 | p=>some (.ok p,st)
def SE{e:Expr}(he:PE X e (tE X aa ae fe)):PE X e (tE X aa ae (NZ fe)):=he.imp λσ H Q h=>by
 obtain⟨F,st,R,h⟩:=h;refine⟨F,st,R,h.bnd λp v F1 st1 H1 R1 g1 b1 h1=>?_⟩
 have keep:(∀n,p≠.ref n)->Q v H1:=λhp=>by
  obtain⟨r,e1,e2⟩:=h1;cases p with
  | ref n=>exact absurd rfl (hp n)
  | _=>cases e1;exact e2 _ _ F1 R1 (Gr.refl _) b1
 cases p with
 | ref n =>
  obtain⟨r,e1,e2⟩:=h1;obtain⟨⟨m,c⟩,d1,e3⟩:=aN (show(kF st1.h (.ref n)).bind _=some r from e1)
  obtain⟨z,WY,hl⟩:=fQ d1;cases z;obtain⟨a,ha,rfl⟩:=de.mp b1;obtain⟨ck,cp⟩:=c;cases ck with
  | lst =>
   cases e3;obtain⟨hf,ws,k1,hv⟩:=R1.c.cell n _ a WY ha hl;have k1:H1 a=some (.lst ws):=k1;obtain⟨R2,g2⟩:=R1.lock ha hf (.lst ws);have eH:cK H1 a (.lst ws)=H1:=by
    funext b
    by_cases hb:b=a
    ·subst hb;rw[aw,k1]
    ·rw[aK hb]
   rw[eH]at R2;exact e2 _ _ _ R2 g2 (dg.mpr ⟨a,ws,rfl,iJ.of aw,hv.mono g2⟩)
  | _=>cases e3
 | _=>exact keep λ_ z=>nomatch z
end
def A8{P:Program}{w:World}{H':Hp}{h1 h5 B:Heap}(x:kW P w H' h1)(hB:∀b o,H' b=some o->∃ob,B.get? b=some ob)(k1:B.StaysIn h1)(k5:B.StaysIn h5):kW P w H' h5:=λa o e=>by
 have keep:∀b u o',H' b=some o'->h1.get? b=some u->h5.get? b=some u:=λb u o' eb q=>by
  obtain⟨ob,U9⟩:=hB b o' eb;have:=k1 b ob U9;rw[q]at this;cases this;exact k5 b _ U9
 refine(x a o e).vJ (λb u hb q=>?_) (λ_ q=>q) (λ_ _ q=>q) λ_ _ _ q=>q
 rcases hb with rfl | hb
 ·exact keep _ _ _ e q
 ·exact keep _ _ _ hb q
def Fo{l:List Env}{H H':Hp}{h h1 h5 B B':Heap}(u:Un (eW l) [] H H' h h1)(sm:Dm H H')(hB:∀b o,H' b=some o->∃ob,B.get? b=some ob)(hU:∀b ob,h.get? b=some ob->H b=none->b∉eW l->B.get? b=some ob)
  (k5:B.StaysIn h5) (fr:h1.FunFrames B' l) (up:h1.UpToSlots h5):Un (eW l) [] H H' h h5:=by
 have slot:∀b o,h.get? b=some o->H b=none->b∈eW l->∃sl,h5.get? b=some {o with slots:=sl}:=λb o q n hb=>by
  obtain⟨sl,e⟩:=u.slot b o q n hb (by simp)
  obtain⟨_,o',o9,hd⟩:=fr.mem hb;rw[e]at o9;cases o9;obtain⟨QL,e'⟩:=up b _ e hd;exact⟨QL,e'⟩
 refine⟨λb o q n hb _=>k5 b o (hU b o q n hb),λb o q n hb _=>slot b o q n hb,u.free,λb o q hx=>?_,u.tups,u.frzs,u.tbls⟩
 cases z:H b with
 | none =>
  by_cases hb:b∈eW l
  ·grind
  ·exact⟨o,k5 b o (hU b o q z hb)⟩
 | some v =>
  obtain⟨v',z'⟩:=sm b v z;obtain⟨ob,U9⟩:=hB b v' z';exact⟨ob,k5 b ob U9⟩
def CH{P:Program}{w:World}{H:Hp}{h:Heap}{a:Addr}{o:HO}(x:fg P w H h a o):∃ob,h.get? a=some ob:=by
 cases o with
 | lst xs=>obtain⟨_,_,_,_,e⟩:=x;exact⟨_,e⟩
 | aj xs=>obtain⟨_,_,_,ob,e,_⟩:=x;exact⟨_,e⟩
 | dK kvs=>obtain⟨_,_,_,_,o,_,_,e,_⟩:=x;exact⟨_,e⟩
 | dT kvs=>obtain⟨_,_,o,_,_,e,_⟩:=x;exact⟨_,e⟩
 | set S n=>obtain⟨o,_,_,_,e,_⟩:=x;exact⟨_,e⟩
 | ins C dx fs=>obtain⟨_,_,_,e,_⟩:=x;exact⟨_,e⟩
 | own y=>obtain⟨_,e⟩:=x;exact⟨_,e⟩
 | xd fs=>obtain⟨_,⟨_,_,_,e,_⟩,_⟩:=x;exact⟨_,e⟩
 | UL lo hi=>obtain⟨_,_,_,e⟩:=x;exact⟨_,e⟩
 | vE ob u=>obtain⟨e,_⟩:=x;exact⟨_,e⟩
 | yx q=>obtain⟨_,e,_⟩:=x;exact⟨_,e⟩
 | UK f y=>exact⟨_,show h.get? a=some _ from x⟩
 | ext φ=>obtain⟨_,⟨_,e⟩,_⟩:=x;exact⟨_,e⟩
section
variable {P:Program} {w:World} {K:W.Frag} {mg:Str->Option Value} {base:Heap} {N:List Str} {qual:Str} {scope:Scope} {f:Addr} {cd:Value} {A:Around} {ax:List Env} {s:Shared} {H:Hp} {E E1:XK} {af:List (Addr×Obj)} {σ:St} {H1:Hp} {s1 s':Shared} {e:Value}
def A9(I:Inv (eM (g7 P w) P w K mg base N qual scope f cd A ax s H E) af σ H1 s1){b:Addr}{ob:Obj}(q:s.heap.get? b=some ob)(hb:b∉eW ax):b∉eW (envOfC qual scope s.heap.objs.size f cd::ax):=λhm=>by
 rcases bh.mp (I.ug b hm)with z | z
 ·exact absurd (aG q) (by rw[z];exact eU _)
 ·exact hb z
def wx(I:Inv (eM (g7 P w) P w K mg base N qual scope f cd A ax s H E) af σ H1 s1)(h:g7 P w (envOfC qual scope s.heap.objs.size f cd::ax) H1 s1 E1 e s')(hE:∀cls H2,E1 cls none H2->Dm H H2/\E cls none H2) :
  (eM (g7 P w) P w K mg base N qual scope f cd A ax s H E).xe e s':=by
 obtain⟨a,cls,a0,B,H2,rfl,HH,hb,un,hok,sm,he,N0,hB,hU⟩:=h;obtain⟨SF,hE⟩:=hE cls H2 he;have I2:=I.K1 HH un hok hb (λb z=>absurd z (by simp))
 refine wpAny_leaves_onW I.ok.frames rfl N0 λh' N1 up=>?_
 have Za:∀b ob,s.heap.get? b=some ob->H b=none->b∉eW ax->B.get? b=some ob:=λb ob q n hb=>hU b ob (I.base.keep b ob q n hb (by simp[eM])) (I.base.free b ob q n (by simp[eM])) (A9 I q hb)
 exact⟨a,cls,a0,B,H2,rfl,HH.trans I.os,hb,Fo I2.base SF hB Za N1.1 N0.2.2.1.2.2 up,A8 hok hB N0.1 N1.1,SF,hE,N1,hB,Za⟩
def Ba{h1:Heap}{a:Addr}{cls:Value}{vs:List Value}(I:Inv (eM (g7 P w) P w K mg base N qual scope f cd A ax s H E) af σ H1 s1)(hm:Heap.MadeExcOf s1.heap h1 a cls vs)(SF:Dm H H1)(hE:E cls none H1) :
  (eM (g7 P w) P w K mg base N qual scope f cd A ax s H E).xe (.ref a) {s1 with heap:=h1}:=by
 have hB:∀b o,H1 b=some o->∃ob,(W.hideAll s1.heap (eW (envOfC qual scope s.heap.objs.size f cd::ax))).get? b=some ob:=λb o e=>by
  obtain⟨ob,q⟩:=CH (I.hok b o e);exact⟨ob,W.hideAll_get _ q λhb=>by
   have:=I.uh b hb;rw[e]at this;cases this⟩
 have hU:∀b ob,s.heap.get? b=some ob->H b=none->b∉eW ax->(W.hideAll s1.heap (eW (envOfC qual scope s.heap.objs.size f cd::ax))).get? b=some ob:=λb ob q n hb =>
  W.hideAll_get _ (I.base.keep b ob q n hb (by simp[eM])) (A9 I q hb)
 refine wpAny_leaves_madeW I.ok.frames rfl (λb o q=>W.of_hideAll _ q) (W.funFrames_hide I.stack λenv he b hb=>oJ.mpr ⟨env,he,hb⟩) hm λh' t N0 aj tn up=>?_
 refine⟨a,cls,.ref t,_,H1,rfl,I.os,I.bare,Fo (I.base.trans (Un.kept hm.keeps)) SF hB hU N0.1 (I.funs.of_keeps λb o q _=>⟨o,hm.keeps b o q,rfl⟩) up,A8 (I.hok.kept hm.keeps) hB (λb o q=>hm.keeps b o (W.of_hideAll _ q)) N0.1,SF,hE,N0,hB,hU⟩
end
def uK(K:W.Frag)(f:Addr)(cM:Value):Prop:=∃oc od fd oW,K.lookup f=some ⟨oc,od,.func fd,oW⟩/\fd.code=cM
def JK{P:Program}{w:World}{K:W.Frag}{mg:Str->Option Value}{base:Heap}{x qual:Str}{st:Stmt}{f:Addr}{fd:FuncData}{N ps:List Str}{k:Nat}{sp:Sp}(F:KQ K x qual st f fd)(S:cF N ps (ao st))(len:∀vs H Q E,sp vs H Q E->vs.length=ps.length)
  (hbody:∀(cM:Value) (A:Around) (ax:List Env) (s:Shared) (H:Hp) (vs:List V) (Q:VK) (E:XK),uK K f cM->cS k (A.deeper (envOfC qual (ao st) s.heap.objs.size f cM))->sp vs H Q E ->
   ∃t,PSs (eM (g7 P w) P w K mg base N qual (ao st) f cM A ax s H E) (bR st) t/\t {nx:=λ_ H'=>Q .az H',rt:=Q} (start N vs) H):FnOk P w K mg base (g7 P w) (k+1) f fd ps sp:=by
 obtain⟨oc,od,kV,doc,pm,an,cM,ct,oW,rfl,lk,xG⟩:=F.ex;exact K6 lk xG S len λA ax s H vs Q E hr K7=>hbody cM A ax s H vs Q E ⟨oc,od,_,oW,lk,rfl⟩ hr K7
noncomputable def qZ(H:Hp)(μ:List Addr):Hp:=λb=>if b∈μ then none else H b
section
variable {K:W.Frag} {aa H H':Hp} {ae F F':Fz} {h h':List ah}
def CI{μ:List Addr}{b:Addr}{o:HO}(e:qZ H μ b=some o):H b=some o/\b∉μ:=by
 unfold qZ at e;split at e
 ·cases e
 ·grind
def CJ{μ:List Addr}{b:Addr}(e:qZ H μ b=none):H b=none\/b∈μ:=by
 unfold qZ at e;split at e
 ·grind
 ·grind
def kX.enter(C:kX K aa ae F h H):kX K (qZ H F.μ) F F h H/\∀b o,H b=some o->qZ H F.μ b=some o\/∃n:Nat,F.μ[n]?=some b:=by
 refine⟨⟨C.sub,λb o e=>(CI e).1,Gr.refl F,λa o e=>.inl e,λn a e=>⟨if_pos (cP e),(C.new n a e).2⟩,C.hl,C.nd,C.cell⟩,λb o e=>?_⟩
 by_cases hb:b∈F.μ
 ·obtain⟨n,hn⟩:=tw.mp hb;exact .inr ⟨n,hn⟩
 ·exact .inl (by unfold qZ;rw[if_neg hb];exact e)
def kX.leave(C:kX K aa ae F h H)(D:kX K (qZ H F.μ) F F' h' H'):kX K aa ae F' h' H':=by
 have none_of:∀a,qZ H F.μ a=none->aa a=none:=λa e=>by
  rcases CJ e with z | z
  ·exact C.keep.free z
  ·obtain⟨n,hn⟩:=tw.mp z;exact(C.new n a hn).1
 refine⟨D.sub,λb o e=>D.keep b o ?_,C.base.trans D.base,λa o e=>?_,λn a e=>⟨none_of a (D.new n a e).1,(D.new n a e).2⟩,D.hl,D.nd,D.cell⟩
 ·unfold qZ;rw[if_neg λhb=>?_]
  ·exact C.keep b o e
  ·obtain⟨n,hn⟩:=tw.mp hb;rw[(C.new n b hn).1]at e;cases e
 ·rcases D.fresh a o e with z | z
  ·exact C.fresh a o z
  ·grind
end
abbrev jm:=List PV->List ah->Option (Rs PV×List ah)
def WZ(K:W.Frag)(aa:Hp)(F:Fz)(h':List ah)(Q:VK)(E:XK):Rs PV->Prop
 | .ok p=>∀v F' H',kX K aa F F' h' H'->bu K F' p v->Q v H'
 | .ex _ C=>∀cls F' H',kX K aa F F' h' H'->ClsAt K C cls->E cls none H'
def sh(K:W.Frag)(n:Nat)(f:jm):Sp:=λvs H Q E=>∃aa F h ps r h',kX K aa F F h H/\(∀b o,H b=some o->aa b=some o\/∃n:Nat,F.μ[n]?=some b)/\au K F ps vs/\ps.length=n/\f ps h=some (r,h')/\WZ K aa F h' Q E r
noncomputable def gS(n:Nat)(ps:List PV):List (Option PV):=ps.map some++List.replicate (n-ps.length) none
noncomputable def SG:Rs dJ×cb->Option (Rs PV×List ah)
 | (.ok (.rt p),st)=>some (.ok p,st.h)
 | (.ok .nx,st)=>some (.ok .az,st.h)
 | (.ex m C,st)=>some (.ex m C,st.h)
 | _=>none
def ik(fb:Gx dJ)(n:Nat):jm:=λps h=>(fb ⟨gS n ps,h⟩).bind SG
def wz{K:W.Frag}{F:Fz}{ps:List PV}{vs:List V}{N:List Str}(b:au K F ps vs):Lc K F (gS N.length ps) (start N vs) where
 av:=λi p e=>by
  unfold gS at e;unfold start;by_cases hi:i<ps.length
  ·rw[fy (by simpa using hi),bB]at e
   cases z:ps[i]? with
   | none=>rw[z]at e;cases e
   | some q =>
    rw[z]at e;cases e;obtain⟨v,h1,h2⟩:=b.get z;refine⟨v,?_,h2⟩;rw[fy (by simpa using (b.length▸hi)),bB,h1]
    rfl
  ·rw[iw (by simpa using hi),List.getElem?_replicate]at e
   split at e<;>cases e
 len:=by unfold gS start;simp[b.length]
def Bb{K:W.Frag}{aa H H':Hp}{F F':Fz}{h':List ah}(full:∀b o,H b=some o->aa b=some o\/∃n:Nat,F.μ[n]?=some b)(D:kX K aa F F' h' H'):Dm H H':=λb o e=>by
 rcases full b o e with z | ⟨n,hn⟩
 ·exact⟨o,D.keep b o z⟩
 ·exact(D.new n b (D.base.m n b hn)).2
def N2{P:Program}{w:World}{K:W.Frag}{mg:Str->Option Value}{base:Heap}{x qual:Str}{st:Stmt}{f:Addr}{fd:FuncData}{N ps:List Str}{k:Nat}{fb:Gx dJ}(F:KQ K x qual st f fd)(S:cF N ps (ao st))
  (hbody:∀(cM:Value) (A:Around) (ax:List Env) (s:Shared) (H:Hp) (E:XK),uK K f cM->cS k (A.deeper (envOfC qual (ao st) s.heap.objs.size f cM))->∀(aa:Hp) (ae:Fz),
   PSs (eM (g7 P w) P w K mg base N qual (ao st) f cM A ax s H E) (bR st) (tS (eM (g7 P w) P w K mg base N qual (ao st) f cM A ax s H E) aa ae fb)):FnOk P w K mg base (g7 P w) (k+1) f fd ps (sh K ps.length (ik fb N.length)):=by
 refine JK F S (by rintro vs H Q E ⟨_,_,_,_,_,_,_,_,b,hl,_⟩;rw[<-b.length];exact hl) λcM A ax s H vs Q E Va hr z9=>?_
 obtain⟨aa,F,h,as,r,h',C,full,b,hl,hf,res⟩:=z9;refine⟨_,hbody cM A ax s H E Va hr aa F,F,⟨gS N.length as,h⟩,⟨C,wz b⟩,?_⟩;obtain⟨q,e1,e2⟩:=aN hf;refine⟨q,e1,?_⟩;rcases q with⟨f | ⟨m,c⟩,st⟩
 ·cases f with
  | rt=>cases e2;exact λv F' H' C' g b'=>res v F' H' C' b'
  | nx=>cases e2;exact λF' bD H' R g=>res .az F' H' R.c (cN.mpr rfl)
  | _=>cases e2
 ·cases e2;cases m with
  | true=>exact λF' bD H' af s1 h1 a cls vs R sf I hc hm=>Ba I hm (Bb full R.c) (res cls F' H' R.c hc)
  | false=>exact λbD af H1 s1 e s' I h=>wx I h (by rintro cls H2 ⟨hc,F',R,sf⟩;exact⟨Bb full R.c,res cls F' H2 R.c hc⟩)
mutual
def noRef:PV->Bool
 | .ref _=>false
 | .nd _ ps=>ai ps
 | _=>true
def ai:List PV->Bool
 | []=>true
 | p::ps=>noRef p&&ai ps
end
section
variable {K:W.Frag} {F:Fz} {μ:List Addr}
mutual
theorem bu.any:∀{p:PV} {v:V},noRef p=true->bu K F p v->bu K ⟨F.F,μ⟩ p v
 | .az,_,_,b=>cN.mpr (cN.mp b)
 | .bl _,_,_,b=>aZ.mpr (aZ.mp b)
 | .int _,_,_,b=>aC.mpr (aC.mp b)
 | .str _,_,_,b=>bH.mpr (bH.mp b)
 | .fn _,_,_,b=>pK.mpr (pK.mp b)
 | .ref _,_,h,_=>by simp[noRef]at h
 | .nd k ps,_,h,b=>by
  obtain⟨a,vs,h1,h2,h3⟩:=iy.mp b;exact iy.mpr ⟨a,vs,h1,h2,au.any h h3⟩
theorem au.any:∀{ps:List PV} {vs:List V},ai ps=true->au K F ps vs->au K ⟨F.F,μ⟩ ps vs
 | [],_,_,b=>by rw[b.cB];exact .nil
 | _::_,_,h,b=>by
  simp only[ai,aF]at h;obtain⟨v,r,rfl,b1,b2⟩:=b.bT;exact .cons (b1.any h.1) (au.any h.2 b2)
end
end
def kG(h:List ah):Nat->PV->Option PV
 | 0,p=>if noRef p=true then some p else none
 | n+1,p=>if noRef p=true then some p else match p with
  | .ref m=>(h[m]?).bind λc=>if live c=true then(dq (kG h n) c.ps).map (.nd c.k)else none
  | .nd k ps=>(dq (kG h n) ps).map (.nd k)
  | _=>none
open Classical in
noncomputable def jN (F:Fz) (h:List ah) (H:Hp):Hp:=λa=>match F.F a with
 | some o=>some o
 | none=>if(∃(n:Nat) (c:ah),F.μ[n]?=some a/\h[n]?=some c/\live c=true)then H a else none
section
variable {K:W.Frag} {aa H:Hp} {ae F:Fz} {h:List ah}
def il{a:Addr}{o:HO}(e:F.F a=some o):jN F h H a=some o:=by unfold jN;rw[e]
def CK{a:Addr}{n:Nat}{c:ah}(e:F.F a=none)(h1:F.μ[n]?=some a)(h2:h[n]?=some c)(h3:live c=true):jN F h H a=H a:=by
 unfold jN;rw[e];exact if_pos ⟨n,c,h1,h2,h3⟩
def wA{a:Addr}{o:HO}(e:jN F h H a=some o):F.F a=some o\/(H a=some o/\∃n:Nat,F.μ[n]?=some a):=by
 unfold jN at e;split at e
 ·grind
 ·split at e
  ·grind
  ·cases e
def kX.kG(C:kX K aa ae F h H)(μ:List Addr):∀(n:Nat) (p q:PV) (v:V),kG h n p=some q->bu K F p v->bu K ⟨jN F h H,μ⟩ q v:=by
 have keep:∀{p:PV} {v:V},noRef p=true->bu K F p v->bu K ⟨jN F h H,μ⟩ p v:=λhn b =>
  bu.mono (F:=⟨F.F,μ⟩) (F':=⟨jN F h H,μ⟩) ⟨λb o e=>il e,λ_ _ e=>e⟩ (b.any hn)
 intro n;induction n with
 | zero =>
  intro p q v e b;obtain⟨hn,rfl⟩:=aA e;exact keep hn b
 | succ n ih =>
  intro p q v e b;unfold U.kG at e;split at e
  ·grind
  ·have list:∀(ps qs:List PV) vs,dq (U.kG h n) ps=some qs->au K F ps vs->au K ⟨jN F h H,μ⟩ qs vs:=by
    intro ps;induction ps with
    | nil=>intro qs vs e b;cases e;rw[b.cB];exact .nil
    | cons p ps ih2 =>
     intro qs vs e b;obtain⟨y,r,e1,e2,rfl⟩:=eX e;obtain⟨v,w,rfl,b1,b2⟩:=b.bT;exact .cons (ih p y v e1 b1) (ih2 r w e2 b2)
   split at e
   ·obtain⟨c,e1,e⟩:=aN e;obtain⟨hl,e⟩:=bL e;obtain⟨qs,e2,rfl⟩:=aO e;obtain⟨a,h1,h2⟩:=de.mp b;obtain⟨hF,vs,h3,h4⟩:=C.cell _ c a e1 h1 hl;exact iy.mpr ⟨a,vs,h2,h3.to (λb o e=>il e) (λo e=>by rw[show(Fz.mk (jN F h H) μ).F a=jN F h H a from rfl,CK hF h1 e1 hl];exact e) (λz=>by cases z),list _ _ _ e2 h4⟩
   ·obtain⟨qs,e2,rfl⟩:=aO e;obtain⟨a,vs,h1,h2,h3⟩:=iy.mp b;exact iy.mpr ⟨a,vs,h1,h2.to (λb o e=>il e) (λo e=>il e) id,list _ _ _ e2 h3⟩
   ·cases e
end
section
variable {X:Cx} {aa:Hp} {ae:Fz} {e:Expr} {es:List Expr} {ts:Gx (List PV)} {pos p:Pos} {k n:Nat} {f:Addr} {fd:FuncData} {ps:List Str} {x:Str} {g:jm}
def oq{CX:BX}{sp:Sp}{E:XK}{af:List (Addr×Obj)}{σ:St}{H:Hp}{s:Shared}{Q:VK}{us:List Value}{vs:List V}(F:FnOk X.prog X.w X.K X.mg X.base CX k f fd ps sp)(hr:cS k X.A)(hb:cE X.K fd ps [])(hx:∀e s',CX X.stack H s E e s'->X.xe e s')
  (I:Inv X af σ H s) (r:Vals vs us) (h:sp vs H Q E):wpAny (model X.prog X.w) X.A (call (.ref f) us) (EP X af σ Q) X.xe s:=by
 have Qe:=hb s us I.mJ (by rw[dE,<-r.length];exact F.len _ _ _ _ h)
 rw[dE]at Qe;refine wpAny_call (oQ (F.run X.A X.stack s H ⟨us,[]⟩ us vs Q E hr I.MY Qe r h) λr s' hq=>?_)
 cases r with
 | error e=>exact hx e s' hq
 | ok fl =>
  cases fl with
  | ret u=>exact I.after hq
  | next=>exact False.elim hq
  | brk=>exact False.elim hq
  | cont=>exact False.elim hq
noncomputable def SH:Rs PV->Rs PV
 | .ok p=>.ok p
 | .ex _ C=>.ex false C
def ee(h:List ah)(p:PV):Option PV:=if h.isEmpty=true then some p else kG h 4 p
def N4(st:cb):Rs PV×List ah->Option (Rs PV×cb)
 | (.ok p,h)=>(ee h p).map λq=>(.ok q,st)
 | (.ex _ C,_)=>some (.ex false C,st)
def gT(n:Nat)(g:jm)(as:List PV):Gx PV:=λst=>if as.length=n then(g as st.h).map λr=>(SH r.1,⟨st.ρ,r.2⟩)else none
def jn(n:Nat)(g:jm)(as:List PV):Gx PV:=λst=>if as.length=n/\(st.h.isEmpty || ai as)=true then(g as []).bind (N4 st)else none
def Lo(n:Nat)(g:jm)(ts:Gx (List PV)):Gx PV:=bnd ts (jn n g)
def zj(X:Cx)(f:Addr)(w:List PV->Gx PV):Prop:=∀(aa H:Hp) (ae F:Fz) (st:cb) (σ:St) (af:List (Addr×Obj)) (s:Shared) (Q:VK) (as:List PV) (us:List Value) (vs:List V),Inv X af σ H s->Rep X.K aa ae F st σ H->au X.K F as vs->Vals vs us->Tx X aa ae (bu X.K) F st (w as) σ Q ->
 wpAny (model X.prog X.w) X.A (call (.ref f) us) (EP X af σ Q) X.xe s
def N5(G:FnOk X.prog X.w X.K X.mg X.base (g7 X.prog X.w) k f fd ps (sh X.K n g))(hr:cS k X.A)(hb:cE X.K fd ps []):zj X f (gT n g):=by
 rintro aa H ae F st σ af s Q as us vs I R b r ⟨q,e1,e2⟩
 obtain⟨hl,e1⟩:=bL e1;obtain⟨⟨rs,h'⟩,e3,e4⟩:=aO e1;subst e4;obtain⟨C,full⟩:=R.c.enter;cases rs with
 | ok p'=>exact oq G hr hb (λe s' hx=>rV af σ H s e s' I hx) I r ⟨_,F,st.h,as,_,h',C,full,b,hl,e3,λv F' H' D b'=>e2 v H' F' ⟨R.c.leave D,R.l.mono D.base⟩ D.base b'⟩
 | ex m c=>exact thn (oq (Q:=λ_ _=>False) G hr hb (λe s' hx=>e2 σ af H s e s' I hx) I r ⟨_,F,st.h,as,_,h',C,full,b,hl,e3,λcls F' H' D hc=>⟨hc,F',⟨R.c.leave D,R.l.mono D.base⟩,D.base⟩⟩) (by rintro v s3 ⟨_,_,_,_,z⟩;exact z.elim)
def Rep.back{K:W.Frag}{aa H H1 H':Hp}{ae F F':Fz}{μ:List Addr}{st:cb}{σ:St}{h':List ah}(R:Rep K aa ae F st σ H)(hH:b8 H H1)(D:kX K H1 ⟨F.F,μ⟩ F' h' H'):Rep K aa ae ⟨jN F' h' H',F.μ⟩ st σ H'/\Gr F ⟨jN F' h' H',F.μ⟩:=by
 have g:b8 F.F (jN F' h' H'):=λb o e=>il (D.base.s b o e)
 refine⟨R.after (hH.trans D.keep) g rfl (λb o e=>?_) (λa o e=>?_),g,λ_ _ z=>z⟩
 ·rcases wA e with z | ⟨z,_⟩
  ·exact D.sub b o z
  ·exact z
 ·rcases wA e with z | ⟨_,n,z⟩
  ·exact(D.fresh a o z).imp_right hH.free
  ·exact .inr (hH.free (D.new n a z).1)
def kX.pure{K:W.Frag}{aa H:Hp}{ae F:Fz}{h:List ah}(C:kX K aa ae F h H):kX K H ⟨F.F,[]⟩ ⟨F.F,[]⟩ [] H :=
 ⟨C.sub,b8.refl H,Gr.refl _,λa o e=>.inl e,λn a e=>by simp at e,rfl,tU,λn c a e=>by simp at e⟩
def wB{K:W.Frag}{H H':Hp}{G F':Fz}{h':List ah}{p q:PV}{v:V}(μ:List Addr)(D:kX K H G F' h' H')(e:ee h' p=some q)(b:bu K F' p v):bu K ⟨jN F' h' H',μ⟩ q v:=by
 unfold ee at e;split at e
 ·rename_i z;cases e;have e0:F'.μ=[]:=mi (by rw[<-D.hl,yj.mp z];rfl)
  exact b.mono ⟨λb o e=>il e,λn a e=>by rw[e0]at e;simp at e⟩
 ·exact D.kG μ _ _ _ _ e b
def sj{K:W.Frag}{aa H:Hp}{ae F:Fz}{st:cb}{σ:St}{as:List PV}{vs:List V}(R:Rep K aa ae F st σ H)(hn:(st.h.isEmpty || ai as)=true)(b:au K F as vs)(μ:List Addr):au K ⟨F.F,μ⟩ as vs:=by
 rcases Bool.or_eq_true _ _▸hn with z | z
 ·have e0:F.μ=[]:=mi (by rw[<-R.c.hl,yj.mp z];rfl)
  exact au.mono (F:=F) (F':=⟨F.F,μ⟩) ⟨b8.refl _,λn a e=>by rw[e0]at e;simp at e⟩ b
 ·exact b.any z
def SJ(G:FnOk X.prog X.w X.K X.mg X.base (g7 X.prog X.w) k f fd ps (sh X.K n g))(hr:cS k X.A)(hb:cE X.K fd ps []):zj X f (jn n g):=by
 rintro aa H ae F st σ af s Q as us vs I R b r ⟨q,e1,e2⟩
 obtain⟨⟨hl,hn⟩,e1⟩:=bL e1;obtain⟨⟨rs,h'⟩,e3,e4⟩:=aN e1;have full:∀b o,H b=some o->H b=some o\/∃n:Nat,(Fz.mk F.F []).μ[n]?=some b:=by grind
 have b3:=sj R hn b [];cases rs with
 | ok p' =>
  obtain⟨p2,e5,e6⟩:=aO e4;subst e6;refine oq G hr hb (λe s' hx=>rV af σ H s e s' I hx) I r ⟨H,⟨F.F,[]⟩,[],as,_,h',R.c.pure,full,b3,hl,e3,λv F' H' D b'=>?_⟩
  obtain⟨R3,g3⟩:=R.back (b8.refl _) D;exact e2 v H' _ R3 g3 (wB F.μ D e5 b')
 | ex m c =>
  cases e4;refine thn (oq (Q:=λ_ _=>False) G hr hb (λe s' hx=>e2 σ af H s e s' I hx) I r ⟨H,⟨F.F,[]⟩,[],as,_,h',R.c.pure,full,b3,hl,e3,λcls F' H' D hc=>?_⟩) (by rintro v s3 ⟨_,_,_,_,z⟩;exact z.elim)
  obtain⟨R3,g3⟩:=R.back (b8.refl _) D;exact⟨hc,_,R3,g3⟩
def Fp{w:List PV->Gx PV}(G:zj X f w)(hg:Gl X x)(hm:X.mg x=some (.ref f))(hk:W.keepIn X.K (.ref f)=true)(ha:PA X (e::es) (tA X aa ae ts))(yR:(x==("__debug__":Str))=false)
  (he:starEach (e::es) X.env=(false,eval e X.env)::starEach es X.env) (o7:(backTo pos (starEach es X.env)).any (·.1)=false):PE X (.Call (.Name x p) (e::es) [] pos) (tE X aa ae (bnd ts w)):=by
 rintro af s σ H Q I ⟨F1,st,R,h⟩
 refine kd (ld_glob I hg hm ?_ yR);exact W.callWith_K I.ok.mod.kin hk (thn (ha pos af s σ H (λvs H2=>∃F2 dH as,Rep X.K aa ae F2 dH σ H2/\au X.K F2 as vs/\Tx X aa ae (bu X.K) F2 dH (w as) σ Q) I
  ⟨F1,st,R,h.bnd λas vs F2 dH H2 R2 g2 b2 h2=>⟨F2,dH,as,R2,b2,h2⟩⟩) (by rintro us s1 ⟨vs,H2,I2,r,F2,dH,as,R2,b2,z⟩;exact⟨I2.mJ,G _ _ _ _ _ _ _ _ _ _ _ _ I2 R2 b2 r z⟩)) he o7
end
noncomputable def SK(T:String):Kd->Bool
 | .lst=>T=="list"
 | .eV _ _=>T=="dict"
 | _=>false
def tyG(T:String)(p:PV):Gx Unit:=hp λh=>(cR h p).bind λq=>if SK T q.1=true then some ()else none
section
variable {X:Cx} {aa:Hp} {ae:Fz} {e o:Expr} {es:List Expr} {fo fe:Gx PV} {ts:Gx (List PV)} {pos d8 iB:Pos} {T id:String} {name:Str} {r:V->List V->Hp->VK->Prop}
def Rep.tyV{K:W.Frag}{st:cb}(R:Rep K aa ae F st σ H)(e:cR st.h p=some (k,ps))(ht:SK T k=true)(b:bu K F p v):L2.tyV K T v H:=by
 obtain⟨a,vs,rfl,h2,h3⟩:=R.at e b
 match k,ht,h2 with
 | .lst,ht,h2=>exact .inl ⟨aU ht,vs,iJ.sq h2⟩
 | .eV false ks,ht,⟨kvs,h2,_⟩=>exact .inr (.inr (.inl ⟨aU ht,.inl ⟨kvs,h2⟩⟩))
 | .eV true ks,ht,⟨xs,h2,_⟩=>exact .inr (.inr (.inl ⟨aU ht,.inr ⟨xs,h2⟩⟩))
def HL(T:String)(w:PV->List PV->Gx PV)(fo:Gx PV)(ts:Gx (List PV)):Gx PV:=bnd fo λp=>bnd (tyG T p) λ_=>bnd ts λas=>w p as
def Vb(X:Cx)(r:V->List V->Hp->VK->Prop)(w:PV->List PV->Gx PV):Prop:=∀(aa H:Hp) (ae F:Fz) (st:cb) (σ:St) (p:PV) (as:List PV) (v:V) (ws:List V) (Q:VK),Tx X aa ae (bu X.K) F st (w p as) σ Q->Rep X.K aa ae F st σ H->bu X.K F p v->au X.K F as ws->r v ws H Q
def Fq(hw:Vb X r w)(h:tE X aa ae (HL T w fo ts) σ H Q):YN X.K T r (tE X aa ae fo) (tA X aa ae ts) σ H Q:=by
 obtain⟨F,st,R,h⟩:=h;refine⟨F,st,R,h.bnd λp v F1 st1 H1 R1 g1 b1 h1=>?_⟩
 obtain⟨u,e,z⟩:=At.hp (At.bnd h1);obtain⟨⟨k,ps⟩,e1,e2⟩:=aN e;obtain⟨hk,_⟩:=aA e2;refine⟨R1.tyV e1 hk b1,F1,st1,R1,Tx.bnd z λas ws F2 dH H2 R2 g2 b2 h2=>hw aa H2 ae F2 dH σ p as v ws Q h2 R2 (b1.mono g2) b2⟩
def JL(hw:Vb X r w)(h:tE X aa ae (HL T w fo (cx [])) σ H Q):Rz X.K T r (tE X aa ae fo) σ H Q:=by
 obtain⟨F,st,R,h⟩:=h;refine⟨F,st,R,h.bnd λp v F1 st1 H1 R1 g1 b1 h1=>?_⟩
 obtain⟨u,e,z⟩:=At.hp (At.bnd h1);obtain⟨⟨k,ps⟩,e1,e2⟩:=aN e;obtain⟨hk,_⟩:=aA e2;exact⟨R1.tyV e1 hk b1,hw aa H1 ae F1 st1 σ p [] v [] Q (At.cx (At.bnd z)) R1 b1 .nil⟩
def Fs(hg:E2 X.K r g):Vb X r (ie g):=λ_ _ _ _ _ _ _ _ _ _ _ h R bp ba=>Tx.mut hg h R bp ba
def N6:Vb X (NN X.K) qY:=λ_ _ _ _ _ _ _ _ _ _ _ h R bp ba=>Tx.ext h R bp ba
def wC(m:Str):Option (String×(PV->List PV->Gx PV)) :=
 if m==("append":Str)then some ("list",ie (fH iC))
 else if m==("extend":Str)then some ("list",qY)
 else none
def Ft(m:Str):Option (String×(PV->List PV->Gx PV)) :=
 none
def W0(hu:X.A.units+1150<cLine)(ht:wC name=some (T,w))(ho:PE X o (tE X aa ae fo))(ha:PA X (e::es) (tA X aa ae ts))(lu:attributeBase o name X.env (eval o X.env)=eval o X.env)
  (IY:((backTo iB (starEach (e::es) X.env)).all (λx=>!x.1)&&(backToKw iB (keywordEach [] X.env)).all (λx=>x.1.isSome)&&decide ((e::es).length+([]:List Keyword).length+(if([]:List Keyword).isEmpty then 0 else 1)<30))=true)
  (lx:(d8.endLine==iB.line)=true) (qM:starEach (e::es) X.env=(false,eval e X.env)::starEach es X.env) (o7:(backTo iB (starEach es X.env)).any (·.1)=false):PE X (.Call (.Attribute o name d8) (e::es) [] iB) (tE X aa ae (HL T w fo ts)):=by
 unfold wC at ht;split at ht
 ·rename_i hx;cases ht;have hx:=aU hx;subst hx;exact(K8 xV PySem.F.slot_list_append PySem.F.type_list_append Ck ho ha lu IY lx qM o7).imp λ_ _ _ h=>Fq (Fs Jy) h
 ·split at ht
  ·rename_i hx;cases ht;have hx:=aU hx;subst hx;exact(K8 xV PySem.F.slot_list_extend PySem.F.type_list_extend NO ho ha lu IY lx qM o7).imp λ_ _ _ h=>Fq N6 h
  ·cases ht
def SM(ht:Ft name=some (T,w))(ho:PE X o (tE X aa ae fo))(lu:attributeBase o name X.env (eval o X.env)=eval o X.env)(lx:(d8.endLine==iB.line)=true) :
  PE X (.Call (.Attribute o name d8) [] [] iB) (tE X aa ae (HL T w fo (cx []))):=by
 cases ht
def eI(po pi pv:PV):cb->Option cb:=λst=>(kF st.h po).bind λc=>match c.2.k with
 | .lst=>(lG pi).bind λi=>(AE c.2.ps.length i).map λj=>⟨st.ρ,st.h.set c.1 ⟨.lst,c.2.ps.set j pv⟩⟩
 | .eV t ks=>(iM t pi).bind λk=>if ks.length<gy then some ⟨st.ρ,st.h.set c.1 (eO t k pv ks c.2.ps)⟩else none
 | _=>none
def W2(K:W.Frag):Ec:=λo i v H Q=>∃aa ae F st τ po pi pv st',eI po pi pv st=some st'/\Rep K aa ae F st τ H/\bu K F po o/\bu K F pi i/\bu K F pv v/\∀H' F',Rep K aa ae F' st' τ H'->Gr F F'->Q H'
def SN(hu:X.A.units+1150<cLine):Ed X (W2 X.K):=by
 rintro af s σ H o i v ov iv u Q I ro ri rv ⟨aa,ae,F,st,τ,po,pi,pv,st',e,R,bo,bi,bv,k⟩
 obtain⟨⟨n,c⟩,e1,e0⟩:=aN e;clear e;have e:=e0;clear e0;obtain⟨rfl,hc,hl⟩:=fQ e1;obtain⟨a,ha,rfl⟩:=de.mp bo;obtain⟨_,vs,h2,h3⟩:=R.c.cell n c a hc ha hl;split at e
 ·rename_i hk;obtain⟨j,e2,e⟩:=aN e;obtain⟨m,e3,rfl⟩:=aO e;rw[eY e2]at bi;have hk:=hk;rw[hk]at h2;refine Ey af s σ H _ _ v ov iv u Q I ro ri rv ⟨a,vs,j,m,rfl,aC.mp bi,h2,by rw[<-h3.length];exact e3,k _ F (R.put hc hl ha aw (h3.set bv m)) (Gr.refl _)⟩
 ·rename_i t ks hk;have hk:=hk;obtain⟨kk,e2,e⟩:=aN e;obtain⟨hz,rfl⟩:=aA e;rw[hk]at h2;cases t with
  | false =>
   obtain⟨kvs,g1,g2,g3⟩:=h2;obtain⟨j,rfl,rfl⟩:=lK e2 bi;rw[<-g3]at h3;obtain⟨kY,vB,p1,p2,p3⟩:=EX (j:=j) bv h3;have dI:kvs.length<sizeLine:=by
    have:ks.length=kvs.length:=by grind
    exact bM (by grind) (eF (aD _))
   rw[g2]at p1;refine NP af s σ H _ _ v ov iv u Q I ro ri rv ⟨a,kvs,j,rfl,rfl,g1,dI,k _ F ?_ (Gr.refl _)⟩;simp only[p1];exact R.put hc hl ha ⟨_,aw,p2,rfl⟩ p3
  | true =>
   obtain⟨xs,g1,g2,g3,g4⟩:=h2;obtain⟨cc,rfl,UQ⟩:=lL e2 bi;refine NQ (by lia) af s σ H _ _ v ov iv u Q I ro ri rv ⟨a,cc,xs,kk,rfl,rfl,g1,λz hz=>bC R.sub (g2 z hz),bC R.sub UQ,(by
    have:ks.length=xs.length:=by grind
    exact bM (by grind) (eF (aD _))),λr hr=>?_⟩
   obtain⟨kY,vB,vC,p1,p2,p3,p4,p5⟩:=NK bv hr UQ g2 h3 g4;rw[g3]at p1;refine k _ F ?_ (Gr.refl _);simp only[p1];exact R.put hc hl ha ⟨_,aw,p3,p2,p5⟩ p4
 ·cases e
def N7(fv fo fi:Gx PV):Gx dJ:=bnd fv λv=>bnd fo λo=>bnd fi λi=>stp (eI o i v)
def SO(hu:X.A.units+1150<cLine)(he:PE X e (tE X aa ae fv))(ho:PE X o (tE X aa ae fo))(hi:PE X k (tE X aa ae fi))
  (ha:∀v,assign (.Subscript o k CF) X.env v=(do
   let ov <-holding [v] (eval o X.env)
   let iv <-holding [v,ov] (eval k X.env)
   standAt CF
   holding [v,ov,iv] (setItem ov iv v)
   release [v,ov,iv] []))
  (hs:swapsWithSole [.Subscript o k CF] e pos.line X.env=pure false) (hw:swappedStores [.Subscript o k CF] e X.env=pure none):PS X (.Assign [.Subscript o k CF] e pos) (tS X aa ae (N7 fv fo fi)) :=
 (Ef he (MC ho hi (SN hu) ha) hs hw rfl).imp λD σ H ⟨F,st,R,h⟩=>⟨F,st,R,h.bnd λpv v F1 st1 H1 R1 g1 b1 h1=>⟨F1,st1,R1,h1.bnd λpo o F2 dH H2 R2 g2 b2 h2=>⟨F2,dH,R2,h2.bnd λpi i F3 Iz H3 R3 g3 b3 h3=>by
  obtain⟨st',e,z⟩:=h3.stp;exact⟨aa,ae,F3,Iz,σ,po,pi,pv,st',e,R3,b2.mono g3,b3,b1.mono (g2.trans g3),λH' F' R' g'=>z F' σ H' R' g'⟩⟩⟩⟩
def N8(t:Bool):Gx PV:=iS ⟨.eV t [],[]⟩
def SQ(t:Bool):PE X (.Dict [] [] pos) (tE X aa ae (N8 t)):=by
 cases t with
 | false=>exact EZ.imp (by rintro σ H Q ⟨F,st,R,h⟩ p hp;exact Tx.iS h R hp ⟨[],aw,rfl,rfl⟩ .nil)
 | true=>exact I0.imp (by rintro σ H Q ⟨F,st,R,h⟩ p hp;exact Tx.iS h R hp ⟨[],aw,(λ_ z=>nomatch z),rfl,.nil⟩ .nil)
end
def Bc(K:W.Frag)(mg:Str->Option Value)(P:Params)(T:Str)(rows:List (Str×Str)):Prop :=
 ∃a es n,mg T=some (.ref a)/\K.lookup a=some ⟨.type "dict",none,.dict es n,#[]⟩/\W.KeysLit P es.toList/\∀k fn,rows.lookup k=some fn->∃f,W.nsIn K a k=some (some (.ref f))/\mg fn=some (.ref f)/\W.nsIn K mainGlobals fn=some (some (.ref f))
def uL(K:W.Frag)(mg:Str->Option Value)(P:Params)(T:Str)(rows:List (Str×PV)):Prop :=
 ∃a es n,(a==sysModules)=false/\mg T=some (.ref a)/\K.lookup a=some ⟨.type "dict",none,.dict es n,#[]⟩/\W.KeysLit P es.toList/\∀k p,rows.lookup k=some p->∃u v,W.nsIn K a k=some (some u)/\RelV v u/\∀F,bu K F p v
def W3(K:W.Frag)(a:Addr):R2:=λx y H Q=>∃k u v,x=.ref a/\y=.str k/\W.nsIn K a k=some (some u)/\RelV v u/\Q v H
noncomputable def N9:PV->Option Str | .str x=>some x | _=>none
def sk(h:N9 p=some i):p=.str i:=by
 cases p<;>first | (cases h;rfl) | cases h
section
variable {X:Cx} {aa:Hp} {ae:Fz} {e ke:Expr} {es:List Expr} {fk fe ff:Gx PV} {ts:Gx (List PV)} {pos p sp:Pos} {T:Str}
def Fu{es:Array DictEntry}(hl:X.K.lookup a=some ⟨.type "dict",none,.dict es n,#[]⟩)(hk:W.KeysLit X.w.params es.toList):Qc X (W3 X.K a):=by
 rintro value slice af s σ H x y v u Q I rx ry ⟨k,u',v',ex,ey,e,rv,q⟩ hs
 subst ex ey;cases rx;obtain⟨t,rfl⟩:=ry;have hm:=W.mapOf_K (prog:=X.prog) I.mJ hl hk;exact mH hm.typeIs slot_dict_getitem.lookup (wpAny_getItem_of (strKind_is X.prog X.w k t) hm (W.find_K hl e) ⟨v',H,I.tok _,rv,q⟩) hs
def CL(kB:Str->Option PV)(fk:Gx PV):Gx PV:=bnd fk λq=>jE ((N9 q).bind kB)
def SR(ht:uL X.K X.mg X.w.params T rows)(hg:Gl X T)(hk:PE X ke (tE X aa ae fk))(hs:lq ke)(yR:(T==("__debug__":Str))=false):PE X (.Subscript (.Name T p) ke sp) (tE X aa ae (CL (λk=>rows.lookup k) fk)):=by
 obtain⟨a,QP,n,_,t1,t2,t3,t4⟩:=ht;refine(Ex (Fu t2 t3) (ui (v:=.ref a) hg t1 rfl yR) hk hs).imp λσ H Q ⟨F,st,R,h⟩=>?_
 refine⟨F,st,R,h.bnd λpk v F1 st1 H1 R1 g1 b1 h1=>?_⟩
 obtain⟨q,e1,z⟩:=h1.jE;obtain⟨k,e2,e3⟩:=aN e1;rw[sk e2]at b1;obtain⟨u,w,n1,n2,n3⟩:=t4 k q e3;exact⟨k,u,w,rfl,bH.mp b1,n1,n2,z _ H1 F1 R1 (Gr.refl _) (n3 F1)⟩
def SS(ht:Bc X.K X.mg X.w.params T rows)(hg:Gl X T)(hk:PE X ke (tE X aa ae fk))(hs:lq ke)(yR:(T==("__debug__":Str))=false):PE X (.Subscript (.Name T p) ke sp) (tE X aa ae (CL (λk=>(rows.lookup k).map .fn) fk)):=by
 obtain⟨a,QP,n,t1,t2,t3,t4⟩:=ht;refine(Ex (Fu t2 t3) (ui (v:=.ref a) hg t1 rfl yR) hk hs).imp λσ H Q ⟨F,st,R,h⟩=>?_
 refine⟨F,st,R,h.bnd λpk v F1 st1 H1 R1 g1 b1 h1=>?_⟩
 obtain⟨q,e1,z⟩:=h1.jE;obtain⟨k,e2,e3⟩:=aN e1;obtain⟨fn,e4,rfl⟩:=aO e3;rw[sk e2]at b1;obtain⟨f,n1,n2,n3⟩:=t4 k fn e4;exact⟨k,.ref f,.ref f,rfl,bH.mp b1,n1,rfl,z _ H1 F1 R1 (Gr.refl _) (pK.mpr ⟨f,rfl,n3⟩)⟩
def Lp(X:Cx)(fns:List (Str×Nat))(call:Str->jm):Prop:=∀x n,fns.lookup x=some n->∃k f fd ps,FnOk X.prog X.w X.K X.mg X.base (g7 X.prog X.w) k f fd ps (sh X.K n (call x))/\cS k X.A/\X.mg x=some (.ref f)/\W.keepIn X.K (.ref f)=true/\cE X.K fd ps []
noncomputable def Vc:PV->Option Str | .fn x=>some x | _=>none
def Fv{p:PV}(h:Vc p=some i):p=.fn i:=by
 cases p<;>first | (cases h;rfl) | cases h
def Be(fns:List (Str×Nat))(call:Str->jm)(ff:Gx PV)(ts:Gx (List PV)):Gx PV:=bnd ff λq=>bnd (jE ((Vc q).bind λx=>(fns.lookup x).map λn=>(x,n))) λx=>Lo x.2 (call x.1) ts
def uM(v k:Expr)(sp:Pos)(args:List Expr)(pos:Pos)(env:Env):eval (.Call (.Subscript v k sp) args [] pos) env=(do callWith pos (<-eval (.Subscript v k sp) env) [] (backTo pos (starEach args env)) (backToKw pos (keywordEach [] env))):=rfl
def JM{call:Str->jm}(QT:Lp X fns call)(Du:∀x a,W.nsIn X.K mainGlobals x=some (some (.ref a))->X.mg x=some (.ref a))(hf:PE X (.Subscript v k sp) (tE X aa ae ff))(ha:PA X (e::es) (tA X aa ae ts))
  (he:starEach (e::es) X.env=(false,eval e X.env)::starEach es X.env) (o7:(backTo pos (starEach es X.env)).any (·.1)=false):PE X (.Call (.Subscript v k sp) (e::es) [] pos) (tE X aa ae (Be fns call ff ts)):=by
 rintro af s σ H Q I ⟨F,st,R,h⟩
 rw[uM];refine ag (thn (hf af s σ H (λv H1=>∃F1 st1 q,Rep X.K aa ae F1 st1 σ H1/\bu X.K F1 q v/\Tx X aa ae (bu X.K) F1 st1 (bnd (jE ((Vc q).bind λx=>(fns.lookup x).map λn=>(x,n))) λx=>Lo x.2 (call x.1) ts) σ Q) I
  ⟨F,st,R,h.bnd λq v F1 st1 H1 R1 g1 b1 h1=>⟨F1,st1,q,R1,b1,h1⟩⟩) λu s1 ⟨x,H1,I1,rx,F1,st1,q,R1,b1,h1⟩=>?_)
 obtain⟨⟨y,n⟩,e1,z⟩:=At.jE (At.bnd h1);obtain⟨y',e2,e3⟩:=aN e1;obtain⟨n',e4,e5⟩:=aO e3;simp only[i8]at e5;obtain⟨rfl,rfl⟩:=e5;rw[Fv e2]at b1;obtain⟨a,rfl,R7⟩:=pK.mp b1;obtain⟨j,f',fd,ps,G,hr,m1,m2,m3⟩:=QT _ _ e4;have:=bJ ((Du _ a R7).symm.trans m1);cases this;cases rx;exact W.callWith_K I.ok.mod.kin m2 (thn (ha pos af s1 σ H1 (λvs H2=>∃F2 dH as,Rep X.K aa ae F2 dH σ H2/\au X.K F2 as vs/\Tx X aa ae (bu X.K) F2 dH (jn _ _ as) σ Q) I1
  ⟨F1,st1,R1,Tx.bnd z λas vs F2 dH H2 R2 g2 b2 h2=>⟨F2,dH,as,R2,b2,h2⟩⟩) (by rintro us s2 ⟨vs,H2,I2,r,F2,dH,as,R2,b2,z⟩;exact⟨I2.mJ,SJ G hr m3 _ _ _ _ _ _ _ _ _ _ _ _ I2 R2 b2 r z⟩)) he o7
noncomputable def wD(f:Str):List Str->List PV->Option PV
 | g::ns,p::ps=>if g=f then some p else wD f ns ps
 | _,_=>none
def JN(f:Str)(fe:Gx PV):Gx PV:=bnd fe λp=>hp λh=>match cR h p with
 | some (.ins _ ns,ps)=>wD f ns ps
 | _=>none
theorem pZ{K:W.Frag}:∀{fs:List (Str×V)} {ps:List PV} {p:PV},wD f (fs.map (·.1)) ps=some p->au K F ps (fs.map (·.2))->f∈fs.map (·.1)/\∃v,fs.lookup f=some v/\bu K F p v
 | [],_,_,h,_=>by cases h
 | (g,v)::r,[],_,h,_=>by cases h
 | (g,v)::r,q::ps,p,h,b=>by
  obtain⟨v',w,e,b1,b2⟩:=b.bT;cases e;have h:(if g=f then some q else wD f (r.map (·.1)) ps)=some p:=h
  by_cases hg:g=f
  ·grind
  ·rw[if_neg hg]at h;obtain⟨h1,v2,h2,h3⟩:=pZ h b2;have hgf:(f==g)=false:=by grind
   exact⟨cO _ h1,v2,by grind,h3⟩
def SU(he:PE X e (tE X aa ae fe))(hb:attributeBase e f X.env (eval e X.env)=eval e X.env):PE X (.Attribute e f pos) (tE X aa ae (JN f fe)):=(MU he hb).imp λσ H Q ⟨F,st,R,h⟩=>⟨F,st,R,h.bnd λq v F1 st1 H1 R1 g1 b1 h1=>by
 obtain⟨o,e,z⟩:=h1.hp;split at e
 ·rename_i C ns ps hd;obtain⟨a,vs,rfl,⟨Ca,dx,fs,h2,h3,h4,h5,h6,h7⟩,h8⟩:=R1.at hd b1;subst h6 h7;obtain⟨hm,w,hl,bw⟩:=pZ e h8;exact⟨a,Ca,dx,fs,w,rfl,h5,h3,h4 f hm,hl,z _ H1 F1 R1 (Gr.refl _) bw⟩
 ·cases e⟩
noncomputable def iD(f:Str)(q:PV):List Str->List PV->List Str×List PV
 | g::ns,p::ps=>if g=f then(g::ns,q::ps)else(g::(iD f q ns ps).1,p::(iD f q ns ps).2)
 | _,_=>([f],[q])
theorem uN{K:W.Frag}(bq:bu K F q v):∀{fs:List (Str×V)} {ps:List PV},au K F ps (fs.map (·.2))->(gQ f v fs).map (·.1)=(iD f q (fs.map (·.1)) ps).1/\au K F (iD f q (fs.map (·.1)) ps).2 ((gQ f v fs).map (·.2))/\∀g∈(iD f q (fs.map (·.1)) ps).1,g=f\/g∈fs.map (·.1)
 | [],ps,b=>by
  have e:=mi b.length;subst e;exact⟨rfl,.cons bq .nil,λg hg=>.inl (by simpa[iD]using hg)⟩
 | (g,w)::r,[],b=>by have:=b.length;simp at this
 | (g,w)::r,p::ps,b=>by
  obtain⟨v',w',e,b1,b2⟩:=b.bT;cases e;obtain⟨h1,h2,h3⟩:=uN bq b2;by_cases hg:g=f
  ·subst hg;have e1:gQ g v ((g,w)::r)=(g,v)::r:=if_pos rfl;have e2:iD g q (((g,w)::r).map (·.1)) (p::ps)=(g::r.map (·.1),q::ps):=if_pos rfl;rw[e1,e2];exact⟨rfl,.cons bq b2,λy hy=>.inr hy⟩
  ·have e1:gQ f v ((g,w)::r)=(g,w)::gQ f v r:=if_neg hg;have e2:iD f q (((g,w)::r).map (·.1)) (p::ps)=(g::(iD f q (r.map (·.1)) ps).1,p::(iD f q (r.map (·.1)) ps).2):=if_neg hg;rw[e1,e2];refine⟨by rw[aQ,h1],.cons b1 h2,λy hy=>?_⟩
   rcases bh.mp hy with rfl | hy
   ·grind
   ·grind
def Bf(K:W.Frag)(cls:List Str)(flds:List Str):Prop:=∀C,cls.contains C=true->∃Ca,ClsAt K C (.ref Ca)/\qS K Ca/\∀f,flds.contains f=true->gP K Ca f
def fI(cls flds:List Str)(f:Str)(po pv:PV):cb->Option cb:=λst=>(kF st.h po).bind λc=>match c.2.k with
 | .ins C ns=>if(cls.contains C&&flds.contains f&&decide (ns.length<900))=true then some ⟨st.ρ,st.h.set c.1 ⟨.ins C (iD f pv ns c.2.ps).1,(iD f pv ns c.2.ps).2⟩⟩else none
 | _=>none
def JO(cls flds:List Str)(f:Str)(fv fo:Gx PV):Gx dJ:=bnd fv λv=>bnd fo λo=>stp (fI cls flds f o v)
def SV{cls flds:List Str}(hc:Bf X.K cls flds)(ho:PE X o (tE X aa ae fo))(he:PE X e (tE X aa ae fv))(hs:swapsWith e (some (.Attribute o f nN)) pos.line X.env=pure false):PS X (.Assign [.Attribute o f nN] e pos) (tS X aa ae (JO cls flds f fv fo)) :=
 (MV ho he hs).imp λD σ H ⟨F,st,R,h⟩=>⟨F,st,R,h.bnd λpv v F1 st1 H1 R1 g1 b1 h1=>⟨F1,st1,R1,h1.bnd λpo o F2 dH H2 R2 g2 b2 h2=>by
  obtain⟨st',e,z⟩:=h2.stp;obtain⟨⟨n,c⟩,e1,e0⟩:=aN e;clear e;have e:=e0;clear e0;obtain⟨rfl,yH,hl⟩:=fQ e1;obtain⟨a,ha,rfl⟩:=de.mp b2;obtain⟨_,vs,SW,g3⟩:=R2.c.cell n c a yH ha hl;split at e
  ·rename_i C ns hk;have hk:=hk;obtain⟨hq,rfl⟩:=aA e;rw[aF,aF]at hq;rw[hk]at SW;obtain⟨Ca,dx,fs,k1,k2,k3,k4,rfl,rfl⟩:=SW;obtain⟨Cb,m1,m2,m3⟩:=hc C hq.1.1;have eC:Ca=Cb:=by
    have:=k1.symm.trans m1;cases this;rfl
   subst eC;have dI:=gN hq.2;rw[aM]at dI;obtain⟨p1,p2,p3⟩:=uN (b1.mono g2) g3;refine⟨a,Ca,dx,fs,rfl,k4,k2,m3 f hq.1.2,(Nat.le_add_left_of_le ‹_›),z F2 σ _ (R2.put yH hl ha ⟨Ca,dx,_,k1,k2,λg hg=>?_,aw,p1,rfl⟩ p2) (Gr.refl _)⟩
   rcases p3 g hg with rfl | hg
   ·exact m3 _ hq.1.2
   ·exact k3 g hg
  ·cases e⟩⟩
noncomputable def Fw(C:Str)(n:Nat)(g:jm)(ts:Gx (List PV)):Gx PV:=λ_=>none
end
def W4(X:Cx)(aa:Hp)(ae:Fz)(fa:Addr)(ω:PV->Gx PV):Prop:=∀(H:Hp) (F:Fz) (st:cb) (σ:St) (af:List (Addr×Obj)) (s:Shared) (Q:VK) (p:PV) (u:Value) (v:V),Inv X af σ H s->Rep X.K aa ae F st σ H->bu X.K F p v->RelV v u->Tx X aa ae (bu X.K) F st (ω p) σ Q ->
 wpAny (model X.prog X.w) X.A (call (.ref fa) [u]) (EP X af σ Q) X.xe s
structure Fx (X:Cx) (aa:Hp) (ae:Fz) (n:Nat) (ω:PV->Gx PV):Prop where
 ex:∃fa o u W5,ae.μ[n]?=some fa/\X.aa fa=some (.vE o u)/\o.data=.func W5/\W4 X aa ae fa ω
structure SX (X:Cx):Prop where
 ex:∃x c T,x∈dm/\W.tabIn X.K x=some (c,T)/\W.codeHdIn X.K c T=true/\X.env.code=.ref c/\X.env.qual++"<lambda>"=Ik x
 blt:ED X.mg X.base
section
variable {X:Cx} {aa:Hp} {ae:Fz} {e o:Expr} {fe fo:Gx PV} {pos p Fy zp ap cp:Pos}
def Lq(h:starEach [e] X.env=(false,eval e X.env)::starEach [] X.env)(hq:wpAny M A (eval e X.env) (λv s1=>Q [v] s1) E s):wpAny M A (spliced (backTo pos (starEach [e] X.env))) Q E s:=by
 rw[h];exact Calls.spliced_cons (thn hq λv s1 q=>Calls.spliced_nil q)
end
end L2.U
namespace PySem
open PyProof.Rows
namespace F
def eJ:entryFor table "dict.update.loop"=some Builtin.«dict.update.loop» := entryFor_of_tree (by kernel_rfl)
def cw:plainId "dict.update.loop"=true:=by decide +kernel
end F
section
variable {prog:Program} {w:World} {K:Type} [DecidableEq K] {knd:KeyKind prog w K} {A:Around} {R:Result->Shared->Prop} {I:Addr} {fp wr:List Addr} {G:Array GenState->Array GenState->Prop} {n:Nat} {P:Nat->Value->Prop} {St:Nat->Shared->Prop}
def wF(h:Heap)(b:Addr)(key v:Value):Prop:=∃o m,h.get? b=some o/\o.cls=.type "tuple"/\o.data=.seq #[key,v] m
def nW(hp:wF s.heap b key v)(h:Q [key,v] s):wpAny (model prog w) A (Builtin.Dict.pairItems (.ref b)) Q E s:=by
 obtain⟨o,m,h1,h2,h3⟩:=hp;unfold Builtin.Dict.pairItems;refine ag (mE ⟨o,h1,h2⟩ ?_);rw[if_pos (by decide)]
 refine ag ?_;unfold seqItems?;obtain⟨abm,Zb,Zc,W6⟩:=o;simp only at h2 h3;subst h2 h3
 wp_walk
 exact h
def CM(W:WalksS prog w A.in1 I fp wr G n P St)(S:Addr)(hSf:S∉fp)(hl:kvs.length=n)(hn:n<=sizeLine){s₀:Shared}
  (Oa:∀i v,P i v->∃b k key u,v=.ref b/\kvs[i]?=some (k,u)/\knd.is k key=true/\b∉S::wr/\wF s₀.heap b key u) :
  ∀(c i:Nat) (s:Shared),n-i=c->i<=n->St i s->(∀b o,b∉S::wr->s₀.heap.get? b=some o->s.heap.get? b=some o)->s.heap.DictOf knd S (merged [] (kvs.take i)) ->
   (∀s',Moved (S::wr) G s s'->s'.heap.DictOf knd S (merged [] kvs)->R (.ok (.ret .none)) s') ->
   codeAny (model prog w) A (.builtin "dict.update.loop" ⟨[.ref S,.ref I,rawInt (i:Int),.none],[]⟩) R s:=by
 have Zd:S∉wr:=λh=>hSf (W.sub _ h)
 have JC:∀b∈wr,b∈S::wr:=by grind
 intro c;induction c with
 | zero =>
  intro i s hk hi qM ho hS hR;have W7:i=n:=by lia
  subst W7;refine tP F.eJ ?_;rw[tx F.cw _];refine ag (W.done s _ _ qM λs' hm=>?_)
  refine ag (aq ?_);rw[tm (i9 ‹_›)]at hS;refine aq (hR s' (hm.mono JC) ?_);obtain⟨o,es,ep,h1,r⟩:=hS;exact⟨o,es,ep,hm.heap S _ Zd h1,r⟩
 | succ c ih =>
  intro i s hk hi qM ho hS hR;have uI:i<n:=by lia
  refine tP F.eJ ?_;rw[tx F.cw _];refine ag (W.item i s _ _ uI qM λv s' hP Ob hm=>?_)
  obtain⟨b,k,key,u,rfl,hki,MT,hbn,SY⟩:=Oa i v hP;have o9:∀b o,b∉S::wr->s₀.heap.get? b=some o->s'.heap.get? b=some o:=λb o hb e=>hm.heap b o (λz=>hb (cO _ z)) (ho b o hb e)
  refine ag (dY ?_);refine ag (wpAny_tryCatch (nW (by
   obtain⟨o,m,h1,r⟩:=SY;exact⟨o,m,o9 b o hbn h1,r⟩) ?_))
  refine dY ?_;have hsz:(merged [] (kvs.take i)).length<=sizeLine:=by
   have:=merged_length_le ([]:List (K×Value)) (kvs.take i);rw[mw]at this;simp at this
   lia
  refine wpAny_dictSet_pairs MT (by
   obtain⟨o,es,ep,h1,r⟩:=hS;exact⟨o,es,ep,hm.heap S _ Zd h1,r⟩) λh' hd W8=>?_
  rw[<-merged_take_succ _ _ _ _ hki]at hd;have W9:∀b o,b∉S::wr->s₀.heap.get? b=some o->h'.get? b=some o:=λb o hb e=>(W8.2 b (λh:b=S=>hb (by grind))).trans (o9 b o hb e)
  refine aq ⟨t8 F.cw _,ih (i+1) _ (by lia) uI (W.frame _ s' _ _ Ob (yp ..) λb hb o e=>?_) W9 hd λRm Xa Xb=>?_⟩
  ·exact(W8.2 b (λh:b=S=>hSf (by grind))).trans e
  ·refine hR Rm (Moved.trans W.gtrans ((hm.mono JC).then_heap (yp ..) λb o hb e=>?_) Xa) Xb
   exact(W8.2 b (λh:b=S=>hb (by grind))).trans e
end
namespace F
theorem uO:typeLookup (.type "list") "keys"=pure none:=by rw[yu,xY];kernel_rfl
end F
section
variable {prog:Program} {w:World} {A:Around} {E:Value->Shared->Prop} {s:Shared} {a:Addr} {o:Obj} {xs:Array Value} {k:Nat} {Q:Option Value->Shared->Prop}
theorem p6(hx:s.heap.get? a=some o)(hc:o.cls=.type "list")(y7:o.data=.seq xs k)(hd:o.dict=none)(hA:A.handled=none)
  (h:∀h' tk,(∀b ob,s.heap.get? b=some ob->h'.get? b=some ob)->Q none {s with heap:=h',toks:=tk}) :
  wpAny (model prog w) A (getAttr? (.ref a) "keys") Q E s:=by
 obtain⟨c,Lr,dat,sl⟩:=o;simp only at hc y7 hd;subst hc y7 hd;obtain⟨hp,g,d,tk,os⟩:=s;have hT:∀Vd,(⟨hp,g,d,Vd,os⟩:Shared).TypeIs (.ref a) "list":=λ_=>⟨_,hx,rfl⟩
 have f1:=sub_AttributeError;have f3:=xQ.lookup;have f4:=xQ.bind (.ref a);have f5:=am_list_getattr_none;unfold getAttr? getAttrBy? getAttrBy
 repeat (any_goals (first | assumption | exact hT _ | ((with_reducible show wpAny _ _ (call (Value.builtin "list.__getattribute__") _ _) _ _ _);refine fE xQ (hT _) am_entry_list_getattribute (F.args_list_getattribute_2 _ _) (meets_getattribute_miss_list a xs k sl "keys" _ F.uO (by decide +kernel) (by decide +kernel)) ⟨hx,hA,λh' Vd e CB=>?_⟩) | wp_step))
 obtain⟨t',u',he⟩:=CB.there;show wpAny _ _ (getattributeRaised _ _ _ _ _ _ _) _ _ _;unfold getattributeRaised
 repeat (any_goals (first | assumption | wp_step))
 exact h _ _ CB.keeps
end
section
variable {prog:Program} {w:World} {A:Around} {E:Value->Shared->Prop} {s:Shared} {K:Type} [DecidableEq K] {knd:KeyKind prog w K}
theorem wG{l:Addr}{ol:Obj}{items:Array Value}{m:Nat}{kvs:List (K×Value)}{Q:Value->Shared->Prop}(hh:A.handled=none)(hx:s.heap.get? l=some ol)(hc:ol.cls=.type "list")(y7:ol.data=.seq items m)(Xc:ol.dict=none)
  (hi:∀(i:Nat) (v:Value),items[i]?=some v->∃b k key u,v=.ref b/\kvs[i]?=some (k,u)/\knd.is k key=true/\wF s.heap b key u) (hlk:kvs.length=items.size) (hb:items.size<=sizeLine)
  (h:∀(h':Heap) (tk:Nat),h'.DictOf knd s.heap.objs.size (merged [] kvs)->(∀b o,b<s.heap.objs.size->s.heap.get? b=some o->h'.get? b=some o)->Q (.ref s.heap.objs.size) {s with heap:=h',toks:=tk}) :
  wpAny (model prog w) A (call (.type "dict") [.ref l]) Q E s:=by
 refine callType_codes (Q₁:=λobj s₁=>obj=.ref s.heap.objs.size/\s₁={s with heap:=s.heap.push {cls:=.type "dict",data:=.dict #[]}}) F.kt_called_dict (F.kt_typeCall_dict_1 _) F.entry_dict_init (kt_code_dict_new _ ⟨rfl,rfl⟩) ?_
 rintro obj s₁ ⟨rfl,rfl⟩
 have zk:(s.heap.push {cls:=.type "dict",data:=.dict #[]}).DictOf knd s.heap.objs.size []:=Heap.DictOf.new s.heap
 have CB:(s.heap.push {cls:=.type "dict",data:=.dict #[]}).get? l=some ol:=aH _ hx
 have Ze:l<s.heap.objs.size:=aG hx;refine⟨zk.typeIs,F.args_dict_init_2 _ _,?_⟩;unfold Builtin.«dict.__init__»;refine ag ?_;unfold Builtin.Dict.selfAndRest;refine ag (wpAny_notOrdered_dict zk.typeIs ?_);show wpAny _ _ (pure (s.heap.objs.size,[Value.ref l])) _ _ _;refine aq ?_;show wpAny _ _ (Builtin.Dict.updateFrom "dict.__init__" s.heap.objs.size (.ref l) [] .none) _ _ _;unfold Builtin.Dict.updateFrom;refine ag (mE (T:="list") ⟨ol,CB,hc⟩ ?_);rw[if_pos (by decide)]
 refine ag (p6 CB hc y7 Xc (by simp[hh]) λh2 tk2 kp=>?_)
 rw[if_pos (show(none:Option Value).isNone=true from rfl)]
 have Ve:h2.get? l=some ol:=kp l ol CB;have Ls:h2.DictOf knd s.heap.objs.size []:=by
  obtain⟨o,es,ep,h1,r⟩:=zk;exact⟨o,es,ep,kp _ _ h1,r⟩
 have Zf:h2.IsList l items:=⟨ol,Ve,hc,m,y7⟩;refine ag (ku ?_);refine ag ?_;refine yf Zf ?_;refine aq ⟨t8 F.cw _,?_⟩;have Vf:s.heap.objs.size<h2.objs.size:=by
  obtain⟨o,_,_,h1,_⟩:=Ls;exact aG h1
 have Xd:l≠h2.objs.size:=br (ko Ze Vf);have hSf:s.heap.objs.size∉[h2.objs.size,l]:=by
  simp only[bh,c9,da,not_or];exact⟨br Vf,oS Ze⟩
 have JP:A.in1.in1.handled=none:=by simp[hh]
 have Oa:∀(i:Nat) (v:Value),items[i]?=some v->∃b k key u,v=.ref b/\kvs[i]?=some (k,u)/\knd.is k key=true/\b∉[s.heap.objs.size,h2.objs.size]/\wF s.heap b key u:=λi v hv=>by
  obtain⟨b,k,key,u,e1,e2,e3,e4⟩:=hi i v hv;refine⟨b,k,key,u,e1,e2,e3,?_,e4⟩;obtain⟨o,_,ho,_⟩:=e4;have:=aG ho;simp only[bh,c9,da,not_or];exact⟨br this,br (ko this Vf)⟩
 refine CM (knd:=knd) (s₀:=s) ((Walks.list JP h2.objs.size l Xd items).toS) s.heap.objs.size hSf hlk hb Oa (items.size-0) 0 _ (by lia) (ja _) ⟨⟨_,bE _ rfl,rfl,rfl⟩,Zf.push _⟩ (λb o _ e=>aH _ (kp _ _ (aH _ e))) ?_ ?_
 ·obtain⟨o,es,ep,h1,r⟩:=Ls;exact⟨o,es,ep,aH _ h1,r⟩
 ·intro s' hm Lu;obtain⟨h',g',d',Vd,Rl⟩:=s';have eg:g'=s.gens:=hm.gens;have ed:d'=s.drawn:=hm.drawn;have eo:Rl=s.os:=hm.os;subst eg;subst ed;subst eo;refine⟨rfl,h h' Vd Lu λb o hb e=>?_⟩
  refine hm.heap b o ?_ (aH _ (kp _ _ (aH _ e)));simp only[bh,c9,da,not_or];exact⟨br hb,br (ko hb Vf)⟩
end
end PySem
namespace L2.U
open PySem PySem.Spec PyProof.Rows
section
variable {X:Cx} {a b:Expr} {ta tb:TE} {p cp bp:Pos}
def nB(K:W.Frag)(H:Hp):List V->List (dG×V)->Prop:=Paired λv kv=>∃c,v=.ref c/\gw K H c [kV kv.1,kv.2]
def iE(kvs:List (dG×V)):List (dG×V):=kvs.foldl (λacc kv=>putK acc kv.1 kv.2) []
theorem wH:∀{kvs:List (dG×V)} {vs:List (dG×Value)} {acc:List (dG×V)} {S0:List (dG×Value)},L2.KV kvs vs->L2.KV acc S0->L2.KV (kvs.foldl (λacc kv=>putK acc kv.1 kv.2) acc) (vs.foldl (λacc kv=>stored acc kv.1 kv.2) S0)
 | _,_,_,_,.nil,h=>h
 | _,_,_,_,.cons (a:=x) r t,h=>by
  have h2:=h.put x.1 r.2;rw[kl,kl];rw[r.1]at h2 ⊢;exact wH (t) h2
def FA(f:List (dG×V)):∀acc:List (dG×V),(f.foldl (λacc kv=>putK acc kv.1 kv.2) acc).length<=acc.length+f.length:=by
 induction f with
 | nil=>intro acc;simp
 | cons x f ih =>
  intro acc;have:=ih (putK acc x.1 x.2);have:=AU acc x.1 x.2;rw[kl,cJ]
  lia
theorem Bg(I:Inv X af σ H s):∀{vs:List V} {kvs:List (dG×V)},nB X.K H vs kvs->∀{us:List Value},Vals vs us->∃JQ:List (dG×Value),L2.KV kvs JQ/\JQ.length=us.length/\∀(i:Nat) (u:Value),us[i]?=some u->∃b k key w,u=.ref b/\JQ[i]?=some (k,w)/\(dC X.prog X.w).is k key=true/\wF s.heap b key w
 | _,_,.nil,us,r=>by
  cases r;exact⟨[],.nil,rfl,λi u h=>by cases h⟩
 | _,_,.cons (b:=kv) q t,us,r=>by
  cases r with
  | cons r1 r2 =>
   obtain⟨JQ,g1,g2,g3⟩:=Bg I t r2;obtain⟨c,rfl,hs⟩:=q;obtain⟨ar,rr,⟨o,h1,h2,n,h3⟩,_⟩:=I.tuple hs;obtain⟨key,w,e,hk,hw⟩:=rr.two;subst e;cases r1;refine⟨(kv.1,w)::JQ,.cons ⟨rfl,hw⟩ g1,by rw[cJ,cJ,g2],λi u hu=>?_⟩
   cases i with
   | zero =>
    cases hu;exact⟨c,kv.1,key,w,rfl,rfl,rR hk,o,n,h1,h2,h3⟩
   | succ i=>exact g3 i u hu
end
def Zg(K:W.Frag):List V->Hp->VK->Prop:=λxs H Q=>∃a vs kvs,xs=[.ref a]/\iJ K H a vs/\vs.length<=1000/\nB K H vs kvs/\∀p,H p=none->Q (.ref p) (cK H p (.dK (iE kvs)))
theorem zl{X:Cx}(hh:X.A.handled=none):jU X (.type "dict") (Zg X.K):=by
 intro af s σ H xs us Q I rs ⟨a,vs,kvs,ex,ha,hl,hp,q⟩;subst ex;obtain⟨u,rfl,ru⟩:=jV rs;cases ru;obtain⟨ar,n,r,hx,_⟩:=I.pP ha;obtain⟨JQ,g1,g2,g3⟩:=Bg I hp r;have Zh:1000<=sizeLine:=by decide
 have hil:ar.length<=1000:=by rw[<-r.length];exact hl
 refine wG (knd:=dC X.prog X.w) (items:=ar.toArray) (kvs:=JQ) hh hx rfl rfl rfl (λi v hv=>?_) (by rw[g2];simp) (by simp;lia) λh' tk dd kp=>?_
 ·rw[List.getElem?_toArray]at hv;exact g3 i v hv
 ·have Qd:L2.KV (iE kvs) (merged [] JQ):=wH g1 .nil;refine⟨.ref _,_,I.laid (o:=.dK (iE kvs)) (λb u e=>kp b u (aG e) e) (aD _) ?_,rfl,q _ (I.hok.fresh (aD _))⟩
  refine⟨?_,bI.mpr (bZ (br (pG I))),_,Qd,dd⟩;have:=FA kvs [];have e:kvs.length=JQ.length:=mD g1;unfold iE;simp only[ki]at this
  lia
def JR{X:Cx}{a:Expr}{ta:TE}{p cp:Pos}(hh:X.A.handled=none)(hg:Gl X "dict")(hm:X.mg "dict"=none)(ha:PE X a ta)(hs:starEach [a] X.env=[(false,eval a X.env)]):PE X (.Call (.Name "dict" p) [a] [] cp) (λσ H Q=>ta σ H λx H1=>Zg X.K [x] H1 Q):=by
 intro af s σ H Q I h;refine Call_ (ld_blt I hg hm (show bootBuiltins "dict"=some (.type "dict") by decide +kernel) (j5 (Lq hs (thn (ha af s σ H _ I h) λv s1 ⟨x,H1,I1,r1,q1⟩=>?_)) hs rfl))
 exact zl hh af s1 σ H1 [x] [v] Q I1 (.cons r1 .nil) q1
def FC:PV->Option (dG×PV)
 | .nd .aj [k,v]=>(EW k).map λj=>(j,v)
 | _=>none
def wI:List (dG×PV)->ah->ah
 | [],c=>c
 | (k,v)::r,c=>match c.k with
  | .eV t ks=>wI r (eO t [k] v ks c.ps)
  | _=>c
def zm(ps:List PV):Option ah:=if ps.length<=1000 then(dq FC ps).map λkvs=>wI kvs ⟨.eV false [],[]⟩else none
section
variable {K:W.Frag} {F:Fz}
theorem wJ:∀{ps:List PV} {kvs:List (dG×PV)} {vs:List V},dq FC ps=some kvs->au K F ps vs->∃ks:List (dG×V),nB K F.F vs ks/\ks.map (·.1)=kvs.map (·.1)/\au K F (kvs.map (·.2)) (ks.map (·.2))
 | [],_,_,h,b=>by
  cases h;rw[b.cB];exact⟨[],.nil,rfl,.nil⟩
 | p::ps,kvs,vs,h,b=>by
  obtain⟨kv,r,h1,h2,rfl⟩:=eX h;obtain⟨v,w,rfl,b1,b2⟩:=b.bT;obtain⟨ks,g1,g2,g3⟩:=wJ h2 b2;unfold FC at h1;split at h1
  ·rename_i k q;obtain⟨j,e1,rfl⟩:=aO h1;obtain⟨c,ws,rfl,hs,hb⟩:=bN.mp b1;obtain⟨x,y,rfl,bx,bq⟩:=Jn hb;rw[pW e1 bx]at hs;exact⟨(j,y)::ks,.cons ⟨c,rfl,hs⟩ g1,by rw[aQ,aQ,g2],.cons bq g3⟩
  ·cases h1
theorem Bh:∀{kvs:List (dG×PV)} {ks:List (dG×V)} {acc:List (dG×V)} {ps:List PV},ks.map (·.1)=kvs.map (·.1)->au K F (kvs.map (·.2)) (ks.map (·.2))->au K F ps (acc.map (·.2)) ->
  ∃kY vB,wI kvs ⟨.eV false (acc.map λy=>[y.1]),ps⟩=⟨.eV false kY,vB⟩/\(ks.foldl (λacc kv=>putK acc kv.1 kv.2) acc).map (λy=>[y.1])=kY/\au K F vB ((ks.foldl (λacc kv=>putK acc kv.1 kv.2) acc).map (·.2))
 | [],ks,acc,ps,h1,h2,h3=>by
  have:=List.map_eq_nil_iff.mp h1;subst this;exact⟨_,_,rfl,rfl,h3⟩
 | (k,q)::kvs,[],acc,ps,h1,h2,h3=>by cases h1
 | (k,q)::kvs,(j,v)::ks,acc,ps,h1,h2,h3=>by
  simp only[aQ,yv]at h1;obtain⟨rfl,h1⟩:=h1;obtain⟨v',w,e,b1,b2⟩:=h2.bT;cases e;obtain⟨kY,vB,e1,e2,e3⟩:=EX b1 h3;obtain⟨ks2,ps2,e4,e5,e6⟩:=Bh h1 b2 e3;refine⟨ks2,ps2,?_,e5,e6⟩;show wI kvs (eO false [j] q (acc.map λy=>[y.1]) ps)=_
  rw[e1,<-e2];exact e4
end
def JS{K:W.Frag}(h:zm ps=some c)(b:au K F ps vs):∃ks:List (dG×V),nB K F.F vs ks/\ps.length<=1000/\∃kY qs,c=⟨.eV false kY,qs⟩/\(iE ks).map (λy=>[y.1])=kY/\au K F qs ((iE ks).map (·.2)):=by
 obtain⟨hl,h⟩:=bL h;obtain⟨kvs,h1,rfl⟩:=aO h;obtain⟨ks,g1,g2,g3⟩:=wJ h1 b;obtain⟨kY,vB,e1,e2,e3⟩:=Bh (acc:=[]) g2 g3 .nil;exact⟨ks,g1,hl,kY,vB,e1,e2,e3⟩
theorem nB.mono{K:W.Frag}(h:b8 F G):∀{vs:List V} {ks:List (dG×V)},nB K F vs ks->nB K G vs ks
 | _,_,.nil=>.nil
 | _,_,.cons ⟨c,e,q⟩ t=>.cons ⟨c,e,bC h q⟩ (nB.mono h t)
section
variable {X:Cx} {aa:Hp} {ae:Fz} {a b e:Expr} {fa fb fe:Gx PV} {p cp bp:Pos}
def JT(fa:Gx PV):Gx PV:=bnd fa λp st=>match p with
 | .nd .lst ps=>(zm ps).bind λc=>iS c st
 | _=>none
def Oc(hh:X.A.handled=none)(hg:Gl X "dict")(hm:X.mg "dict"=none)(ha:PE X a (tE X aa ae fa))(hs:starEach [a] X.env=[(false,eval a X.env)]):PE X (.Call (.Name "dict" p) [a] [] cp) (tE X aa ae (JT fa)) :=
 (JR hh hg hm ha hs).imp λσ H Q ⟨F,st,R,h⟩=>⟨F,st,R,h.bnd λq v F1 st1 H1 R1 g1 b1 h1=>by
  obtain⟨r,e1,e2⟩:=h1;split at e1
  ·rename_i ps;obtain⟨c,e5,e1⟩:=aN e1;obtain⟨ad,vs,rfl,hs1,Zi⟩:=dg.mp b1;obtain⟨ks,k1,hl,kY,vB,rfl,e6,e7⟩:=JS e5 Zi;refine⟨ad,vs,ks,rfl,jf R1.sub hs1,by rw[<-Zi.length];exact hl,k1.mono R1.sub,λp hp=>?_⟩
   exact Tx.iS (show Tx X aa ae (bu X.K) F1 st1 (iS ⟨.eV false kY,vB⟩) σ Q from⟨r,e1,e2⟩) R1 hp ⟨iE ks,aw,e6,rfl⟩ e7
  ·cases e1⟩
end
def FD(m:Nat)(ps:List PV):Gx PV:=λst=>match m with
 | 0=>some (.ok (.lst ps),st)
 | _=>iS ⟨.lst,ps⟩ st
section
variable {X:Cx} {aa:Hp} {ae:Fz} {e:Expr} {es:List Expr} {ts:Gx (List PV)} {pos p Fy zp:Pos} {m:Nat}
def Tx.FD{st:cb}(h:Tx X aa ae (bu X.K) F st (FD m ps) σ Q)(R:Rep X.K aa ae F st σ H)(hq:H q=none)(hb:au X.K F ps vs):Q (.ref q) (cK H q (.lst vs)):=by
 cases m with
 | zero =>
  obtain⟨r,e1,e2⟩:=h;cases e1;obtain⟨R2,s2⟩:=R.laid (.lst vs) hq;exact e2 _ _ _ R2 s2 (dg.mpr ⟨q,vs,rfl,iJ.of aw,hb.mono s2⟩)
 | succ m=>exact Tx.iS (h) R hq aw hb
end
theorem ng{a b:Nat}(h:b<a):@Ne Addr a b:=oS h
structure Zp (h:Heap) (z TI TO i1 i2 l1 l2:Nat) (f0:Value) (k:Nat) (xs ys:Array Value):Prop where
 hz:IsZip h z TI TO f0
 hTI:IsPair h TI (.ref i1) (.ref i2)
 hTO:∃a b,IsPair h TO a b
 s1:SI h i1 l1 k xs
 s2:SI h i2 l2 k ys
 ord:i1<i2/\i2<TI/\TI<TO/\TO<z
 o1:l1<i1
 o2:l2<i1
section
variable {prog:Program} {w:World} {A:Around} {E:Value->Shared->Prop} {s:Shared} {z TI TO i1 i2 l1 l2:Nat} {k:Nat} {xs ys:Array Value}
theorem Bi{x y:Value}{Q:Value->Shared->Prop}(Z:Zp s.heap z TI TO i1 i2 l1 l2 .none k xs ys)(hx:xs[k]?=some x)(hy:ys[k]?=some y)
  (hQ:∀h',Zp h' z TI TO i1 i2 l1 l2 (rawInt s.heap.objs.size) (k+1) xs ys->IsPair h' s.heap.objs.size x y->h'.objs.size=s.heap.objs.size+1->(∀c o,c≠z->c≠TO->c≠i1->c≠i2->s.heap.get? c=some o->h'.get? c=some o)->Q (.ref s.heap.objs.size) {s with heap:=h'}) :
  wpAny (model prog w) A (Builtin.«zip.__next__» ⟨[.ref z],[]⟩) (λhJ s'=>∃v,hJ=.done (.ret v)/\Q v s') E s:=by
 obtain⟨hz,hTI,⟨a,b,hTO⟩,s1,s2,⟨o1,o2,o3,o4⟩,q1,q2⟩:=Z;show wpAny _ _ (field (.ref z) 2 >>= _) _ _ _;refine ag (cD hz rfl (x:=.bool false) rfl ?_);show wpAny _ _ (field (.ref z) 3 >>= _) _ _ _;refine ag (cD hz rfl (x:=.ref TI) rfl (ag (fS hTI rfl ?_)));show wpAny _ _ (Builtin.SmallTypes.ownedTupleIsFree (.ref z) >>= _) _ _ _;refine ag ?_;unfold Builtin.SmallTypes.ownedTupleIsFree;refine ag (cD hz rfl (x:=.none) rfl (aq ?_));simp only[fU];refine ag (ku (ag (cD hz rfl (x:=.ref TO) rfl (ag (j9 hz (by simp) λf9 hz₁ e₁=>?_)))))
 replace hz₁:IsZip f9 z TI TO .ellipsis:=hz₁;refine ag ?_;simp only[List.zipIdx_cons,List.zipIdx_nil,oP,tW];refine ag (ag (ub ?_));show wpAny _ _ (Builtin.SmallTypes.nextOf (.ref i1) >>= _) _ _ _;have lN:SI f9 i1 l1 k xs:=s1.at (λo e=>e₁.extBut _ _ (by first | exact nl (by lia) | exact ng (by lia)) e) (λo e=>e₁.extBut _ _ (by first | exact nl (by lia) | exact ng (by lia)) e)
 refine ag (SI.next lN hx λp7 wK e₂=>aq ?_)
 have p8:IsPair p7 TO a b:=e₂.extBut _ _ (by first | exact nl (by lia) | exact ng (by lia)) (e₁.extBut _ _ (by first | exact nl (by lia) | exact ng (by lia)) hTO)
 refine ag (fS p8 rfl (ag (ya p8 λkH hTO₃ iT=>?_)))
 replace hTO₃:IsPair kH TO x b:=hTO₃;refine ag (oT (aq (ag (ag (ub ?_)))));show wpAny _ _ (Builtin.SmallTypes.nextOf (.ref i2) >>= _) _ _ _;have wL:SI kH i2 l2 k ys:=s2.at (λo e=>iT.extBut _ _ (by first | exact nl (by lia) | exact ng (by lia)) (e₂.extBut _ _ (by first | exact nl (by lia) | exact ng (by lia)) (e₁.extBut _ _ (by first | exact nl (by lia) | exact ng (by lia)) e))) (λo e=>iT.extBut _ _ (by first | exact nl (by lia) | exact ng (by lia)) (e₂.extBut _ _ (by first | exact nl (by lia) | exact ng (by lia)) (e₁.extBut _ _ (by first | exact nl (by lia) | exact ng (by lia)) e)))
 refine ag (SI.next wL hy λOd S3 e₄=>aq ?_)
 have FE:IsPair Od TO x b:=e₄.extBut _ _ (by first | exact nl (by lia) | exact ng (by lia)) hTO₃
 refine ag (fS FE rfl (ag (ya FE λjo hTO₅ zo=>?_)))
 replace hTO₅:IsPair jo TO x y:=hTO₅;refine ag (oT (aq (aq ?_)));refine ag (fS hTO₅ rfl (ag (wpAny_newTuple ?_)));have hsz:jo.objs.size=s.heap.objs.size:=by rw[zo.1,e₄.1,iT.1,e₂.1,e₁.1]
 have Lv:IsZip jo z TI TO .ellipsis:=zo.extBut _ _ (by first | exact nl (by lia) | exact ng (by lia)) (e₄.extBut _ _ (by first | exact nl (by lia) | exact ng (by lia)) (iT.extBut _ _ (by first | exact nl (by lia) | exact ng (by lia)) (e₂.extBut _ _ (by first | exact nl (by lia) | exact ng (by lia)) hz₁)))
 have kp:∀c o,c≠z->c≠TO->c≠i1->c≠i2->s.heap.get? c=some o->jo.get? c=some o:=λc o c1 c2 c3 c4 e=>zo.extBut _ _ c2 (e₄.extBut _ _ c4 (iT.extBut _ _ c2 (e₂.extBut _ _ c3 (e₁.extBut _ _ c1 e))))
 have S4:SI jo i1 l1 (k+1) xs:=wK.at (λo e=>zo.extBut _ _ (by first | exact nl (by lia) | exact ng (by lia)) (e₄.extBut _ _ (by first | exact nl (by lia) | exact ng (by lia)) (iT.extBut _ _ (by first | exact nl (by lia) | exact ng (by lia)) e))) (λo e=>zo.extBut _ _ (by first | exact nl (by lia) | exact ng (by lia)) (e₄.extBut _ _ (by first | exact nl (by lia) | exact ng (by lia)) (iT.extBut _ _ (by first | exact nl (by lia) | exact ng (by lia)) e)))
 have S5:SI jo i2 l2 (k+1) ys:=S3.at (λo e=>zo.extBut _ _ (by first | exact nl (by lia) | exact ng (by lia)) e) (λo e=>zo.extBut _ _ (by first | exact nl (by lia) | exact ng (by lia)) e)
 have zlt:z<jo.objs.size:=aG Lv;show wpAny _ _ (Builtin.SmallTypes.ownedTupleHandOut (.ref z) (.ref jo.objs.size) >>= _) _ _ _;refine ag ?_;unfold Builtin.SmallTypes.ownedTupleHandOut;have S6:IsZip (jo.push {cls:=.type "tuple",data:=.seq #[x,y]}) z TI TO .ellipsis:=aH _ Lv
 refine ag (j9 S6 (by simp) λXe FF e₇=>?_)
 replace FF:IsZip Xe z TI TO (rawInt jo.objs.size):=FF;refine j9 FF (by simp) λFG Bj Oe=>?_
 replace Bj:IsZip FG z TI TO (rawInt jo.objs.size):=Bj;have up:∀c o,c≠z->jo.get? c=some o->FG.get? c=some o:=λc o c1 e=>Oe.extBut _ _ c1 (e₇.extBut _ _ c1 (aH _ e))
 have hT₈:IsPair FG jo.objs.size x y:=Oe.extBut _ _ (by first | exact nl (by lia) | exact ng (by lia)) (e₇.extBut _ _ (by first | exact nl (by lia) | exact ng (by lia)) (bE _ rfl))
 have Zj:FG.objs.size=jo.objs.size+1:=by rw[Oe.1,e₇.1,dF]
 rw[hsz]at Bj hT₈ Zj;refine aq ⟨_,rfl,?_⟩;show Q (.ref jo.objs.size) _;rw[hsz];refine hQ FG ⟨Bj,up _ _ (by first | exact nl (by lia) | exact ng (by lia)) (kp _ _ (by first | exact nl (by lia) | exact ng (by lia)) (by first | exact nl (by lia) | exact ng (by lia)) (by first | exact nl (by lia) | exact ng (by lia)) (by first | exact nl (by lia) | exact ng (by lia)) hTI),⟨x,y,up _ _ (by first | exact nl (by lia) | exact ng (by lia)) hTO₅⟩,S4.at (λo e=>up _ o (by first | exact nl (by lia) | exact ng (by lia)) e) (λo e=>up _ o (by first | exact nl (by lia) | exact ng (by lia)) e),S5.at (λo e=>up _ o (by first | exact nl (by lia) | exact ng (by lia)) e) (λo e=>up _ o (by first | exact nl (by lia) | exact ng (by lia)) e),⟨o1,o2,o3,o4⟩,q1,q2⟩ hT₈ Zj λc o c1 c2 c3 c4 e=>up c o c1 (kp c o c1 c2 c3 c4 e)
theorem FH{Q:Fin->Shared->Prop}(hh:A.handled=none)(Z:Zp s.heap z TI TO i1 i2 l1 l2 .none k xs ys)(wM:xs[k]?=none\/ys[k]?=none)
  (hE:∀h' e,(∀c o,c≠z->c≠TO->c≠i1->c≠i2->s.heap.get? c=some o->h'.get? c=some o)->(∃o,h'.get? e=some o/\o.cls=.type "StopIteration")->E (.ref e) {s with heap:=h'}):wpAny (model prog w) A (Builtin.«zip.__next__» ⟨[.ref z],[]⟩) Q E s:=by
 obtain⟨hz,hTI,⟨a,b,hTO⟩,s1,s2,⟨o1,o2,o3,o4⟩,q1,q2⟩:=Z;show wpAny _ _ (field (.ref z) 2 >>= _) _ _ _;refine ag (cD hz rfl (x:=.bool false) rfl ?_);show wpAny _ _ (field (.ref z) 3 >>= _) _ _ _;refine ag (cD hz rfl (x:=.ref TI) rfl (ag (fS hTI rfl ?_)));show wpAny _ _ (Builtin.SmallTypes.ownedTupleIsFree (.ref z) >>= _) _ _ _;refine ag ?_;unfold Builtin.SmallTypes.ownedTupleIsFree;refine ag (cD hz rfl (x:=.none) rfl (aq ?_));simp only[fU];refine ag (ku (ag (cD hz rfl (x:=.ref TO) rfl (ag (j9 hz (by simp) λf9 hz₁ e₁=>?_)))))
 replace hz₁:IsZip f9 z TI TO .ellipsis:=hz₁;refine ag ?_;simp only[List.zipIdx_cons,List.zipIdx_nil,oP,tW];refine ag (ag (ub ?_));show wpAny _ _ (Builtin.SmallTypes.nextOf (.ref i1) >>= _) _ _ _;have lN:SI f9 i1 l1 k xs:=s1.at (λo e=>e₁.extBut _ _ (by first | exact nl (by lia) | exact ng (by lia)) e) (λo e=>e₁.extBut _ _ (by first | exact nl (by lia) | exact ng (by lia)) e)
 cases hx:xs[k]? with
 | none =>
  refine ag (SI.stop hh lN hx λp7 e hs₂ he=>?_)
  obtain⟨oe,Of,S7⟩:=he;have Lw:IsZip p7 z TI TO .ellipsis:=hs₂ _ _ (by first | exact nl (by lia) | exact ng (by lia)) hz₁
  have Xf:e≠z:=λx=>by subst x;rw[Lw]at Of;cases Of;simp at S7
  exact j9 Lw (by simp) λkH _ hs₃=>hE kH e (λc o c1 _ c3 _ x=>hs₃.extBut _ _ c1 (hs₂ _ _ c3 (e₁.extBut _ _ c1 x))) ⟨oe,hs₃.extBut _ _ Xf Of,S7⟩
 | some x =>
  have hy:ys[k]?=none:=by
   rcases wM with h | h
   ·rw[hx]at h;cases h
   ·exact h
  refine ag (SI.next lN hx λp7 wK e₂=>aq ?_)
  have p8:IsPair p7 TO a b:=e₂.extBut _ _ (by first | exact nl (by lia) | exact ng (by lia)) (e₁.extBut _ _ (by first | exact nl (by lia) | exact ng (by lia)) hTO)
  refine ag (fS p8 rfl (ag (ya p8 λkH hTO₃ iT=>?_)))
  refine ag (oT (aq (ag (ag (ub ?_)))));show wpAny _ _ (Builtin.SmallTypes.nextOf (.ref i2) >>= _) _ _ _;have wL:SI kH i2 l2 k ys:=s2.at (λo e=>iT.extBut _ _ (by first | exact nl (by lia) | exact ng (by lia)) (e₂.extBut _ _ (by first | exact nl (by lia) | exact ng (by lia)) (e₁.extBut _ _ (by first | exact nl (by lia) | exact ng (by lia)) e))) (λo e=>iT.extBut _ _ (by first | exact nl (by lia) | exact ng (by lia)) (e₂.extBut _ _ (by first | exact nl (by lia) | exact ng (by lia)) (e₁.extBut _ _ (by first | exact nl (by lia) | exact ng (by lia)) e)))
  refine ag (SI.stop hh wL hy λOd e Lx he=>?_)
  obtain⟨oe,Of,S7⟩:=he;have Ly:IsZip Od z TI TO .ellipsis:=Lx _ _ (by first | exact nl (by lia) | exact ng (by lia)) (iT.extBut _ _ (by first | exact nl (by lia) | exact ng (by lia)) (e₂.extBut _ _ (by first | exact nl (by lia) | exact ng (by lia)) hz₁))
  have Xf:e≠z:=λx=>by subst x;rw[Ly]at Of;cases Of;simp at S7
  exact j9 Ly (by simp) λjo _ hs₅=>hE jo e (λc o c1 c2 c3 c4 x=>hs₅.extBut _ _ c1 (Lx _ _ c4 (iT.extBut _ _ c2 (e₂.extBut _ _ c3 (e₁.extBut _ _ c1 x))))) ⟨oe,hs₅.extBut _ _ Xf Of,S7⟩
theorem wN(l1 l2:Addr)(xs ys:Array Value)(c1 c2:String) :
  Meets (Builtin.«zip.__new__» ⟨[.type "zip",.ref l1,.ref l2],[]⟩) (λ_ R s=>ij s.heap l1 xs c1/\ij s.heap l2 ys c2 /\
   ∀h1 h2 h3 h4:Heap,h1=s.heap.push {cls:=.type c1,data:=.fields #[.ref l1,.int 0 0]}->h2=h1.push {cls:=.type c2,data:=.fields #[.ref l2,.int 0 0]}->h3=h2.push {cls:=.type "tuple",data:=.seq #[.ref s.heap.objs.size,.ref h1.objs.size]}->h4=h3.push {cls:=.type "tuple",data:=.seq #[.none,.none]} ->
    R (.ok (.ret (.ref h4.objs.size))) {s with heap:=h4.push {cls:=.type "zip",data:=.fields #[.none,.bool false,.bool false,.ref h2.objs.size,.ref h3.objs.size]}}) :=
 .of_wp λprog w A R s h=>by
  obtain⟨hp,g,d,tk,os⟩:=s;obtain⟨Qk,HJ,h⟩:=h;have JC:=sub_zip;have hL1:ij (Shared.heap ⟨hp,g,d,tk,os⟩) l1 xs c1:=Qk;have hL2:ij (Shared.heap ⟨hp.push {cls:=.type c1,data:=.fields #[.ref l1,.int 0 0]},g,d,tk,os⟩) l2 ys c2:=by
   rcases HJ with⟨e,q⟩ | ⟨e,q⟩
   ·exact .inl ⟨e,Heap.IsList.push q _⟩
   ·exact .inr ⟨e,Heap.IsTuple.push q _⟩
  wp_walk using jG hL1,jG hL2
  exact⟨_,rfl,h _ _ _ _ rfl rfl rfl rfl⟩
end
def Xg(h:Heap)(z TI TO t:Nat)(f:Bool):Prop:=h.get? z=some {cls:=.type "zip",data:=.fields #[rawInt t,.bool f,.bool false,.ref TI,.ref TO]}
structure Zq (h:Heap) (z TI TO i1 i2 l1 l2 t:Nat) (f:Bool) (k:Nat) (xs ys:Array Value):Prop where
 hz:Xg h z TI TO t f
 hTI:IsPair h TI (.ref i1) (.ref i2)
 s1:SI h i1 l1 k xs
 s2:SI h i2 l2 k ys
 al:∃o,h.get? t=some o
 ord:i1<i2/\i2<TI/\TI<TO/\TO<z/\z<t
 o1:l1<i1
 o2:l2<i1
section
variable {prog:Program} {w:World} {A:Around} {E:Value->Shared->Prop} {s:Shared} {z TI TO i1 i2 l1 l2 t:Nat} {f:Bool} {k:Nat} {xs ys:Array Value}
theorem Zq.at{h h':Heap}(Z:Zq h z TI TO i1 i2 l1 l2 t f k xs ys)(kp:∀b o,b<=z->h.get? b=some o->h'.get? b=some o)(ka:∀o,h.get? t=some o->∃o',h'.get? t=some o'):Zq h' z TI TO i1 i2 l1 l2 t f k xs ys:=by
 obtain⟨hz,hTI,s1,s2,⟨oa,ha⟩,⟨o1,o2,o3,o4,o5⟩,q1,q2⟩:=Z;exact⟨kp _ _ (aD _) hz,kp _ _ (by lia) hTI,s1.at (λo e=>kp _ o (by lia) e) (λo e=>kp _ o (by lia) e),s2.at (λo e=>kp _ o (by lia) e) (λo e=>kp _ o (by lia) e),ka _ ha,⟨o1,o2,o3,o4,o5⟩,q1,q2⟩
theorem Bk{oa:Obj}{Q:Bool->Shared->Prop}(hz:Xg s.heap z TI TO t f)(ha:s.heap.get? t=some oa)(hQ:∀f9,Xg f9 z TI TO t true->Heap.SameBut z s.heap f9->Q false {s with heap:=f9}):wpAny (model prog w) A (Builtin.SmallTypes.ownedTupleIsFree (.ref z)) Q E s:=by
 unfold Builtin.SmallTypes.ownedTupleIsFree;refine ag (cD hz rfl (x:=rawInt t) rfl ?_);show wpAny _ _ (loadIfAlive ((t:Int).toNat) >>= _) _ _ _;rw[iZ];refine ag (W.kdx_alive ha ?_);simp only[Option.isNone_some,iY,fF];refine ag (cD hz rfl (x:=.bool f) rfl ?_);cases f with
 | true =>
  rw[if_neg (show ¬((Value.bool true != Value.bool true)=true)from cQ)]
  exact aq (hQ _ hz (Heap.SameBut.refl _ _))
 | false =>
  rw[if_pos (show(Value.bool false != Value.bool true)=true from rfl)]
  exact ag (j9 hz (by simp) λf9 hz₁ e₁=>aq (hQ f9 hz₁ e₁))
theorem JU{x y:Value}{Q:Value->Shared->Prop}(Z:Zq s.heap z TI TO i1 i2 l1 l2 t f k xs ys)(hx:xs[k]?=some x)(hy:ys[k]?=some y)
  (hQ:∀h',Zq h' z TI TO i1 i2 l1 l2 t true (k+1) xs ys->IsPair h' s.heap.objs.size x y->h'.objs.size=s.heap.objs.size+1->(∀c o,c≠z->c≠i1->c≠i2->s.heap.get? c=some o->h'.get? c=some o)->Q (.ref s.heap.objs.size) {s with heap:=h'}) :
  wpAny (model prog w) A (Builtin.«zip.__next__» ⟨[.ref z],[]⟩) (λhJ s'=>∃v,hJ=.done (.ret v)/\Q v s') E s:=by
 obtain⟨hz,hTI,s1,s2,⟨oa,ha⟩,⟨o1,o2,o3,o4,o5⟩,q1,q2⟩:=Z;show wpAny _ _ (field (.ref z) 2 >>= _) _ _ _;refine ag (cD hz rfl (x:=.bool false) rfl ?_);show wpAny _ _ (field (.ref z) 3 >>= _) _ _ _;refine ag (cD hz rfl (x:=.ref TI) rfl (ag (fS hTI rfl ?_)));show wpAny _ _ (Builtin.SmallTypes.ownedTupleIsFree (.ref z) >>= _) _ _ _;refine ag (Bk hz ha λf9 hz₁ e₁=>?_)
 simp only[iY,fF];refine ag ?_;simp only[List.forIn_toArray,oP,tW];refine ag (ag (dY ?_));show wpAny _ _ (Builtin.SmallTypes.nextOf (.ref i1) >>= _) _ _ _;have lN:SI f9 i1 l1 k xs:=s1.at (λo e=>e₁.extBut _ _ (by first | exact nl (by lia) | exact ng (by lia)) e) (λo e=>e₁.extBut _ _ (by first | exact nl (by lia) | exact ng (by lia)) e)
 refine ag (SI.next lN hx λp7 wK e₂=>aq ?_)
 refine aq (ag (ag (dY ?_)));show wpAny _ _ (Builtin.SmallTypes.nextOf (.ref i2) >>= _) _ _ _;have FI:SI p7 i2 l2 k ys:=s2.at (λo e=>e₂.extBut _ _ (by first | exact nl (by lia) | exact ng (by lia)) (e₁.extBut _ _ (by first | exact nl (by lia) | exact ng (by lia)) e)) (λo e=>e₂.extBut _ _ (by first | exact nl (by lia) | exact ng (by lia)) (e₁.extBut _ _ (by first | exact nl (by lia) | exact ng (by lia)) e))
 refine ag (SI.next FI hy λkH wL iT=>aq ?_)
 refine aq (aq ?_);have hsz:kH.objs.size=s.heap.objs.size:=by rw[iT.1,e₂.1,e₁.1]
 have kp:∀c o,c≠z->c≠i1->c≠i2->s.heap.get? c=some o->kH.get? c=some o:=λc o c1 c2 c3 e=>iT.extBut _ _ c3 (e₂.extBut _ _ c2 (e₁.extBut _ _ c1 e))
 have up:∀c o,c≠i1->c≠i2->f9.get? c=some o->kH.get? c=some o:=λc o c2 c3 e=>iT.extBut _ _ c3 (e₂.extBut _ _ c2 e)
 refine ag (wpAny_newTuple (hsz:=by show 2<=sizeLine;decide) ?_)
 show wpAny _ _ (ret (Value.ref kH.objs.size)) _ _ {s with heap:=kH.push {cls:=.type "tuple",data:=.seq #[x,y]}}
 rw[hsz];refine aq ⟨_,rfl,?_⟩;have Z3:Zq kH z TI TO i1 i2 l1 l2 t true (k+1) xs ys:=⟨up _ _ (by first | exact nl (by lia) | exact ng (by lia)) (by first | exact nl (by lia) | exact ng (by lia)) hz₁,kp _ _ (by first | exact nl (by lia) | exact ng (by lia)) (by first | exact nl (by lia) | exact ng (by lia)) (by first | exact nl (by lia) | exact ng (by lia)) hTI,wK.at (λo e=>iT.extBut _ _ (by first | exact nl (by lia) | exact ng (by lia)) e) (λo e=>iT.extBut _ _ (by first | exact nl (by lia) | exact ng (by lia)) e),wL,⟨oa,kp _ _ (by first | exact nl (by lia) | exact ng (by lia)) (by first | exact nl (by lia) | exact ng (by lia)) (by first | exact nl (by lia) | exact ng (by lia)) ha⟩,⟨o1,o2,o3,o4,o5⟩,q1,q2⟩
 refine hQ _ (Z3.at (λb o _ e=>aH _ e) λo e=>⟨o,aH _ e⟩) ?_ (by rw[dF,hsz]) λc o c1 c2 c3 e=>aH _ (kp c o c1 c2 c3 e)
 rw[<-hsz];exact bE _ rfl
theorem Og{Q:Fin->Shared->Prop}(hh:A.handled=none)(Z:Zq s.heap z TI TO i1 i2 l1 l2 t f k xs ys)(wM:xs[k]?=none\/ys[k]?=none)
  (hE:∀h' e,(∀c o,c≠z->c≠i1->c≠i2->s.heap.get? c=some o->h'.get? c=some o)->(∃o,h'.get? e=some o/\o.cls=.type "StopIteration")->E (.ref e) {s with heap:=h'}):wpAny (model prog w) A (Builtin.«zip.__next__» ⟨[.ref z],[]⟩) Q E s:=by
 obtain⟨hz,hTI,s1,s2,⟨oa,ha⟩,⟨o1,o2,o3,o4,o5⟩,q1,q2⟩:=Z;show wpAny _ _ (field (.ref z) 2 >>= _) _ _ _;refine ag (cD hz rfl (x:=.bool false) rfl ?_);show wpAny _ _ (field (.ref z) 3 >>= _) _ _ _;refine ag (cD hz rfl (x:=.ref TI) rfl (ag (fS hTI rfl ?_)));show wpAny _ _ (Builtin.SmallTypes.ownedTupleIsFree (.ref z) >>= _) _ _ _;refine ag (Bk hz ha λf9 hz₁ e₁=>?_)
 simp only[iY,fF];refine ag ?_;simp only[List.forIn_toArray,oP,tW];refine ag (ag (dY ?_));show wpAny _ _ (Builtin.SmallTypes.nextOf (.ref i1) >>= _) _ _ _;have lN:SI f9 i1 l1 k xs:=s1.at (λo e=>e₁.extBut _ _ (by first | exact nl (by lia) | exact ng (by lia)) e) (λo e=>e₁.extBut _ _ (by first | exact nl (by lia) | exact ng (by lia)) e)
 cases hx:xs[k]? with
 | none =>
  refine ag (SI.stop hh lN hx λp7 e hs₂ he=>?_)
  exact hE p7 e (λc o c1 c3 _ x=>hs₂ _ _ c3 (e₁.extBut _ _ c1 x)) he
 | some x =>
  have hy:ys[k]?=none:=by
   rcases wM with h | h
   ·rw[hx]at h;cases h
   ·exact h
  refine ag (SI.next lN hx λp7 wK e₂=>aq ?_)
  refine aq (ag (ag (dY ?_)));show wpAny _ _ (Builtin.SmallTypes.nextOf (.ref i2) >>= _) _ _ _;have FI:SI p7 i2 l2 k ys:=s2.at (λo e=>e₂.extBut _ _ (by first | exact nl (by lia) | exact ng (by lia)) (e₁.extBut _ _ (by first | exact nl (by lia) | exact ng (by lia)) e)) (λo e=>e₂.extBut _ _ (by first | exact nl (by lia) | exact ng (by lia)) (e₁.extBut _ _ (by first | exact nl (by lia) | exact ng (by lia)) e))
  refine ag (SI.stop hh FI hy λkH e hs₃ he=>?_)
  exact hE kH e (λc o c1 c2 c3 x=>hs₃ _ _ c3 (e₂.extBut _ _ c2 (e₁.extBut _ _ c1 x))) he
end
def ZS(h:Heap)(z TI TO i1 i2 l1 l2 B i:Nat)(xs ys:Array Value):Prop:=(i=0/\Zp h z TI TO i1 i2 l1 l2 .none 0 xs ys)\/(0<i/\∃f,Zq h z TI TO i1 i2 l1 l2 B f i xs ys)
noncomputable def kJ(B i:Nat):Array Value:=((List.range i).map λj=>Value.ref (B+j)).toArray
theorem CN(B i:Nat):(kJ B i).push (.ref (B+i))=kJ B (i+1):=by
 unfold kJ;rw[yw,fD];simp
theorem su(B i:Nat):(kJ B i).size=i:=by unfold kJ;simp
section
variable {prog:Program} {w:World} {A:Around} {E:Value->Shared->Prop} {s:Shared} {z TI TO i1 i2 l1 l2 B:Nat} {i:Nat} {xs ys:Array Value}
theorem ZS.zip{h:Heap}(Z:ZS h z TI TO i1 i2 l1 l2 B i xs ys):∃o,h.get? z=some o/\o.cls=.type "zip":=by
 rcases Z with⟨_,Z⟩ | ⟨_,f,Z⟩
 ·exact⟨_,Z.hz,rfl⟩
 ·exact⟨_,Z.hz,rfl⟩
theorem ZS.at{h h':Heap}(Z:ZS h z TI TO i1 i2 l1 l2 B i xs ys)(kp:∀b o,b<=z->h.get? b=some o->h'.get? b=some o)(ka:∀o,h.get? B=some o->∃o',h'.get? B=some o'):ZS h' z TI TO i1 i2 l1 l2 B i xs ys:=by
 rcases Z with⟨e,⟨hz,hTI,⟨a,b,hTO⟩,s1,s2,⟨o1,o2,o3,o4⟩,q1,q2⟩⟩ | ⟨e,f,Z⟩
 ·exact .inl ⟨e,⟨kp _ _ (aD _) hz,kp _ _ (by lia) hTI,⟨a,b,kp _ _ (by lia) hTO⟩,s1.at (λo e=>kp _ o (by lia) e) (λo e=>kp _ o (by lia) e),s2.at (λo e=>kp _ o (by lia) e) (λo e=>kp _ o (by lia) e),⟨o1,o2,o3,o4⟩,q1,q2⟩⟩
 ·exact .inr ⟨e,f,Z.at kp ka⟩
theorem JV{x y:Value}{Q:Option Value->Shared->Prop}(Z:ZS s.heap z TI TO i1 i2 l1 l2 B i xs ys)(hsz:s.heap.objs.size=B+i)(hx:xs[i]?=some x)(hy:ys[i]?=some y)
  (hQ:∀h',ZS h' z TI TO i1 i2 l1 l2 B (i+1) xs ys->IsPair h' (B+i) x y->h'.objs.size=B+(i+1)->(∀c o,c≠z->c≠TO->c≠i1->c≠i2->s.heap.get? c=some o->h'.get? c=some o)->Q (some (.ref (B+i))) {s with heap:=h'}) :
  wpAny (model prog w) A (pyNext (.ref z)) Q E s:=by
 obtain⟨oz,Vg,Xh⟩:=Z.zip;have hT:s.TypeIs (.ref z) "zip":=⟨_,Vg,Xh⟩;have Xi:z<s.heap.objs.size:=aG Vg;unfold pyNext;rcases Z with⟨rfl,Z⟩ | ⟨hi,f,Z⟩
 ·refine ag (kn (fA (name:=Str.ofString "__next__") hT fB (fR fB hT mx
   (Bi Z hx hy λh' Z' Lz Sl kp=>aq ?_) (mq _))))
  obtain⟨hz,hTI,_,s1,s2,⟨o1,o2,o3,o4⟩,q1,q2⟩:=Z';rw[hsz]at Lz hz Xi ⊢;refine(hQ h' (.inr ⟨Nat.succ_pos _,false,⟨hz,hTI,s1,s2,⟨_,Lz⟩,⟨o1,o2,o3,o4,by lia⟩,q1,q2⟩⟩) Lz (by lia) kp)
 ·refine ag (kn (fA (name:=Str.ofString "__next__") hT fB (fR fB hT mx
   (JU Z hx hy λh' Z' Lz Sl kp=>aq ?_) (mq _))))
  rw[hsz]at Lz ⊢;exact(hQ h' (.inr ⟨Nat.succ_pos _,true,Z'⟩) Lz (by lia) λc o c1 _ c3 c4 e=>kp c o c1 c3 c4 e)
theorem JW{Q:Option Value->Shared->Prop}(hh:A.handled=none)(Z:ZS s.heap z TI TO i1 i2 l1 l2 B i xs ys)(wM:xs[i]?=none\/ys[i]?=none)
  (hQ:∀h',(∀c o,c≠z->c≠TO->c≠i1->c≠i2->s.heap.get? c=some o->h'.get? c=some o)->Q none {s with heap:=h'}) :
  wpAny (model prog w) A (pyNext (.ref z)) Q E s:=by
 obtain⟨oz,Vg,Xh⟩:=Z.zip;have hT:s.TypeIs (.ref z) "zip":=⟨_,Vg,Xh⟩;unfold pyNext;rcases Z with⟨rfl,Z⟩ | ⟨hi,f,Z⟩
 ·refine ag (kn (fA (name:=Str.ofString "__next__") hT fB (fR fB hT mx (FH hh Z wM λh' e kp ⟨o,ho,hcl⟩=>?_) (mq _))))
  exact ag (tM (T:="StopIteration") (b:=true) ⟨o,ho,hcl⟩ tY (aq (hQ h' kp)))
 ·refine ag (kn (fA (name:=Str.ofString "__next__") hT fB (fR fB hT mx (Og hh Z wM λh' e kp ⟨o,ho,hcl⟩=>?_) (mq _))))
  exact ag (tM (T:="StopIteration") (b:=true) ⟨o,ho,hcl⟩ tY (aq (hQ h' λc o c1 _ c3 c4 e=>kp c o c1 c3 c4 e)))
end
section
variable {prog:Program} {w:World} {A:Around} {R:Result->Shared->Prop} {z TI TO i1 i2 l1 l2 S B n:Nat} {xs ys:Array Value}
def lO(h:Heap)(B i:Nat)(xs ys:Array Value):Prop:=∀j,j<i->∃x y,xs[j]?=some x/\ys[j]?=some y/\IsPair h (B+j) x y
theorem JX(hh:A.handled=none)(hn:n=min xs.size ys.size)(Zk:z<S)(Zl:S<B)(ord:i1<z/\i2<z/\TO<z)(res:Value)(HM:n<=sizeLine) :
  ∀(k i:Nat) (s:Shared) (c:Nat),n-i=k->i<=n->ZS s.heap z TI TO i1 i2 l1 l2 B i xs ys->s.heap.objs.size=B+i->lO s.heap B i xs ys->s.heap.get? S=some {cls:=.type "list",dict:=none,data:=.seq (kJ B i) c,slots:=#[]} ->
  (∀h' c',(∀b o,b≠z->b≠TO->b≠i1->b≠i2->b≠S->s.heap.get? b=some o->h'.get? b=some o)->h'.get? S=some {cls:=.type "list",dict:=none,data:=.seq (kJ B n) c',slots:=#[]}->lO h' B n xs ys->R (.ok (.ret res)) {s with heap:=h'}) ->
  codeAny (model prog w) A (.builtin "list.extend.loop" ⟨[.ref S,.ref z,res],[]⟩) R s:=by
 intro k;induction k with
 | zero =>
  intro i s c hk hi qM hsz hp hS hR;have W7:i=n:=by lia
  subst W7;refine tP F.entry_extend_loop ?_;rw[tx tD _];show wpAny _ A.in1 (pyNext (.ref z) >>= _) _ _ s;refine ag (JW (by simp[hh]) qM ?_ λh' kp=>?_)
  ·rcases Nat.le_total xs.size ys.size with q | q
   ·exact .inl (j7 (by lia))
   ·exact .inr (j7 (by lia))
  ·refine aq (hR h' c (λb o c1 c2 c3 c4 _ e=>kp b o c1 c2 c3 c4 e) (kp S _ (by lia) (by lia) (by lia) (by lia) hS) λj hj=>?_)
   obtain⟨x,y,e1,e2,e3⟩:=hp j hj;exact⟨x,y,e1,e2,kp _ _ (by lia) (by lia) (by lia) (by lia) e3⟩
 | succ k ih =>
  intro i s c hk hi qM hsz hp hS hR;have uI:i<n:=by lia
  have hx:xs[i]?=some (xs[i]'(by lia)):=oF _
  have hy:ys[i]?=some (ys[i]'(by lia)):=oF _
  refine tP F.entry_extend_loop ?_;rw[tx tD _];show wpAny _ A.in1 (pyNext (.ref z) >>= _) _ _ s;refine ag (JV qM hsz hx hy λh' Ob hpr Xj kp=>?_)
  have Lu:=kp S _ (by lia) (by lia) (by lia) (by lia) hS
  show wpAny _ A.in1 (updateSeq S (·.push (.ref (B+i))) >>= _) _ _ _;refine ag ?_;have Xk:=mj (Obj.mapSeq (·.push (Value.ref (B+i)))) Lu rfl;obtain⟨c1,Xk⟩:∃c1,(h'.update S (Obj.mapSeq (·.push (Value.ref (B+i))))).get? S=some {cls:=.type "list",dict:=none,data:=.seq (kJ B (i+1)) c1,slots:=#[]}:=⟨_,by rw[<-CN];exact Xk⟩
  have oth:∀b o,b≠S->h'.get? b=some o->(h'.update S (Obj.mapSeq (·.push (Value.ref (B+i))))).get? b=some o:=λb o hb e=>(iX _ _ (bZ hb)).trans e
  refine oM (s:={s with heap:=h'}) Lu rfl (aq ⟨t8 tD _,ih (i+1) _ c1 (by lia) uI (Ob.at (λb o hb e=>oth b o (by lia) e) λo e=>⟨o,oth _ o (by lia) e⟩) ?_ (λj hj=>?_) ?_ λh2 c2 Ss hS2 Xl=>?_⟩)
   (by rw[su];lia) (by show((kJ B i).push _).size<=sizeLine+1;rw[Array.size_push,su];lia)
  ·show(h'.update S _).objs.size=_;rw[tK];exact Xj
  ·by_cases hji:j=i
   ·subst hji;exact⟨_,_,hx,hy,oth _ _ (by lia) hpr⟩
   ·obtain⟨x,y,e1,e2,e3⟩:=hp j (by lia)
    exact⟨x,y,e1,e2,oth _ _ (by lia) (kp _ _ (by lia) (by lia) (by lia) (by lia) e3)⟩
  ·exact Xk
  ·exact hR h2 c2 (λb o c1 c2 c3 c4 c5 e=>Ss b o c1 c2 c3 c4 c5 (oth b o c5 (kp b o c1 c2 c3 c4 e))) hS2 Xl
end
theorem zq:typeLookup (.type "zip") "__len__"=pure none:=by rw[yu,xY];kernel_rfl
theorem wO:typeLookup (.type "zip") "__length_hint__"=pure none:=by rw[yu,xY];kernel_rfl
section
variable {prog:Program} {w:World} {A:Around} {E:Value->Shared->Prop} {s:Shared} {R:Result->Shared->Prop} {z TI TO i1 i2 l1 l2 S B n:Nat} {xs ys:Array Value}
theorem CO{c:Nat}(hh:A.handled=none)(hn:n=min xs.size ys.size)(Zk:z<S)(hB:s.heap.objs.size=B)(Zl:S<B)(ord:i1<z/\i2<z/\TO<z)(res:Value)(HM:n<=sizeLine)
  (Z:Zp s.heap z TI TO i1 i2 l1 l2 .none 0 xs ys) (hS:s.heap.get? S=some {cls:=.type "list",data:=.seq #[] c})
  (hR:∀h' c',(∀b o,b≠z->b≠TO->b≠i1->b≠i2->b≠S->s.heap.get? b=some o->h'.get? b=some o)->h'.get? S=some {cls:=.type "list",dict:=none,data:=.seq (kJ B n) c',slots:=#[]}->lO h' B n xs ys->R (.ok (.ret res)) {s with heap:=h'}) :
  wpAny (model prog w) A.in1 (Builtin.List.listExtendWith (.ref S) (.ref z) res)
   (λhJ s'=>match hJ with | .done f=>R (.ok f) s' | .again c'=>c'.quiet=true/\codeAny (model prog w) A c' R s') (λe s'=>R (.error e) s') s:=by
 have hT:s.TypeIs (.ref z) "zip":=⟨_,Z.hz,rfl⟩;unfold Builtin.List.listExtendWith;refine ag (mE hT ?_);have h1:Builtin.List.listSameRef (.ref S) (.ref z)=false:=by
  have:(S==z)=false:=by simp;lia
  exact this
 have h2:(Value.type "zip"==Value.type "list")=false:=by decide
 have h3:(Value.type "zip"==Value.type "tuple")=false:=by decide
 simp only[h1,h2,h3,Bool.or_false,iY,fF];refine ag (yk Z.hz ?_);refine ag (dY ?_);unfold Builtin.List.listLengthHint;refine ag (wpAny_specialOf hT zq ?_);show wpAny _ A.in1 (specialOf (Value.ref z) (Str.ofString "__length_hint__") >>= _) _ _ _;refine ag (wpAny_specialOf hT wO ?_);refine aq ?_;show wpAny _ A.in1 (rule "list.extend.makes-room" >>= λ_=>Builtin.List.listTouch (.ref S) >>= λ_ =>
  again (.builtin "list.extend.loop" ⟨[.ref S,.ref z,res],[]⟩)) _ _ _
 refine ag (ku ?_);refine ag ?_;show wpAny _ A.in1 (updateSeq S (·.push .none) >>= λ_=>updateSeq S (·.pop)) _ _ _
 refine ag (oM hS rfl ?_);have Bm:=mj (Obj.mapSeq (·.push Value.none)) hS rfl;refine oM (hz:=by seq_fits) Bm rfl ?_
 have S8:=mj (Obj.mapSeq (·.pop)) Bm rfl;have oth:∀b o,b≠S->s.heap.get? b=some o->((s.heap.update S (Obj.mapSeq (·.push Value.none))).update S (Obj.mapSeq (·.pop))).get? b=some o :=
  λb o hb e=>(iX _ _ (bZ hb)).trans ((iX _ _ (bZ hb)).trans e)
 have Z0:ZS s.heap z TI TO i1 i2 l1 l2 B 0 xs ys:=.inl ⟨rfl,Z⟩;refine aq ⟨t8 tD _,JX hh hn Zk Zl ord res HM n 0 _ _ rfl (ja _) (Z0.at (λb o hb e=>oth b o (by lia) e) λo e=>?_) ?_ (λj hj=>absurd hj (Nat.not_lt_zero _)) S8 λh' c' kp Lu hp=>?_⟩
 ·have q:=aG e;rw[hB]at q;exact absurd q (eU _)
 ·show((s.heap.update S _).update S _).objs.size=_;rw[tK,tK];exact hB
 ·exact hR h' c' (λb o c1 c2 c3 c4 c5 e=>kp b o c1 c2 c3 c4 c5 (oth b o c5 e)) Lu hp
theorem q9{Q:Value->Shared->Prop}(hh:A.handled=none)(hn:n=min xs.size ys.size)(HM:n<=sizeLine)(ord:i1<z/\i2<z/\TO<z)(Z:Zp s.heap z TI TO i1 i2 l1 l2 .none 0 xs ys)
  (hQ:∀h' c',(∀b o,b≠z->b≠TO->b≠i1->b≠i2->s.heap.get? b=some o->h'.get? b=some o)->h'.get? s.heap.objs.size=some {cls:=.type "list",dict:=none,data:=.seq (kJ (s.heap.objs.size+1) n) c',slots:=#[]}->lO h' (s.heap.objs.size+1) n xs ys->Q (.ref s.heap.objs.size) {s with heap:=h'}) :
  wpAny (model prog w) A (call (.type "list") [.ref z]) Q E s:=by
 refine callType_codes (Q₁:=λobj s₁=>obj=.ref s.heap.objs.size/\s₁={s with heap:=s.heap.push {cls:=.type "list",data:=.seq #[]}}) F.called_list (F.typeCall_list_1 _) F.entry_list_init
  (code_list_new _ ⟨rfl,rfl⟩) λobj s₁ f9=>?_
 obtain⟨rfl,rfl⟩:=f9;have Xi:z<s.heap.objs.size:=aG Z.hz;have hS:(s.heap.push {cls:=.type "list",data:=.seq #[]}).get? s.heap.objs.size=some {cls:=.type "list",data:=.seq #[]}:=bE _ rfl
 refine⟨⟨_,hS,rfl⟩,F.args_list_init_2 _ _,?_⟩;show wpAny _ _ (do let old <-Builtin.List.listItems (.ref s.heap.objs.size);Builtin.List.listUpdate (.ref s.heap.objs.size) (λ_=>#[]);letGo old.toList.reverse;Builtin.List.listExtendWith (.ref s.heap.objs.size) (.ref z) .none) _ _ _
 refine ag ?_;unfold Builtin.List.listItems;refine ag (fS hS rfl (aq ?_));show wpAny _ _ (updateSeq s.heap.objs.size (λ_=>#[]) >>= λ_=>letGo (#[]:Array Value).toList.reverse >>= λ_=>Builtin.List.listExtendWith (.ref s.heap.objs.size) (.ref z) .none) _ _ _
 refine ag (oM hS rfl ?_);have Bm:=mj (Obj.mapSeq (λ_=>(#[]:Array Value))) hS rfl
 have oth:∀b o,b≠s.heap.objs.size->s.heap.get? b=some o->((s.heap.push {cls:=.type "list",data:=.seq #[]}).update s.heap.objs.size (Obj.mapSeq (λ_=>(#[]:Array Value)))).get? b=some o :=
  λb o hb e=>(iX _ _ (bZ hb)).trans (aH _ e)
 refine ag (oT ?_);have Z1:ZS ((s.heap.push {cls:=.type "list",data:=.seq #[]}).update s.heap.objs.size (Obj.mapSeq (λ_=>(#[]:Array Value)))) z TI TO i1 i2 l1 l2 0 0 xs ys :=
  ZS.at (h:=s.heap) (.inl ⟨rfl,Z⟩) (λb o hb e=>oth b o (by lia) e) λo e=>⟨o,oth _ o (by lia) e⟩
 rcases Z1 with⟨_,Z1⟩ | ⟨h0,_⟩
 ·refine CO (A:=A.in1) (by simp[hh]) hn Xi (B:=s.heap.objs.size+1) ?_ (mv _) ord .none HM Z1 Bm λh' c' kp Lu hp=>⟨rfl,?_⟩
  ·show((s.heap.push _).update _ _).objs.size=_;rw[tK,dF]
  ·exact hQ h' c' (λb o c1 c2 c3 c4 e=>kp b o c1 c2 c3 c4 (br (aG e)) (oth b o (br (aG e)) e)) Lu hp
 ·exact absurd h0 (eU _)
end
theorem sv{vs:List V}{us:List Value}(r:Vals vs us):∀{i:Nat} {u:Value},us[i]?=some u->∃v,vs[i]?=some v/\RelV v u:=by
 induction r with
 | nil=>intro i u e;simp at e
 | @cons v w vs ws h t ih =>
  intro i u e;cases i with
  | zero=>simp at e;subst e;exact⟨v,rfl,h⟩
  | succ i=>obtain⟨x,h1,h2⟩:=ih (i:=i) (u:=u) (by simpa using e);exact⟨x,by simpa using h1,h2⟩
theorem CP(B n:Nat):Vals ((List.range n).map λj=>V.ref (B+j)) (kJ B n).toList:=by
 unfold kJ;induction n with
 | zero=>exact .nil
 | succ n ih =>
  rw[yw,fD,fD];exact ih.append (.cons rfl .nil)
theorem wQ{X:Cx}{af:List (Addr×Obj)}{σ:St}{H1 aa:Hp}{ae F1:Fz}{st:cb}{s:Shared}{B m:Nat}{xs ys:List Value}{vs ws:List V}{ps qs:List PV}(b0:Nat)(YT:b0<=B)(fo:∀b,b0<=b->H1 b=none/\pf X af H1 b)(hsz:X.s₀.heap.objs.size<=b0)(I:Inv X af σ H1 s)(R:Rep X.K aa ae F1 st σ H1)(r1:Vals vs xs)(r2:Vals ws ys)(b1:au X.K F1 ps vs)(b2:au X.K F1 qs ws)
  (hp:lO s.heap B m xs.toArray ys.toArray):∀i,i<=m->∃Hi Fi,Inv X af σ Hi s/\Rep X.K aa ae Fi st σ Hi/\Gr F1 Fi/\au X.K Fi ((List.zipWith fu ps qs).take i) ((List.range i).map λj=>V.ref (B+j))/\∀b,b0<=b->(b<B\/B+i<=b)->Hi b=none:=by
 intro i;induction i with
 | zero=>intro _;exact⟨H1,F1,I,R,Gr.refl _,by simp only[List.take_zero,List.range_zero,eu];exact .nil,λb hb _=>(fo b hb).1⟩
 | succ i ih =>
  intro hi;obtain⟨Hi,Fi,Ii,Ri,si,bi,ni⟩:=ih (by lia)
  obtain⟨x,y,e1,e2,e3⟩:=hp i hi;obtain⟨v,ev,rv⟩:∃v,vs[i]?=some v/\RelV v x:=by
   exact sv r1 (by simpa using e1)
  obtain⟨w,ew,IW⟩:∃w,ws[i]?=some w/\RelV w y:=by
   exact sv r2 (by simpa using e2)
  obtain⟨p,ep⟩:∃p,ps[i]?=some p:=⟨_,dW (by have:=(c8.mp ev).1;rw[b1.length];exact this)⟩
  obtain⟨v',ev',bp⟩:=b1.get ep;cases bJ (ev.symm.trans ev');obtain⟨q,Zm⟩:∃q,qs[i]?=some q:=⟨_,dW (by have:=(c8.mp ew).1;rw[b2.length];exact this)⟩
  obtain⟨w',ew',bq⟩:=b2.get Zm;cases bJ (ew.symm.trans ew');have hn:Hi (B+i)=none:=ni (B+i) (by lia) (.inr (aD _))
  obtain⟨_,f2,f3,f4,f5,f6⟩:=(fo (B+i) (by lia)).2
  have I2:=Inv.adopt (D:=B+i) (o:=.aj [v,w]) Ii hn (aP hsz (by lia)) f2 f5 f6 ⟨(by show 2<=sizeLine;decide),[x,y],.cons rv (.cons IW .nil),⟨_,e3,rfl,⟨0,rfl⟩,rfl⟩⟩
  obtain⟨R2,s2⟩:=Ri.laid (.aj [v,w]) hn;refine⟨_,_,I2,R2,si.trans s2,?_,λb hb hc=>?_⟩
  ·have hz:(List.zipWith fu ps qs)[i]?=some (fu p q):=by rw[List.getElem?_zipWith,ep,Zm]
   rw[List.take_succ,hz,yw,fD];exact(bi.mono s2).append (.cons (bN.mpr ⟨B+i,[v,w],rfl,gw.of aw,.cons (bp.mono (si.trans s2)) (.cons (bq.mono (si.trans s2)) .nil)⟩) .nil)
  ·rw[aK (show b≠B+i from λz=>by lia)]
   exact ni b hb (by lia)
def Zn(p q:PV):Option (List PV):=(nU p).bind λps=>(nU q).bind λqs=>if(List.zipWith fu ps qs).length<=gy then some (List.zipWith fu ps qs)else none
def Oh(m:Nat)(fa fb:Gx PV):Gx PV:=bnd fa λp=>bnd fb λq=>bnd (jE (Zn p q)) λl=>FD m l
section
variable {X:Cx} {aa:Hp} {ae:Fz} {a b:Expr} {fa fb:Gx PV} {pos p Fy zp:Pos} {m:Nat}
def Oi(hh:X.A.handled=none)(hgl:Gl X "list")(hml:X.mg "list"=none)(hg:Gl X "zip")(hm:X.mg "zip"=none)(ha:PE X a (tE X aa ae fa))(hb:PE X b (tE X aa ae fb))(hs:starEach [a,b] X.env=(false,eval a X.env)::starEach [b] X.env)(K5:starEach [b] X.env=[(false,eval b X.env)]) :
  PE X (.Call (.Name "list" p) [.Call (.Name "zip" zp) [a,b] [] Fy] [] pos) (tE X aa ae (Oh m fa fb)):=by
 rintro af s σ H Q I ⟨F,st,Rp,h⟩
 refine kd (ld_blt I hgl hml (lI .list) ?_ (by decide) (by decide))
 refine j5 (Lq rfl ?_) rfl rfl;have hA:=gC ha (gC hb pB K5) hs Fy af s σ H (λvs H'=>∃F' st' x y pa pb,vs=[x,y]/\Rep X.K aa ae F' st' σ H'/\bu X.K F' pa x/\bu X.K F' pb y/\Tx X aa ae (bu X.K) F' st' (bnd (jE (Zn pa pb)) λl=>FD m l) σ Q) I
  ⟨F,st,Rp,h.bnd λpa v F1 st1 H1 R1 g1 b1 h1=>⟨F1,st1,R1,h1.bnd λpb w F2 dH H2 R2 g2 b2 h2=>⟨F2,dH,v,w,pa,pb,rfl,R2,b1.mono g2,b2,h2⟩⟩⟩
 refine Call_ (ld_blt I hg hm boot_zip (j5 (thn hA λus s1 z9=>?_) hs (by rw[K5];rfl)))
 obtain⟨vs,H1,I1,r1,F1,st1,x,y,pa,pb,ev,R1,b1,b2,hT⟩:=z9;subst ev;obtain⟨l,e,hT⟩:=At.jE (At.bnd hT);obtain⟨ps,f3,e⟩:=aN e;obtain⟨qs,f4,e⟩:=aN e;obtain⟨yW,rfl⟩:=aA e;obtain⟨u1,u2,rfl,Sv,Xm⟩:=Er r1;obtain⟨c1,l1,Y8,rfl,q1,Qi,k1⟩:=jk f3 b1;obtain⟨c2,l2,vs2,rfl,q2,Vh,k2⟩:=jk f4 b2;cases Sv;cases Xm;obtain⟨ar,v1,JH⟩:=(k1 H1 R1.sub).get I1;obtain⟨eN,v2,Ql⟩:=(k2 H1 R1.sub).get I1;have lt:∀{l:Addr} {xs:Array Value} {c:String},ij s1.heap l xs c->l<s1.heap.objs.size:=λh=>by
  rcases h with⟨_,⟨o,e,_⟩⟩ | ⟨_,⟨o,e,_⟩⟩
  ·exact aG e
  ·exact aG e
 have Sw:=lt JH;have ze:=lt Ql;refine callType_new PySem.F.called_zip (by decide) (PySem.F.typeCall_zip_2 _ _) (PySem.F.newCall_zip_2 _ _) (λobj=>DF obj _ _) PySem.F.entry_zip_new (wN l1 l2 ar.toArray eN.toArray (jM c1) (jM c2)) ⟨JH,Ql,λh1 h2 h3 h4 e1 e2 e3 e4=>?_⟩
 have z1:h1.objs.size=s1.heap.objs.size+1:=by rw[e1];exact dF ..
 have z2:h2.objs.size=s1.heap.objs.size+2:=by rw[e2,dF,z1]
 have z3:h3.objs.size=s1.heap.objs.size+3:=by rw[e3,dF,z2]
 have z4:h4.objs.size=s1.heap.objs.size+4:=by rw[e4,dF,z3]
 generalize e5:h4.push {cls:=.type "zip",data:=.fields #[.none,.bool false,.bool false,.ref h2.objs.size,.ref h3.objs.size]}=h5
 have z5:h5.objs.size=s1.heap.objs.size+5:=by rw[<-e5,dF,z4]
 have p1:∀b o,s1.heap.get? b=some o->h1.get? b=some o:=λb o e=>by rw[e1];exact aH _ e
 have p2:∀b o,h1.get? b=some o->h2.get? b=some o:=λb o e=>by rw[e2];exact aH _ e
 have p3:∀b o,h2.get? b=some o->h3.get? b=some o:=λb o e=>by rw[e3];exact aH _ e
 have p4:∀b o,h3.get? b=some o->h4.get? b=some o:=λb o e=>by rw[e4];exact aH _ e
 have p5:∀b o,h4.get? b=some o->h5.get? b=some o:=λb o e=>by rw[<-e5];exact aH _ e
 have pp:∀b o,s1.heap.get? b=some o->h5.get? b=some o:=λb o e=>p5 _ _ (p4 _ _ (p3 _ _ (p2 _ _ (p1 _ _ e))))
 have g5:IsZip h5 h4.objs.size h2.objs.size h3.objs.size .none:=by rw[<-e5];exact bE _ rfl
 have g4:IsPair h5 h3.objs.size .none .none:=p5 _ _ (by rw[e4];exact bE _ rfl)
 have g3:IsPair h5 h2.objs.size (.ref s1.heap.objs.size) (.ref h1.objs.size):=p5 _ _ (p4 _ _ (by rw[e3];exact bE _ rfl))
 have g2:h5.get? h1.objs.size=some {cls:=.type (jM c2),data:=.fields #[.ref l2,.int 0 0]}:=p5 _ _ (p4 _ _ (p3 _ _ (by rw[e2];exact bE _ rfl)))
 have g1:h5.get? s1.heap.objs.size=some {cls:=.type (jM c1),data:=.fields #[.ref l1,.int 0 0]}:=p5 _ _ (p4 _ _ (p3 _ _ (p2 _ _ (by rw[e1];exact bE _ rfl))))
 have Zo:∀{c:Bool} {it l:Addr} {xs:Array Value},h5.get? it=some {cls:=.type (jM c),data:=.fields #[.ref l,.int 0 0]}->ij s1.heap l xs (jM c)->SI h5 it l 0 xs:=λ{c it l xs} e k=>by
  cases c with
  | true =>
   rcases k with⟨_,⟨o,eo,r⟩⟩ | ⟨k,_⟩
   ·exact .inl ⟨⟨_,e,rfl,rfl⟩,⟨o,pp _ _ eo,r⟩⟩
   ·exact absurd k (by decide)
  | false =>
   rcases k with⟨k,_⟩ | ⟨_,⟨o,eo,r⟩⟩
   ·exact absurd k (by decide)
   ·exact .inr ⟨⟨_,e,rfl,rfl⟩,⟨o,pp _ _ eo,r⟩⟩
 have Z:Zp h5 h4.objs.size h2.objs.size h3.objs.size s1.heap.objs.size h1.objs.size l1 l2 .none 0 ar.toArray eN.toArray:=⟨g5,g3,⟨_,_,g4⟩,Zo g1 JH,Zo g2 Ql,⟨by lia,by lia,by lia,by lia⟩,Sw,ze⟩
 refine⟨⟨_,g5,rfl⟩,?_⟩;have abE:=Qi.length;have abF:=Vh.length;have vl1:=v1.length;have vl2:=v2.length;have Xn:min ar.toArray.size eN.toArray.size=(List.zipWith fu ps qs).length:=by rw[List.length_zipWith,cy,cy];lia
 refine q9 (s:={s1 with heap:=h5,toks:=s1.toks}) hh Xn.symm (eF yW) ⟨by lia,by lia,by lia⟩ Z λh' c' kp hS hp=>?_
 have hS:h'.get? h5.objs.size=some {cls:=.type "list",dict:=none,data:=.seq (kJ (h5.objs.size+1) (List.zipWith fu ps qs).length) c',slots:=#[]}:=hS
 have I2:Inv X af σ H1 {s1 with heap:=h',toks:=s1.toks}:=I1.kept λb o e=>by
  have hb:@LT.lt Nat _ b s1.heap.objs.size:=aG e;exact kp b o (show @Ne Nat _ _ by lia) (show @Ne Nat _ _ by lia) (show @Ne Nat _ _ by lia) (show @Ne Nat _ _ by lia) (pp _ _ e)
 have fo:∀b,s1.heap.objs.size<=b->H1 b=none/\pf X af H1 b:=λb hb=>⟨I1.hok.fresh hb,I1.uk hb (I1.hok.fresh hb)⟩
 obtain⟨Hn,Fn,In,Rn,sn,bn,nn⟩:=wQ s1.heap.objs.size (B:=h5.objs.size+1) (by lia) fo I1.sz I2 R1 v1 v2 Qi Vh hp _ (aD _)
 rw[List.take_length]at bn;have Zr:Hn h5.objs.size=none:=nn _ (by lia) (.inl (by lia))
 obtain⟨_,f2,f3,f4',f5,f6⟩:=(fo h5.objs.size (by lia)).2
 have I3:=Inv.adopt (D:=h5.objs.size) (o:=.lst ((List.range (List.zipWith fu ps qs).length).map λj=>V.ref (h5.objs.size+1+j))) In Zr (aP I1.sz (by lia)) f2 f5 f6
  ⟨by simp only[aM,mr];exact eF yW,(kJ (h5.objs.size+1) (List.zipWith fu ps qs).length).toList,c',CP _ _,by simpa using hS⟩
 exact⟨.ref h5.objs.size,_,I3,rfl,Tx.FD (Tx.mono hT sn λ_ _ z=>z) Rn Zr bn⟩
end
section
variable {X:Cx}
theorem uP{α:Type}(xs:List α):∀n:Nat,(List.replicate n xs).flatten.length=n*xs.length
 | 0=>by simp
 | n+1=>by rw[eQ,i4,bX,uP xs n,Nat.succ_mul,Nat.add_comm]
theorem uQ(ar:List Value):∀(m:Nat) (acc:List Value),List.foldl (λx1 x2=>x1++x2) acc.toArray (List.replicate m ar.toArray)=(acc++(List.replicate m ar).flatten).toArray
 | 0,acc=>by simp
 | m+1,acc=>by
  rw[eQ,kl,show acc.toArray++ar.toArray=(acc++ar).toArray by simp,uQ ar m,eQ,i4,ej]
theorem p9{xs:List V}{ar:List Value}(r:Vals xs ar):∀n:Nat,Vals (List.replicate n xs).flatten (List.replicate n ar).flatten
 | 0=>.nil
 | n+1=>by rw[eQ,eQ,i4,i4];exact r.append (p9 r n)
theorem uR{K:W.Frag}{F:Fz}{ps:List PV}{vs:List V}(r:au K F ps vs):∀n:Nat,au K F (List.replicate n ps).flatten (List.replicate n vs).flatten
 | 0=>.nil
 | n+1=>by rw[eQ,eQ,i4,i4];exact r.append (uR r n)
def S9(K:W.Frag):R2:=λx y H Q=>∃l k xs,x=.ref l/\y=.int k/\iJ K H l xs /\ -(2^63)<=k/\k<2^63/\xs.length*k.toNat<=sizeLine /\
 ∀p,H p=none->Q (.ref p) (cK H p (.lst (List.replicate k.toNat xs).flatten))
theorem JY:OpR X (binaryOp .Mult) (S9 X.K):=by
 intro af s σ H x y v u Q I rx ry h;obtain⟨l,k,xs,rfl,rfl,hH,h1,h2,hz,q⟩:=h;cases rx;obtain⟨t,rfl⟩:=ry;obtain⟨ar,n,r,e,z⟩:=I.pP hH;have hl:=r.length;have dI:ar.toArray.size*k.toNat<=sizeLine:=by rw[cy,<-hl];exact hz
 have Xo:¬ar.toArray.size*k.toNat>(2^63-1)/8:=by
  have:(sizeLine:Nat)<=(2^63-1)/8:=by decide
  lia
 have Sd:¬(!Builtin.List.listFitsIndex k)=true:=by
  rw[fitsIndex_both h1 h2];exact cQ
 have Ta:¬Builtin.List.listTooLong (ar.toArray.size*k.toNat)=true:=by
  rw[vU dI];exact cQ
 have zk:List.foldl (λx1 x2=>x1++x2) #[] (List.replicate (if ar.toArray.isEmpty=true then 0 else k.toNat) ar.toArray)=(List.replicate k.toNat ar).flatten.toArray:=by
  have f0:∀m:Nat,List.foldl (λx1 x2=>x1++x2) #[] (List.replicate m ar.toArray)=(List.replicate m ar).flatten.toArray:=λm=>by
   have:=uQ ar m [];rw[gO]at this;exact this
  rw[f0];cases ar with
  | nil=>simp
  | cons a r'=>rw[if_neg (by simp)]
 refine wpAny_binaryOp_repeat_ref (T:="list") (U:="int") (by decide) ⟨_,e,rfl⟩ (λs'=>oU s' k t) noFill_list_mul F.fills_int_mul F.slot_int_rmul repeat_list F.slot_int_index.lookup
  (fE F.slot_int_rmul (oU s k t) F.entry_int_rmul (F.args_int_rmul_2 _ _) (int___rmul___int_list k t l ar.toArray n)
   ⟨e,rfl,⟨_,e,rfl⟩,fE F.slot_list_mul ⟨_,e,rfl⟩ F.entry_list_mul (F.args_list_mul_2 _ _) (AutoListH.list___mul___list_int_3 l ar.toArray n k t Sd Xo Ta) ⟨e,?_⟩⟩)
 rw[zk];exact⟨.ref _,_,I.RA (t':=s.toks) (p9 r k.toNat) (by rw[uP,Nat.mul_comm];exact hz),rfl,q _ I.fresh⟩
theorem CQ:fillsNumberSlot (.type "tuple") "mul"=pure false:=PySem.fillsNumberSlot_seq (id:="tuple.__mul__") (r:=some (.builtin "tuple.__rmul__")) F.slot_tuple_mul.lookup (by decide +kernel) F.slot_tuple_rmul.lookup (by decide +kernel)
theorem Oj:seqRepeat? (.type "tuple")=pure (some (.builtin "tuple.__mul__")):=by
  unfold seqRepeat?;rw[PySem.seqSlot_of (T:="tuple") (name:="__mul__") (id:="tuple.__mul__") F.slot_tuple_mul.lookup (by decide +kernel),PySem.seqSlot_of (T:="tuple") (name:="__rmul__") (id:="tuple.__rmul__") F.slot_tuple_rmul.lookup (by decide +kernel)]
  rfl
theorem JZ(a:Int)(t:Tok)(l:Addr)(items:Array Value)(n:Nat)(Lr:Option Addr)(sl:Array (Option Value)) :
    Meets (Builtin.«int.__rmul__» ⟨[.int a t,.ref l],[]⟩) (λ_ R s=>s.heap.get? l=some {cls:=.type "tuple",dict:=Lr,data:=.seq items n,slots:=sl}/\R (.ok (.ret Value.notImplemented)) s) :=
  .of_wp λprog w A R s h=>by
    obtain⟨hp,g,d,tk,os⟩:=s;obtain⟨hl,h⟩:=h
    wp_walk
    exact⟨_,rfl,h⟩
theorem Ol(l:Addr)(items:Array Value)(n:Nat)(u:Tok)(Lr:Option Addr)(sl:Array (Option Value)) :
    Meets (Builtin.«tuple.__mul__» ⟨[.ref l,.int 1 u],[]⟩) (λ_ R s=>s.heap.get? l=some {cls:=.type "tuple",dict:=Lr,data:=.seq items n,slots:=sl}/\R (.ok (.ret (.ref l))) s) :=
  .of_wp λprog w A R s h=>by
    obtain⟨hp,g,d,tk,os⟩:=s;obtain⟨hl,h⟩:=h
    wp_walk
    exact⟨_,rfl,h⟩
theorem J0(l:Addr)(items:Array Value)(n:Nat)(x:Int)(u:Tok)(Lr:Option Addr)(sl:Array (Option Value))(h2:2<=x)(h3:x<=1000)(ne:items.isEmpty=false)(hz:items.size<=1000) :
    Meets (Builtin.«tuple.__mul__» ⟨[.ref l,.int x u],[]⟩) (λ_ R s=>s.heap.get? l=some {cls:=.type "tuple",dict:=Lr,data:=.seq items n,slots:=sl}/\R (.ok (.ret (.ref s.heap.objs.size))) {s with heap:=s.heap.push {cls:=.type "tuple",data:=.seq (List.foldl (λx1 x2=>x1++x2) #[] (List.replicate x.toNat items))}}) :=
  .of_wp λprog w A R s h=>by
    obtain⟨hp,g,d,tk,os⟩:=s;obtain⟨hl,h⟩:=h;have hx:(items.size:Int)*x<=1000*1000:=by
      have h0:(0:Int)<=items.size:=Int.natCast_nonneg _;have h1:(items.size:Int)<=1000:=by lia
      exact Int.mul_le_mul h1 h3 (by lia) (by lia)
    have hsz:(List.foldl (λx1 x2=>x1++x2) #[] (List.replicate x.toNat items)).size<=sizeLine:=by
      rw[AutoListH.size_joined,kr];have h4:x.toNat*items.size<=1000*1000:=tZ (by lia) hz
      simp
      lia
    wp_walk
    refine oK (cz ?_) ?_
    · simp
      lia
    wp_walk
    refine oK (cz ?_) ?_
    · rw[ne]
      simp
      lia
    wp_walk
    refine oK (cz ?_) ?_
    · rw[ne]
      simp
      lia
    wp_walk
    refine oK (cz ?_) ?_
    · lia
    wp_walk
    refine oK (cz ?_) ?_
    · unfold Builtin.Tuple.tupleTooMany
      rw[kr];simp
      lia
    wp_walk
    exact⟨_,rfl,h⟩
theorem J1(l:Addr)(items:Array Value)(n:Nat)(u:Tok)(Lr:Option Addr)(sl:Array (Option Value))(ne:items.isEmpty=false) :
  Meets (Builtin.«tuple.__mul__» ⟨[.ref l,.int 0 u],[]⟩) (λ_ R s=>s.heap.get? l=some {cls:=.type "tuple",dict:=Lr,data:=.seq items n,slots:=sl}/\R (.ok (.ret (.ref s.heap.objs.size))) {s with heap:=s.heap.push {cls:=.type "tuple",data:=.seq #[]}}) :=
 .of_wp λprog w A R s h=>by
  obtain⟨hp,g,d,tk,os⟩:=s;obtain⟨hl,h⟩:=h
  wp_walk
  exact⟨_,rfl,h⟩
theorem Om{xs:List PV}{j:Int}(h1:0<=j)(h2:j<=1000)(h3:1<=xs.length)(h4:xs.length<=100){af:List (Addr×Obj)}{s:Shared}{σ τ:St}{H aa:Hp}{ae F:Fz}{st:cb}{x y:V}{v u:Value}{Q:V->Hp->Prop}(I:Inv X af σ H s)(rx:RelV x v)(ry:RelV y u)(R:Rep X.K aa ae F st τ H)(ba:bu X.K F (.aj xs) x)(bb:bu X.K F (.int j) y)
    (k:∀v' H' F',Rep X.K aa ae F' st τ H'->Gr F F'->bu X.K F' (.aj (List.replicate j.toNat xs).flatten) v'->Q v' H'):wpAny (model X.prog X.w) X.A (binaryOp .Mult v u) (EP X af σ Q) X.xe s:=by
  obtain⟨a,vs,rfl,ha,ib⟩:=bN.mp ba;rw[aC.mp bb]at ry;cases rx;obtain⟨t,rfl⟩:=ry;obtain⟨ar,r,pl,_⟩:=I.tuple (bC R.sub ha);obtain⟨⟨cls,dd,data,sl⟩,e,hc,n,hd⟩:=id pl;simp only at hc hd;subst hc hd;have hl:=r.length;have hxl:=ib.length;refine wpAny_binaryOp_repeat_ref (T:="tuple") (U:="int") (by decide) ⟨_,e,rfl⟩ (λs'=>oU s' j t) CQ PySem.F.fills_int_mul PySem.F.slot_int_rmul Oj PySem.F.slot_int_index.lookup
    (fE PySem.F.slot_int_rmul (oU s j t) PySem.F.entry_int_rmul (PySem.F.args_int_rmul_2 _ _) (JZ j t a ar.toArray n dd sl) ⟨e,rfl,⟨_,e,rfl⟩,?_⟩)
  have nt:ar.toArray.isEmpty=false:=by
    cases ar with
    | nil=>rw[ki]at hl;lia
    | cons _ _=>simp
  by_cases hj0:j=0
  · subst hj0
    refine fE xW ⟨_,e,rfl⟩ xT (xR _ _) (J1 a ar.toArray n t dd sl nt) ⟨e,?_⟩;obtain⟨R2,s2⟩:=R.laid (.aj []) I.fresh;exact⟨.ref s.heap.objs.size,_,I.laid (t':=s.toks) (o:=.aj []) (λb ob q=>aH _ q) (aD _) ⟨ja _,[],.nil,nM.new _ _⟩,rfl,k _ _ _ R2 s2 (bN.mpr ⟨_,_,rfl,gw.of aw,.nil⟩)⟩
  by_cases hj:j=1
  · subst hj
    refine fE xW ⟨_,e,rfl⟩ xT (xR _ _) (Ol a ar.toArray n t dd sl) ⟨e,?_⟩;refine⟨.ref a,H,I,rfl,k _ H F R (Gr.refl F) ?_⟩;simpa using ba
  · refine fE xW ⟨_,e,rfl⟩ xT (xR _ _) (J0 a ar.toArray n j t dd sl (by lia) h2 nt (by rw[cy];lia)) ⟨e,?_⟩
    have zk:List.foldl (λx1 x2=>x1++x2) #[] (List.replicate j.toNat ar.toArray)=(List.replicate j.toNat ar).flatten.toArray:=by
      have:=uQ ar j.toNat [];rw[gO]at this;exact this
    rw[zk];obtain⟨R2,s2⟩:=R.laid (.aj (List.replicate j.toNat vs).flatten) I.fresh;have dI:(List.replicate j.toNat vs).flatten.length<=sizeLine:=by
      rw[uP,kr];have:j.toNat*vs.length<=1000*100:=tZ (by lia) (by lia)
      lia
    exact⟨.ref s.heap.objs.size,_,I.laid (t':=s.toks) (o:=.aj (List.replicate j.toNat vs).flatten) (λb ob q=>aH _ q) (aD _) ⟨dI,_,p9 r j.toNat,nM.new _ _⟩,rfl,k _ _ _ R2 s2 (bN.mpr ⟨_,_,rfl,gw.of aw,(uR ib j.toNat).mono s2⟩)⟩
def Oo{x':Str}{j:Int}(h1:2<=j)(h2:j<=100)(h3:1<=x'.length)(h4:x'.length<=100){af:List (Addr×Obj)}{s:Shared}{σ τ:St}{H aa:Hp}{ae F:Fz}{st:cb}{x y:V}{v u:Value}{Q:V->Hp->Prop}(I:Inv X af σ H s)(rx:RelV x v)(ry:RelV y u)(R:Rep X.K aa ae F st τ H)(ba:bu X.K F (.str x') x)(bb:bu X.K F (.int j) y)
 (k:∀v' H' F',Rep X.K aa ae F' st τ H'->Gr F F'->bu X.K F' (.str (Txt.mul x' j)) v'->Q v' H'):wpAny (model X.prog X.w) X.A (binaryOp .Mult v u) (EP X af σ Q) X.xe s:=by
 rw[aC.mp bb]at ry;rw[bH.mp ba]at rx;obtain⟨t,rfl⟩:=rx;obtain⟨t',rfl⟩:=ry;refine SB.mul ⟨by simp;lia,λ_ _=>?_,λ_ _=>?_⟩ λt' m=>⟨.str _,H,I.kept (t':=m) (λ_ _ e=>e),⟨t',rfl⟩,k _ H F R (Gr.refl F) (bH.mpr rfl)⟩
 ·have:100<=(2^63-1:Int)/j:=by
   rw[Int.le_ediv_iff_mul_le (by lia)]
   lia
  lia
 ·unfold Builtin.Str.tooLong;have:x'.length*j.toNat<=100*100:=tZ h4 (by lia)
  exact cz (Nat.not_lt.mpr (aP this (by decide)))
def Xp(h:List ah)(p:PV)(j:Int):Option (List PV):=(y0 h p).bind λxs=>if(-1000<=j/\j<=1000/\xs.length<=100)then some (List.replicate j.toNat xs).flatten else none
def HN:Nat:=1606938044258990275541962092341162602522202993782792835301376
theorem zt{i j:Int}(h:i.natAbs<HN/\j.natAbs<HN):IntMulOk i j:=by
 have h1:Builtin.Int.intBits i<=200:=PyProof.Rows.intBits_le (bM h.1 (by decide))
 have h2:Builtin.Int.intBits j<=200:=PyProof.Rows.intBits_le (bM h.2 (by decide))
 have hc:Builtin.Int.intTooBig (Builtin.Int.intBits i+Builtin.Int.intBits j)=false:=by
  unfold Builtin.Int.intTooBig bitsLine;exact cz (by lia)
 unfold IntMulOk;rw[hc];simp
def Xq:G2:=mM (λi j=>decide (((-nS<i/\i<nS)\/(-nS<j/\j<nS))\/(i.natAbs<HN/\j.natAbs<HN))) λi j=>.int (i*j)
theorem FJ:oj X (binaryOp .Mult) Xq:=eG (C:=IntMulOk) (Ra λ_ _ _ _ _ _ _ hc q=>mul_int q hc) (λi j e=>by
 rcases gN e with h | h
 ·exact IB.ok h
 ·exact zt h) λ_ _ _=>aC.mpr rfl
def kK:G2:=λh p q=>match p,q with
 | .int i,.int j=>if(((-nS<i/\i<nS)\/(-nS<j/\j<nS))\/(i.natAbs<HN/\j.natAbs<HN))then some (.int (i*j))else none
 | .nd .aj xs,.int j=>if(0<=j/\j<=1000/\1<=xs.length/\xs.length<=100)then some (.aj (List.replicate j.toNat xs).flatten)else none
 | .str x,.int j=>if(2<=j/\j<=100/\1<=x.length/\x.length<=100)then some (.str (Txt.mul x j))else none
 | p,.int j=>(Xp h p j).map .lst
 | _,_=>none
theorem Oq{xs:List PV}{vs:List V}{F:Fz}{j:Int}(h:-1000<=j/\j<=1000/\xs.length<=100)(b:au X.K F xs vs):-(2^63)<=j/\j<2^63/\vs.length*j.toNat<=sizeLine:=by
 refine⟨by lia,by lia,?_⟩
 have:=b.length;rw[kr];have:vs.length*j.toNat<=100*1000:=tZ (by lia) (by lia)
 lia
theorem FK:oj X (binaryOp .Mult) kK:=by
 intro af s σ H x y v u Q I rx ry ⟨aa,ae,F,st,τ,pa,pb,p,e,R,ba,bb,k⟩;unfold kK at e;split at e
 ·rename_i i j;obtain⟨hc,rfl⟩:=aA e;exact FJ af s σ H x y v u Q I rx ry ⟨aa,ae,F,st,τ,.int i,.int j,.int (i*j),(show(if decide (((-nS<i/\i<nS)\/(-nS<j/\j<nS))\/(i.natAbs<HN/\j.natAbs<HN))=true then some (PV.int (i*j))else none)=_ from if_pos (dX hc)),R,ba,bb,k⟩
 ·obtain⟨⟨h1,h2,h3,h4⟩,rfl⟩:=aA e;exact Om h1 h2 h3 h4 I rx ry R ba bb k
 ·obtain⟨⟨h1,h2,h3,h4⟩,rfl⟩:=aA e;exact Oo h1 h2 h3 h4 I rx ry R ba bb k
 ·obtain⟨qs,e1,rfl⟩:=aO e;obtain⟨xs,e2,e1⟩:=aN e1;obtain⟨hc,rfl⟩:=aA e1;obtain⟨a,vs,rfl,ha,ib⟩:=R.at (ia e2) ba;obtain⟨c1,c2,c3⟩:=Oq hc ib;refine JY af s σ H _ y v u Q I rx ry ⟨a,_,vs,rfl,aC.mp bb,ha,c1,c2,c3,λp hp=>?_⟩
  obtain⟨R2,s2⟩:=R.laid (.lst (List.replicate _ vs).flatten) hp;exact k _ _ _ R2 s2 (dg.mpr ⟨p,_,rfl,iJ.of aw,(uR ib _).mono s2⟩)
 ·cases e
def J2(op:Operator):Option G2:=match op with
 | .Mult=>some kK
 | op=>Nw op
theorem FL{op:Operator}{g:G2}(h:J2 op=some g):oj X (binaryOp op) g:=by
 cases op<;>first | (cases h;exact FK) | exact Jk h
end
def Zs(K:W.Frag)(c1 c2:Bool)(l1 l2:Addr):It where
 go:=λi H=>∃vs ws v w,qP K H c1 l1 vs/\qP K H c2 l2 ws/\vs[i]?=some v/\ws[i]?=some w
 yld:=λi H x H'=>∃T v w,H T=none/\x=.ref T/\H'=cK H T (.aj [v,w])/\∀vs ws,qP K H c1 l1 vs->qP K H c2 l2 ws->vs[i]?=some v/\ws[i]?=some w
 stop:=λi H=>∃vs ws,qP K H c1 l1 vs/\qP K H c2 l2 ws/\(vs.length<=i\/ws.length<=i)
def zTn(z TI TO i1 i2 l1 l2:Nat)(c1 c2:Bool)(i:Nat)(h:Heap):Prop:=IsZip h z TI TO .none/\IsPair h TI (.ref i1) (.ref i2)/\(∃a b,IsPair h TO a b)/\Dv h c1 i1 l1 i/\Dv h c2 i2 l2 i
theorem FN{P:Program}{w:World}{K:W.Frag}{elts:List Expr}{x1:Nat}{pA:Pos}{z TI TO i1 i2 l1 l2:Nat}{c1 c2:Bool}(ord:i1<i2/\i2<TI/\TI<TO/\TO<z)(o1:l1<i1)(o2:l2<i1) :
  Turn P w K (.Tuple elts x1 pA) (Zs K c1 c2 l1 l2) [z,TI,TO,i1,i2] z (zTn z TI TO i1 i2 l1 l2 c1 c2) where
 mem:=dk
 obj:=by
  rintro i h ⟨a1,a2,⟨_,_,a3⟩,a4,a5⟩ b hb
  simp only[bh,c9,da]at hb;rcases hb with rfl | rfl | rfl | rfl | rfl
  ·exact⟨_,a1,λv=>by simp⟩
  ·exact⟨_,a2,λv=>by simp⟩
  ·exact⟨_,a3,λv=>by simp⟩
  ·exact a4.obj
  ·exact a5.obj
 keep:=λi h h' ⟨a1,a2,⟨p,q,a3⟩,a4,a5⟩ k=>⟨k z (by simp) _ a1,k TI (by simp) _ a2,⟨p,q,k TO (by simp) _ a3⟩,a4.at λo e=>k i1 (by simp) o e,a5.at λo e=>k i2 (by simp) o e⟩
 item:=by
  rintro X hP hw hK hc i af s σ H E I hf ⟨a1,a2,a3,a4,a5⟩ ⟨vs,ws,v,w',hv,Vi,ev,ew⟩
  subst hP hw hK;obtain⟨ar,r1,k1⟩:=hv.get I;obtain⟨eN,r2,k2⟩:=Vi.get I;obtain⟨x,ex,rx⟩:=r1.get ev;obtain⟨y,ey,ry⟩:=r2.get ew;have Z:Zp s.heap z TI TO i1 i2 l1 l2 .none i ar.toArray eN.toArray:=⟨a1,a2,a3,r9 a4 k1,r9 a5 k2,ord,o1,o2⟩;have hT:s.TypeIs (.ref z) "zip":=⟨_,a1,rfl⟩;unfold pyNext;refine ag (kn (fA (name:=Str.ofString "__next__") hT fB (fR fB hT mx
   (Bi Z (by simpa using ex) (by simpa using ey) λh' Z' Lz Sl kp=>aq ⟨_,rfl,?_⟩) (mq _))))
  refine wpAny_letOwnedTupleGo_zip Z'.hz λHK Xr sb=>?_
  have Sr:∀b∈[z,TI,TO,i1,i2],b<s.heap.objs.size:=λb hb=>by
   simp only[bh,c9,da]at hb;have h1:=aG a1;have h2:z<s.heap.objs.size:=h1;obtain⟨q1,q2,q3,q4⟩:=ord;rcases hb with rfl | rfl | rfl | rfl | rfl<;>lia
  have zT:z≠s.heap.objs.size:=br (Sr z (by simp))
  have Ss:∀b o,b∉[z,TI,TO,i1,i2]->s.heap.get? b=some o->HK.get? b=some o:=λb o hb e=>by
   simp only[bh,c9,da,not_or]at hb;exact sb.extBut _ _ hb.1 (kp b o hb.1 hb.2.2.1 hb.2.2.2.1 hb.2.2.2.2 e)
  have I1:Inv X af σ H {s with heap:=HK,toks:=s.toks}:=Inv.turns I hf Ss
  have hn:H s.heap.objs.size=none:=I.fresh;have JF:=I.uk (H':=H) (aD _) hn;have pr:IsPair HK s.heap.objs.size x y:=sb.extBut _ _ (bZ zT) Lz;have I2:=Inv.adopt (D:=s.heap.objs.size) (o:=.aj [v,w']) I1 hn (by
    rcases JF.2.2.2.1 with q | q
    ·exact I.sz
    ·exact q) JF.2.1 JF.2.2.2.2.1 JF.2.2.2.2.2 ⟨(by show 2<=sizeLine;decide),[x,y],.cons rx (.cons ry .nil),⟨_,pr,rfl,⟨0,rfl⟩,rfl⟩⟩
  refine⟨.ref s.heap.objs.size,_,I2,rfl,⟨s.heap.objs.size,v,w',hn,rfl,rfl,λvC ws' h1 h2=>?_⟩,⟨Xr,sb.extBut _ _ (by first | exact nl (by lia) | exact ng (by lia)) Z'.hTI,?_,?_,?_⟩,λb hb=>?_⟩
  ·rw[<-qP.inj I hv h1,<-qP.inj I Vi h2];exact⟨ev,ew⟩
  ·obtain⟨p,q,e⟩:=Z'.hTO;exact⟨p,q,sb.extBut _ _ (by first | exact nl (by lia) | exact ng (by lia)) e⟩
  ·have q:=uJ (k':=i) Z'.s1 k1 λo e=>kp l1 o (by first | exact nl (by lia) | exact ng (by lia)) (by first | exact nl (by lia) | exact ng (by lia)) (by first | exact nl (by lia) | exact ng (by lia)) (by first | exact nl (by lia) | exact ng (by lia)) e
   exact q.at λo e=>sb.extBut _ _ (by first | exact nl (by lia) | exact ng (by lia)) e
  ·have q:=uJ (k':=i) Z'.s2 k2 λo e=>kp l2 o (by first | exact nl (by lia) | exact ng (by lia)) (by first | exact nl (by lia) | exact ng (by lia)) (by first | exact nl (by lia) | exact ng (by lia)) (by first | exact nl (by lia) | exact ng (by lia)) e
   exact q.at λo e=>sb.extBut _ _ (by first | exact nl (by lia) | exact ng (by lia)) e
  ·rw[aK (br (Sr b hb))];exact(hf b hb).1
 done:=by
  rintro X hP hw hK hc i af s σ H E I hf ⟨a1,a2,a3,a4,a5⟩ ⟨vs,ws,hv,Vi,he⟩
  subst hP hw hK;obtain⟨ar,r1,k1⟩:=hv.get I;obtain⟨eN,r2,k2⟩:=Vi.get I;have Z:Zp s.heap z TI TO i1 i2 l1 l2 .none i ar.toArray eN.toArray:=⟨a1,a2,a3,r9 a4 k1,r9 a5 k2,ord,o1,o2⟩;have hT:s.TypeIs (.ref z) "zip":=⟨_,a1,rfl⟩;have wM:ar.toArray[i]?=none\/eN.toArray[i]?=none:=by
   rcases he with q | q
   ·exact .inl (j7 (by rw[cy,<-r1.length];exact q))
   ·exact .inr (j7 (by rw[cy,<-r2.length];exact q))
  unfold pyNext;refine ag (kn (fA (name:=Str.ofString "__next__") hT fB (fR fB hT mx (FH (I.ok.hd hc) Z wM λh' e kp ⟨o,ho,hcl⟩=>?_) (mq _))))
  refine ag (tM (T:="StopIteration") (b:=true) ⟨o,ho,hcl⟩ tY (aq ⟨rfl,?_⟩));exact Inv.turns (t':=s.toks) I hf λb o hb e=>by
   simp only[bh,c9,da,not_or]at hb;exact kp b o hb.1 hb.2.2.1 hb.2.2.2.1 hb.2.2.2.2 e
 self:=λA i s Q E ⟨a1,_⟩ q=>yk a1 q
theorem FO{K:W.Frag}{F:Fz}{c1 c2:Bool}{l1 l2:Addr}{ps qs:List PV}{vs ws:List V}(k1:∀F',b8 F.F F'->qP K F' c1 l1 vs)(k2:∀F',b8 F.F F'->qP K F' c2 l2 ws)(b1:au K F ps vs)(b2:au K F qs ws):Walk K F (List.zipWith fu ps qs) (Zs K c1 c2 l1 l2):=by
 intro aa ae F' ρ σ H R s i;have h1:=k1 H (s.s.trans R.sub);have h2:=k2 H (s.s.trans R.sub);refine⟨λp e=>?_,λe=>?_⟩
 ·rw[List.getElem?_zipWith]at e;cases z1:ps[i]? with
  | none=>rw[z1]at e;cases e
  | some p1 =>
   cases z2:qs[i]? with
   | none=>rw[z1,z2]at e;cases e
   | some p2 =>
    rw[z1,z2]at e;cases e;obtain⟨v,e1,WS⟩:=b1.get z1;obtain⟨w,e2,c2'⟩:=b2.get z2;refine⟨⟨vs,ws,v,w,h1,h2,e1,e2⟩,λx H' ⟨T,v',w',hn,hx,hH,EA⟩=>?_⟩
    obtain⟨g1,g2⟩:=EA vs ws h1 h2;rw[e1]at g1;rw[e2]at g2;cases g1;cases g2;subst hx hH;obtain⟨R2,s2⟩:=R.laid (.aj [v,w]) hn;exact⟨_,R2,s2,bN.mpr ⟨T,[v,w],rfl,gw.of aw,.cons (WS.mono (s.trans s2)) (.cons (c2'.mono (s.trans s2)) .nil)⟩⟩
 ·refine⟨vs,ws,h1,h2,?_⟩;have:=gL.mp e;rw[List.length_zipWith,b1.length,b2.length]at this
  lia
section
variable {X:Cx} {aa:Hp} {ae:Fz} {a b tg:Expr} {fa fb:Gx PV} {pos p:Pos}
def FP(p q:PV):Option (List PV):=(nU p).bind λps=>(nU q).map λqs=>List.zipWith fu ps qs
def Ot(fa fb:Gx PV):Gx (List PV):=bnd fa λp=>bnd fb λq=>jE (FP p q)
theorem Tb(ht:AY tg=true)(hg:Gl X "zip")(hm:X.mg "zip"=none)(ha:PE X a (tE X aa ae fa))(hb:PE X b (tE X aa ae fb))(hs:starEach [a,b] X.env=(false,eval a X.env)::starEach [b] X.env)(K5:starEach [b] X.env=[(false,eval b X.env)]) :
  PI X tg (.Call (.Name "zip" p) [a,b] [] pos) (tI X aa ae (Ot fa fb)):=by
 rintro af s σ H R I ⟨F,st,Rp,h⟩
 have hA:=gC ha (gC hb pB K5) hs pos af s σ H (λvs H'=>∃F' st' x y pa pb ps qs,vs=[x,y]/\Rep X.K aa ae F' st' σ H'/\bu X.K F' pa x/\bu X.K F' pb y/\nU pa=some ps/\nU pb=some qs/\∀b Su EK,Rep X.K aa ae EK st' σ Su->Gr F' EK->Walk X.K EK (List.zipWith fu ps qs) b->R b Su) I
  ⟨F,st,Rp,h.bnd λp v F1 st1 H1 R1 g1 b1 h1=>⟨F1,st1,R1,h1.bnd λq w F2 dH H2 R2 g2 b2 h2=>by
   obtain⟨o,e,z⟩:=h2.jE;obtain⟨ps,e1,e⟩:=aN e;obtain⟨qs,e2,rfl⟩:=aO e;exact⟨F2,dH,v,w,p,q,ps,qs,rfl,R2,b1.mono g2,b2,e1,e2,z⟩⟩⟩
 refine Call_ (ld_blt I hg hm boot_zip (j5 (thn hA λus s1 z9=>?_) hs (by rw[K5];rfl)))
 obtain⟨vs,H1,I1,r1,F1,st1,x,y,pa,pb,ps,qs,ev,R1,b1,b2,f3,f4,q⟩:=z9;subst ev;obtain⟨u1,u2,rfl,Sv,Xm⟩:=Er r1;obtain⟨c1,l1,Y8,rfl,q1,Qi,k1⟩:=jk f3 b1;obtain⟨c2,l2,vs2,rfl,q2,Vh,k2⟩:=jk f4 b2;cases Sv;cases Xm;obtain⟨ar,v1,JH⟩:=(k1 H1 R1.sub).get I1;obtain⟨eN,v2,Ql⟩:=(k2 H1 R1.sub).get I1;have lt:∀{l:Addr} {xs:Array Value} {c:String},ij s1.heap l xs c->l<s1.heap.objs.size:=λh=>by
  rcases h with⟨_,⟨o,e,_⟩⟩ | ⟨_,⟨o,e,_⟩⟩
  ·exact aG e
  ·exact aG e
 have Sw:=lt JH;have ze:=lt Ql;refine callType_new PySem.F.called_zip (by decide) (PySem.F.typeCall_zip_2 _ _) (PySem.F.newCall_zip_2 _ _) (λobj=>DF obj _ _) PySem.F.entry_zip_new (wN l1 l2 ar.toArray eN.toArray (jM c1) (jM c2)) ⟨JH,Ql,λh1 h2 h3 h4 e1 e2 e3 e4=>?_⟩
 have z1:h1.objs.size=s1.heap.objs.size+1:=by rw[e1];exact dF ..
 have z2:h2.objs.size=s1.heap.objs.size+2:=by rw[e2,dF,z1]
 have z3:h3.objs.size=s1.heap.objs.size+3:=by rw[e3,dF,z2]
 have z4:h4.objs.size=s1.heap.objs.size+4:=by rw[e4,dF,z3]
 generalize e5:h4.push {cls:=.type "zip",data:=.fields #[.none,.bool false,.bool false,.ref h2.objs.size,.ref h3.objs.size]}=h5
 have p1:∀b o,s1.heap.get? b=some o->h1.get? b=some o:=λb o e=>by rw[e1];exact aH _ e
 have p2:∀b o,h1.get? b=some o->h2.get? b=some o:=λb o e=>by rw[e2];exact aH _ e
 have p3:∀b o,h2.get? b=some o->h3.get? b=some o:=λb o e=>by rw[e3];exact aH _ e
 have p4:∀b o,h3.get? b=some o->h4.get? b=some o:=λb o e=>by rw[e4];exact aH _ e
 have p5:∀b o,h4.get? b=some o->h5.get? b=some o:=λb o e=>by rw[<-e5];exact aH _ e
 have g5:IsZip h5 h4.objs.size h2.objs.size h3.objs.size .none:=by rw[<-e5];exact bE _ rfl
 have g4:IsPair h5 h3.objs.size .none .none:=p5 _ _ (by rw[e4];exact bE _ rfl)
 have g3:IsPair h5 h2.objs.size (.ref s1.heap.objs.size) (.ref h1.objs.size):=p5 _ _ (p4 _ _ (by rw[e3];exact bE _ rfl))
 have g2:h5.get? h1.objs.size=some {cls:=.type (jM c2),data:=.fields #[.ref l2,.int 0 0]}:=p5 _ _ (p4 _ _ (p3 _ _ (by rw[e2];exact bE _ rfl)))
 have g1:h5.get? s1.heap.objs.size=some {cls:=.type (jM c1),data:=.fields #[.ref l1,.int 0 0]}:=p5 _ _ (p4 _ _ (p3 _ _ (p2 _ _ (by rw[e1];exact bE _ rfl))))
 have Zt:∀{c:Bool} {it l:Addr},h5.get? it=some {cls:=.type (jM c),data:=.fields #[.ref l,.int 0 0]}->Dv h5 c it l 0:=λ{c it l} e=>by
  cases c with
  | true=>exact(show h5.IsListIter it l 0 from⟨_,e,rfl,rfl⟩)
  | false=>exact(show h5.IsTupleIter it l 0 from⟨_,e,rfl,rfl⟩)
 have I2:Inv X af σ H1 {s1 with heap:=h5,toks:=s1.toks}:=I1.kept λb o e=>p5 _ _ (p4 _ _ (p3 _ _ (p2 _ _ (p1 _ _ e))))
 have eW:∀b,s1.heap.objs.size<=b->H1 b=none:=λb hb=>I1.hok.fresh hb
 refine⟨⟨_,g5,rfl⟩,?_⟩;show wpAny _ _ (pyIter (.ref h4.objs.size)) _ _ {s1 with heap:=h5,toks:=s1.toks}
 refine yk g5 ?_;cases tg with
 | Tuple elts x1 pA =>
  refine⟨h4.objs.size,[h4.objs.size,h2.objs.size,h3.objs.size,s1.heap.objs.size,h1.objs.size],_,_,H1,rfl,I2,FN (TI:=h2.objs.size) (TO:=h3.objs.size) (i1:=s1.heap.objs.size) (i2:=h1.objs.size) (l1:=l1) (l2:=l2) (c1:=c1) (c2:=c2) ⟨by lia,by lia,by lia,by lia⟩ Sw ze,⟨g5,g3,⟨_,_,g4⟩,Zt g1,Zt g2⟩,λb hb=>?_,q _ H1 F1 R1 (Gr.refl _) (FO k1 k2 Qi Vh)⟩
  simp only[bh,c9,da]at hb;have Sx:s1.heap.objs.size<=b:=by rcases hb with rfl | rfl | rfl | rfl | rfl<;>lia
  have fo:=I1.uk (H':=H1) Sx (eW b Sx);exact fo
 | _=>cases ht
end
end L2.U
namespace L2
open PySem PySem.Spec PyProof.Rows
section
variable {prog:Program} {w:World} {A:Around} {E:Value->Shared->Prop} {s:Shared} {K:W.Frag} {x dx C f:Addr} {mA:Str->Option Value} {name:Str} {v:Value}
theorem FQ{pl:Sem Bool}{Q:Value×List Value->Shared->Prop}(X:K.In s.heap)(I:yO s.heap x dx C mA)(hg:W.plainGet K C name=true)
    (hf:W.findIn K (.ref C) name=some (some (.ref f))) (ht:W.isFn K (.ref f)=true) (hv:mA name=none) (h:Q (.ref f,[.ref x]) s) :
    wpAny (model prog w) A (getMethod (.ref x) name pl) Q E s:=by
  obtain⟨od,J,hl⟩:=I.kB;exact W.method_fn X J (W.plainGet_of hg).1 (W.plainGet_of hg).2 hf (mG.mp ht) (by show(W.lookIn name od).map (·.isSome)=some false;rw[hl,hv];rfl) h
end
section
variable {X:Cx} {af:List (Addr×Obj)} {σ:St} {H:Hp} {s:Shared} {a C dx:Addr} {fs:List (Str×V)} {f:Str} {v:V} {A:Around} {E:Value->Shared->Prop}
theorem zu{m:Str}{g:Addr}{pl:Sem Bool}{Q:Value×List Value->Shared->Prop}(I:Inv X af σ H s)(e:H a=some (.ins C dx fs))(c:qS X.K C)(k:DI X.K C m g)(l:fs.lookup m=none)
    (h:Q (.ref g,[.ref a]) s):wpAny (model X.prog X.w) A (getMethod (.ref a) m pl) Q E s:=by
  obtain⟨mA,O,r,_,_,_⟩:=uo I.hok e;have hn:mA m=none:=nL.none_of (by rw[<-l];exact r m)
  exact FQ I.mJ O (c.get m) k.at_ k.fn hn h
end
section
variable {X:Cx} {o e value:Expr} {f:Str} {pos nN pA:Pos} {ta tv:TE}
theorem nC{pl:Sem Bool}{m:Str}{d8:Pos}{args:List Expr}{af:List (Addr×Obj)}{s:Shared}{σ:St}{H:Hp}{Q:Value->Shared->Prop}{te:TE}(he:PE X e te)(I:Inv X af σ H s)
    (h:te σ H λx H1=>∃a C dx fs g,x=.ref a/\H1 a=some (.ins C dx fs)/\qS X.K C/\DI X.K C m g/\fs.lookup m=none /\
      ∀s1,Inv X af σ H1 s1->wpAny (model X.prog X.w) X.A (callWith pos (.ref g) [.ref a] (backTo pos (starEach args X.env)) (backToKw pos (keywordEach [] X.env))) Q X.xe s1)
    (ht:eval (.Call (.Attribute e m d8) args [] pos) X.env=(do
      let ov <-eval e X.env
      standAt d8.atName
      let (f,first) <-holding [ov] (getMethod ov m pl)
      callWith pos f first (backTo pos (starEach args X.env)) (backToKw pos (keywordEach [] X.env)))) :
    wpAny (model X.prog X.w) X.A (eval (.Call (.Attribute e m d8) args [] pos) X.env) Q X.xe s:=by
  refine W.methodCall_KW (pl:=pl) (thn (he af s σ H _ I h) λu s1 ⟨x,H1,I1,rx,a,C,dx,fs,g,ex,ea,c,k,l,q⟩=>?_) ht
  subst ex;obtain rfl:u=Value.ref a:=rx;exact zu I1 ea c k l (q s1 I1)
end
section
def Xs(X:Cx)(op:Operator)(rd:V->V->Hp->VK->Prop):Prop :=
  ∀(af:List (Addr×Obj)) (s:Shared) (σ:St) (H:Hp) (x y:V) (u v:Value) (Q:VK),Inv X af σ H s->RelV x u->RelV y v->rd x y H Q->wpAny (model X.prog X.w) X.A (inplaceOp op u v) (EP X af σ Q) X.xe s
end
section
def J3(K:W.Frag)(ta tv:TE)(rd:V->V->Hp->VK->Prop)(f:Str):TS:=λD σ H=>ta σ H λx H1=>∃a C dx fs v,x=.ref a/\H1 a=some (.ins C dx fs)/\qS K C/\gP K C f/\fs.lookup f=some v /\
  tv σ H1 λy H2=>rd v y H2 λz H3=>∃Qm KW,H3 a=some (.ins C Qm KW)/\KW.length<1000/\D.nx σ (cK H3 a (.ins C Qm (gQ f z KW)))
end
section
variable {X:Cx} {o e value:Expr} {f:Str} {pos nN pA:Pos} {ta tv:TE}
theorem CS{op:Operator}{rd:V->V->Hp->VK->Prop}(ha:PE X o ta)(hv:PE X value tv)(hop:Xs X op rd):PS X (.AugAssign (.Attribute o f pA) op value pos) (J3 X.K ta tv rd f):=by
  intro af s σ H D I h;refine wpAny_AugAssign_AttributeAny (thn (ha af s σ H _ I h) λov s1 ⟨x,H1,I1,rx,a,C,dx,fs,v,ex,ea,c,n,l,q⟩=>?_)
  subst ex;obtain rfl:ov=Value.ref a:=rx;refine pw I1 ea c n l λu s2 I2 ru=>thn (hv af s2 σ H1 _ I2 q) λw3 s3 ⟨y,H2,I3,ry,q3⟩=>thn (hop af s3 σ H2 v y u w3 _ I3 ru ry q3) λw4 s4 ⟨z,H3,I4,rz,Qm,KW,ea',l',q4⟩=>?_
  exact px I4 ea' c n l' rz λs5 I5=>⟨σ,_,I5,q4⟩
end
section
variable {X:Cx} {CX:BX} {k:Nat} {f C:Addr} {fd:FuncData} {ps:List Str} {sp:Sp} {jb:List V} {ds:List Value} {E:XK} {x m:Str} {p pos d8:Pos} {e o:Expr} {es:List Expr} {ta:TE} {t:TA}
theorem FT(M:Mk X.K C f)(F:FnOk X.prog X.w X.K X.mg X.base CX k f fd ps sp)(hr:cS (k+1) X.A)(hg:Gl X x)(hm:X.mg x=some (.ref C))(hb:cE X.K fd ps ds)(hd:Vals jb ds)(hx:uq CX X E)
    (yR:(x==("__debug__":Str))=false:=by decide):PE X (.Call (.Name x p) [] [] pos) (Az C sp jb E MW):=by
  intro af s σ H Q I h;refine kd (ld_glob I hg hm ?_ yR);exact W.callWith_K0 I.mJ M.kp (vP (us:=[]) M F hr hb hd hx I .nil h)
end
section
theorem Vals.dropLast{xs:List V}{us:List Value}(h:Vals xs us):Vals xs.dropLast us.dropLast:=by
  induction h with
  | nil=>exact .nil
  | cons r t ih =>
    cases t with
    | nil=>exact .nil
    | cons q t'=>exact .cons r ih
end
section
theorem zw{α:Type}(l:List α):l.eraseIdx (l.length-1)=l.dropLast:=by
  induction l with
  | nil=>rfl
  | cons a r ih =>
    cases r with
    | nil=>rfl
    | cons b r =>
      have e:(a::b::r).length-1=((b::r).length-1)+1:=by
        have h1:(a::b::r).length=r.length+2:=rfl;have h2:(b::r).length=r.length+1:=rfl
        lia
      rw[e,List.eraseIdx_cons_succ,ih]
      all_goals rfl
end
section
variable {X:Cx}
def LA:V->List V->Hp->VK->Prop:=λx vs H Q=>∃l xs y,x=.ref l/\vs=[]/\H l=some (.lst xs)/\xs[xs.length-1]?=some y/\Q y (cK H l (.lst xs.dropLast))
end
section
variable {X:Cx}
theorem J4:Wo X "list.pop" LA:=by
  intro af s σ H x vs v us Q I rx rv h;obtain⟨l,xs,y,rfl,rfl,hH,hy,q⟩:=h;cases rx;have hus:=rv.zero;subst hus;obtain⟨z,ar,n,r,hl,e⟩:=I.fH hH;obtain⟨u,hu,ru⟩:=r.get hy;have hy':ar.toArray[ar.toArray.size-1]?=some u:=by
    show ar.toArray[ar.length-1]?=some u;rw[<-xZ,<-hl];exact hu
  refine fE F.slot_list_pop ⟨_,e,rfl⟩ F.entry_list_pop (F.args_list_pop_1 _) (MeetsSeq.list_pop_last l ar.toArray n u hy' (by rw[cy];lia)) ⟨e,?_⟩
  refine⟨y,_,I.M9 (its':=ar.dropLast) hH e ?_ r.dropLast ?_,ru,q⟩
  · show ar.toArray.eraseIdxIfInBounds (ar.toArray.size-1)=ar.dropLast.toArray
    rw[cy,List.eraseIdxIfInBounds_toArray,zw]
  · rw[List.length_dropLast]
    lia
end
end L2
namespace L2.U
open PySem PySem.Spec PyProof.Rows
section
variable {X:Cx} {aa:Hp} {ae:Fz} {e o:Expr} {es:List Expr} {ts:Gx (List PV)} {fo:Gx PV} {pos p d8:Pos} {k n:Nat} {f:Addr} {fd:FuncData} {ps:List Str} {x m:Str} {g:jm} {ds:List PV} {jb:List V} {oX:List Value}
def ot{CX:BX}{sp:Sp}{E:XK}{af:List (Addr×Obj)}{σ:St}{H:Hp}{s:Shared}{Q:VK}{us:List Value}{vs:List V}(F:FnOk X.prog X.w X.K X.mg X.base CX k f fd ps sp)(hr:cS k X.A)(hb:cE X.K fd ps oX)(hd:Vals jb oX)(hx:∀e s',CX X.stack H s E e s'->X.xe e s')
  (I:Inv X af σ H s) (r:Vals vs us) (h:sp (vs++jb) H Q E):wpAny (model X.prog X.w) X.A (call (.ref f) us) (EP X af σ Q) X.xe s:=by
 have r2:Vals (vs++jb) (us++oX):=r.append hd;have Qe:=hb s us I.mJ (by rw[<-r2.length];exact F.len _ _ _ _ h)
 refine wpAny_call (oQ (F.run X.A X.stack s H ⟨us,[]⟩ (us++oX) (vs++jb) Q E hr I.MY Qe r2 h) λr s' hq=>?_)
 cases r with
 | error e=>exact hx e s' hq
 | ok fl =>
  cases fl with
  | ret u=>exact I.after hq
  | next=>exact False.elim hq
  | brk=>exact False.elim hq
  | cont=>exact False.elim hq
def Tc(G:FnOk X.prog X.w X.K X.mg X.base (g7 X.prog X.w) k f fd ps (sh X.K n g))(hr:cS k X.A)(hb:cE X.K fd ps oX)(hd:Vals jb oX)(bd:∀F,au X.K F ds jb):zj X f (λas=>gT n g (as++ds)):=by
 rintro aa H ae F st σ af s Q as us vs I R b r ⟨q,e1,e2⟩
 obtain⟨hl,e1⟩:=bL e1;obtain⟨⟨rs,h'⟩,e3,e4⟩:=aO e1;subst e4;obtain⟨C,full⟩:=R.c.enter;have b2:=b.append (bd F);cases rs with
 | ok p'=>exact ot G hr hb hd (λe s' hx=>rV af σ H s e s' I hx) I r ⟨_,F,st.h,as++ds,_,h',C,full,b2,hl,e3,λv F' H' D b'=>e2 v H' F' ⟨R.c.leave D,R.l.mono D.base⟩ D.base b'⟩
 | ex m c=>exact thn (ot (Q:=λ_ _=>False) G hr hb hd (λe s' hx=>e2 σ af H s e s' I hx) I r ⟨_,F,st.h,as++ds,_,h',C,full,b2,hl,e3,λcls F' H' D hc=>⟨hc,F',⟨R.c.leave D,R.l.mono D.base⟩,D.base⟩⟩) (by rintro v s3 ⟨_,_,_,_,z⟩;exact z.elim)
def Td(G:FnOk X.prog X.w X.K X.mg X.base (g7 X.prog X.w) k f fd ps (sh X.K n g))(hr:cS k X.A)(hb:cE X.K fd ps oX)(hd:Vals jb oX)(bd:∀F,au X.K F ds jb):zj X f (λas=>jn n g (as++ds)):=by
 rintro aa H ae F st σ af s Q as us vs I R b r ⟨q,e1,e2⟩
 obtain⟨⟨hl,hn⟩,e1⟩:=bL e1;obtain⟨⟨rs,h'⟩,e3,e4⟩:=aN e1;have full:∀b o,H b=some o->H b=some o\/∃n:Nat,(Fz.mk F.F []).μ[n]?=some b:=by grind
 have b3:=sj R hn (b.append (bd F)) [];cases rs with
 | ok p' =>
  obtain⟨p2,e5,e6⟩:=aO e4;subst e6;refine ot G hr hb hd (λe s' hx=>rV af σ H s e s' I hx) I r ⟨H,⟨F.F,[]⟩,[],as++ds,_,h',R.c.pure,full,b3,hl,e3,λv F' H' D b'=>?_⟩
  obtain⟨R3,g3⟩:=R.back (b8.refl _) D;exact e2 v H' _ R3 g3 (wB F.μ D e5 b')
 | ex m c =>
  cases e4;refine thn (ot (Q:=λ_ _=>False) G hr hb hd (λe s' hx=>e2 σ af H s e s' I hx) I r ⟨H,⟨F.F,[]⟩,[],as++ds,_,h',R.c.pure,full,b3,hl,e3,λcls F' H' D hc=>?_⟩) (by rintro v s3 ⟨_,_,_,_,z⟩;exact z.elim)
  obtain⟨R3,g3⟩:=R.back (b8.refl _) D;exact⟨hc,_,R3,g3⟩
noncomputable def J5(C:Str)(n:Nat)(g:jm)(as:List PV):Gx PV:=λst=>if as.length+1=n then(g (.ref st.h.length::as) (st.h++[⟨.ins C [],[]⟩])).bind λr=>match r with
 | (.ok .az,h')=>some (.ok (.ref st.h.length),⟨st.ρ,h'⟩)
 | _=>none else none
def Qn(C:Str)(n:Nat)(g:jm)(ts:Gx (List PV)):Gx PV:=bnd ts (J5 C n g)
variable {C:Str} {Ca:Addr}
def Bn(hC:ClsAt X.K C (.ref Ca))(c:qS X.K Ca)(h:tE X aa ae (Qn C n g ts) σ H Q):Az Ca (sh X.K n g) [] E0 (tA X aa ae ts) σ H Q:=by
 obtain⟨F,st,R,h⟩:=h;refine⟨F,st,R,h.bnd λas vs F1 st1 H1 R1 g1 b1 h1 y dx hy hdx hne=>?_⟩
 obtain⟨q,e1,e2⟩:=h1;obtain⟨hl,e1⟩:=bL e1;obtain⟨r,e3,e4⟩:=aN e1;have Xu:cK H1 dx (.own y) y=none:=by rw[aK hne.symm];exact hy
 have up:b8 H1 (cK H1 dx (.own y)):=eE hdx;have R2:Rep X.K aa ae F1 st1 σ (cK H1 dx (.own y)):=R1.after (F':=F1) up (b8.refl _) rfl (R1.sub.trans up) λ_ _ z=>.inl z
 obtain⟨C2,g2,hm⟩:=R2.c.alloc (c:=⟨.ins C [],[]⟩) (o:=.ins Ca dx []) (vs:=[]) Xu ⟨Ca,dx,[],hC,c,(λ_ z=>nomatch z),aw,rfl,rfl⟩ .nil
 obtain⟨C3,full⟩:=C2.enter;have b2:au X.K ⟨F1.F,F1.μ++[y]⟩ (.ref st1.h.length::as) (.ref y::vs):=.cons (de.mpr ⟨y,hm,rfl⟩) (b1.mono g2)
 match r,e4 with
 | (.ok .az,h'),e4 =>
  cases e4;exact⟨_,_,_,.ref st1.h.length::as,_,h',C3,full,by rw[dE];exact b2,by grind,e3,λv F' H' D b'=>⟨cN.mp b',e2 _ H' F' ⟨C2.leave D,(R2.l.mono g2).mono D.base⟩ (g2.trans D.base) (de.mpr ⟨y,D.base.m _ _ hm,rfl⟩)⟩⟩
 | (.ok (.bl _),_),e4=>cases e4
 | (.ok (.int _),_),e4=>cases e4
 | (.ok (.str _),_),e4=>cases e4
 | (.ok (.ref _),_),e4=>cases e4
 | (.ok (.fn _),_),e4=>cases e4
 | (.ok (.nd _ _),_),e4=>cases e4
 | (.ex _ _,_),e4=>cases e4
end
def FU{X:Cx}{aa:Hp}{ae:Fz}{C:Str}{Ca:Addr}{n:Nat}{g:jm}(hC:ClsAt X.K C (.ref Ca))(c:qS X.K Ca)(h:tE X aa ae (Qn C n g (cx [])) σ H Q):Az Ca (sh X.K n g) [] E0 MW σ H Q:=by
 have:=Bn hC c h;obtain⟨F,st,R,h1⟩:=this;exact Tx.cx h1 [] H F R (Gr.refl _) .nil
theorem Te{prog:Program}{w:World}{C:Addr}{hh:Heap}:W.Looks (model prog w) ((hh.push W.emptyDict).push (W.instObj C hh.objs.size)) (typeOf (.ref (hh.objs.size+1))) (.ref C):=by
 have e2:((hh.push W.emptyDict).push (W.instObj C hh.objs.size)).get? (hh.objs.size+1)=some (W.instObj C hh.objs.size):=by
  have:=bE (hh.push W.emptyDict) (o:=W.instObj C hh.objs.size) rfl
  rwa [dF]at this
 exact W.Looks.andThen (W.Looks.ld e2) W.Looks.now
theorem Tf{prog:Program}{w:World}{C:Addr}{hh:Heap}(Y:W.Makes (model prog w) hh C):W.Looks (model prog w) ((hh.push W.emptyDict).push (W.instObj C hh.objs.size)) (isInstance (.ref (hh.objs.size+1)) (.type "object")) true:=by
 exact W.Looks.andThen Te (W.Looks.keeps Y.top λb o e=>aH _ (aH _ e))
set_option maxHeartbeats 4000000 in
theorem Th{prog:Program}{w:World}{A:Around}{s:Shared}{x:Addr}{R:Result->Shared->Prop}(t2:W.Looks (model prog w) s.heap (isInstance (.ref x) (.type "object")) true)
  (h:R (.ok (.ret (.ref x))) s):codeAny (model prog w) A (.call (.builtin "object.__init__") ⟨[.ref x],[]⟩) (W.InitBack x R) s:=by
 refine codeAny_call_builtin W.oi_plain W.entry_oi ?_;refine W.check_slot W.oi_kind W.oi_split t2 (W.oi_args _) ?_;rw[W.oi_run];exact aq ⟨rfl,h⟩
theorem FV{prog:Program}{w:World}{A:Around}{K:W.Frag}{C:Addr}{s:Shared}{R:Result->Shared->Prop}(X:K.In s.heap)(hm:W.makesIn K C=true)(hi:W.findIn K (.ref C) "__init__"=some (some (.builtin "object.__init__")))
  (h:R (.ok (.ret (.ref (s.heap.objs.size+1)))) {s with heap:=(s.heap.push W.emptyDict).push (W.instObj C s.heap.objs.size)}):codeAny (model prog w) A (.call (.ref C) ⟨[],[]⟩) R s:=by
 obtain⟨hh,g,d,t,os⟩:=s;have Y:=W.makes_of (M:=model prog w) X hm;exact W.make_core Y (W.looks_findIn X hi) (λself=>W.Looks.of_pure (W.oi_bind self)) (.inr ⟨rfl,rfl⟩) (Th (Tf Y) h)
def Xv(C:Str):Gx PV:=iS ⟨.ins C [],[]⟩
section
variable {X:Cx} {aa:Hp} {ae:Fz} {pos p:Pos} {C x:Str} {Ca:Addr}
def Ti(M:UM X.K Ca)(hC:ClsAt X.K C (.ref Ca))(c:qS X.K Ca)(hg:Gl X x)(hm:X.mg x=some (.ref Ca))(yR:(x==("__debug__":Str))=false):PE X (.Call (.Name x p) [] [] pos) (tE X aa ae (Xv C)):=by
 rintro af s σ H Q I ⟨F,st,R,h⟩
 refine kd (ld_glob I hg hm ?_ yR);refine W.callWith_K0 I.mJ M.kp (wpAny_call (FV I.mJ M.makes M.init ?_));have I2:=Inv.made (C:=Ca) I;have hd:H s.heap.objs.size=none:=I.hok.fresh (aD _);have hx:H (s.heap.objs.size+1)=none:=I.hok.fresh (Nat.le_succ _);have hne:s.heap.objs.size≠s.heap.objs.size+1:=br (mv _);have Xu:cK H s.heap.objs.size (.own (s.heap.objs.size+1)) (s.heap.objs.size+1)=none:=by rw[aK (bZ hne)];exact hx
 have up:b8 H (cK H s.heap.objs.size (.own (s.heap.objs.size+1))):=eE hd;have R2:Rep X.K aa ae F st σ (cK H s.heap.objs.size (.own (s.heap.objs.size+1))):=R.after (F':=F) up (b8.refl _) rfl (R.sub.trans up) λ_ _ z=>.inl z
 exact⟨.ref (s.heap.objs.size+1),_,I2,rfl,Tx.iS (o:=.ins Ca s.heap.objs.size []) (vs:=[]) h R2 Xu ⟨Ca,s.heap.objs.size,[],hC,c,(λ_ z=>nomatch z),aw,rfl,rfl⟩ .nil⟩
end
noncomputable def Tj(o:Expr)(env:Env):Sem Bool:=do
 let b <-importBound o env
 pure (b.getD true)
theorem sx{o:Expr}{m:Str}{d8 cp:Pos}{args:List Expr}{env:Env}(hb:attributeBase o m env (eval o env)=eval o env)
  (hf:((backTo cp (starEach args env)).all (λx=>!x.1)&&(backToKw cp (keywordEach [] env)).all (λx=>x.1.isSome)&&decide (args.length+([]:List Keyword).length+(if([]:List Keyword).isEmpty then 0 else 1)<30))=true)
  (hl:(d8.endLine==cp.line)=true):eval (.Call (.Attribute o m d8) args [] cp) env=(do
   let ov <-eval o env
   standAt d8.atName
   let (f,first) <-holding [ov] (getMethod ov m (Tj o env))
   callWith cp f first (backTo cp (starEach args env)) (backToKw cp (keywordEach [] env))):=by
 rw[arm_eval_Call,hb];have e1:methodCallForm (args.length+([]:List Keyword).length) (backTo cp (starEach args env)) (backToKw cp (keywordEach [] env))=true:=by
  unfold methodCallForm;rw[aF]at hf ⊢;exact⟨hf.1,hf.2⟩
 have e2:methodCallPos true o env d8 cp=pure cp:=by
  unfold methodCallPos;rw[hl];rfl
 unfold methodCall;simp only[e1,e2];unfold calleeOf;simp only[if_pos];rfl
theorem fw{α β:Type} [BEq α] [LawfulBEq α] {k:α} {v:β}:∀{l:List (α×β)},l.lookup k=some v->(k,v)∈l
 | [],h=>by cases h
 | (a,b)::l,h=>by
  rw[ek]at h;cases z:k==a with
  | true =>
   rw[z]at h;cases h;rw[aU z];exact dk
  | false =>
   rw[z]at h;exact cO _ (fw h)
def J6(h:List ah)(p:PV)(m:Str):Option Str:=match cR h p with
 | some (.ins C ns,_)=>if ns.contains m=true then none else some C
 | _=>none
abbrev Tn:=List ((Str×Str)×(Str×Nat))
noncomputable def sy(mt:Tn)(m:Str):List (Str×(Str×Nat)):=(mt.filter λd=>d.1.2==m).map λd=>(d.1.1,d.2)
def J7(L:List (Str×(Str×Nat)))(m:Str)(p:PV)(h:List ah):Option (Str×Nat):=(J6 h p m).bind λC=>L.lookup C
theorem sE{mt:Tn}{m C:Str}{y:Str×Nat}(h:(sy mt m).lookup C=some y):((C,m),y)∈mt:=by
 obtain⟨d,hd,e⟩:=ez.mp (fw h);obtain⟨h1,h2⟩:=yq.mp hd;cases e;rw[<-aU h2];exact h1
def CU(L:List (Str×(Str×Nat)))(call:Str->jm)(m:Str)(fo:Gx PV)(ts:Gx (List PV)):Gx PV :=
 bnd fo λp=>bnd (hp (J7 L m p)) λq=>bnd ts λas=>gT q.2 (call q.1) (p::as)
def uS(X:Cx)(mt:Tn)(call:Str->jm):Prop:=∀C m y,((C,m),y)∈mt->∃j f fd ps Ca,ClsAt X.K C (.ref Ca)/\DI X.K Ca m f/\FnOk X.prog X.w X.K X.mg X.base (g7 X.prog X.w) j f fd ps (sh X.K y.2 (call y.1))/\cS j X.A/\cE X.K fd ps []
section
variable {X:Cx} {aa:Hp} {ae:Fz} {e o:Expr} {es:List Expr} {ts:Gx (List PV)} {fo:Gx PV} {pos p d8 cp:Pos} {m:Str} {mt:Tn} {call:Str->jm}
def Ou(hM:uS X mt call)(ho:PE X o (tE X aa ae fo))(ha:PA X (e::es) (tA X aa ae ts))(hb:attributeBase o m X.env (eval o X.env)=eval o X.env)
  (hf:((backTo cp (starEach (e::es) X.env)).all (λx=>!x.1)&&(backToKw cp (keywordEach [] X.env)).all (λx=>x.1.isSome)&&decide ((e::es).length+([]:List Keyword).length+(if([]:List Keyword).isEmpty then 0 else 1)<30))=true)
  (hl:(d8.endLine==cp.line)=true) (qM:starEach (e::es) X.env=(false,eval e X.env)::starEach es X.env) (o7:(backTo cp (starEach es X.env)).any (·.1)=false) :
  PE X (.Call (.Attribute o m d8) (e::es) [] cp) (tE X aa ae (CU (sy mt m) call m fo ts)):=by
 rintro af s σ H Q I ⟨F,st,R,h⟩
 refine nC ho I ⟨F,st,R,h.bnd λq v F1 st1 H1 R1 g1 b1 h1=>?_⟩ (sx hb hf hl)
 obtain⟨⟨key,n⟩,e1,z⟩:=At.hp (At.bnd h1);obtain⟨C,e2,e4⟩:=aN e1;unfold J6 at e2;split at e2
 ·rename_i D ns ps hd;split at e2
  ·cases e2
  ·rename_i Du;cases e2;obtain⟨a,vs,rfl,⟨Ca,dx,fs,k1,k2,k3,k4,k5,k6⟩,k7⟩:=R1.at hd b1;obtain⟨j,f,fd,vB,Cb,m1,m2,m3,m4,m5⟩:=hM _ _ _ (sE e4);have eC:Ca=Cb:=by
    have:=k1.symm.trans m1;cases this;rfl
   subst eC;refine⟨a,Ca,dx,fs,f,rfl,k4,k2,m2,?_,λs1 I1=>?_⟩
   ·cases hl:fs.lookup m with
    | none=>rfl
    | some w =>
     exact absurd (by rw[<-k5];simpa using yc (f:=λy:Str×V=>y.1) (fw hl)) Du
   ·have z:Tx X aa ae (bu X.K) F1 st1 (bnd ts λas=>gT n (call key) (q::as)) σ Q:=z
    refine W.callWith_K (first:=[.ref a]) (h₀:=X.base) I1.ok.mod.kin m2.kp (thn (ha cp af s1 σ H1 (λvs H2=>∃F2 dH as,Rep X.K aa ae F2 dH σ H2/\au X.K F2 as vs/\Gr F1 F2/\Tx X aa ae (bu X.K) F2 dH (gT n (call key) (q::as)) σ Q) I1
     ⟨F1,st1,R1,z.bnd λas vs F2 dH H2 R2 g2 b2 h2=>⟨F2,dH,as,R2,b2,g2,h2⟩⟩) (by
      rintro us s2 ⟨ws,H2,I2,r,F2,dH,as,R2,b2,g2,z⟩
      exact⟨I2.mJ,N5 m3 m4 m5 _ _ _ _ _ _ _ _ _ (q::as) (.ref a::us) (.ref a::ws) I2 R2 (.cons (b1.mono g2) b2) (.cons rfl r) z⟩)) qM o7
 ·cases e2
def J8(hM:uS X mt call)(ho:PE X o (tE X aa ae fo))(hb:attributeBase o m X.env (eval o X.env)=eval o X.env)(hl:(d8.endLine==cp.line)=true) :
  PE X (.Call (.Attribute o m d8) [] [] cp) (tE X aa ae (CU (sy mt m) call m fo (cx []))):=by
 rintro af s σ H Q I ⟨F,st,R,h⟩
 refine nC ho I ⟨F,st,R,h.bnd λq v F1 st1 H1 R1 g1 b1 h1=>?_⟩ (sx hb rfl hl)
 obtain⟨⟨key,n⟩,e1,z⟩:=At.hp (At.bnd h1);obtain⟨C,e2,e4⟩:=aN e1;unfold J6 at e2;split at e2
 ·rename_i D ns ps hd;split at e2
  ·cases e2
  ·rename_i Du;cases e2;obtain⟨a,vs,rfl,⟨Ca,dx,fs,k1,k2,k3,k4,k5,k6⟩,k7⟩:=R1.at hd b1;obtain⟨j,f,fd,vB,Cb,m1,m2,m3,m4,m5⟩:=hM _ _ _ (sE e4);have eC:Ca=Cb:=by
    have:=k1.symm.trans m1;cases this;rfl
   subst eC;refine⟨a,Ca,dx,fs,f,rfl,k4,k2,m2,?_,λs1 I1=>?_⟩
   ·cases hl:fs.lookup m with
    | none=>rfl
    | some w =>
     exact absurd (by rw[<-k5];simpa using yc (f:=λy:Str×V=>y.1) (fw hl)) Du
   ·have z:Tx X aa ae (bu X.K) F1 st1 (gT n (call key) [q]) σ Q:=At.cx (At.bnd z);exact W.callWith_K0 (first:=[.ref a]) I1.mJ m2.kp (N5 m3 m4 m5 _ _ _ _ _ _ _ _ _ [q] [.ref a] [.ref a] I1 R1 (.cons b1 .nil) (.cons rfl .nil) z)
 ·cases e2
end
def zx(f:Str)(p:PV)(h:List ah):Option (Str×PV):=match cR h p with
 | some (.ins C ns,ps)=>(wD f ns ps).map λq=>(C,q)
 | _=>none
def qa(h:List ah)(p:PV)(C:Str):Bool:=match kF h p with
 | some (_,⟨.ins D _,_⟩)=>C==D
 | _=>false
def FW(cls flds:List Str)(f:Str)(g:G2)(fo fv:Gx PV):Gx dJ:=bnd fo λp=>bnd (hp (zx f p)) λx=>bnd fv λy=>bnd (hp λh=>g h x.2 y) λz=>stp λst=>if qa st.h p x.1=true then fI cls flds f p z st else none
section
variable {X:Cx} {aa:Hp} {ae:Fz} {e o:Expr} {fo fv:Gx PV} {pos pA:Pos} {f:Str} {g:G2} {op:Operator}
def Ov{cls flds:List Str}(hc:Bf X.K cls flds)(ho:PE X o (tE X aa ae fo))(he:PE X e (tE X aa ae fv))(hop:oj X (inplaceOp op) g):PS X (.AugAssign (.Attribute o f pA) op e pos) (tS X aa ae (FW cls flds f g fo fv)) :=
 (CS (rd:=rT X.K g) ho he (λaf s σ H x y u v Q I r1 r2 t=>hop af s σ H x y u v Q I r1 r2 t)).imp λD σ H ⟨F,st,R,h⟩=>⟨F,st,R,h.bnd λpo v F1 st1 H1 R1 g1 b1 h1=>by
  obtain⟨r,e1,e2⟩:=At.bnd h1;obtain⟨q,e3,e4⟩:=aO e1;subst e4;have h2:Sa X aa ae F1 D st1 (bnd fv λy=>bnd (hp λh=>g h q.2 y) λz=>stp λst=>if qa st.h po q.1=true then fI cls flds f po z st else none):=e2
  unfold zx at e3;split at e3
  ·rename_i C ns ps hd;obtain⟨q',Ow,rfl⟩:=aO e3;obtain⟨a,vs,rfl,⟨Ca,dx,fs,k2,k3,k4,k5,k6,k7⟩,k8⟩:=R1.at hd b1;subst k6 k7;obtain⟨hm,w,hl,bw⟩:=pZ Ow k8;refine⟨a,Ca,dx,fs,w,rfl,k5,k3,k4 f hm,hl,F1,st1,R1,h2.bnd λpy y F2 dH H2 R2 g2 b2 h3=>?_⟩
   obtain⟨r,e5,e6⟩:=At.bnd h3;obtain⟨pz,e7,e8⟩:=aO e5;subst e8;have h4:Sa X aa ae F2 D dH (stp λst=>if qa st.h po C=true then fI cls flds f po pz st else none):=e6
   refine⟨aa,ae,F2,dH,σ,q',py,pz,e7,R2,bw.mono g2,b2,λz H3 F3 R3 g3 b3=>?_⟩
   obtain⟨st',e9,z9⟩:=h4.stp;obtain⟨hC,e9⟩:=bL e9;obtain⟨⟨n,c⟩,Zu,e0⟩:=aN e9;clear e9;unfold qa at hC;rw[Zu]at hC;have e:=e0;clear e0;obtain⟨rfl,yH,Zv⟩:=fQ Zu;obtain⟨a',ha,ra⟩:=de.mp (b1.mono (g2.trans g3));cases ra;obtain⟨_,vC,SW,Vj⟩:=R3.c.cell n c a yH ha Zv;split at e
   ·rename_i C' Bo hk;obtain⟨hq,rfl⟩:=aA e;rw[aF,aF]at hq;rw[hk]at SW;obtain⟨Cb,Qm,KW,m1,m2,m3,m4,rfl,rfl⟩:=SW;obtain⟨Cc,n1,n2,n3⟩:=hc C' hq.1.1;have eC:Cb=Cc:=by
     have:=m1.symm.trans n1;cases this;rfl
    subst eC;have dI:=gN hq.2;rw[aM]at dI;obtain⟨p1,p2,p3⟩:=uN b3 Vj;have eCC:Ca=Cb:=by
     obtain⟨ck,cp⟩:=c;cases hk;have:=aU hC;subst this;have:=k2.symm.trans m1;cases this;rfl
    subst eCC;exact⟨Qm,KW,m4,Nat.le_add_left_of_le ‹_›,z9 F3 σ _ (R3.put yH Zv ha ⟨Ca,Qm,_,m1,m2,λg hg=>(by
     rcases p3 g hg with rfl | hg
     ·exact n3 _ hq.1.2
     ·exact m3 g hg),aw,p1,rfl⟩ p2) g3⟩
   ·cases e
  ·cases e3⟩
end
noncomputable def qb:MG:=λc as=>match c.k,as with
 | .lst,[]=>(c.ps[c.ps.length-1]?).map λp=>(⟨.lst,c.ps.dropLast⟩,p)
 | _,_=>none
section
variable {X:Cx} {aa:Hp} {ae:Fz} {e o:Expr} {fo fv:Gx PV} {d8 iB:Pos}
theorem au.dropLast{K:W.Frag}{F:Fz}{ps:List PV}{vs:List V}(h:au K F ps vs):au K F ps.dropLast vs.dropLast:=by
 rw[List.dropLast_eq_take,List.dropLast_eq_take,h.length];exact h.take _
def FX:E2 X.K LA qb:=by
 intro aa H ae F st σ n c c' a as ws q Q R hc hl ha hg hb k;unfold qb at hg;split at hg
 ·rename_i hk;obtain⟨p,e1,e2⟩:=aO hg;cases e2;obtain⟨_,vs,h2,h3⟩:=R.c.cell n c a hc ha hl;rw[hk]at h2;obtain⟨v,e3,b3⟩:=h3.get e1;exact⟨a,vs,v,rfl,hb.cB,h2,by rw[<-h3.length];exact e3,k v F _ (R.put hc hl ha aw h3.dropLast) (Gr.refl _) b3⟩
 ·cases hg
def Ox(ho:PE X o (tE X aa ae fo))(lu:attributeBase o "pop" X.env (eval o X.env)=eval o X.env)(lx:(d8.endLine==iB.line)=true) :
  PE X (.Call (.Attribute o "pop" d8) [] [] iB) (tE X aa ae (HL "list" (ie qb) fo (cx []))) :=
 (M8 xV PySem.F.slot_list_pop PySem.F.type_list_pop J4 ho lu lx).imp λ_ _ _ h=>JL (Fs FX) h
end
section
variable {X:Cx} {aa:Hp} {ae:Fz} {body:List Stmt} {hd:ExceptHandler} {hs:List ExceptHandler} {pos:Pos} {f:Gx dJ}
def qc(m n:Nat)(g:jm)(ds as:List PV):Gx PV:=λst=>if((m==0)&&(st.h.isEmpty || ai as))=true then jn n g (as++ds) st else gT n g (as++ds) st
variable {k n:Nat} {fa:Addr} {fd:FuncData} {ps:List Str} {g:jm} {ds:List PV} {jb:List V} {oX:List Value}
def To{m:Nat}(G:FnOk X.prog X.w X.K X.mg X.base (g7 X.prog X.w) k fa fd ps (sh X.K n g))(hr:cS k X.A)(hb:cE X.K fd ps oX)(hd:Vals jb oX)(bd:∀F,au X.K F ds jb):zj X fa (qc m n g ds):=by
 rintro aa H ae F st σ af s Q as us vs I R b r ⟨q,e1,e2⟩
 unfold qc at e1;split at e1
 ·exact Td G hr hb hd bd aa H ae F st σ af s Q as us vs I R b r ⟨q,e1,e2⟩
 ·exact Tc G hr hb hd bd aa H ae F st σ af s Q as us vs I R b r ⟨q,e1,e2⟩
end
structure Gm where
 sc:List (Str×NameKind)
 N:List Str
 own:Bool
 fns:List (Str×Nat)
 call:Str->jm
 cons:List (Str×PV)
 dB:List Str
 tabs:List (Str×List (Str×Str))
 eA:List (Str×List (Str×PV))
 cls:List (Str×Nat)
 make:Str->jm
 clss:List Str
 flds:List Str
 /-- what Oy in a cell: 1 a list,2 a list of cells,10 a dict KP keys Vz tuples -/
 QC:List (Str×Nat)
 FY:Option ((PV->Gx PV)->Nat->jm)
 FZ:Option (Nat×(PV->Gx PV))
 /-- Vk: class,name -> key,params -/
 HP:Tn
 /-- what Oy Xw HW given args -/
 jA:List (Str×List PV)
 /-- classes without __init__ -/
 vz:List Str
noncomputable def slot(Γ:Gm)(x:Str):Option Nat:=Γ.N.findIdx? (· == x)
noncomputable def Qa(Γ:Gm)(x:Str):Bool:=match Γ.sc.lookup x with | some .local=>true | some .cell=>true | some .free=>true | _=>false
noncomputable def Qo(Γ:Gm)(x:Str):Bool:=match Γ.sc.lookup x with | some .local=>true | some .cell=>Γ.own | _=>false
noncomputable def uT(Γ:Gm)(x:Str):Bool:=match Γ.sc.lookup x with | some .globalImplicit=>true | _=>false
noncomputable def iF(x:Str):Bool:=!(x==("__debug__":Str))&&!(x==("__classdict__":Str))&&!(x==("__name__":Str))
noncomputable def md(Γ:Gm)(x:Str):Nat:=(Γ.QC.lookup x).getD 0
noncomputable def CV(m:Nat):Nat:=if m<10 then m-1 else m-20
noncomputable def Zw(m:Nat):Bool:=m != 0&&Nat.blt m 20
def LB(X:Cx)(fns:List (Str×Nat))(call:Str->jm)(jA:List (Str×List PV)):Prop:=∀x ds n,jA.lookup x=some ds->fns.lookup x=some n->∃j f fd ps jb oX,FnOk X.prog X.w X.K X.mg X.base (g7 X.prog X.w) j f fd ps (sh X.K n (call x))/\cS j X.A/\X.mg x=some (.ref f)/\W.keepIn X.K (.ref f)=true/\Vals jb oX/\(∀F,au X.K F ds jb)/\cE X.K fd ps oX
def Tq(X:Cx)(k:Nat)(fns:List (Str×Nat))(call:Str->jm):Prop:=∀x n,fns.lookup x=some n->∃j f fd ps,j<=k/\FnOk X.prog X.w X.K X.mg X.base (g7 X.prog X.w) j f fd ps (sh X.K n (call x))/\X.mg x=some (.ref f)/\W.keepIn X.K (.ref f)=true/\cE X.K fd ps []
structure LC (Γ:Gm) (X:Cx) (rs:(PV->Gx PV)->Nat->jm):Prop where
 ex:∃(st:Stmt) (fs:Addr) (Zx:FuncData) (pr Ns:List Str) (k:Nat) (rb:(PV->Gx PV)->Nat->Gx dJ),rs=(λω n=>ik (rb ω n) Ns.length)/\KQ X.K "spread" "spread" st fs Zx/\X.mg "spread"=some (.ref fs)/\cE X.K Zx pr []/\cF Ns pr (ao st)/\pr.length=2/\cS (k+2) X.A /\
  (∀(cM:Value) (A:Around) (ax:List Env) (s:Shared) (H:Hp) (E:XK) (aa:Hp) (ae:Fz) (n:Nat) (ω:PV->Gx PV),cS (k+1) (A.deeper (envOfC "spread" (ao st) s.heap.objs.size fs cM))->Fx (eM (g7 X.prog X.w) X.prog X.w X.K X.mg X.base Ns "spread" (ao st) fs cM A ax s H E) aa ae n ω ->
   PSs (eM (g7 X.prog X.w) X.prog X.w X.K X.mg X.base Ns "spread" (ao st) fs cM A ax s H E) (bR st) (tS (eM (g7 X.prog X.w) X.prog X.w X.K X.mg X.base Ns "spread" (ao st) fs cM A ax s H E) aa ae (rb ω n))) /\
  Tq X k Γ.fns Γ.call
 lam:SX X
structure GOk (Γ:Gm) (X:Cx) (aa:Hp) (ae:Fz):Prop where
 names:X.env.scope.names=Γ.sc
 N:X.N=Γ.N
 nd:X.N.Nodup
 kind:X.env.scope.kind=.function
 calm:X.calm=true
 hd:X.A.handled=none
 un:X.A.units+1150<cLine
 own:Γ.own=true->∀x,X.fn x=true
 fns:Lp X Γ.fns Γ.call
 cons:∀x p,Γ.cons.lookup x=some p->∃u v,X.mg x=some u/\RelV v u/\∀F,bu X.K F p v
 dB:∀x,Γ.dB.contains x=true->X.mg x=none
 tabs:∀T rows,Γ.tabs.lookup T=some rows->Bc X.K X.mg X.w.params T rows
 eA:∀T rows,Γ.eA.lookup T=some rows->uL X.K X.mg X.w.params T rows
 ns:∀x a,W.nsIn X.K mainGlobals x=some (some (.ref a))->X.mg x=some (.ref a)
 Oz:Bf X.K Γ.clss Γ.flds
 cls:∀C n,Γ.cls.lookup C=some n->∃k Ca f fd ps,ClsAt X.K C (.ref Ca)/\qS X.K Ca/\Mk X.K Ca f/\FnOk X.prog X.w X.K X.mg X.base (g7 X.prog X.w) k f fd ps (sh X.K n (Γ.make C))/\cS (k+1) X.A/\X.mg C=some (.ref Ca)/\cE X.K fd ps []
 FY:∀rs,Γ.FY=some rs->LC Γ X rs
 FZ:∀n ω,Γ.FZ=some (n,ω)->Fx X aa ae n ω
 HP:uS X Γ.HP Γ.call
 jA:LB X Γ.fns Γ.call Γ.jA
 vz:∀C,Γ.vz.contains C=true->∃Ca,ClsAt X.K C (.ref Ca)/\qS X.K Ca/\UM X.K Ca/\X.mg C=some (.ref Ca)
noncomputable def bf:Expr->Bool
 | .Starred _ _=>false
 | .Set _ _ _=>false
 | _=>true
def ou:Expr->Bool
 | .Slice _ _ _ _=>false
 | _=>true
noncomputable def Bp:Expr->Bool
 | .Tuple _ _ _=>false
 | .ListComp _ _ _ _=>false
 | .SetComp _ _ _ _=>false
 | .DictComp _ _ _ _ _=>false
 | _=>true
noncomputable def jq:Expr->Bool
 | .ListComp _ _ _ _=>false
 | .SetComp _ _ _ _=>false
 | .DictComp _ _ _ _ _=>false
 | _=>true
noncomputable def uU:Expr->Bool
 | .Name _ _=>true
 | .Subscript _ _ _=>true
 | .Attribute _ _ _=>true
 | .Call _ (_::_) _ _=>true
 | _=>false
def jH(h:uU e=true):attributeBase e f env (eval e env)=eval e env:=by
 cases e with
 | Call f as ks=>cases as with
  | nil=>cases h
  | cons=>cases f<;>rfl
 | _=>first | rfl | cases h
def uV(h:Bp e=true):jq e=true:=by
 cases e<;>first | rfl | cases h
noncomputable def zy:Expr->Bool
 | .UnaryOp .Not _ _=>false
 | .BoolOp _ _ _=>false
 | .IfExp _ _ _ _=>false
 | .Compare _ _ _ _=>false
 | _=>true
def bF(h:bf e=true)(es:List Expr)(env:Env):starEach (e::es) env=(false,eval e env)::starEach es env:=by
 cases e<;>first | rfl | cases h
def gF(h:bf e=true)(op:CmpOp):behindInMarks op e=false:=by
 cases e<;>first | rfl | cases h
def gf(h:bf e=true)(env:Env)(x:Value):foldedSetIterable e env x=pure x:=by
 cases e<;>first | rfl | cases h
def qd(h:ou e=true):lq e:=by
 intro o i;cases e<;>first | rfl | cases h
def F6(h:zy e=true)(env:Env)(iL:Sem Value):isTrue e env iL=(do let v <-iL;standAt e.pos;holding [v] (truthy v)):=by
 cases e with
 | UnaryOp op a p=>cases op<;>first | rfl | cases h
 | BoolOp _ _ _=>cases h
 | IfExp _ _ _ _=>cases h
 | Compare _ _ _ _=>cases h
 | _=>rfl
def jr(h:jq e=true)(t:Option Expr)(l:Nat)(env:Env):swapsWith e t l env=pure false:=by
 cases e<;>first | rfl | cases h
def gG(h:es.all bf=true)(env:Env)(pos:Pos):(backTo pos (starEach es env)).any (·.1)=false:=by
 induction es with
 | nil=>rfl
 | cons e es ih =>
  rw[i7,aF]at h;rw[bF h.1];exact ih h.2
def zz(h:es.all bf=true)(env:Env)(pos:Pos):(backTo pos (starEach es env)).all (λx=>!x.1)=true:=by
 induction es with
 | nil=>rfl
 | cons e es ih =>
  rw[i7,aF]at h;rw[bF h.1];exact ih h.2
def Bq(h:es.all bf=true)(hl:es.length<30):((backTo cp (starEach es env)).all (λx=>!x.1)&&(backToKw cp (keywordEach [] env)).all (λx=>x.1.isSome)
   && decide (es.length+([]:List Keyword).length+(if([]:List Keyword).isEmpty then 0 else 1)<30))=true:=by
 rw[zz h];simp only[mB,aF,tJ];exact⟨rfl,hl⟩
def gg(h:iF x=true):(x==("__debug__":Str))=false/\(x==("__classdict__":Str))=false/\x≠"__name__":=by
 unfold iF at h;simp only[aF,yg]at h;exact⟨h.1.1,h.1.2,by simpa using h.2⟩
noncomputable def uW:Nat->Gm->Expr->Option (Tg×List Nat)
 | 0,_,_=>none
 | n+1,Γ,e=>match e with
  | .Name x _=>if Qo Γ x=true then(slot Γ x).map λi=>(dc i,[i])else none
  | .Tuple es _ _=>(es.foldr (λe r=>(uW n Γ e).bind λg=>r.map λgs=>(pO g.1 gs.1,g.2++gs.2)) (some (Cr,[]))).map λgs=>(yZ es.length gs.1,gs.2)
  | _=>none
def F7(h:slot Γ x=some i):Γ.N[i]?=some x:=by
 unfold slot at h;obtain⟨hi,hp,_⟩:=List.findIdx?_eq_some_iff_getElem.mp h;rw[dW hi];exact fT some (aU hp)
section
variable {Γ:Gm} {X:Cx} {x:Str} {pos:Pos} {aa:Hp} {ae:Fz}
def GOk.Xx(G:GOk Γ X aa ae)(h:Qa Γ x=true):QM X.env.scope x:=by
 unfold Qa at h;unfold QM;rw[G.names];split at h<;>simp_all
def GOk.OA(G:GOk Γ X aa ae)(h:Qo Γ x=true):KY X.env.scope x/\(X.fn x=true\/X.env.scope.names.lookup x=some .local):=by
 unfold Qo at h;unfold KY;rw[G.names];split at h
 ·grind
 ·rename_i z;exact⟨.inr z,.inl (G.own h x)⟩
 ·cases h
def GOk.js(G:GOk Γ X aa ae)(h:uT Γ x=true):Gl X x:=by
 unfold uT at h;show X.env.scope.names.lookup x=_;rw[G.names];split at h
 ·assumption
 ·cases h
def GOk.sF(G:GOk Γ X aa ae)(h:slot Γ x=some i):X.N[i]?=some x:=by
 rw[G.N];exact F7 h
theorem lP(G:GOk Γ X aa ae):∀(n:Nat) (e:Expr) (g:Tg×List Nat),uW n Γ e=some g->PG X e (tG X.K aa ae g.1)/\KG g.2 g.1/\(∀env:Env,(assignEach [e] env).map (·.2)=[assign e env])/\∀(es:List Expr) (env:Env),assignEach (e::es) env=(false,assign e env)::assignEach es env
 | 0,_,_,h=>by cases h
 | n+1,e,g,h=>by
  cases e with
  | Name x p =>
   have h:=h;obtain⟨hs,h⟩:=bL h;obtain⟨i,z,rfl⟩:=aO h;obtain⟨h1,h2⟩:=G.OA hs;exact⟨Nq i (Iv G.nd (G.sF z) h1 h2),JA i,λ_=>rfl,λ_ _=>rfl⟩
  | Tuple es k p =>
   have all:∀es gs,es.foldr (λe r=>(uW n Γ e).bind λg=>r.map λgs=>(pO g.1 gs.1,g.2++gs.2)) (some (Cr,[]))=some gs ->
     PGs X es (RW X.K aa ae gs.1)/\Sq gs.2 gs.1/\∀env:Env,(assignEach es env).length=es.length/\(assignEach es env).findIdx? (·.1)=none:=by
    intro es;induction es with
    | nil =>
     intro gs h;cases h;exact⟨Nr,JB,λenv=>⟨rfl,rfl⟩⟩
    | cons e es ih =>
     intro gs h;rw[List.foldr_cons]at h;obtain⟨g1,e1,h⟩:=aN h;obtain⟨g2,z,rfl⟩:=aO h;obtain⟨a1,a2,a3,a4⟩:=lP G n e g1 e1;obtain⟨b1,b2,b3⟩:=ih g2 z;refine⟨Jg a1 b1 (by grind),E6 a2 b2,λenv=>?_⟩
     rw[a4];obtain⟨c1,c2⟩:=b3 env;exact⟨by rw[cJ,cJ,c1],by grind⟩
   have h:=h;obtain⟨gs,z,rfl⟩:=aO h;obtain⟨b1,b2,b3⟩:=all es gs z;exact⟨RX G.calm b1 (b3 _).1 (b3 _).2,NR b2,λ_=>rfl,λ_ _=>rfl⟩
  | _=>cases h
def CW(G:GOk Γ X aa ae)(hn:iF x=true)(hv:Qa Γ x=true)(hs:slot Γ x=some i):PE X (.Name x pos) (Mq i) :=
 pe_var (G.sF hs) (G.Xx hv) (gg hn).1 (gg hn).2.1
end
def uX(x:Str):Option GC :=
 if x==("len":Str)then some fj
 else if x==("tuple":Str)then some wc
 else if x==("int":Str)then some ET
 else if x==("sum":Str)then some Jr
 else if x==("str":Str)then some Jq
 else none
def F8:bootBuiltins "sum"=some (.builtin "sum"):=by kernel_rfl
set_option maxHeartbeats 4000000 in
theorem OB(h:uX x=some g)(hh:X.A.handled=none)(hg:Gl X x)(hm:X.mg x=none)(ha:PA X (a::es) (tA X aa ae ts))
  (he:starEach (a::es) X.env=(false,eval a X.env)::starEach es X.env) (o7:(backTo pos (starEach es X.env)).any (·.1)=false):PE X (.Call (.Name x p) (a::es) [] pos) (tE X aa ae (Jp g ts)):=by
 unfold uX at h;split at h
 ·rename_i e;cases h;have e:=aU e;subst e;exact(pC Cs hg hm PySem.boot_len ha (by decide) (by decide) he o7).imp λ_ _ _ h=>lH h
 ·split at h
  ·rename_i e;cases h;have e:=aU e;subst e;exact(mL Ct hg hm (lI .tuple) ha (by decide) (by decide) he o7).imp λ_ _ _ h=>lH h
  ·split at h
   ·rename_i e;cases h;have e:=aU e;subst e;exact(mL Cu hg hm (lI .int) ha (by decide) (by decide) he o7).imp λ_ _ _ h=>lH h
   ·split at h
    ·rename_i e;cases h;have e:=aU e;subst e;exact(pC (Cw hh) hg hm F8 ha (by decide) (by decide) he o7).imp λ_ _ _ h=>lH h
    ·split at h
     ·rename_i e;cases h;have e:=aU e;subst e;exact(mL Cv hg hm (lI .str) ha (by decide) (by decide) he o7).imp λ_ _ _ h=>lH h
     ·cases h
noncomputable def F9:ScopeKind->Bool
 | .function=>true
 | _=>false
noncomputable def sG(scope:Scope):List Str:=(scope.names.filter λy=>match y.2 with | .local=>true | .free=>true | _=>false).map (·.1)
def gh(Γ:Gm)(scope:Scope):List (Option Nat):=(sG scope).map λx=>match scope.names.lookup x with | some .free=>slot Γ x | _=>none
noncomputable def zA(Γ:Gm)(scope:Scope):List (Str×NameKind):=scope.names.map fun(n,k)=>if(k==NameKind.free&&Γ.sc.lookup n==some .cell)then(n,NameKind.cell)else(n,k)
def sH(Γ:Gm)(scope:Scope):Gm:={Γ with sc:=zA Γ scope,N:=sG scope,own:=false,FY:=none,FZ:=none}
def qe(Γ:Gm)(scope:Scope)(L:List Nat):Bool :=
 F9 scope.kind&&scope.names.all (λy=>match y.2 with
  | .cell=>false
  | .local=>(match scope.names.lookup y.1 with | some .local=>true | _=>false)
  | .free=>(match Γ.sc.lookup y.1 with | some .cell=>true | some .free=>true | _=>false)
  | _=>true)&&decide (sG scope).Nodup&&L.all λi=>match(gh Γ scope)[i]? with | some none=>true | _=>false
section
variable {Γ:Gm} {X:Cx} {scope:Scope} {L:List Nat} {aa:Hp} {ae:Fz}
def lQ(h:qe Γ scope L=true):scope.kind=.function/\(∀y∈scope.names,(match y.2 with
  | .cell=>false
  | .local=>(match scope.names.lookup y.1 with | some .local=>true | _=>false)
  | .free=>(match Γ.sc.lookup y.1 with | some .cell=>true | some .free=>true | _=>false)
  | _=>true)=true)/\(sG scope).Nodup/\∀i∈L,(gh Γ scope)[i]?=some none:=by
 unfold qe at h;simp only[aF,eS,tJ]at h;obtain⟨⟨⟨h1,h2⟩,h3⟩,h4⟩:=h;refine⟨?_,h2,h3,λi hi=>?_⟩
 ·unfold F9 at h1;split at h1
  ·assumption
  ·cases h1
 ·grind
def zB(G:GOk Γ X aa ae)(h:qe Γ scope L=true):ig X (sG scope) (gh Γ scope) scope:=by
 obtain⟨h1,h2,h3,h4⟩:=lQ h;refine⟨h1,λy hy z=>?_,λy hy z=>?_,λy hy z=>?_,by unfold gh;rw[aM],λi j x hl hx=>?_⟩
 ·grind
 ·grind
 ·have:=h2 y hy;rw[z]at this;simp only at this;show X.env.scope.names.lookup y.1=_\/X.env.scope.names.lookup y.1=_;rw[G.names];split at this
  ·grind
  ·grind
  ·cases this
 ·unfold gh at hl;rw[bB,hx]at hl;have hl:(match scope.names.lookup x with | some .free=>slot Γ x | _=>none)=some j:=by grind
  split at hl
  ·exact⟨G.sF hl,by assumption⟩
  ·cases hl
def Ga(G:GOk Γ X aa ae)(h:qe Γ scope L=true)(C:Addr)(s:Shared)(H:Hp)(fp:List Addr)(Xy:Hp)(Xz:Fz):GOk (sH Γ scope) (cf X (sG scope) scope C s H fp) Xy Xz where
 names:=by
  show(relabel scope X.env).names=zA Γ scope;have e:∀n,X.env.kindOf n=Γ.sc.lookup n:=λn=>by show X.env.scope.names.lookup n=_;rw[G.names]
  unfold zA relabel;simp only[G.kind,e]
  congr 1
  funext y
  obtain⟨n,k⟩:=y;simp
 N:=rfl
 nd:=(lQ h).2.2.1
 kind:=by
  exact(lQ h).1
 calm:=G.calm
 hd:=G.hd
 un:=G.un
 own:=λz=>by cases z
 fns:=G.fns
 cons:=G.cons
 dB:=G.dB
 tabs:=G.tabs
 eA:=G.eA
 ns:=G.ns
 Oz:=G.Oz
 cls:=G.cls
 FY:=λ_ z=>by cases z
 FZ:=λ_ _ z=>by cases z
 HP:=G.HP
 jA:=G.jA
 vz:=G.vz
end
def bU{α:Type}:Gx α:=λ_=>none
section
variable {X:Cx} {aa:Hp} {ae:Fz} {e:Expr} {es:List Expr}
def sJ{C:Prop}(h:tX X aa ae rl bU σ H Q):C:=by
 obtain⟨F,st,R,r,z,_⟩:=h;cases z
def aV:PE X e (tE X aa ae bU):=λ_ _ _ _ _ _ h=>sJ h
def sL:PT X e (tT X aa ae bU):=λ_ _ _ _ _ _ h=>sJ h
def Gb:PW X e (tT X aa ae bU):=λ_ _ _ _ _ _ _ h=>sJ h
def LD:PA X es (tA X aa ae bU):=λ_ _ _ _ _ _ _ h=>sJ h
def LF{tg:Expr}:PI X tg e (Dw X aa ae bU):=λ_ _ _ _ _ _ h=>sJ h
end
def jY(m n:Nat)(g:jm)(as:List PV):Gx PV:=λst=>if((m==0)&&(st.h.isEmpty || ai as))=true then jn n g as st else gT n g as st
def XA(G:FnOk X.prog X.w X.K X.mg X.base (g7 X.prog X.w) k f fd ps (sh X.K n g))(hr:cS k X.A)(hb:cE X.K fd ps []):zj X f (jY m n g):=by
 rintro aa H ae F st σ af s Q as us vs I R b r ⟨q,e1,e2⟩
 unfold jY at e1;split at e1
 ·exact SJ G hr hb aa H ae F st σ af s Q as us vs I R b r ⟨q,e1,e2⟩
 ·exact N5 G hr hb aa H ae F st σ af s Q as us vs I R b r ⟨q,e1,e2⟩
def Ts(Γ:Gm):Expr->Nat
 | .Name x _=>CV (md Γ x)
 | .Attribute _ f _=>CV (md Γ f)
 | _=>0
def XB(Γ:Gm)(g:Str)(o:Expr):Nat:=if g==("get":Str)then 0 else Ts Γ o
noncomputable def uY(e:Expr):Option {x:Option Expr×Option Expr // ∃p,e=.Slice x.1 x.2 none p}:=match e with
 | .Slice lo hi none p=>some ⟨(lo,hi),p,rfl⟩
 | _=>none
noncomputable def zC(e:Expr):Option {x:Option Expr×Expr // ∃p,e=.Slice x.1 none (some x.2) p}:=match e with
 | .Slice lo none (some m) p=>some ⟨(lo,m),p,rfl⟩
 | _=>none
def XC:Const->Gx PV
 | .int i=>cx (.int i)
 | .bool i=>cx (.bl i)
 | .none=>cx .az
 | .str i=>cx (.str i)
 | _=>bU
def OC(Γ:Gm)(x:Str):Gx PV:=if iF x=true then(if Qa Γ x=true then(match slot Γ x with | some i=>rd i | none=>bU)else if uT Γ x=true then(match Γ.cons.lookup x with | some p=>cx p | none=>bU)else bU)else bU
noncomputable def zD(a:Expr):Option {x:Str×Expr×List Expr // ∃p q,a=.Call (.Name x.1 p) (x.2.1::x.2.2) [] q}:=match a with
 | .Call (.Name z p) (b::bs) [] q=>some ⟨(z,b,bs),p,q,rfl⟩
 | _=>none
def jZ(Γ:Gm)(x:Str):Bool:=uT Γ x&&Γ.dB.contains x
mutual
noncomputable def aY:Nat->Gm->Nat->Expr->Gx PV
 | 0,_,_,_=>bU
 | n+1,Γ,m,e=>match e with
  | .Constant c _ _=>XC c
  | .Name x _=>OC Γ x
  | .BinOp a op b _=>(match J2 op with | some g=>op2 g (aY n Γ 0 a) (aY n Γ 0 b) | none=>bU)
  | .UnaryOp .Not a _=>Nd (aY n Γ 0 a)
  | .UnaryOp .USub a _=>NH (aY n Γ 0 a)
  | .BoolOp op vs _=>Gd n Γ op vs
  | .Compare a ops bs _=>OD n Γ a ops bs
  | .IfExp c a b _=>nR (rf n Γ c) (aY n Γ m a) (aY n Γ m b)
  | .Tuple es _ _=>Ng .aj (jO n Γ m es)
  | .List es _=>(match m with | 0=>Ng .lst (jO n Γ 0 es) | _=>Cq (jO n Γ (CV m) es))
  | .Dict [] [] _=>N8 (m==10)
  | .Subscript a b _=>OE n Γ a b
  | .ListComp elt gens scope _=>OF n Γ m elt gens scope
  | .Attribute o f _=>if uU o=true then JN f (aY n Γ 0 o)else bU
  | .Call f (a::es) [] cp=>if(a::es).all bf=true then OG n Γ m f a es cp else bU
  | .Call (.Attribute o f ap) [] [] cp=>if(uU o&&(ap.endLine==cp.line))=true then(if f==("pop":Str)then HL "list" (ie qb) (aY n Γ 0 o) (cx [])else match Ft f with | some w=>HL w.1 w.2 (aY n Γ 0 o) (cx []) | none=>CU (sy Γ.HP f) Γ.call f (aY n Γ 0 o) (cx []))else bU
  | .Call (.Name C _) [] [] _=>if(iF C&&uT Γ C)=true then(if Γ.vz.contains C=true then Xv C else match Γ.cls.lookup C with | some k=>Qn C k (Γ.make C) (cx []) | none=>bU)else bU
  | _=>bU
termination_by structural n=>n
noncomputable def OG:Nat->Gm->Nat->Expr->Expr->List Expr->Pos->Gx PV
 | 0,_,_,_,_,_,_=>bU
 | n+1,Γ,m,f,a,es,cp=>match f with
  | .Name x _=>if iF x=true then(if uT Γ x=true then OH n Γ m x a es else bU)else bU
  | .Subscript v k p=>Be Γ.fns Γ.call (aY n Γ 0 (.Subscript v k p)) (jO n Γ 0 (a::es))
  | .Attribute o g ap=>if(uU o&&(ap.endLine==cp.line)&&decide ((a::es).length<30))=true then(match wC g with | some w=>HL w.1 w.2 (aY n Γ 0 o) (jO n Γ (XB Γ g o) (a::es)) | none=>CU (sy Γ.HP g) Γ.call g (aY n Γ 0 o) (jO n Γ 0 (a::es)))else bU
  | _=>bU
termination_by structural n=>n
noncomputable def OH:Nat->Gm->Nat->Str->Expr->List Expr->Gx PV
 | 0,_,_,_,_,_=>bU
 | n+1,Γ,m,x,a,es=>if x==("spread":Str)then Ge n Γ a es else match Γ.fns.lookup x with
  | some k=>if(a::es).length==k then bnd (jO n Γ 0 (a::es)) (jY m k (Γ.call x))else(match Γ.jA.lookup x with | some ds=>bnd (jO n Γ 0 (a::es)) (qc m k (Γ.call x) ds) | none=>bU)
  | none=>match Γ.cls.lookup x with
   | some k=>(match m with | 0=>bU | _=>Qn x k (Γ.make x) (jO n Γ 0 (a::es)))
   | none=>if Γ.dB.contains x=true then(if x==("isinstance":Str)then Gf n Γ a es else if x==("sorted":Str)then Gg n Γ a es else if x==("dict":Str)then OI n Γ a es else if x==("list":Str)then Gh n Γ m a es else match uX x with | some g=>Jp g (jO n Γ 0 (a::es)) | none=>bU)else bU
termination_by structural n=>n
noncomputable def Ge:Nat->Gm->Expr->List Expr->Gx PV
 | 0,_,_,_=>bU
 | n+1,Γ,a,es=>bU
termination_by structural n=>n
noncomputable def Gh:Nat->Gm->Nat->Expr->List Expr->Gx PV
 | 0,_,_,_,_=>bU
 | n+1,Γ,m,a,es=>match es with
  | []=>(match zD a with
   | some ⟨zs,_⟩=>(match zs.2.2 with
    | [b]=>if(zs.1==("zip":Str)&&jZ Γ zs.1&&bf zs.2.1&&bf b)=true then Oh m (aY n Γ 0 zs.2.1) (aY n Γ 0 b)else bU
    | _=>bU)
   | none=>bU)
  | _=>bU
termination_by structural n=>n
noncomputable def OI:Nat->Gm->Expr->List Expr->Gx PV
 | 0,_,_,_=>bU
 | n+1,Γ,a,es=>match es with
  | []=>JT (aY n Γ 0 a)
  | _=>bU
termination_by structural n=>n
noncomputable def Gg:Nat->Gm->Expr->List Expr->Gx PV
 | 0,_,_,_=>bU
 | n+1,Γ,a,es=>bU
termination_by structural n=>n
noncomputable def Gf:Nat->Gm->Expr->List Expr->Gx PV
 | 0,_,_,_=>bU
 | n+1,Γ,a,es=>match es with
  | [.Name t _]=>if jZ Γ t=true then(match AQ t with | some g=>U5 g (aY n Γ 0 a) | none=>bU)else bU
  | _=>bU
termination_by structural n=>n
noncomputable def OD:Nat->Gm->Expr->List CmpOp->List Expr->Gx PV
 | 0,_,_,_,_=>bU
 | n+1,Γ,a,ops,bs=>match ops,bs with
  | [op],[b]=>if bf b=true then(match zb op with | some g=>op2 g (aY n Γ 0 a) (aY n Γ 0 b) | none=>bU)else bU
  | [op,vA],[b,c]=>if bf c=true then(match zb op,zb vA with | some g,some g'=>chain g g' (aY n Γ 0 a) (aY n Γ 0 b) (aY n Γ 0 c) | _,_=>bU)else bU
  | _,_=>bU
termination_by structural n=>n
noncomputable def OE:Nat->Gm->Expr->Expr->Gx PV
 | 0,_,_,_=>bU
 | n+1,Γ,a,b=>match uY b with
  | some ⟨lh,_⟩=>cutE (aY n Γ 0 a) (CY n Γ lh.1) (CY n Γ lh.2)
  | none=>match zC b with
  | some ⟨lm,_⟩=>NI (aY n Γ 0 a) (CY n Γ lm.1) (CY n Γ (some lm.2))
  | none=>if ou b=true then(match a with
   | .Name T p=>if(iF T&&uT Γ T)=true then(match Γ.eA.lookup T with
    | some rows=>CL (λk=>rows.lookup k) (aY n Γ 0 b)
    | none=>match Γ.tabs.lookup T with
     | some rows=>CL (λk=>(rows.lookup k).map .fn) (aY n Γ 0 b)
     | none=>op2 aI (aY n Γ 0 (.Name T p)) (aY n Γ 0 b))else op2 aI (aY n Γ 0 (.Name T p)) (aY n Γ 0 b)
   | a=>op2 aI (aY n Γ 0 a) (aY n Γ 0 b))else bU
termination_by structural n=>n
noncomputable def rf:Nat->Gm->Expr->Gx Bool
 | 0,_,_=>bU
 | n+1,Γ,e=>match e with
  | .UnaryOp .Not a _=>Jd (rf n Γ a)
  | .BoolOp op vs _=>Gi n Γ op vs
  | .Compare a [op] [b] _=>if bf b=true then(match zb op with | some g=>toB (op2 g (aY n Γ 0 a) (aY n Γ 0 b)) | none=>bU)else bU
  | .Compare a [op,vA] [b,c] _=>if bf c=true then(match zb op,zb vA with | some g,some g'=>toB (chain g g' (aY n Γ 0 a) (aY n Γ 0 b) (aY n Γ 0 c)) | _,_=>bU)else bU
  | e=>if zy e=true then qX (aY n Γ 0 e)else bU
termination_by structural n=>n
noncomputable def Gd:Nat->Gm->BoolOp->List Expr->Gx PV
 | 0,_,_,_=>bU
 | n+1,Γ,op,[a]=>aY n Γ 0 a
 | n+1,Γ,.And,a::b::r=>Nc (aY n Γ 0 a) (Gd n Γ .And (b::r))
 | n+1,Γ,.Or,a::b::r=>U2 (aY n Γ 0 a) (Gd n Γ .Or (b::r))
 | _,_,_,_=>bU
termination_by structural n=>n
noncomputable def Gi:Nat->Gm->BoolOp->List Expr->Gx Bool
 | 0,_,_,_=>bU
 | n+1,Γ,op,[a]=>rf n Γ a
 | n+1,Γ,.And,a::b::r=>nR (rf n Γ a) (Gi n Γ .And (b::r)) (cx false)
 | n+1,Γ,.Or,a::b::r=>nR (rf n Γ a) (cx true) (Gi n Γ .Or (b::r))
 | _,_,_,_=>bU
termination_by structural n=>n
noncomputable def jO:Nat->Gm->Nat->List Expr->Gx (List PV)
 | 0,_,_,_=>bU
 | n+1,Γ,m,[]=>cx []
 | n+1,Γ,m,e::es=>if bf e=true then jX (aY n Γ m e) (jO n Γ m es)else bU
termination_by structural n=>n
noncomputable def CY:Nat->Gm->Option Expr->Gx (Option Int)
 | 0,_,_=>bU
 | n+1,Γ,none=>cx none
 | n+1,Γ,some e=>ER (aY n Γ 0 e)
termination_by structural n=>n
noncomputable def Gj:Nat->Gm->Expr->Expr->Gx A3
 | 0,_,_,_=>bU
 | n+1,Γ,tg,e=>match e with
  | .Call (.Name x p) [a] [] cp=>if(x==("range":Str)&&jZ Γ x&&bf a)=true then Qj (NV nV (jO n Γ 0 [a]))
    else if(x==("enumerate":Str)&&jZ Γ x&&bf a&&AY tg)=true then Qj (AZ (aY n Γ 0 a))
    else zi (aY n Γ 0 (.Call (.Name x p) [a] [] cp))
  | .Call (.Name x p) [a,b] [] cp=>if(x==("zip":Str)&&jZ Γ x&&bf a&&bf b&&AY tg)=true then Qj (Ot (aY n Γ 0 a) (aY n Γ 0 b))
    else zi (aY n Γ 0 (.Call (.Name x p) [a,b] [] cp))
  | e=>if bf e=true then zi (aY n Γ 0 e)else bU
termination_by structural n=>n
noncomputable def OF:Nat->Gm->Nat->Expr->List Comprehension->Scope->Gx PV
 | 0,_,_,_,_,_=>bU
 | n+1,Γ,m,elt,gens,scope=>match gens with
  | [⟨tg,iter,ifs,0⟩]=>if bf iter=true then(match uW n (sH Γ scope) tg with
   | some g=>if qe Γ scope g.2=true then(match ifs with
    | []=>jl (Zw m) (gh Γ scope) (Gj n Γ tg iter) (pY g.1 (aY n (sH Γ scope) (CV m) elt))
    | [c]=>jl (Zw m) (gh Γ scope) (Gj n Γ tg iter) (wq g.1 (rf n (sH Γ scope) c) (aY n (sH Γ scope) (CV m) elt))
    | _=>bU)else bU
   | none=>bU)else bU
  | _=>bU
termination_by structural n=>n
end
def CC(X:Cx)(aa:Hp)(ae:Fz)(elt:Expr)(gens:List Comprehension)(scope:Scope)(p:Pos)(f:Gx PV):Prop:=PE X (.ListComp elt gens scope p) (tE X aa ae f) /\
  ∀i x p' sp,X.N[i]?=some x->X.env.scope.names.lookup x=some .local->swapsWith (.ListComp elt gens scope p) (some (.Name x p')) sp.line X.env=pure true ->
   PS X (.Assign [.Name x p'] (.ListComp elt gens scope p) sp) (tS X aa ae (lA f (dc i)))
structure XD (n:Nat):Prop where
 e:∀Γ X aa ae m e,GOk Γ X aa ae->PE X e (tE X aa ae (aY n Γ m e))
 f:∀Γ X aa ae m f a es cp,GOk Γ X aa ae->(a::es).all bf=true->PE X (.Call f (a::es) [] cp) (tE X aa ae (OG n Γ m f a es cp))
 cn:∀Γ X aa ae m x a es p cp,GOk Γ X aa ae->(a::es).all bf=true->iF x=true->uT Γ x=true->PE X (.Call (.Name x p) (a::es) [] cp) (tE X aa ae (OH n Γ m x a es))
 sp:∀Γ X aa ae a es p cp,GOk Γ X aa ae->(a::es).all bf=true->uT Γ "spread"=true->PE X (.Call (.Name "spread" p) (a::es) [] cp) (tE X aa ae (Ge n Γ a es))
 st:∀Γ X aa ae a es p cp,GOk Γ X aa ae->(a::es).all bf=true->uT Γ "sorted"=true->Γ.dB.contains "sorted"=true->PE X (.Call (.Name "sorted" p) (a::es) [] cp) (tE X aa ae (Gg n Γ a es))
 d:∀Γ X aa ae a es p cp,GOk Γ X aa ae->(a::es).all bf=true->uT Γ "dict"=true->Γ.dB.contains "dict"=true->PE X (.Call (.Name "dict" p) (a::es) [] cp) (tE X aa ae (OI n Γ a es))
 li:∀Γ X aa ae m a es p cp,GOk Γ X aa ae->(a::es).all bf=true->uT Γ "list"=true->Γ.dB.contains "list"=true->PE X (.Call (.Name "list" p) (a::es) [] cp) (tE X aa ae (Gh n Γ m a es))
 is:∀Γ X aa ae a es p cp,GOk Γ X aa ae->(a::es).all bf=true->uT Γ "isinstance"=true->Γ.dB.contains "isinstance"=true->PE X (.Call (.Name "isinstance" p) (a::es) [] cp) (tE X aa ae (Gf n Γ a es))
 k:∀Γ X aa ae a ops bs p,GOk Γ X aa ae->PE X (.Compare a ops bs p) (tE X aa ae (OD n Γ a ops bs))
 x:∀Γ X aa ae a b p,GOk Γ X aa ae->PE X (.Subscript a b p) (tE X aa ae (OE n Γ a b))
 t:∀Γ X aa ae e,GOk Γ X aa ae->PT X e (tT X aa ae (rf n Γ e))
 b:∀Γ X aa ae op vs p,GOk Γ X aa ae->PE X (.BoolOp op vs p) (tE X aa ae (Gd n Γ op vs))
 w:∀Γ X aa ae op vs p,GOk Γ X aa ae->PW X (.BoolOp op vs p) (tT X aa ae (Gi n Γ op vs))
 a:∀Γ X aa ae m es,GOk Γ X aa ae->PA X es (tA X aa ae (jO n Γ m es))
 l:∀Γ X aa ae e,GOk Γ X aa ae->PO X e (Jo X aa ae (CY n Γ e))
 i:∀Γ X aa ae tg e,GOk Γ X aa ae->PI X tg e (Dw X aa ae (Gj n Γ tg e))
 c:∀Γ X aa ae m elt gens scope p,GOk Γ X aa ae->CC X aa ae elt gens scope p (OF n Γ m elt gens scope)
def pI{X:Cx}{aa:Hp}{ae:Fz}{e:Expr}{c:Prop} [Decidable c] {f g:Gx PV} (h:c->PE X e (tE X aa ae f)) (h':PE X e (tE X aa ae g)):PE X e (tE X aa ae (if c then f else g)):=by
 split
 ·exact h ‹_›
 ·exact h'
def pJ{X:Cx}{aa:Hp}{ae:Fz}{e:Expr}{c:Prop} [Decidable c] {f:Gx PV} (h:c->PE X e (tE X aa ae f)):PE X e (tE X aa ae (if c then f else bU)):=pI h aV
def gi:PS X s (tS X aa ae bU):=λ_ _ _ _ _ _ ⟨F,st,R,r,z,_⟩=>by cases z
def uZ:PS X s (tS X aa ae (lA bU g)):=λ_ _ _ _ _ _ ⟨F,st,R,r,z,_⟩=>by cases z
def Tt{ae:Fz}:PO X e (Jo X aa ae bU):=λ_ _ _ _ _ _ h=>sJ h
def Gk:XD 0 where
 e:=λ_ _ _ _ _ _ _=>aV
 f:=λ_ _ _ _ _ _ _ _ _ _ _=>aV
 cn:=λ_ _ _ _ _ _ _ _ _ _ _ _ _ _=>aV
 sp:=λ_ _ _ _ _ _ _ _ _ _ _=>aV
 st:=λ_ _ _ _ _ _ _ _ _ _ _ _=>aV
 d:=λ_ _ _ _ _ _ _ _ _ _ _ _=>aV
 li:=λ_ _ _ _ _ _ _ _ _ _ _ _ _=>aV
 is:=λ_ _ _ _ _ _ _ _ _ _ _ _=>aV
 k:=λ_ _ _ _ _ _ _ _ _=>aV
 x:=λ_ _ _ _ _ _ _ _=>aV
 t:=λ_ _ _ _ _ _=>sL
 b:=λ_ _ _ _ _ _ _ _=>aV
 w:=λ_ _ _ _ _ _ _ _=>Gb
 a:=λ_ _ _ _ _ _ _=>LD
 l:=λ_ _ _ _ _ _=>Tt
 i:=λ_ _ _ _ _ _ _=>LF
 c:=λ_ _ _ _ _ _ _ _ _ _=>⟨aV,λ_ _ _ _ _ _ _=>uZ⟩
section
variable {n:Nat} (S:XD n)
include S
def Tu(Γ:Gm)(X:Cx)(aa:Hp)(ae:Fz)(op:BoolOp)(vs:List Expr)(p:Pos)(G:GOk Γ X aa ae):PE X (.BoolOp op vs p) (tE X aa ae (Gd (n+1) Γ op vs)):=by
 match op,vs with
 | .And,[]=>exact aV
 | .Or,[]=>exact aV
 | .And,[a]=>exact D8 (S.e Γ X aa ae 0 a G)
 | .Or,[a]=>exact D8 (S.e Γ X aa ae 0 a G)
 | .And,a::b::r=>exact RR (S.e Γ X aa ae 0 a G) (S.b Γ X aa ae .And (b::r) p G)
 | .Or,a::b::r=>exact Ww (S.e Γ X aa ae 0 a G) (S.b Γ X aa ae .Or (b::r) p G)
def Tv(Γ:Gm)(X:Cx)(aa:Hp)(ae:Fz)(op:BoolOp)(vs:List Expr)(p:Pos)(G:GOk Γ X aa ae):PW X (.BoolOp op vs p) (tT X aa ae (Gi (n+1) Γ op vs)):=by
 match op,vs with
 | .And,[]=>exact Gb
 | .Or,[]=>exact Gb
 | .And,[a]=>exact Im (S.t Γ X aa ae a G)
 | .Or,[a]=>exact Mu (S.t Γ X aa ae a G)
 | .And,a::b::r=>exact RP (S.t Γ X aa ae a G) (S.w Γ X aa ae .And (b::r) p G)
 | .Or,a::b::r=>exact Wv (S.t Γ X aa ae a G) (S.w Γ X aa ae .Or (b::r) p G)
def Tw(Γ:Gm)(X:Cx)(aa:Hp)(ae:Fz)(m:Nat)(es:List Expr)(G:GOk Γ X aa ae):PA X es (tA X aa ae (jO (n+1) Γ m es)):=by
 match es with
 | []=>exact RT
 | e::es =>
  unfold jO;split
  ·rename_i hp;exact Nf (S.e Γ X aa ae m e G) (S.a Γ X aa ae m es G) (bF hp _ _)
  ·exact LD
def Tz(Γ:Gm)(X:Cx)(aa:Hp)(ae:Fz)(e:Option Expr)(G:GOk Γ X aa ae):PO X e (Jo X aa ae (CY (n+1) Γ e)):=by
 match e with
 | none=>exact NC
 | some e=>exact NF (S.e Γ X aa ae 0 e G)
def TC(Γ:Gm)(X:Cx)(aa:Hp)(ae:Fz)(a:Expr)(ops:List CmpOp)(bs:List Expr)(p:Pos)(G:GOk Γ X aa ae):PE X (.Compare a ops bs p) (tE X aa ae (OD (n+1) Γ a ops bs)):=by
 rcases ops with _ | ⟨op,_ | ⟨vA,_ | _⟩⟩<;>rcases bs with _ | ⟨b,_ | ⟨c,_ | _⟩⟩<;>try exact aV
 ·show PE X _ (tE X aa ae (ite _ _ _));split
  ·rename_i hp;split
   ·rename_i g h1;exact RM (jF G.un h1) (S.e Γ X aa ae 0 _ G) (S.e Γ X aa ae 0 _ G) (gF hp _)
   ·exact aV
  ·exact aV
 ·show PE X _ (tE X aa ae (ite _ _ _));split
  ·rename_i hp;split
   ·rename_i g g' h1 h2;exact Jb (jF G.un h1) (jF G.un h2) (S.e Γ X aa ae 0 _ G) (S.e Γ X aa ae 0 _ G) (S.e Γ X aa ae 0 _ G) (gF hp _)
   ·exact aV
  ·exact aV
def TF(Γ:Gm)(X:Cx)(aa:Hp)(ae:Fz)(e:Expr)(G:GOk Γ X aa ae):PT X e (tT X aa ae (rf (n+1) Γ e)):=by
 have df:∀e,PT X e (tT X aa ae (if zy e=true then qX (aY n Γ 0 e)else bU)):=λe=>by
  split
  ·rename_i hp;exact RO (S.e Γ X aa ae 0 _ G) λiL=>F6 hp _ iL
  ·exact sL
 cases e with
 | UnaryOp op=>cases op with
  | Not=>exact RQ (S.t Γ X aa ae _ G)
  | _=>exact df _
 | BoolOp=>exact(S.w Γ X aa ae _ _ _ G).pt
 | Compare a ops bs =>
  rcases ops with _ | ⟨op,_ | ⟨vA,_ | _⟩⟩<;>rcases bs with _ | ⟨b,_ | ⟨c,_ | _⟩⟩<;>try exact df _
  ·show PT X _ (tT X aa ae (ite _ _ _));split
   ·rename_i hp;split
    ·rename_i g h1;exact RN (jF G.un h1) (S.e Γ X aa ae 0 _ G) (S.e Γ X aa ae 0 _ G) (gF hp _)
    ·exact sL
   ·exact sL
  ·show PT X _ (tT X aa ae (ite _ _ _));split
   ·rename_i hp;split
    ·rename_i g g' h1 h2;exact Jc (jF G.un h1) (jF G.un h2) (S.e Γ X aa ae 0 _ G) (S.e Γ X aa ae 0 _ G) (S.e Γ X aa ae 0 _ G) (gF hp _)
    ·exact sL
   ·exact sL
 | _=>exact df _
def OJ(Γ:Gm)(X:Cx)(aa:Hp)(ae:Fz)(a:Expr)(es:List Expr)(p cp:Pos)(G:GOk Γ X aa ae)(hp:(a::es).all bf=true)(hg:uT Γ "sorted"=true)(hb:Γ.dB.contains "sorted"=true):PE X (.Call (.Name "sorted" p) (a::es) [] cp) (tE X aa ae (Gg (n+1) Γ a es)):=by
 exact aV
def TJ(Γ:Gm)(X:Cx)(aa:Hp)(ae:Fz)(a:Expr)(es:List Expr)(p cp:Pos)(G:GOk Γ X aa ae)(hp:(a::es).all bf=true)(hg:uT Γ "dict"=true)(hb:Γ.dB.contains "dict"=true):PE X (.Call (.Name "dict" p) (a::es) [] cp) (tE X aa ae (OI (n+1) Γ a es)):=by
 rw[i7,aF]at hp;cases es with
 | cons=>exact aV
 | nil=>exact Oc G.hd (G.js hg) (G.dB _ hb) (S.e Γ X aa ae 0 _ G) (bF hp.1 _ _)
def OK(Γ:Gm)(X:Cx)(aa:Hp)(ae:Fz)(m:Nat)(a:Expr)(es:List Expr)(p cp:Pos)(G:GOk Γ X aa ae)(hp:(a::es).all bf=true)(hg:uT Γ "list"=true)(hb:Γ.dB.contains "list"=true):PE X (.Call (.Name "list" p) (a::es) [] cp) (tE X aa ae (Gh (n+1) Γ m a es)):=by
 rw[i7,aF]at hp;cases es with
 | cons=>exact aV
 | nil =>
  show PE X _ (tE X aa ae (match zD a with | some ⟨zs,_⟩=>_ | none=>bU))
  rcases zD a with _ | ⟨⟨z,b,bs⟩,zp,Fy,rfl⟩
  ·exact aV
  ··rcases bs with _ | ⟨c,_ | _⟩
    ·exact aV
    ·refine pJ λhc=>?_
     simp only[jZ,aF]at hc;obtain⟨⟨⟨hx,g1,g2⟩,p1⟩,p2⟩:=hc;have hx:=aU hx;subst hx;exact Oi G.hd (G.js hg) (G.dB _ hb) (G.js g1) (G.dB _ g2) (S.e Γ X aa ae 0 _ G) (S.e Γ X aa ae 0 _ G) (bF p1 _ _) (bF p2 _ _)
    ·exact aV
def OL(Γ:Gm)(X:Cx)(aa:Hp)(ae:Fz)(a:Expr)(es:List Expr)(p cp:Pos)(G:GOk Γ X aa ae)(hp:(a::es).all bf=true)(hg:uT Γ "isinstance"=true)(hb:Γ.dB.contains "isinstance"=true):PE X (.Call (.Name "isinstance" p) (a::es) [] cp) (tE X aa ae (Gf (n+1) Γ a es)):=by
 cases es with
 | nil=>exact aV
 | cons e es=>cases e with
  | Name t=>cases es with
   | cons=>exact aV
   | nil =>
    refine pJ λhc=>?_
    unfold jZ at hc;rw[aF]at hc;rw[i7,aF]at hp;cases h1:AQ t with
    | none=>exact aV
    | some g=>exact WC h1 (G.js hg) (G.dB _ hb) (G.js hc.1) (G.dB _ hc.2) (S.e Γ X aa ae 0 a G) λes=>bF hp.1 es _
  | _=>exact aV
def TK(Γ:Gm)(X:Cx)(aa:Hp)(ae:Fz)(a b:Expr)(p:Pos)(G:GOk Γ X aa ae):PE X (.Subscript a b p) (tE X aa ae (OE (n+1) Γ a b)):=by
 show PE X _ (tE X aa ae (match uY b with | some ⟨lh,_⟩=>_ | none=>_))
 rcases uY b with _ | ⟨⟨lo,hi⟩,ps,rfl⟩
 ·show PE X _ (tE X aa ae (match zC b with | some ⟨lm,_⟩=>_ | none=>_))
  rcases zC b with _ | ⟨⟨lo,hi⟩,ps,rfl⟩
  rotate_left
  ·exact Sj (S.e Γ X aa ae 0 _ G) (S.l Γ X aa ae _ G) (S.l Γ X aa ae _ G)
  refine pJ λhp=>?_
  have gen:=λa=>WD (pos:=p) G.un (S.e Γ X aa ae 0 a G) (S.e Γ X aa ae 0 b G) (qd hp)
  cases a with
  | Name T =>
   refine pI (λhc=>?_) (gen _)
   rw[aF]at hc;cases h0:Γ.eA.lookup T with
   | some rows=>exact SR (G.eA _ rows h0) (G.js hc.2) (S.e Γ X aa ae 0 _ G) (qd hp) (gg hc.1).1
   | none =>
    cases h1:Γ.tabs.lookup T with
    | some rows=>exact SS (G.tabs _ rows h1) (G.js hc.2) (S.e Γ X aa ae 0 _ G) (qd hp) (gg hc.1).1
    | none=>exact gen _
  | _=>exact gen _
 ·exact R9 (S.e Γ X aa ae 0 _ G) (S.l Γ X aa ae _ G) (S.l Γ X aa ae _ G)
def TL(Γ:Gm)(X:Cx)(aa:Hp)(ae:Fz)(tg e:Expr)(G:GOk Γ X aa ae):PI X tg e (Dw X aa ae (Gj (n+1) Γ tg e)):=by
 have df:∀e,PI X tg e (Dw X aa ae (if bf e=true then zi (aY n Γ 0 e)else bU)):=λe=>by
  split
  ·exact Fj (S.e Γ X aa ae 0 _ G)
  ·exact LF
 cases e with
 | Call f as ks=>cases f with
  | Name x p =>
   rcases as with _ | ⟨a,_ | ⟨b,_ | _⟩⟩<;>rcases ks with _ | _<;>try exact df _
   ·show PI X _ _ (Dw X aa ae (ite _ _ _));split
    ·rename_i hc;simp only[jZ,aF]at hc;obtain⟨⟨hx,hg,hb⟩,hp⟩:=hc;have hx:=aU hx;subst hx;exact NX <| Fc (G.js hg) (G.dB _ hb) (S.a Γ X aa ae 0 _ G) (bF hp _ _)
    ·split
     ·rename_i hc;simp only[jZ,aF]at hc;obtain⟨⟨⟨hx,hg,hb⟩,hp⟩,ht⟩:=hc;have hx:=aU hx;subst hx;exact NX <| WT ht (G.js hg) (G.dB _ hb) (S.e Γ X aa ae 0 _ G) (bF hp _ _)
     ·exact Fj (S.e Γ X aa ae 0 _ G)
   ·show PI X _ _ (Dw X aa ae (ite _ _ _));split
    ·rename_i hc;simp only[jZ,aF]at hc;obtain⟨⟨⟨⟨hx,hg,hb⟩,hp⟩,Xl⟩,ht⟩:=hc;have hx:=aU hx;subst hx;exact NX <| Tb ht (G.js hg) (G.dB _ hb) (S.e Γ X aa ae 0 _ G) (S.e Γ X aa ae 0 _ G) (bF hp _ _) (bF Xl _ _)
    ·exact Fj (S.e Γ X aa ae 0 _ G)
  | _=>exact df _
 | _=>exact df _
def J9:CC X aa ae elt gens scope p bU:=⟨aV,λ_ _ _ _ _ _ _=>uZ⟩
def cI{c:Prop} [Decidable c] (h:c->CC X aa ae elt gens scope p f):CC X aa ae elt gens scope p (if c then f else bU):=by
 split
 ·exact h ‹_›
 ·exact J9
def TM(Γ:Gm)(X:Cx)(aa:Hp)(ae:Fz)(m:Nat)(elt:Expr)(gens:List Comprehension)(scope:Scope)(p:Pos)(G:GOk Γ X aa ae):CC X aa ae elt gens scope p (OF (n+1) Γ m elt gens scope):=by
 rcases gens with _ | ⟨⟨tg,iter,ifs,(_ | _) | _⟩,_ | _⟩<;>try exact J9
 refine cI λhp=>?_
 cases h2:uW n (sH Γ scope) tg with
 | none=>exact J9
 | some g =>
  refine cI λhc=>?_
  have SC:=zB G hc;have hL:=(lQ hc).2.2.2;have GK:=Ga G hc;have hi:=S.i Γ X aa ae tg iter G;have hg:=λC s H fp=>(lP (GK C s H fp aa ae) n tg g h2).1
  have kg:=(lP (GK 0 X.s₀ X.aa [] aa ae) n tg g h2).2.1;have he:=λC s H fp=>S.e _ _ _ _ (CV m) elt (GK C s H fp aa ae)
  rcases ifs with _ | ⟨c,_ | _⟩
  ·exact⟨(AW G.calm SC hi (Y4 hg he) (gf hp _)).imp λσ H Q h=>Fl kg hL h,λi x p' sp hx hl hw=>(AX G.calm G.nd hx hl SC hi (Y4 hg he) hw (gf hp _)).imp λD σ H h=>Fl kg hL (oo h)⟩
  ·have ht:=λC s H fp=>S.t _ _ _ _ c (GK C s H fp aa ae)
   exact⟨(AW G.calm SC hi (Y5 hg he ht) (gf hp _)).imp λσ H Q h=>Fm kg hL h,λi x p' sp hx hl hw=>(AX G.calm G.nd hx hl SC hi (Y5 hg he ht) hw (gf hp _)).imp λD σ H h=>Fm kg hL (oo h)⟩
  ·exact J9
def OM(Γ:Gm)(X:Cx)(aa:Hp)(ae:Fz)(a:Expr)(es:List Expr)(p cp:Pos)(G:GOk Γ X aa ae)(hp:(a::es).all bf=true)(hg:uT Γ "spread"=true):PE X (.Call (.Name "spread" p) (a::es) [] cp) (tE X aa ae (Ge (n+1) Γ a es)):=by
 exact aV
def TN(Γ:Gm)(X:Cx)(aa:Hp)(ae:Fz)(m:Nat)(x:Str)(a:Expr)(es:List Expr)(p cp:Pos)(G:GOk Γ X aa ae)(hp:(a::es).all bf=true)(hn:iF x=true)(hg:uT Γ x=true):PE X (.Call (.Name x p) (a::es) [] cp) (tE X aa ae (OH (n+1) Γ m x a es)):=by
 have CD:=hp;rw[i7,aF]at CD;obtain⟨n1,n2,n3⟩:=gg hn;have ha:=S.a Γ X aa ae 0 (a::es) G;have h1:=bF CD.1 es X.env;have h2:=gG CD.2 X.env cp;refine pI (λhx=>?_) ?_
 ·cases aU hx;exact S.sp Γ X aa ae a es p cp G hp hg
 cases hk:Γ.fns.lookup x with
 | some k =>
  refine pI (λ_=>?_) ?_
  ·obtain⟨j,f,fd,ps,F,hr,q1,q2,q3⟩:=G.fns _ k hk;exact Fp (XA F hr q3) (G.js hg) q1 q2 ha n1 h1 h2
  ·cases hd:Γ.jA.lookup x with
   | none=>exact aV
   | some ds =>
    obtain⟨j,f,fd,ps,jb,oX,F,hr,q1,q2,r1,r2,q3⟩:=G.jA x ds k hd hk;exact Fp (To F hr q3 r1 r2) (G.js hg) q1 q2 ha n1 h1 h2
 | none=>cases hk:Γ.cls.lookup x with
  | some k=>cases m with
   | zero=>exact aV
   | succ =>
    obtain⟨j,Ca,f,fd,ps,hC,c,M,F,hr,q1,q2⟩:=G.cls _ k hk;exact(IM (p:=p) M F hr (G.js hg) q1 q2 .nil rV ha n1 h1 h2).imp λσ H Q h=>Bn hC c h
  | none =>
   refine pJ λhb=>pI (λhx=>?_) (pI (λhx=>?_) (pI (λhx=>?_) (pI (λhx=>?_) ?_)))
   ·cases aU hx;exact S.is Γ X aa ae a es p cp G hp hg hb
   ·cases aU hx;exact S.st Γ X aa ae a es p cp G hp hg hb
   ·cases aU hx;exact S.d Γ X aa ae a es p cp G hp hg hb
   ·cases aU hx;exact S.li Γ X aa ae m a es p cp G hp hg hb
   cases hg':uX x with
   | some g=>exact OB hg' G.hd (G.js hg) (G.dB _ hb) ha h1 h2
   | none=>exact aV
def TQ(Γ:Gm)(X:Cx)(aa:Hp)(ae:Fz)(m:Nat)(f a:Expr)(es:List Expr)(cp:Pos)(G:GOk Γ X aa ae)(hp:(a::es).all bf=true):PE X (.Call f (a::es) [] cp) (tE X aa ae (OG (n+1) Γ m f a es cp)):=by
 have CD:=hp;rw[i7,aF]at CD;cases f with
 | Name=>exact pJ λhn=>pJ λhg=>S.cn Γ X aa ae m _ a es _ cp G hp hn hg
 | Subscript=>exact JM G.fns G.ns (S.e Γ X aa ae 0 _ G) (S.a Γ X aa ae 0 _ G) (bF CD.1 _ _) (gG CD.2 _ _)
 | Attribute o g ap =>
  refine pJ λhc=>?_
  simp only[aF,tJ]at hc;show PE X _ (tE X aa ae (match wC g with | some w=>_ | none=>CU (sy Γ.HP g) Γ.call g (aY n Γ 0 o) (jO n Γ 0 (a::es))))
  cases hw:wC g with
  | none=>exact Ou G.HP (S.e Γ X aa ae 0 _ G) (S.a Γ X aa ae _ _ G) (jH hc.1.1) (Bq hp hc.2) hc.1.2 (bF CD.1 _ _) (gG CD.2 _ _)
  | some w=>exact W0 G.un hw (S.e Γ X aa ae 0 _ G) (S.a Γ X aa ae _ _ G) (jH hc.1.1) (Bq hp hc.2) hc.1.2 (bF CD.1 _ _) (gG CD.2 _ _)
 | _=>exact aV
def TR(Γ:Gm)(X:Cx)(aa:Hp)(ae:Fz)(m:Nat)(e:Expr)(G:GOk Γ X aa ae):PE X e (tE X aa ae (aY (n+1) Γ m e)):=by
 cases e with
 | Constant c=>cases c<;>first | exact aV | exact RK | exact Wt | exact RJ | exact RL
 | Name x =>
  show PE X _ (tE X aa ae (OC Γ x));unfold OC;split
  ·rename_i hn;split
   ·rename_i hv;split
    ·rename_i i hi;exact RI i (CW G hn hv hi)
    ·exact aV
   ·split
    ·rename_i hg;split
     ·rename_i q hq;obtain⟨u,v,g1,g2,g3⟩:=G.cons _ q hq;exact vY (ui (G.js hg) g1 g2 (gg hn).1) g3
     ·exact aV
    ·exact aV
  ·exact aV
 | BinOp a op b =>
  show PE X _ (tE X aa ae (match J2 op with | some g=>op2 g (aY n Γ 0 a) (aY n Γ 0 b) | none=>bU))
  cases h1:J2 op with
  | none=>exact aV
  | some=>exact Wu (FL h1) (S.e Γ X aa ae 0 _ G) (S.e Γ X aa ae 0 _ G)
 | UnaryOp op=>cases op with
  | Not=>exact RS (S.e Γ X aa ae 0 _ G)
  | USub=>exact Sh (S.e Γ X aa ae 0 _ G)
  | _=>exact aV
 | BoolOp=>exact S.b Γ X aa ae _ _ _ G
 | Compare=>exact S.k Γ X aa ae _ _ _ _ G
 | IfExp=>exact Wx (S.t Γ X aa ae _ G) (S.e Γ X aa ae m _ G) (S.e Γ X aa ae m _ G)
 | Tuple=>exact RU (S.a Γ X aa ae m _ G)
 | List=>cases m with
  | zero=>exact RV (S.a Γ X aa ae 0 _ G)
  | succ=>exact Nh (S.a Γ X aa ae _ _ G)
 | Dict ks vs=>rcases ks with _ | _<;>rcases vs with _ | _<;>first | exact SQ _ | exact aV
 | Subscript=>exact S.x Γ X aa ae _ _ _ G
 | ListComp=>exact(S.c Γ X aa ae m _ _ _ _ G).1
 | Attribute =>
  show PE X _ (tE X aa ae (ite _ _ _));split
  ·rename_i hb;exact SU (S.e Γ X aa ae 0 _ G) (jH hb)
  ·exact aV
 | Call f as ks=>cases as with
  | cons=>cases ks with
   | cons=>exact aV
   | nil =>
    show PE X _ (tE X aa ae (ite _ _ _));split
    ·rename_i hp;exact S.f Γ X aa ae m _ _ _ _ G hp
    ·exact aV
  | nil=>cases ks with
   | cons=>cases f<;>exact aV
   | nil=>cases f with
    | Attribute =>
     show PE X _ (tE X aa ae (ite _ _ _));split
     ·rename_i hc;rw[aF]at hc;split
      ·rename_i hx;have hx:=aU hx;subst hx;exact Ox (S.e Γ X aa ae 0 _ G) (jH hc.1) hc.2
      split
      ·rename_i w hw;exact SM hw (S.e Γ X aa ae 0 _ G) (jH hc.1) hc.2
      ·exact J8 G.HP (S.e Γ X aa ae 0 _ G) (jH hc.1) hc.2
     ·exact aV
    | Name C =>
     refine pJ λhc=>?_
     rw[aF]at hc;obtain⟨n1,n2,n3⟩:=gg hc.1;refine pI (λh0=>?_) ?_
     ·obtain⟨Ca,hC,c,M,hm⟩:=G.vz _ h0;exact Ti M hC c (G.js hc.2) hm n1
     ·cases hk:Γ.cls.lookup C with
      | none=>exact aV
      | some k =>
       obtain⟨j,Ca,f,fd,ps,hC,c,M,F,hr,q1,q2⟩:=G.cls _ k hk;exact(FT M F hr (G.js hc.2) q1 q2 .nil rV n1).imp λσ H Q h=>FU hC c h
    | _=>exact aV
 | _=>exact aV
end
theorem snd:∀n:Nat,XD n
 | 0=>Gk
 | n+1 =>
  have S:=snd n
  ⟨TR S,TQ S,TN S,OM,OJ,TJ S,OK S,OL S,TC S,TK S,TF S,Tu S,Tv S,Tw S,Tz S,TL S,TM S⟩
structure XE (Γ:Gm) (X:Cx) (aa:Hp) (ae:Fz):Prop extends GOk Γ X aa ae where
 never:PassesOwn (model X.prog X.w) X.A X.env X.xe
def Gn:Expr->Bool
 | .ListComp _ _ _ _=>true
 | _=>false
def wR:G2:=mM (λ_ _=>true) λi j=>.int (i+j)
def zE:Operator->Option G2
 | .Add=>some wR
 | _=>none
def sI{c:Prop} [Decidable c] (h:c->PS X e (tS X aa ae f)):PS X e (tS X aa ae (if c then f else bU)):=by
 split
 ·exact h ‹_›
 ·exact gi
section
variable {Γ:Gm} {X:Cx} {x:Str} {p sp:Pos} {e:Expr} {op:Operator} {i:Nat} {aa:Hp} {ae:Fz} {fe:Gx PV} {g:G2}
def Br(h:zE op=some g):oj X (inplaceOp op) g:=by
 cases op<;>cases h
 exact eG (rX ID) (λ_ _ _=>trivial) λ_ _ _=>aC.mpr rfl
def Ka{st:cb}(h:rd i st=some r):∃p,st.ρ[i]?=some (some p)/\r=(.ok p,st):=by
 obtain⟨p,e1,e2⟩:=aO h;cases z:st.ρ[i]? with
 | none=>rw[z]at e1;cases e1
 | some o =>
  rw[z]at e1;cases o with
  | none=>cases e1
  | some p'=>cases e1;exact⟨p,rfl,e2.symm⟩
def TU(ho:oj X (inplaceOp op) g)(he:PE X e (tE X aa ae fe))(hN:X.N.Nodup)(hi:X.N[i]?=some x)(hx:KY X.env.scope x)(hf:X.fn x=true\/X.env.scope.names.lookup x=some .local):PS X (.AugAssign (.Name x p) op e sp) (tS X aa ae (lA (op2 g (rd i) fe) (dc i))):=by
 refine(ME hN hi hx he (λaf s σ H x y v u Q I r1 r2 t=>ho af s σ H x y v u Q I r1 r2 t) hf).imp λD σ H h=>?_
 obtain⟨F,st,R,h⟩:=oo h;obtain⟨r,e1,e2⟩:=At.bnd h;obtain⟨q,e3,rfl⟩:=Ka e1;obtain⟨v,h3,h4⟩:=R.l.av i q e3;refine⟨v,h3,F,st,R,Tx.bnd (e2) λy w F1 st1 H1 R1 g1 b1 h1=>?_⟩
 obtain⟨z,hz,k⟩:=h1.hp;exact⟨aa,ae,F1,st1,σ,q,y,z,hz,R1,h4.mono g1,b1,k⟩
def wU(G:GOk Γ X aa ae)(hs:slot Γ x=some i)(hx:Qo Γ x=true)(he:PE X e (tE X aa ae fe))(hsw:swapsWith e (some (.Name x p)) sp.line X.env=pure false):PS X (.Assign [.Name x p] e sp) (tS X aa ae (lA fe (dc i))):=by
 obtain⟨h1,h2⟩:=G.OA hx;exact(MD G.nd (G.sF hs) h1 he hsw h2).imp λD σ H h=>oo h
def zF :
  (swapsWith (.ListComp elt gens scope cp) (some (.Name x p)) sp.line X.env=pure true/\X.env.scope.names.lookup x=some .local)\/swapsWith (.ListComp elt gens scope cp) (some (.Name x p)) sp.line X.env=pure false:=by
 have e:swapsWith (.ListComp elt gens scope cp) (some (.Name x p)) sp.line X.env=pure (X.env.blockKind==.function&&X.env.kindOf x==some .local&&p.line==(Expr.ListComp elt gens scope cp).pos.line&&!(scope.names.any fun(n,k)=>n==x&&(k==.local || k==.cell))):=rfl
 rw[e];cases hb:(X.env.blockKind==.function&&X.env.kindOf x==some .local&&p.line==(Expr.ListComp elt gens scope cp).pos.line&&!(scope.names.any fun(n,k)=>n==x&&(k==.local || k==.cell)))with
 | true =>
  refine .inl ⟨rfl,?_⟩;simp only[aF]at hb;exact aU hb.1.1.2
 | false=>exact .inr rfl
def CZ(h:(jq e || Gn e)=true)(l:Nat)(env:Env):swapsWith e (some (.Attribute a x p)) l env=pure false:=by
 cases e<;>first | rfl | cases h
def C0{a x:Expr}(h:(jq e || Gn e)=true)(l:Nat)(env:Env):swapsWith e (some (.Subscript a x p)) l env=pure false:=by
 cases e<;>first | rfl | cases h
def zG(h:ou k=true)(env:Env)(v:Value):assign (.Subscript o k p) env v=(do
   let ov <-holding [v] (eval o env)
   let iv <-holding [v,ov] (eval k env)
   standAt p
   holding [v,ov,iv] (setItem ov iv v)
   release [v,ov,iv] []):=by
 cases k<;>first | rfl | cases h
def zH(env:Env):swappedStores [.Subscript o k p] e env=pure none:=by
 cases e<;>rfl
end
def Zy:Nat:=8000000
def isD(Γ:Gm):Expr->Bool
 | .Name x _=>md Γ x==10
 | _=>false
def Zz:Str:="[return]"
def asName(n:Nat)(Γ:Gm)(x:Str)(e:Expr):Gx dJ:=if(Qo Γ x&&(jq e || Gn e))=true then(match slot Γ x with | some i=>lA (aY n Γ (md Γ x) e) (dc i) | none=>bU)else bU
noncomputable def LG(n:Nat)(Γ:Gm)(tg e:Expr):Gx dJ:=match tg with
 | .Name x _=>asName n Γ x e
 | .Tuple ts k p=>if Bp e=true then(match uW n Γ (.Tuple ts k p)with | some g=>lA (aY n Γ 0 e) g.1 | none=>bU)else bU
 | .Subscript o k _=>if(ou k&&(jq e || Gn e))=true then N7 (aY n Γ (Ts Γ o) e) (aY n Γ 0 o) (aY n Γ 0 k)else bU
 | .Attribute o f _=>if(jq e || Gn e)=true then JO Γ.clss Γ.flds f (aY n Γ (md Γ f) e) (aY n Γ 0 o)else bU
 | _=>bU
noncomputable def LH(n:Nat)(Γ:Gm)(tg:Expr)(op:Operator)(e:Expr):Gx dJ:=match tg with
 | .Name x _=>if Qo Γ x=true then(match slot Γ x,zE op with | some i,some g=>lA (op2 g (rd i) (aY n Γ 0 e)) (dc i) | _,_=>bU)else bU
 | .Attribute o f _=>(match zE op with | some g=>FW Γ.clss Γ.flds f g (aY n Γ 0 o) (aY n Γ 0 e) | none=>bU)
 | _=>bU
mutual
noncomputable def ON:Nat->Gm->Stmt->Gx dJ
 | 0,_,_=>bU
 | n+1,Γ,st=>match st with
  | .Pass _=>cx .nx
  | .Break _=>cx .bk
  | .Continue _=>cx .ct
  | .Return none _=>cx (.rt .az)
  | .Return (some e) _=>if md Γ Zz==7 then EJ (NZ (aY n Γ 1 e))else EJ (aY n Γ (md Γ Zz) e)
  | .If c a b _=>nR (rf n Γ c) (jt n Γ a) (jt n Γ b)
  | .While c b [] _=>kD (rf n Γ c) (jt n Γ b) Zy
  | .For tg iter body [] _=>if bf iter=true then(match uW n Γ tg with | some g=>if isD Γ iter=true then bU else JJ (Gj n Γ tg iter) g.1 (jt n Γ body) | none=>bU)else bU
  | .Expr e _=>if jq e=true then AJ (aY n Γ 0 e)else bU
  | .Assign [tg] e _=>LG n Γ tg e
  | .AugAssign tg op e _=>LH n Γ tg op e
  | _=>bU
termination_by structural n=>n
noncomputable def jt:Nat->Gm->List Stmt->Gx dJ
 | 0,_,_=>bU
 | n+1,Γ,[]=>cx .nx
 | n+1,Γ,[st]=>ON n Γ st
 | n+1,Γ,st::Qp=>yY (ON n Γ st) (jt n Γ Qp)
termination_by structural n=>n
end
structure XF (n:Nat):Prop where
 s:∀Γ X aa ae st,XE Γ X aa ae->PS X st (tS X aa ae (ON n Γ st))
 ss:∀Γ X aa ae Qp,XE Γ X aa ae->PSs X Qp (tS X aa ae (jt n Γ Qp))
def OO:PSs X s (tS X aa ae bU):=λ_ _ _ _ _ _ ⟨F,st,R,r,z,_⟩=>by cases z
def OP(G:GOk Γ X aa ae):PS X (.Assign [tg] e sp) (tS X aa ae (LG n Γ tg e)):=by
 have S:=snd n;cases tg with
 | Name x p =>
  refine sI λhc=>?_
  rw[aF]at hc;cases hi:slot Γ x with
  | none=>exact gi
  | some i =>
   rcases Bool.or_eq_true _ _▸hc.2 with hn | hl
   ·exact wU G hi hc.1 (S.e Γ X aa ae _ _ G) (jr hn _ _ _)
   ·cases e<;>try (exact absurd hl cQ)
    rcases zF with⟨z,hl⟩ | z
    ·cases n with
     | zero=>exact uZ
     | succ n=>exact((snd n).c Γ X aa ae _ _ _ _ _ G).2 i x p sp (G.sF hi) hl z
    ·exact wU G hi hc.1 (S.e Γ X aa ae _ _ G) z
 | Tuple ts k tp =>
  refine sI λhc=>?_
  cases h1:uW n Γ (.Tuple ts k tp)with
  | none=>exact gi
  | some g =>
   obtain⟨g1,g2,g3,g4⟩:=lP G n _ g h1;refine RY (S.e Γ X aa ae _ _ G) g1 (jr (uV hc) (some (Expr.Tuple ts k tp)) sp.line X.env) ?_ (g3 _);cases e<;>first | rfl | cases hc
 | Subscript o k tp =>
  refine sI λhc=>?_
  rw[aF]at hc;exact SO G.un (S.e Γ X aa ae _ _ G) (S.e Γ X aa ae _ _ G) (S.e Γ X aa ae _ _ G) (zG hc.1 _) (C0 (a:=o) (x:=k) (p:=tp) hc.2 sp.line X.env) (zH _)
 | Attribute=>exact sI λhc=>SV G.Oz (S.e Γ X aa ae _ _ G) (S.e Γ X aa ae _ _ G) (CZ hc _ _)
 | _=>exact gi
def OQ(G:GOk Γ X aa ae):PS X (.AugAssign tg op e sp) (tS X aa ae (LH n Γ tg op e)):=by
 cases tg with
 | Name x p =>
  refine sI λhc=>?_
  cases h1:slot Γ x with
  | none=>exact gi
  | some i=>cases h2:zE op with
   | none=>exact gi
   | some g =>
    obtain⟨l1,l2⟩:=G.OA hc;exact TU (Br h2) ((snd n).e Γ X aa ae _ _ G) G.nd (G.sF h1) l1 l2
 | Attribute o f p =>
  cases h2:zE op with
  | none=>show PS X _ (tS X aa ae (match zE op with | some g=>FW Γ.clss Γ.flds f g (aY n Γ 0 o) (aY n Γ 0 e) | none=>bU));rw[h2];exact gi
  | some g=>show PS X _ (tS X aa ae (match zE op with | some g=>FW Γ.clss Γ.flds f g (aY n Γ 0 o) (aY n Γ 0 e) | none=>bU));rw[h2];exact Ov G.Oz ((snd n).e Γ X aa ae _ _ G) ((snd n).e Γ X aa ae _ _ G) (Br h2)
 | _=>exact gi
theorem XG:∀n:Nat,XF n
 | 0=>⟨λ_ _ _ _ _ _=>gi,λ_ _ _ _ _ _=>OO⟩
 | n+1=>by
  have T:=XG n;have S:=snd n;refine⟨λΓ X aa ae st G=>?_,λΓ X aa ae Qp G=>?_⟩
  ·cases st with
   | Pass=>exact Nk
   | Break=>exact Jf
   | Continue=>exact Nl
   | Return e=>cases e with
    | none=>exact Nn
    | some e =>
     show PS X _ (tS X aa ae (ite _ _ _));split
     ·exact Ld (SE (S.e Γ X aa ae _ _ G.toGOk))
     ·exact Ld (S.e Γ X aa ae _ _ G.toGOk)
   | If=>exact Wy (S.t Γ X aa ae _ G.toGOk) (T.ss Γ X aa ae _ G) (T.ss Γ X aa ae _ G)
   | While c b o=>cases o with
    | nil=>exact Ji Zy G.never (S.t Γ X aa ae _ G.toGOk) (T.ss Γ X aa ae _ G)
    | cons=>exact gi
   | For tg iter body o=>cases o with
    | cons=>exact gi
    | nil =>
     refine sI λhp=>?_
     cases h1:uW n Γ tg with
     | none=>exact gi
     | some g =>
      show PS X _ (tS X aa ae (ite _ _ _));split
      ·exact gi
      ·exact NY G.never G.calm (S.i Γ X aa ae _ _ G.toGOk) (lP G.toGOk n _ g h1).1 (T.ss Γ X aa ae _ G) (gf hp _)
   | Expr=>exact sI λhc=>Np (S.e Γ X aa ae _ _ G.toGOk) (jr hc _ _ _)
   | Assign ts=>rcases ts with _ | ⟨_,_ | _⟩<;>first | exact OP G.toGOk | exact gi
   | AugAssign=>exact OQ G.toGOk
   | _=>exact gi
  ·rcases Qp with _ | ⟨st,_ | _⟩
   ·exact Ni
   ·exact Nj (T.s Γ X aa ae st G)
   ·exact Je (T.s Γ X aa ae st G) (T.ss Γ X aa ae _ G)
def Kb{P:Program}{w:World}{K:W.Frag}{mg:Str->Option Value}{base:Heap}{x qual:Str}{st:Stmt}{f:Addr}{fd:FuncData}{dV:Value}{N ps:List Str}{k:Nat}{sp:Sp}(F:qT K x qual st f fd dV)(S:cF N ps (ao st))(len:∀vs H Q E,sp vs H Q E->vs.length=ps.length)
  (hbody:∀(cM:Value) (A:Around) (ax:List Env) (s:Shared) (H:Hp) (vs:List V) (Q:VK) (E:XK),uK K f cM->cS k (A.deeper (envOfC qual (ao st) s.heap.objs.size f cM))->sp vs H Q E ->
   ∃t,PSs (eM (g7 P w) P w K mg base N qual (ao st) f cM A ax s H E) (bR st) t/\t {nx:=λ_ H'=>Q .az H',rt:=Q} (start N vs) H):FnOk P w K mg base (g7 P w) (k+1) f fd ps sp:=by
 obtain⟨oc,od,kV,doc,pm,an,cM,ct,oW,rfl,lk,xG⟩:=F.ex;exact K6 lk xG S len λA ax s H vs Q E hr K7=>hbody cM A ax s H vs Q E ⟨oc,od,_,oW,lk,rfl⟩ hr K7
def OR{P:Program}{w:World}{K:W.Frag}{mg:Str->Option Value}{base:Heap}{x qual:Str}{st:Stmt}{f:Addr}{fd:FuncData}{N ps:List Str}{k:Nat}{fb:Gx dJ}{dV:Value}(F:qT K x qual st f fd dV)(S:cF N ps (ao st))
  (hbody:∀(cM:Value) (A:Around) (ax:List Env) (s:Shared) (H:Hp) (E:XK),uK K f cM->cS k (A.deeper (envOfC qual (ao st) s.heap.objs.size f cM))->∀(aa:Hp) (ae:Fz),
   PSs (eM (g7 P w) P w K mg base N qual (ao st) f cM A ax s H E) (bR st) (tS (eM (g7 P w) P w K mg base N qual (ao st) f cM A ax s H E) aa ae fb)):FnOk P w K mg base (g7 P w) (k+1) f fd ps (sh K ps.length (ik fb N.length)):=by
 refine Kb F S (by rintro vs H Q E ⟨_,_,_,_,_,_,_,_,b,hl,_⟩;rw[<-b.length];exact hl) λcM A ax s H vs Q E Va hr z9=>?_
 obtain⟨aa,F,h,as,r,h',C,full,b,hl,hf,res⟩:=z9;refine⟨_,hbody cM A ax s H E Va hr aa F,F,⟨gS N.length as,h⟩,⟨C,wz b⟩,?_⟩;obtain⟨q,e1,e2⟩:=aN hf;refine⟨q,e1,?_⟩;rcases q with⟨f | ⟨m,c⟩,st⟩
 ·cases f with
  | rt=>cases e2;exact λv F' H' C' g b'=>res v F' H' C' b'
  | nx=>cases e2;exact λF' bD H' R g=>res .az F' H' R.c (cN.mpr rfl)
  | _=>cases e2
 ·cases e2;cases m with
  | true=>exact λF' bD H' af s1 h1 a cls vs R sf I hc hm=>Ba I hm (Bb full R.c) (res cls F' H' R.c hc)
  | false=>exact λbD af H1 s1 e s' I h=>wx I h (by rintro cls H2 ⟨hc,F',R,sf⟩;exact⟨Bb full R.c,res cls F' H2 R.c hc⟩)
def zI:Nat:=120
abbrev CT:=Str->jm
def noFn:CT:=λ_ _ _=>none
def Kc(P:Pg):List (Str×Nat):=P.cls.map λd=>(d.1,(params d.2).length)
def TV(P:Pg)(x:Str)(st:Stmt)(cls:List (Str×Nat))(make:CT)(FY:Option ((PV->Gx PV)->Nat->jm))(FZ:Option (Nat×(PV->Gx PV)))(c:CT):Gm where
 sc:=(ao st).names
 N:=bK st
 own:=true
 fns:=P.defs.map λd=>(d.1,(params d.2).length)
 call:=c
 cons:=P.cons
 dB:=P.dB
 tabs:=P.tabs
 eA:=P.eA
 cls:=cls
 make:=make
 clss:=P.cls.map (·.1)
 flds:=P.flds
 QC:=(P.QC.lookup x).getD []
 FY:=FY
 FZ:=FZ
 HP:=P.fV.map λd=>((d.2.1,d.2.2.1),(d.1,(params d.2.2.2).length))
 jA:=P.jA
 vz:=P.vz
def ZA(P:Pg)(C:Str)(st:Stmt)(c:CT):Gx dJ:=jt zI (TV P C st [] noFn none none c) (bR st)
def Qq(P:Pg)(c:CT):CT:=λC=>match P.cls.lookup C with | some st=>ik (ZA P C st c) (bK st).length | none=>λ_ _=>none
def TX(P:Pg)(x:Str)(c:CT):Option ((PV->Gx PV)->Nat->jm):=none
def XH(P:Pg)(x:Str)(st:Stmt)(c:CT):Gx dJ:=jt zI (TV P x st (Kc P) (Qq P c) (TX P x c) none c) (bR st)
noncomputable def kB(P:Pg)(x:Str):Option Stmt:=match P.defs.lookup x with | some st=>some st | none=>(P.fV.lookup x).map (·.2.2)
def run(P:Pg):Nat->CT
 | 0=>noFn
 | k+1=>λx=>match kB P x with | some st=>ik (XH P x st (run P k)) (bK st).length | none=>λ_ _=>none
def OS{P:Pg}{k:Nat}{x:Str}{st:Stmt}(h:kB P x=some st):run P (k+1) x=ik (XH P x st (run P k)) (bK st).length:=by
 show(match kB P x with | some st=>ik (XH P x st (run P k)) (bK st).length | none=>λ_ _=>none)=_
 rw[h]
theorem gH{α β:Type}(g:α->β)(x:Str):∀l:List (Str×α),(l.map λd=>(d.1,g d.2)).lookup x=(l.lookup x).map g
 | []=>rfl
 | (n,a)::r=>by
  rw[aQ,ek,ek];cases x==n with
  | true=>rfl
  | false=>exact gH g x r
section
variable {prog:Program} {w:World} {K:W.Frag} {mg:Str->Option Value} {base:Heap}
structure jP (P:Pg) (w:World) (K:W.Frag) (mg:Str->Option Value):Prop where
 fns:∀x st,P.defs.lookup x=some st->∃f fd dV,qT K x x st f fd dV/\cE K fd (params st) []/\mg x=some (.ref f)/\cF (bK st) (params st) (ao st)/\∀ds,P.jA.lookup x=some ds->∃jb oX,Vals jb oX/\(∀F,au K F ds jb)/\cE K fd (params st) oX
 fV:∀d∈P.fV,∃Ca f fd dV,ClsAt K d.2.1 (.ref Ca)/\DI K Ca d.2.2.1 f/\qT K d.2.2.1 d.1 d.2.2.2 f fd dV/\cE K fd (params d.2.2.2) []/\cF (bK d.2.2.2) (params d.2.2.2) (ao d.2.2.2)/\kB P d.1=some d.2.2.2
 vz:∀C,P.vz.contains C=true->∃Ca,ClsAt K C (.ref Ca)/\qS K Ca/\UM K Ca/\mg C=some (.ref Ca)
 cons:∀x p,P.cons.lookup x=some p->∃u v,mg x=some u/\RelV v u/\∀F,bu K F p v
 dB:∀x,P.dB.contains x=true->mg x=none
 tabs:∀T rows,P.tabs.lookup T=some rows->Bc K mg w.params T rows
 eA:∀T rows,P.eA.lookup T=some rows->uL K mg w.params T rows
 ns:∀x a,W.nsIn K mainGlobals x=some (some (.ref a))->mg x=some (.ref a)
 Oz:Bf K (P.cls.map (·.1)) P.flds
 cls:∀C st,P.cls.lookup C=some st->∃Ca f fd,ClsAt K C (.ref Ca)/\qS K Ca/\Mk K Ca f/\mg C=some (.ref Ca)/\KQ K "__init__" (C++".__init__") st f fd/\cE K fd (params st) []/\cF (bK st) (params st) (ao st)
def FR(P:Pg)(prog:Program)(w:World)(K:W.Frag)(mg:Str->Option Value)(base:Heap)(k:Nat):Prop:=∀(x nm q:Str) (st:Stmt) (f:Addr) (fd:FuncData) (dV:Value),kB P x=some st->qT K nm q st f fd dV->cF (bK st) (params st) (ao st) ->
 FnOk prog w K mg base (g7 prog w) (3*k) f fd (params st) (sh K (params st).length (run P k x))
def qf{P:Pg}{x:Str}{st:Stmt}(h:P.defs.lookup x=some st):kB P x=some st:=by
 unfold kB;rw[h]
section
variable {P:Pg} (O:jP P w K mg) {k:Nat} (ih:FR P prog w K mg base k)
include O ih
def TY{X:Cx}(h1:X.prog=prog)(h2:X.w=w)(h3:X.K=K)(h4:X.mg=mg)(h5:X.base=base):Tq X (3*k) (P.defs.map λd=>(d.1,(params d.2).length)) (run P k):=λy n hy=>by
 subst h1 h2 h3 h4 h5;rw[gH (λst=>(params st).length)]at hy
 obtain⟨st',h1,h2⟩:=aO hy;subst h2;obtain⟨f',Dx,dV,F1,B1,m1,S1,_⟩:=O.fns y st' h1;exact⟨3*k,f',Dx,params st',aD _,ih y y y st' f' Dx dV (qf h1) F1 S1,m1,F1.kp,B1⟩
def TZ{X:Cx}(h1:X.prog=prog)(h2:X.w=w)(h3:X.K=K)(h4:X.mg=mg)(h5:X.base=base)(hr:cS (3*k) X.A):LB X (P.defs.map λd=>(d.1,(params d.2).length)) (run P k) P.jA:=λy ds n hd hy=>by
 subst h1 h2 h3 h4 h5;rw[gH (λst=>(params st).length)]at hy
 obtain⟨st',h1,h2⟩:=aO hy;subst h2;obtain⟨f',Dx,dV,F1,B1,m1,S1,D1⟩:=O.fns y st' h1;obtain⟨jb,oX,d1,d2,d3⟩:=D1 ds hd;exact⟨3*k,f',Dx,params st',jb,oX,ih y y y st' f' Dx dV (qf h1) F1 S1,hr,m1,F1.kp,d1,d2,d3⟩
def T3{X:Cx}(h1:X.prog=prog)(h2:X.w=w)(h3:X.K=K)(h4:X.mg=mg)(h5:X.base=base)(hr:cS (3*k) X.A):uS X (P.fV.map λd=>((d.2.1,d.2.2.1),(d.1,(params d.2.2.2).length))) (run P k):=λC m y hy=>by
 subst h1 h2 h3 h4 h5;obtain⟨d,hd,e⟩:=ez.mp hy;cases e;obtain⟨Ca,f',Dx,dV,c1,M1,F1,B1,S1,L1⟩:=O.fV d hd;exact⟨3*k,f',Dx,params d.2.2.2,Ca,c1,M1,ih d.1 d.2.2.1 d.1 d.2.2.2 f' Dx dV L1 F1 S1,hr,B1⟩
def LI{st:Stmt}{x q:Str}{f:Addr}{cM:Value}{A:Around}{ax:List Env}{s:Shared}{H aa:Hp}{ae:Fz}{E:XK}{cls:List (Str×Nat)}{make:CT}{FY:Option ((PV->Gx PV)->Nat->jm)}{FZ:Option (Nat×(PV->Gx PV))}{j:Nat}(S:cF (bK st) (params st) (ao st))
  (hr:cS j (A.deeper (envOfC q (ao st) s.heap.objs.size f cM))) (hj:3*k<=j) (hcl:∀C n,cls.lookup C=some n->∃k' Ca f' fd ps,ClsAt K C (.ref Ca)/\qS K Ca/\Mk K Ca f'/\FnOk prog w K mg base (g7 prog w) k' f' fd ps (sh K n (make C))/\cS (k'+1) (A.deeper (envOfC q (ao st) s.heap.objs.size f cM))/\mg C=some (.ref Ca)/\cE K fd ps [])
  (XI:∀rs,FY=some rs->LC (TV P x st cls make FY FZ (run P k)) (eM (g7 prog w) prog w K mg base (bK st) q (ao st) f cM A ax s H E) rs)
  (XJ:∀n ω,FZ=some (n,ω)->Fx (eM (g7 prog w) prog w K mg base (bK st) q (ao st) f cM A ax s H E) aa ae n ω) :
  XE (TV P x st cls make FY FZ (run P k)) (eM (g7 prog w) prog w K mg base (bK st) q (ao st) f cM A ax s H E) aa ae:=by
 refine⟨⟨rfl,rfl,S.nd,S.kind,rfl,hr.hd,?_,λ_ _=>rfl,λy n hy=>?_,O.cons,O.dB,O.tabs,O.eA,O.ns,O.Oz,hcl,XI,XJ,T3 (X:=eM (g7 prog w) prog w K mg base (bK st) q (ao st) f cM A ax s H E) O ih rfl rfl rfl rfl rfl (hr.mono hj),TZ (X:=eM (g7 prog w) prog w K mg base (bK st) q (ao st) f cM A ax s H E) O ih rfl rfl rfl rfl rfl (hr.mono hj),O.vz⟩,PassesOwn.leaving⟩
 ·have:=hr.un;show(A.deeper _).units+1150<cLine
  lia
 ·obtain⟨i,f',Dx,ps,h1,h2,h3,h4,h5⟩:=TY (X:=eM (g7 prog w) prog w K mg base (bK st) q (ao st) f cM A ax s H E) O ih rfl rfl rfl rfl rfl y n hy;exact⟨i,f',Dx,ps,h2,hr.mono (aP h1 hj),h3,h4,h5⟩
def Gp{C:Str}{st:Stmt}{f:Addr}{fd:FuncData}(h:P.cls.lookup C=some st)(F:KQ K "__init__" (C++".__init__") st f fd)(S:cF (bK st) (params st) (ao st)):FnOk prog w K mg base (g7 prog w) (3*k+1) f fd (params st) (sh K (params st).length (Qq P (run P k) C)):=by
 have e:Qq P (run P k) C=ik (ZA P C st (run P k)) (bK st).length:=by
  unfold Qq;rw[h]
 rw[e];exact N2 F S λcM A ax s H E _ hr aa ae=>(XG zI).ss _ _ aa ae _ (LI O ih S hr (aD _) (λ_ _ z=>by cases z) (λ_ z=>by cases z) λ_ _ z=>by cases z)
end
theorem Gq{P:Pg}(O:jP P w K mg)(hB:P.qU≠[]->ED mg base):∀(k:Nat),FR P prog w K mg base k
 | 0=>λx nm q st f fd dV h F S=>by
  have no:∀vs H Q E,¬sh K (params st).length (run P 0 x) vs H Q E:=λvs H Q E ⟨_,_,_,_,_,_,_,_,_,_,z,_⟩=>by cases z
  exact⟨λvs H Q E h=>absurd h (no vs H Q E),λA ax s H args us vs Q E _ _ _ _ h=>absurd h (no vs H Q E)⟩
 | k+1=>λx nm q st f fd dV h F S=>by
  have ih:=Gq (P:=P) O hB k;rw[OS h];refine OR (k:=3*k+2) F S λcM A ax s H E Va hr aa ae=>(XG zI).ss _ _ aa ae _ (LI O ih S hr (yp _ _) (λC n hy=>?_) (λrs e=>by cases e) λ_ _ z=>by cases z)
  unfold Kc at hy;rw[gH (λst=>(params st).length)]at hy
  obtain⟨st',h1,h2⟩:=aO hy;subst h2;obtain⟨Ca,f',Dx,a,c,M,m1,F1,B1,S1⟩:=O.cls C st' h1;exact⟨3*k+1,Ca,f',Dx,params st',a,c,M,Gp O ih h1 F1 S1,hr,m1,B1⟩
def xI(ns:List Int):PV:=.lst (ns.map .int)
theorem wV{F:Fz}:∀ns:List Int,au K F (ns.map .int) (ns.map V.int)
 | []=>.nil
 | n::r=>.cons (aC.mpr rfl) (wV r)
end
theorem eZ{α β:Type} [BEq α] [LawfulBEq α] {k:α} {v:β}:∀{l:List (α×β)},l.lookup k=some v->(k,v)∈l
 | [],h=>by cases h
 | (a,b)::l,h=>by
  rw[ek]at h;cases z:k==a with
  | true =>
   rw[z]at h;cases h;rw[aU z];exact dk
  | false =>
   rw[z]at h;exact cO _ (eZ h)
def BY.at{K:W.Frag}{h:Heap}{mg:Str->Option Value}{P:Params}{T:Str}{rows:List (Str×Str)}(x:BY K P T rows)(X:K.In h)(G:h.Ns mainGlobals mg):Bc K mg P T rows:=by
 obtain⟨a,es,n,h1,h2,h3,h4⟩:=x;refine⟨a,es,n,W.mg_of X G h1,h2,h3,λk fn e=>?_⟩
 obtain⟨f,h5,h6⟩:=h4 (k,fn) (eZ e);exact⟨f,h5,W.mg_of X G h6,h6⟩
def vF.at{K:W.Frag}{h:Heap}{mg:Str->Option Value}{P:Params}{T:Str}{rows:List (Str×PV)}(x:vF K P T rows)(X:K.In h)(G:h.Ns mainGlobals mg):uL K mg P T rows:=by
 obtain⟨a,es,n,h0,h1,h2,h3,h4⟩:=x;exact⟨a,es,n,h0,W.mg_of X G h1,h2,h3,λk p e=>h4 (k,p) (eZ e)⟩
def DK.at{K:W.Frag}{h base:Heap}{mg:Str->Option Value}(b:DK K)(X:K.In h)(G:h.Ns mainGlobals mg)(Y:K.In base):ED mg base :=
 let ⟨bm,o,h1,h2,h3,h4,h5⟩:=b;⟨bm,o,W.mg_of X G h1,h2,h3,Y _ _ h4,h5⟩
def wW(K:W.Frag):List (Addr×Str):=dm.filterMap λx=>(W.tabIn K x).map λcT=>(cT.2,Ik x)
def C4(K:W.Frag):(wW K).map (·.1)=dm.filterMap λx=>(W.tabIn K x).map (·.2):=by
 unfold wW;rw[List.map_filterMap]
 congr 1
 funext x
 cases W.tabIn K x<;>rfl
def k0.tabs{K:W.Frag}{h:Heap}(t:k0 K h)(X:K.In h):(∀b q,(wW K).lookup b=some q->h.get? b=some {cls:=.none,data:=.fields #[]}/\isCodeTable h b/\K.lookup b=none)/\∀H:Hp,(∀b q,(wW K).lookup b=some q->H b=some (.yx q))->o8 K H:=by
 refine⟨λb q e=>?_,λH hH x hx c T e=>?_⟩
 ·have hm:=eZ e;unfold wW at hm;obtain⟨x,hx,e2⟩:=oJ.mp hm;obtain⟨cT,e3,e4⟩:=j8.mp e2;cases e4;obtain⟨h1,h2,h3⟩:=t.at_ x hx cT.1 cT.2 e3;obtain⟨o,vs,_,_,_,_,_,_,_,g1,g2,g3,g4,_⟩:=W.codeHd_of_K X h1;exact⟨h2,⟨_,o,vs,g1,g2,g3,g4⟩,h3⟩
 ·refine hH T (Ik x) (jB (by rw[C4];exact t.nd) ?_)
  exact oJ.mpr ⟨x,hx,by rw[e];rfl⟩
def T4(P:Pg):Bool:=P.qU.isEmpty || (match P.defs.lookup ("spread":Str)with | some st=>(params st).length==2 | none=>true)
theorem iP{α β:Type} [BEq α] [LawfulBEq α] {x:α}:∀{l:List (α×β)},x∉l.map (·.1)->l.lookup x=none
 | [],_=>rfl
 | (a,b)::l,h=>by
  rw[aQ,bh,not_or]at h;rw[ek,bI.mpr h.1];exact iP h.2
theorem Gs{P:Pg}(hn:(P.defs.map (·.1)++P.fV.map (·.1)).Nodup){d:Str×(Str×Str×Stmt)}(hd:d∈P.fV):kB P d.1=some d.2.2.2:=by
 rw[yh]at hn;have h1:P.defs.lookup d.1=none:=iP λz=>hn.2.2 _ z _ (yc (f:=λy:Str×(Str×Str×Stmt)=>y.1) hd) rfl
 have h2:P.fV.lookup d.1=some d.2:=jB hn.2.1 hd;unfold kB;rw[h1,h2];rfl
def XM{P:Pg}{K:W.Frag}{h:Heap}{mg:Str->Option Value}(X:K.In h)(G:h.Ns mainGlobals mg)(hd:∀d∈P.defs,DJ K P.jA d.1 d.2)(hm:∀d∈P.fV,L7 K d)(hm0:∀C∈P.vz,L8 K C)(ND:(P.defs.map (·.1)++P.fV.map (·.1)).Nodup)
  (hc:∀d∈P.cons,∃u v,W.nsIn K mainGlobals d.1=some (some u)/\RelV v u/\∀F,bu K F d.2 v) (hb:∀x∈P.dB,W.nsIn K mainGlobals x=some none) {w:World} (ht:∀d∈P.tabs,BY K w.params d.1 d.2) (hcl:∀d∈P.cls,L6 K d.1 d.2 P.flds) (hct:∀d∈P.eA,vF K w.params d.1 d.2) (LS:T4 P=true) (Yx:∀x∈P.qU,L9 K x):jP P w K mg where
 fns:=λx st e=>by
  obtain⟨⟨f,fd,dV,a,F,b,c,_⟩,s⟩:=hd (x,st) (eR e);exact⟨f,fd,dV,F,b,W.mg_of X G a,s,c⟩
 fV:=λd ZC=>by
  obtain⟨Ca,f,fd,dV,h1,h2,h3,h4,h5⟩:=hm d ZC;exact⟨Ca,f,fd,dV,h1,h2,h3,h4,h5,Gs ND ZC⟩
 vz:=λC e=>by
  obtain⟨Ca,h1,h2,h3⟩:=hm0 C (by simpa using e)
  exact⟨Ca,h1,h2,h3,W.mg_of X G h1⟩
 cons:=λx p e=>by
  obtain⟨u,v,a,r,b⟩:=hc (x,p) (eR e);exact⟨u,v,W.mg_of X G a,r,b⟩
 dB:=λx e=>W.mg_none_of X G (hb x (by simpa using e))
 tabs:=λT rows e=>(ht (T,rows) (eZ e)).at X G
 eA:=λT rows e=>(hct (T,rows) (eZ e)).at X G
 ns:=λx a e=>W.mg_of X G e
 Oz:=λC e=>by
  have e:C∈P.cls.map (·.1):=by simpa using e
  obtain⟨d,hd,rfl⟩:=ez.mp e;obtain⟨Ca,f,fd,a,M,c,na,F,b,s⟩:=hcl d hd;exact⟨Ca,a,c,λg hg=>na g (by simpa using hg)⟩
 cls:=λC st e=>by
  obtain⟨Ca,f,fd,a,M,c,na,F,b,s⟩:=hcl (C,st) (eR e);exact⟨Ca,f,fd,a,c,M,W.mg_of X G a,F,.all b,s⟩
def Vl(o:Option (Rs PV×List ah)):Prop:=∃h,o=some (.ok (.bl true),h)
def OT{K:W.Frag}{P:Pg}{k:Nat}{H:Hp}{a:Addr}{ns:List Int}(hr:Vl (run P k "law" [xI ns] []))(hS:iJ K H a (ns.map V.int)):sh K 1 (run P k "law") [.ref a] H (λv _=>v=.bl true) λ_ _ _=>False :=
 let ⟨h,e⟩:=hr
 ⟨H,⟨H,[]⟩,[],[xI ns],_,h,⟨b8.refl H,b8.refl H,Gr.refl _,λ_ _ e=>.inl e,λn a e=>by simp at e,rfl,tU,λn c a e=>by simp at e⟩,λ_ _ e=>.inl e,.cons (dg.mpr ⟨a,_,rfl,hS,wV ns⟩) .nil,rfl,e,λv F' H' _ b=>aZ.mp b⟩
def Gu{P:Pg}{N:Nat}{x:Str}{st:Stmt}{l:W.OpenLaw}{q:Program}{loose:List Str}{XP:(Str->Option Value)->Heap->Prop}{YP:World->Heap->Prop}{d:DefRec}(qM:P.defs.lookup ("law":Str)=some st)(hx:params st=[x])
  (hn:l.most=some 63) (Xc:d.name="law") (QJ:d.params.defaults=[]) (hr:cS (3*N) callerA) (LS:T4 P=true) (ND:(P.defs.map (·.1)++P.fV.map (·.1)).Nodup) (NT:P.jA.lookup ("law":Str)=none) (hY:∀(w:World) (h:Heap),YP w h->∃K:W.Frag,K.In h/\DL P w K/\k0 K h)
  (XN:∀ns:List Int,ns.length<=63->Vl (run P N "law" [xI ns] [])):W.WalkO q loose XP YP l.row.toRowW d [] (λf vs=>PySem.call f vs):=by
 refine YO.vV hn QJ λw s₀ s₁ mg mb fa o pm cd doc a vs ns G Y ho hd xG Qd EB EC dI hg=>?_
 obtain⟨K,KX,T,TH⟩:=hY w _ Y;obtain⟨t1,t2⟩:=TH.tabs KX;have O:=XM KX G.T.g T.hd T.hm T.hm0 ND T.hc T.hb T.ht T.hcl T.hct LS T.Yx;obtain⟨⟨f,fd,dV,e0,F,_,_,b⟩,s⟩:=T.hd ("law",st) (eR qM);have b:=b NT;rw[Xc]at Qd;have e:=Qd.symm.trans (W.mg_of KX G.T.g e0);cases e;rw[hx]at b;refine Co (CX:=g7 l.prog w) KX G.T.g G.T.b G.T.builtins G.T.nolimit hg t1 t2 EB EC (aP dI (by decide)) hr (λbase kb _=>?_) (λs u=>.of_eq (b [u] rfl)) (λH hS=>OT (XN ns dI) hS) (by rintro _ _ _ ⟨_,_,_,_,_,_,_,_,_,_,_,h,_⟩;exact h)
 have k:=Gq (prog:=l.prog) O (λz=>(T.hbm z).at KX G.T.g kb) N "law" "law" "law" st _ fd dV (qf qM) F s
 rw[hx]at k;exact k
abbrev Ev{α:Type}(f:Gx α)(s:cb)(a:α)(s':cb):Prop:=f s=some (.ok a,s')
abbrev Ek {α : Type} (f : Gx α) (s : cb) (a : α) : Prop := Ev f s a s
section
variable {α β:Type} {s s1 s2 s3:cb}
def eB(h:Ev f s a s1)(h2:k a s1=r):bnd f k s=r:=by
 show(f s).bind (Nb k)=r;rw[h];exact h2
variable {fa fb fe:Gx PV} {ts:Gx (List PV)} {p q x y z:PV} {ps as:List PV}
def b2(ha:Ev fa s x s1)(hb:Ev fb s1 y s2)(h:g s2.h x y=some z):Ev (op2 g fa fb) s z s2:=eB ha (eB hb (by show(g s2.h x y).map _=_;rw[h];rfl))
def tR(h:Ev fa s p s1)(ht:kC s1.h p=some b):Ev (qX fa) s b s1:=eB h (by show(kC s1.h p).map _=_;rw[ht];rfl)
variable {f g:Gx dJ} {r:Option (Rs dJ×cb)}
def XO(e:f ⟨gS n as,h⟩=some (.ok (.rt p),⟨ρ',h'⟩)):ik f n as h=some (.ok p,h'):=by
 unfold ik;rw[e];rfl
def XQ(e:f ⟨gS n as,h⟩=some (.ok .nx,⟨ρ',h'⟩)):ik f n as h=some (.ok .az,h'):=by
 unfold ik;rw[e];rfl
variable {t:Tg} {body:Gx dJ}
def fC(ht:t p s=some s1)(hb:Ev body s1 .nx s2)(h:fO t body ps s2=r):fO t body (p::ps) s=r:=eB (show Ev (stp (t p)) s .nx s1 by show(t p s).map _=_;rw[ht];rfl) (eB hb h)
def e1(ht:t p ⟨ρ,h⟩=some ⟨Lk,h1⟩)(he:Ev fe ⟨Lk,h1⟩ q ⟨OU,h2⟩):pY t fe ρ p h=some (some q,h2):=by
 unfold pY;rw[ht,i6,he];rfl
def e2T(ht:t p ⟨ρ,h⟩=some ⟨Lk,h1⟩)(hw:Ev ft ⟨Lk,h1⟩ true ⟨OU,h2⟩)(he:Ev fe ⟨OU,h2⟩ q ⟨ρ3,h3⟩):wq t ft fe ρ p h=some (some q,h3):=by
 unfold wq;rw[ht,i6,hw,i6];show(if true=true then(fe ⟨OU,h2⟩).bind _ else _)=_
 rw[if_pos rfl,he];rfl
def e2F(ht:t p ⟨ρ,h⟩=some ⟨Lk,h1⟩)(hw:Ev ft ⟨Lk,h1⟩ false ⟨OU,h2⟩):wq t ft fe ρ p h=some (none,h2):=by
 unfold wq;rw[ht,i6,hw];rfl
end
end L2.U
namespace L2.U
open PySem L2
def ju(hp:noRef p=true):ee h p=some p:=by
 unfold ee;split
 ·rfl
 ·unfold kG;rw[if_pos hp]
end L2.U
noncomputable section
namespace bA
open PySem L2 L2.U
abbrev T5:Stmt:=top 100
noncomputable def fJ:List Str:=["Frame","Run","Place"]
noncomputable def fK:List Str:=["at","has","row","program","world","numbers","listed","frames","said","count","value","away"]
def Dy(c:CT):CT:=Qq aJ c
def XR(x:Str)(st:Stmt)(mk:CT)(cls:List (Str×Nat))(c:CT):Gm:={TV aJ x st cls mk (TX aJ x c) none c with clss:=fJ,flds:=fK}
def ZD(x:Str)(st:Stmt)(c:CT):Gx dJ:=jt zI (XR x st (Dy c) (Kc aJ) c) (bR st)
abbrev kI (n : Int) : Gx PV := cx (.int n)
abbrev kS (s : Str) : Gx PV := cx (.str s)
abbrev Q0 := yZ 2 (pO (dc 4) (pO (dc 5) Cr))
abbrev Q1 := JN "frames" (rd 0)
abbrev Q2 := pY (dc 1) (Cq (cx [])) [none,none]
def Ke:List (Str×Nat):=aJ.defs.map λd=>(d.1,(params d.2).length)
abbrev Rn(x:Str)(F:CT->Gx dJ)(n:Nat):Prop:=∀k,run aJ (k+1) x=ik (F (run aJ k)) n
open Lean Meta in
dsimproc_decl XS (Str.mk _):=λe=>do
 let .app _ (.app _ l):=e | return .continue
 let some l <-getListLit? l | return .continue
 return .done (mkApp (mkConst ``Str.ofString) (toExpr (String.ofList (l.toList.map λx=>Char.ofNat (x.nat?.getD 0)))))
open Lean in
dsimproc_decl XT (Int.ofNat _):=λe=>do
 let .app _ n:=e | return .continue
 let some n:=n.nat? | return .continue
 return .done (toExpr (n:Int))
noncomputable def ZE(s:List Stmt):List Nat->List Stmt
 | []=>s
 | i::r=>ZE (match s[i]? with | some (.For _ _ b _ _) | some (.If _ b _ _) | some (.While _ b _ _) | some (.Try b _ _ _ _)=>b | _=>[]) r
noncomputable abbrev g8(a:Gx dJ){f:Gx dJ}(_:a=f:=by conv=>(lhs;reduce;simp only[XS,XT])):Gx dJ:=f
def d7(x:Str)(st:Stmt)(n k:Nat){f:CT->Gx dJ}(h:∀k,run aJ (k+1) x=ik (ZD x st (run aJ k)) n:=by intro _;kernel_rfl)(e:∀c,ZD x st c=f c:=by intro c;conv=>(lhs;reduce;simp only[XS,XT])):run aJ (k+1) x=ik (f (run aJ k)) n:=by rw[h,e]
def wX(x:Str)(st:Stmt)(p:List Nat)(c:CT):Gx dJ:=jt zI (XR x st (Dy c) (Kc aJ) c) (ZE (bR st) p)
def T6(x:Str)(st:Stmt)(c:CT):Gx dJ:=jt zI (XR x st noFn [] c) (bR st)
def XU(x:Str)(st:Stmt)(n:Nat)(c:CT){f:CT->Gx dJ}(h:∀c,Dy c x=ik (T6 x st c) n:=by intro _;kernel_rfl)(e:∀c,T6 x st c=f c:=by intro c;conv=>(lhs;reduce;simp only[XS,XT])):Dy c x=ik (f c) n:=by rw[h,e]
section
seal Jw yY JO op2 aI rd bnd jX cx jY jl zi pY wq dc AJ HL qY nR toB Qh EJ Ng lA Cq JJ Jp wc bU Jd chain YS Lf fj wR Jr cutE ER Li qO cY yZ pO Cr qX N8 NH kD N7 ie fH iC Be CL U2 Qj AZ Nc U5 U4 Jq Fw Qq JN NV nV RZ U3 cA R6 ET fM Nu Nd ik EY NI JT Ot Oh YU NZ kK Dy fJ fK CU Qn J5 Xv FW qc qb zx qa J7 eI fI
def Gv(c:CT):=XU "Frame" As 3 c
def OW(c:CT):=XU "Run" KU 3 c
def Gw(c:CT):=XU "Place" Au 2 c
def ip(k:Nat):=d7 "Places.owned" jc 3 k
def qg(k:Nat):=d7 "Places.let" k9 3 k
def mT(k:Nat):=d7 "Places.touch" jd 3 k
def mU(k:Nat):=d7 "Places.store" je 6 k
def lR(k:Nat):=d7 "Places.let_go" iK 3 k
def C5(k:Nat):=d7 "blank" (top 10) 1 k
def wY(k:Nat):=d7 "kind_of" (top 13) 4 k
noncomputable def jv(c:CT):Gx dJ :=
 (yY (lA (Be Ke c (CL (λk=>(List.lookup k fX).map .fn) (op2 aI (rd 5) (kI 0))) (jX (rd 2) (jX (rd 5) (cx [])))) (dc 6))
  (AJ (HL "list" qY (rd 3) (jX (jl false [none,none,some 4] (zi (U2 (rd 6) (Ng .lst (jX (cx (.aj [(.str "rest"),(.str ""),(.bl false),(.int 0),(.int 0),(.str "")])) (cx []))))) (pY (dc 1) (op2 cY (Ng .aj (jX (rd 2) (cx []))) (rd 1)))) (cx [])))))
noncomputable def Gy(c:CT):Gx dJ :=
 (yY (lA (op2 aI (rd 0) (rd 1)) (dc 2))
  (yY (lA (Cq (cx [])) (dc 3))
  (yY (JJ (Qj (AZ (op2 aI (rd 2) (kI 4)))) Q0 (jv c))
  (EJ (rd 3)))))
theorem Gz:Rn "acts" Gy 7:=λ_=>by kernel_rfl
def sM(k:Nat):=d7 "touch" (top 29) 6 k
def nX(k:Nat):=d7 "touch_whole" (top 30) 4 k
def wZ(k:Nat):=d7 "at_acts" (top 31) 2 k
def mV(k:Nat):=d7 "operand_acts" (top 32) 2 k
def nY(k:Nat):=d7 "target_acts" (top 33) 2 k
def lS(k:Nat):=d7 "put_acts" (top 34) 2 k
def u0(k:Nat):=d7 "set_acts" (top 35) 2 k
def rh(k:Nat):=d7 "call_acts" (top 40) 3 k
def w5(k:Nat):=d7 "arg_act" (top 41) 4 k
def rj(k:Nat):=d7 "owner_act" (top 42) 2 k
def w6(k:Nat):=d7 "if_acts" (top 43) 2 k
def w9(k:Nat):=d7 "go_acts" (top 44) 2 k
def u3(k:Nat):=d7 "say_acts" (top 45) 2 k
def rk(k:Nat):=d7 "give_acts" (top 46) 2 k
noncomputable def dU(c:CT):=g8 (wX "acts_by_row" (top 56) [1] c)
def nZ(k:Nat):=d7 "acts_by_row" (top 56) 4 k
def zJ(k:Nat):=d7 "row_of" (top 57) 2 k
def xa(k:Nat):=d7 "acts_of" (top 58) 2 k
def kL(k:Nat):=d7 "run_from_first" (top 59) 5 k
def sN(k:Nat):=d7 "begin" (top 60) 6 k
noncomputable def dt(c:CT):=g8 (wX "run_on" (top 61) [0] c)
def zK(k:Nat):=d7 "run_on" (top 61) 2 k
def gj(k:Nat):=d7 "do_row" (top 62) 4 k
def qh(k:Nat):=d7 "row_behind" (top 63) 4 k
noncomputable def cU(c:CT):=g8 (wX "do_acts" (top 64) [1] c)
def nD(k:Nat):=d7 "do_acts" (top 64) 6 k
def qi(k:Nat):=d7 "do_act" (top 65) 6 k
def xb(k:Nat):=d7 "written" (top 66) 7 k
def u4(k:Nat):=d7 "strip_of" (top 67) 2 k
def qj(k:Nat):=d7 "number_put" (top 68) 3 k
noncomputable def aE(c:CT):=g8 (wX "numbers_found" (top 69) [2] c)
def lT(k:Nat):=d7 "numbers_found" (top 69) 7 k
def nE(k:Nat):=d7 "do_call" (top 70) 5 k
def nF(k:Nat):=d7 "do_give" (top 71) 4 k
def qk(k:Nat):=d7 "given_back" (top 72) 5 k
def lU(k:Nat):=d7 "owned_by" (top 73) 3 k
def j2(k:Nat):=d7 "take_back" (top 74) 4 k
def zL(k:Nat):=d7 "played" (top 76) 5 k
def rm(k:Nat):=d7 "places_of" (top 79) 2 k
def qm(k:Nat):=d7 "taken_back" (top 80) 2 k
def u5(k:Nat):=d7 "_law_cell_at" (top 82) 2 k
def zM(k:Nat):=d7 "_law_whole" (top 83) 1 k
noncomputable def qo(c:CT):=g8 (wX "_law_names" (top 84) [4,1] c)
noncomputable def kM(c:CT):=g8 (wX "_law_names" (top 84) [4] c)
def zN(k:Nat):=d7 "_law_names" (top 84) 9 k
def C6(k:Nat):=d7 "_law_spot" (top 85) 5 k
def u6(k:Nat):=d7 "_law_operand" (top 86) 4 k
def C7(k:Nat):=d7 "_law_call" (top 87) 6 k
def GA(k:Nat):=d7 "_law_row" (top 88) 8 k
def C8(k:Nat):=d7 "_law_wide" (top 89) 1 k
def zO(k:Nat):=d7 "_law_heads" (top 90) 6 k
noncomputable def iq(c:CT):=g8 (wX "_law_rows" (top 91) [3] c)
def sO(k:Nat):=d7 "_law_rows" (top 91) 10 k
def u7(k:Nat):=d7 "_law_program" (top 92) 10 k
def zP(k:Nat):=d7 "_law_begin" (top 93) 6 k
def xc(k:Nat):=d7 "_law_number" (top 94) 3 k
def xf(k:Nat):=d7 "_law_reckon" (top 95) 3 k
def C9(k:Nat):=d7 "_law_done" (top 96) 7 k
def dv(k:Nat):=d7 "_law_onward" (top 97) 4 k
noncomputable def bO(c:CT):=g8 (wX "_law_due" (top 98) [4] c)
def GB(k:Nat):=d7 "_law_due" (top 98) 11 k
def Dc(k:Nat):=d7 "_law_told" (top 99) 2 k
def Kf(k:Nat):=d7 "law" (top 100) 6 k
end
end bA
namespace L2.U
section
open PySem
theorem ZI{α:Type}{o:Option α}{v:α}{st:cb}(h:o=some v):jE o st=some (.ok v,st):=by show o.map _=_;rw[h];rfl
theorem aca{α:Type}{g:List ah->Option α}{v:α}{st:cb}(h:g st.h=some v):hp g st=some (.ok v,st):=by show(g st.h).map _=_;rw[h];rfl
theorem T7{g:cb->Option cb}{st st':cb}(h:g st=some st'):stp g st=some (.ok .nx,st'):=by show(g st).map _=_;rw[h];rfl
theorem ZJ{α β:Type}{f:Gx α}{k:α->Gx β}{st s1:cb}{a:α}{r:Option (Rs β×cb)}(h:f st=some (.ok a,s1))(h2:k a s1=r):bnd f k st=r:=eB h h2
theorem acb{α:Type}{b:Bool}{f g:Gx α}{st:cb}{r:Option (Rs α×cb)}(h:b=true)(h2:f st=r):(if b=true then f else g) st=r:=by rw[if_pos h];exact h2
theorem acd{α:Type}{b:Bool}{f g:Gx α}{st:cb}{r:Option (Rs α×cb)}(h:b=false)(h2:g st=r):(if b=true then f else g) st=r:=by rw[if_neg (by rw[h];exact cQ)];exact h2
theorem XW{α:Type}{gc:Gx Bool}{f g:Gx α}{st s1:cb}{r:Option (Rs α×cb)}(h:gc st=some (.ok true,s1))(h2:f s1=r):nR gc f g st=r:=eB h h2
theorem XX{α:Type}{gc:Gx Bool}{f g:Gx α}{st s1:cb}{r:Option (Rs α×cb)}(h:gc st=some (.ok false,s1))(h2:g s1=r):nR gc f g st=r:=eB h h2
theorem GD{f:Gx dJ}{n:Nat}{as:List PV}{h:List ah}{p:PV}{st':cb}(e:f ⟨gS n as,h⟩=some (.ok (.rt p),st')):ik f n as h=some (.ok p,st'.h):=XO e
theorem XY{f:Gx dJ}{n:Nat}{as:List PV}{h:List ah}{st':cb}(e:f ⟨gS n as,h⟩=some (.ok .nx,st')):ik f n as h=some (.ok .az,st'.h):=XQ e
theorem Kg{n:Nat}{g:jm}{as:List PV}{st:cb}{p q:PV}{h':List ah}(hn:(st.h.isEmpty || ai as)=true)(hl:as.length=n)(hc:g as []=some (.ok p,h'))(hf:ee h' p=some q):jn n g as st=some (.ok q,st):=by
 unfold jn;rw[if_pos ⟨hl,hn⟩,hc];show(ee h' p).map _=_;rw[hf];rfl
theorem OX{n:Nat}{g:jm}{as:List PV}{st:cb}{p q:PV}{h':List ah}(hn:(st.h.isEmpty || ai as)=true)(hl:as.length=n)(hc:g as []=some (.ok p,h'))(hf:ee h' p=some q):jY 0 n g as st=some (.ok q,st):=by
 unfold jY;rw[hn,if_pos (show((0==0)&&true)=true from rfl)]
 exact Kg hn hl hc hf
theorem Vm{m n:Nat}{g:jm}{as:List PV}{st:cb}{p:PV}{h':List ah}(hn:((m==0)&&(st.h.isEmpty || ai as))=false)(hl:as.length=n)(hc:g as st.h=some (.ok p,h')):jY m n g as st=some (.ok p,⟨st.ρ,h'⟩):=by
 unfold jY;rw[hn,if_neg cQ];unfold gT;rw[if_pos hl,hc];rfl
theorem Dd{α:Type}{f:α->PV}{q:α->PV}{h:List ah}{bd:PV->List ah->Option (Option PV×List ah)}:∀{L:List α},(∀x∈L,bd (f x) h=some (some (q x),h))->d6 bd (L.map f) h=some (L.map q,h)
 | [],_=>rfl
 | x::L,H=>by
  show(bd (f x) h).bind _=_;rw[H x dk];show(d6 bd (L.map f) h).map _=_;rw[Dd λy hy=>H y (cO _ hy)]
  rfl
theorem XZ{link:List (Option Nat)}{fi:Gx A3}{bd:Bd}{st s1:cb}{ps qs:List PV}{h':List ah}(hi:fi st=some (.ok (.sq ps),s1))(hl:ps.length<=4000000)(hc:d6 (bd (c6 link s1.ρ)) ps s1.h=some (qs,h')):jl false link fi bd st=some (.ok (.lst qs),⟨s1.ρ,h'⟩):=eB hi (by
 show(if ps.length<=gy then d6 _ ps s1.h else none).bind _=_
 rw[if_pos (show ps.length<=gy from hl),hc]
 rfl)
theorem OY{t:Tg}{fe:Gx PV}{ρ:List (Option PV)}{p q:PV}{h:List ah}{st1:cb}{OU:List (Option PV)}{h2:List ah}(ht:t p ⟨ρ,h⟩=some st1)(he:fe st1=some (.ok q,⟨OU,h2⟩)):pY t fe ρ p h=some (some q,h2):=by
 unfold pY;rw[ht,i6,he];rfl
theorem Qr{bd:PV->List ah->Option (Option PV×List ah)}{h:List ah}:d6 bd [] h=some ([],h):=rfl
theorem qp{bd:PV->List ah->Option (Option PV×List ah)}{p:PV}{ps qs:List PV}{o:Option PV}{h h1 h2:List ah}(e1:bd p h=some (o,h1))(e2:d6 bd ps h1=some (qs,h2)):d6 bd (p::ps) h=some (o.toList++qs,h2):=by
 show(bd p h).bind _=_;rw[e1];show(d6 bd ps h1).map _=_;rw[e2];rfl
theorem Vn{n:Nat}{g:jm}{as:List PV}{st:cb}{p:PV}{h':List ah}(hl:as.length=n)(hc:g as st.h=some (.ok p,h')):gT n g as st=some (.ok p,⟨st.ρ,h'⟩):=by
 show(if as.length=n then(g as st.h).map λr=>(SH r.1,(⟨st.ρ,r.2⟩:cb))else none)=_
 rw[if_pos hl,hc];rfl
theorem X0{C:Str}{n:Nat}{g:jm}{as:List PV}{st:cb}{h':List ah}(hl:as.length+1=n)(hg:g (.ref st.h.length::as) (st.h++[⟨.ins C [],[]⟩])=some (.ok .az,h')):J5 C n g as st=some (.ok (.ref st.h.length),⟨st.ρ,h'⟩):=by
 unfold J5;rw[if_pos hl,hg];rfl
theorem X1{fa:Gx PV}{st s1:cb}{ps:List PV}{c:ah}(h:fa st=some (.ok (.lst ps),s1))(hc:zm ps=some c):JT fa st=some (.ok (.ref s1.h.length),⟨s1.ρ,s1.h++[c]⟩):=eB h (by
 show(zm ps).bind (λc=>iS c s1)=_
 rw[hc];rfl)
def gx{α:Type}(f:Gx α)(st:cb):Option (Rs α×cb):=f st
theorem ZK{α:Type}{f:Gx α}{st:cb}{r:Option (Rs α×cb)}(h:f st=r):gx f st=r:=h
theorem bW{α:Type}{f:Gx α}{st:cb}{r:Option (Rs α×cb)}(h:gx f st=r):f st=r:=h
end
end L2.U
set_option maxHeartbeats 2000000
namespace bA
open PySem L2 L2.U
theorem ak{h:List ah}{n:Nat}{k:Kd}{ps:List PV}(e:h[n]?=some ⟨k,ps⟩)(hl:live ⟨k,ps⟩=true):cR h (.ref n)=some (k,ps):=by
 show((h[n]?).bind λc=>if live c=true then some (c.k,c.ps)else none)=_
 rw[e,i6,if_pos hl]
theorem eK{h:List ah}{n:Nat}{k:Kd}{ps:List PV}(e:h[n]?=some ⟨k,ps⟩)(hl:live ⟨k,ps⟩=true):kF h (.ref n)=some (n,⟨k,ps⟩):=by
 show((h[n]?).bind λc=>if live c=true then some (n,c)else none)=_
 rw[e,i6,if_pos hl]
theorem GF{h:List ah}{n:Nat}{c:ah}(e:h[n]?=some c):h.set n c=h:=by
 apply List.ext_getElem?;intro i;by_cases hi:n=i
 ·subst hi;rw[e];simp[(c8.mp e).1]
 ·rw[aL hi]
theorem cC{h:List ah}{n:Nat}{c d:ah}(e:h[n]?=some c):(h.set n d)[n]?=some d:=by
 simp[(c8.mp e).1]
theorem kN{h:List ah}{n:Nat}{c:ah}(e:h[n]?=some c):n<h.length:=(c8.mp e).1
theorem bS{h g:List ah}{n:Nat}{c:ah}(e:h[n]?=some c):(h++g)[n]?=some c:=by
 rw[fy (kN e),e]
theorem cH{h:List ah}{c:ah}:(h++[c])[h.length]?=some c:=by simp
theorem gI{h:List ah}{n:Nat}{C f:Str}{ns:List Str}{ps:List PV}{v:PV}{ρ:List (Option PV)}(e:h[n]?=some ⟨.ins C ns,ps⟩)(hc:(fJ.contains C&&fK.contains f&&decide (ns.length<900))=true) :
  fI fJ fK f (.ref n) v ⟨ρ,h⟩=some ⟨ρ,h.set n ⟨.ins C (iD f v ns ps).1,(iD f v ns ps).2⟩⟩:=by
 unfold fI;rw[eK e rfl];exact if_pos hc
noncomputable abbrev cj(v:PV)(a:PV):ah:=⟨.ins "Place" ["value","away"],[v,a]⟩
theorem Bs{h:List ah}{n:Nat}{v w a:PV}{ρ:List (Option PV)}(e:h[n]?=some (cj v a)):fI fJ fK "value" (.ref n) w ⟨ρ,h⟩=some ⟨ρ,h.set n (cj w a)⟩:=by
 rw[gI e (by kernel_rfl)]
 rfl
theorem GG{h:List ah}{n:Nat}{v w a:PV}{ρ:List (Option PV)}(e:h[n]?=some (cj v a)):fI fJ fK "away" (.ref n) w ⟨ρ,h⟩=some ⟨ρ,h.set n (cj v w)⟩:=by
 rw[gI e (by kernel_rfl)]
 rfl
structure Ch (h h':List ah) (A:List Nat):Prop where
 le:h.length<=h'.length
 eq:∀n,n<h.length->n∉A->h'[n]?=h[n]?
theorem Ch.refl(h:List ah)(A:List Nat):Ch h h A:=⟨aD _,λ_ _ _=>rfl⟩
theorem Ch.app(h g:List ah)(A:List Nat):Ch h (h++g) A:=⟨by simp,λn hn _=>fy hn⟩
theorem Ch.set{h:List ah}{n:Nat}(c:ah):Ch h (h.set n c) [n]:=⟨by simp,λm _ hm=>aL (λz=>hm (by simp[z]))⟩
theorem Ch.tr{h h' HK:List ah}{A B:List Nat}(a:Ch h h' A)(b:Ch h' HK B)(hB:∀n∈B,n<h.length->n∈A):Ch h HK A :=
 ⟨aP a.le b.le,λn hn hA=>by rw[b.eq n (bM hn a.le) λz=>hA (hB n z hn),a.eq n hn hA]⟩
theorem Ch.mono{h h':List ah}{A B:List Nat}(a:Ch h h' A)(hB:∀n∈A,n∈B):Ch h h' B:=⟨a.le,λn hn hA=>a.eq n hn λz=>hA (hB n z)⟩
theorem Ch.get{h h':List ah}{A:List Nat}(a:Ch h h' A){n:Nat}{c:ah}(e:h[n]?=some c)(hA:n∉A):h'[n]?=some c:=by
 rw[a.eq n (kN e) hA,e]
end bA
namespace L2.U
section
open Lean Meta
abbrev zq9wh (e : Lean.Expr) : MetaM Lean.Expr := withDefault (whnf e)
abbrev zq9sm (e : Lean.Expr) : SimpM Simp.Result := withReducible (Simp.simp e)
def zq9rflT (e d : Lean.Expr) : MetaM Lean.Expr := do mkExpectedTypeHint (← mkEqRefl d) (← mkEq e d)

def zq9nList (w : Bool) : Nat → Lean.Expr → MetaM Lean.Expr
 | 0, e => return e
 | n + 1, e => do
  let d ← zq9wh e
  if d.isAppOfArity ``List.cons 3 then
   let a := d.appFn!.appArg!.headBeta
   let a ← if w then (do let b ← zq9wh a; return if b.isAppOf ``Option.some || b.isAppOf ``Option.none then b else a) else pure a
   return mkApp2 d.appFn!.appFn! a (← zq9nList w n d.appArg!)
  else if d.isAppOf ``List.nil then return d
  else return e
def zq9natOf : Nat → Lean.Expr → MetaM (Option Nat)
 | 0, _ => return none
 | n + 1, e => do
  let d ← zq9wh e
  match d with
  | .lit (.natVal k) => return some k
  | _ => if d.isAppOfArity ``Nat.succ 1 then return (← zq9natOf n d.appArg!).map (· + 1) else if d.isConstOf ``Nat.zero then return some 0 else return none
def zq9isLit (e : Lean.Expr) : Nat → Bool
 | 0 => false
 | n + 1 => e.isAppOf ``List.nil || (e.isAppOfArity ``List.cons 3 && zq9isLit e.appArg! n)
def zq9stripH : Nat → Lean.Expr → MetaM Lean.Expr
 | 0, e => return e
 | n + 1, e => do
  if e.isAppOfArity ``cb.h 1 then
   let s ← whnfCore e.appArg!
   let s ← if s.isAppOfArity ``cb.mk 2 then pure s else zq9wh s
   if s.isAppOfArity ``cb.mk 2 then zq9stripH n s.appArg! else return e
  else if e.isAppOfArity ``HAppend.hAppend 6 then return mkApp2 e.appFn!.appFn! (← zq9stripH n e.appFn!.appArg!) e.appArg!
  else if e.isAppOfArity ``List.set 4 then
   let as := e.getAppArgs
   return mkAppN e.getAppFn #[as[0]!, ← zq9stripH n as[1]!, as[2]!, as[3]!]
  else return e
def zq9nVal (v : Lean.Expr) : MetaM Lean.Expr := do
 let v ← withReducible (whnf v.headBeta)
 if v.isAppOfArity ``PV.ref 1 then
  if v.appArg!.isLit then return v
  match ← zq9natOf 60 v.appArg! with
  | some k => return mkApp (mkConst ``PV.ref) (mkNatLit k)
  | none => if v.appArg!.isAppOfArity ``List.length 2 then return mkApp v.appFn! (mkApp v.appArg!.appFn! (← zq9stripH 60 v.appArg!.appArg!)) else return v
 if v.isAppOfArity ``PV.nd 2 && !(v.appArg!.isAppOf ``List.map || zq9isLit v.appArg! 200) then
  let ps ← zq9nList false 200 v.appArg!
  return if zq9isLit ps 200 then mkApp v.appFn! ps else v
 if (← isConstructorApp? v).isSome || v.isFVar then return v
 if v.isProj || (← isMatcherApp v) || v.getAppFn.isProj then zq9wh v else match v.getAppFn with
 | .const c _ => if (← isProjectionFn c) || c == ``Option.get || c == ``ite || c == ``Option.getD then zq9wh v else return v
 | _ => return v
def zq9nCell (c : Lean.Expr) : MetaM Lean.Expr := do
 let d ← zq9wh c
 unless d.isAppOfArity ``ah.mk 2 do return c
 let k ← zq9wh d.appFn!.appArg!
 let k ← if k.isAppOfArity ``Kd.ins 2 then pure (mkApp k.appFn! (← zq9nList false 200 k.appArg!)) else pure k
 let ps ← zq9nList false 200 d.appArg!
 return mkApp2 d.appFn!.appFn! k ps
def zq9nHeap : Nat → Lean.Expr → MetaM Lean.Expr
 | 0, e => return e
 | n + 1, e => do
  let d ← zq9wh e
  if d.isAppOfArity ``List.cons 3 then return mkApp2 d.appFn!.appFn! (← zq9nCell d.appFn!.appArg!.headBeta) (← zq9nHeap n d.appArg!)
  else if d.isAppOf ``List.nil then return d
  else zq9stripH 60 e
def zq9nSta (e : Lean.Expr) : MetaM Lean.Expr := do
 let d ← zq9wh e
 if d.isAppOfArity ``cb.mk 2 then return mkApp2 d.appFn!.appFn! (← zq9nList true 200 d.appFn!.appArg!) (← zq9nHeap 200 d.appArg!) else return e
def zq9someArg? (e : Lean.Expr) : Option Lean.Expr := if e.isAppOfArity ``Option.some 2 then some e.appArg! else none
def zq9evB (b : Lean.Expr) : SimpM (Lean.Expr × Lean.Expr) := do
 let b := b.headBeta
 let d ← zq9wh b
 if d.isConstOf ``Bool.true || d.isConstOf ``Bool.false then return (d, ← mkExpectedTypeHint (← mkEqRefl d) (← mkEq b d))
 let r ← zq9sm b
 let r' ← if r.expr.isConstOf ``Bool.true || r.expr.isConstOf ``Bool.false then pure r.expr else do
  let d ← zq9wh r.expr
  pure (if d.isConstOf ``Bool.true || d.isConstOf ``Bool.false then d else r.expr)
 return (r', ← mkExpectedTypeHint (← r.getProof) (← mkEq b r'))
def zq9atRoot (o : Lean.Expr) : SimpM (Option Simp.Result) := withReducible do
 match ← Simp.rewritePost false o with
 | .visit r => return some r
 | .done r => return some r
 | .continue (some r) => return some r
 | .continue none => return none
def zq9evO (o : Lean.Expr) : SimpM (Option (Lean.Expr × Lean.Expr)) := do
 let o := o.headBeta
 if let some r ← zq9atRoot o then
  if let some v := zq9someArg? r.expr then
   let v' ← if (← inferType v).isConstOf ``PV then zq9nVal v else pure v
   let b? := if v'.isAppOfArity ``PV.bl 1 then some v'.appArg! else none
   match b? with
   | none => return some (v', ← mkExpectedTypeHint (← r.getProof) (← mkEq o (mkApp r.expr.appFn! v')))
   | some b =>
    let (b', p) ← zq9evB b
    let f := mkLambda `x .default (mkConst ``Bool) (mkApp r.expr.appFn! (mkApp (mkConst ``PV.bl) (Lean.Expr.bvar 0)))
    return some (mkApp (mkConst ``PV.bl) b', ← mkEqTrans (← r.getProof) (← mkExpectedTypeHint (← mkCongrArg f p) (← mkEq r.expr (mkApp r.expr.appFn! (mkApp (mkConst ``PV.bl) b')))))
 let d ← zq9wh o
 let bySimp : SimpM (Option (Lean.Expr × Lean.Expr)) := do
  let r ← zq9sm o
  let d ← if (zq9someArg? r.expr).isSome then pure r.expr else zq9wh r.expr
  match zq9someArg? d with
  | some v => return some (v, ← mkExpectedTypeHint (← r.getProof) (← mkEq o d))
  | none => return none
 match zq9someArg? d with
 | some v =>
  let ty ← inferType v
  if ty.isConstOf ``cb then
   let v ← zq9nSta v
   let d := mkApp d.appFn! v
   return some (v, ← zq9rflT o d)
  let v := v.headBeta
  let v ← if ty.isConstOf ``PV then zq9nVal v else pure v
  let b? := if v.isAppOfArity ``PV.bl 1 then some v.appArg! else if ty.isConstOf ``Bool then some v else none
  match b? with
  | none => let d' := mkApp d.appFn! v; return some (v, ← zq9rflT o d')
  | some b =>
   let b' ← zq9wh b
   let f := if ty.isConstOf ``Bool then id else mkApp (mkConst ``PV.bl)
   if b'.isConstOf ``Bool.true || b'.isConstOf ``Bool.false then let d' := mkApp d.appFn! (f b'); return some (f b', ← zq9rflT o d')
   let fallback : SimpM (Option (Lean.Expr × Lean.Expr)) := do
    let (b', p) ← zq9evB b
    return some (f b', ← mkExpectedTypeHint (← mkCongrArg (mkLambda `x .default (mkConst ``Bool) (mkApp d.appFn! (f (Lean.Expr.bvar 0)))) p) (← mkEq o (mkApp d.appFn! (f b'))))
   match ← bySimp with
   | some (v', p) =>
    let c := if v'.isAppOfArity ``PV.bl 1 then v'.appArg! else v'
    if c.isConstOf ``Bool.true || c.isConstOf ``Bool.false || (zq9someArg? (← zq9sm o).expr).isSome then return some (v', p)
    fallback
   | none => fallback
 | none => bySimp
def zq9okE (α a st : Lean.Expr) : Lean.Expr :=
 let rs := mkApp (mkConst ``Rs) α
 let pr := mkApp2 (mkConst ``Prod [0, 0]) rs (mkConst ``cb)
 mkApp2 (mkConst ``Option.some [0]) pr (mkApp4 (mkConst ``Prod.mk [0, 0]) rs (mkConst ``cb) (mkApp2 (mkConst ``Rs.ok) α a) st)
def zq9okH (a h : Lean.Expr) : Lean.Expr :=
 let rs := mkApp (mkConst ``Rs) (mkConst ``PV)
 let lc := mkApp (mkConst ``List [0]) (mkConst ``ah)
 let pr := mkApp2 (mkConst ``Prod [0, 0]) rs lc
 mkApp2 (mkConst ``Option.some [0]) pr (mkApp4 (mkConst ``Prod.mk [0, 0]) rs lc (mkApp2 (mkConst ``Rs.ok) (mkConst ``PV) a) h)
def zq9okArgs? (r : Lean.Expr) : Option (Lean.Expr × Lean.Expr) := do
 let x ← zq9someArg? r
 guard (x.isAppOfArity ``Prod.mk 4)
 let y := x.appFn!.appArg!
 guard (y.isAppOfArity ``Rs.ok 2)
 return (y.appArg!, x.appArg!)
def zq9nRes (e : Lean.Expr) : MetaM (Option Lean.Expr) := do
 let d ← zq9wh e
 let some x := zq9someArg? d | return none
 let x ← zq9wh x
 unless x.isAppOfArity ``Prod.mk 4 do return none
 let y ← zq9wh (x.appFn!.appArg!)
 let st ← zq9nSta x.appArg!
 let y ← if y.isAppOfArity ``Rs.ok 2 then (do let v ← (do let v := y.appArg!.headBeta; if (← inferType v).isConstOf ``PV then zq9nVal v else zq9wh v); pure (mkApp y.appFn! v)) else pure y
 return some (mkApp d.appFn! (mkApp2 x.appFn!.appFn! y st))
def zq9evUnfold : List Lean.Name := [``op2, ``jX, ``Ng, ``Jp, ``toB, ``qX, ``Jd, ``nR, ``yY, ``onK, ``pS, ``lA, ``EJ, ``AJ, ``chain, ``Nc, ``U2, ``Nd, ``NH, ``ER, ``cutE, ``NI, ``CL, `abZ, ``U5, ``JN, `ab0, ``HL, ``tyG, ``zi, ``Qj, ``NV, ``AZ, ``Ot, ``Oh, ``JJ, ``WW, ``JO, ``Be, ``Lo, `lrg, ``Cq, `ab1, `ZG, ``JT]
def zq9mkLe (a b : Lean.Expr) : MetaM (Option Lean.Expr) := do
 let p ← mkAppM ``LE.le #[a, b]
 let d ← mkAppM ``Decidable.decide #[p]
 let r ← zq9wh d
 if r.isConstOf ``Bool.true then return some (← mkAppM ``of_decide_eq_true #[← mkExpectedTypeHint (← mkEqRefl (mkConst ``Bool.true)) (← mkEq d (mkConst ``Bool.true))]) else return none
def zq9byS (p : Lean.Expr) : SimpM (Option Lean.Expr) := do
 let r ← zq9sm p
 if r.expr.isTrue then return some (← mkOfEqTrue (← r.getProof)) else return none
def zq9evE (go : Lean.Expr → SimpM (Lean.Expr × Lean.Expr)) (bd p h : Lean.Expr) : SimpM (Lean.Expr × Lean.Expr) := do
 let as := bd.getAppArgs
 let ρ := as.back!
 let st := mkApp2 (mkConst ``cb.mk) ρ h
 let some (st1, pt) ← zq9evO (mkApp2 as[0]! p st) | throwError "zq9ev: target {p}"
 if bd.isAppOf ``pY then
  let (r1, p1) ← go (mkApp as[1]! st1)
  let some (v, s2) := zq9okArgs? r1 | throwError "zq9ev: elt1 {r1}"
  let q := mkAppN (mkConst ``OY) #[as[0]!, as[1]!, ρ, p, v, h, st1, s2.appFn!.appArg!, s2.appArg!, pt, p1]
  let some (_, _, r) := (← inferType q).eq? | throwError "zq9ev: elt1"
  return (r, q)
 else
  let (r1, p1) ← go (mkApp as[1]! st1)
  let some (b, st2) := zq9okArgs? r1 | throwError "zq9ev: elt2 {r1}"
  if b.isConstOf ``Bool.false then
   let q ← mkAppM ``e2F #[pt, p1]
   let some (_, _, r) := (← inferType q).eq? | throwError "zq9ev: elt2"
   return (r, q)
  else if b.isConstOf ``Bool.true then
   let (_, p2) ← go (mkApp as[2]! st2)
   let q ← mkAppM ``e2T #[pt, p1, p2]
   let some (_, _, r) := (← inferType q).eq? | throwError "zq9ev: elt2"
   return (r, q)
  else
   withLocalDeclD `hb (← mkEq b (mkConst ``Bool.true)) fun hb => do
    let thms ← (← Simp.getContext).simpTheorems.addTheorem (.fvar hb.fvarId!) hb
    Simp.withSimpTheorems thms do
     let (r2, p2) ← go (mkApp as[2]! st2)
     let some (v, s3) := zq9okArgs? r2 | throwError "zq9ev: elt2 {r2}"
     let q := mkAppN (mkConst `evElt2) #[as[0]!, as[1]!, as[2]!, ρ, p, v, b, h, st1, st2.appFn!.appArg!, s3.appFn!.appArg!, pt, p1, ← mkLambdaFVars #[hb] p2]
     let some (_, _, r) := (← inferType q).eq? | throwError "zq9ev: elt2"
     return (r, q)
def zq9evL (go : Lean.Expr → SimpM (Lean.Expr × Lean.Expr)) (bd h : Lean.Expr) : Nat → Lean.Expr → SimpM Lean.Expr
 | 0, _ => throwError "zq9ev: long list"
 | m + 1, ps => do
  let d ← zq9wh ps
  if d.isAppOf ``List.nil then mkAppOptM ``Qr #[some bd, some h]
  else if d.isAppOfArity ``List.cons 3 then
   let (_, p) ← zq9evE go bd d.appFn!.appArg!.headBeta h
   let p2 ← zq9evL go bd h m d.appArg!
   mkAppM ``qp #[p, p2]
  else throwError "zq9ev: list {ps}"
def zq9evC (go : Lean.Expr → SimpM (Lean.Expr × Lean.Expr)) (bd ps h : Lean.Expr) : SimpM Lean.Expr := do
 if let some r ← zq9atRoot (← mkAppM ``d6 #[bd, ps, h]) then
  if (zq9someArg? r.expr).isSome then return ← r.getProof
 let d ← zq9wh ps
 if d.isAppOf ``List.nil || d.isAppOf ``List.cons then zq9evL go bd h 300 d
 else
  let d := if ps.isAppOfArity ``List.map 4 then ps else d
  unless d.isAppOfArity ``List.map 4 do
   let r ← zq9sm (← mkAppM ``d6 #[bd, ps, h])
   if (zq9someArg? r.expr).isSome then return ← r.getProof
   throwError "zq9ev: list {ps} in{indentExpr (← mkAppM ``d6 #[bd, ps, h])}"
  let fn := d.getAppArgs[2]!
  let L := d.appArg!
  let α := d.getAppArgs[0]!
  withLocalDeclD `x α fun x => do
   let mem ← mkAppM ``Membership.mem #[L, x]
   withLocalDeclD `hx mem fun hx => do
    let thms ← (← Simp.getContext).simpTheorems.addTheorem (.fvar hx.fvarId!) hx
    Simp.withSimpTheorems thms do
     let (r, p) ← zq9evE go bd (mkApp fn x).headBeta h
     let some v := zq9someArg? r | throwError "zq9ev: item {r}"
     let o := v.appFn!.appArg!
     match zq9someArg? o with
     | some q =>
      let q ← mkLambdaFVars #[x] q
      mkAppOptM ``Dd #[some α, some fn, some q, some h, some bd, some L, some (← mkLambdaFVars #[x, hx] p)]
     | none =>
      unless o.isAppOfArity ``ite 5 do throwError "zq9ev: item {o}"
      let some (_, b, _) := o.getAppArgs[1]!.eq? | throwError "zq9ev: item {o}"
      let some q := zq9someArg? o.getAppArgs[3]! | throwError "zq9ev: item {o}"
      mkAppOptM `compF_fil #[some α, some fn, some (← mkLambdaFVars #[x] q), some (← mkLambdaFVars #[x] b), some h, some bd, some L, some (← mkLambdaFVars #[x, hx] p)]
def zq9ev : Nat → Lean.Expr → SimpM (Lean.Expr × Lean.Expr)
 | 0, e => throwError "zq9ev: no fuel {e}"
 | n + 1, e => do
  let e := e.headBeta
  let f := e.getAppFn
  let as := e.getAppArgs
  let leaf : SimpM (Lean.Expr × Lean.Expr) := do
   let r ← zq9sm e
   let some x ← zq9nRes r.expr | throwError "zq9ev: stuck at{indentExpr e}\n which is{indentExpr r.expr}"
   return (x, ← mkExpectedTypeHint (← r.getProof) (← mkEq e x))
  let red : SimpM (Lean.Expr × Lean.Expr) := do
   match ← zq9nRes e with
   | some x => return (x, ← mkExpectedTypeHint (← mkEqRefl x) (← mkEq e x))
   | none => leaf
  match f with
  | .const c _ =>
   if c == ``bnd && as.size == 5 then
    let (r, p) ← zq9ev n (mkApp as[2]! as[4]!)
    let some (a, st) := zq9okArgs? r | throwError "zq9ev: no answer {r} of{indentExpr as[2]!}"
    let (r2, p2) ← zq9ev n (mkApp2 as[3]! a st).headBeta
    return (r2, mkAppN (mkConst ``ZJ) #[as[0]!, as[1]!, as[2]!, as[3]!, as[4]!, st, a, r2, p, p2])
   else if c == ``cx && as.size == 3 then
    if as[0]!.isConstOf ``Bool && !(as[1]!.isConstOf ``Bool.true || as[1]!.isConstOf ``Bool.false) then
     let (b, p) ← zq9evB as[1]!
     let f := mkLambda `x .default (mkConst ``Bool) (zq9okE as[0]! (Lean.Expr.bvar 0) as[2]!)
     return (zq9okE as[0]! b as[2]!, ← mkExpectedTypeHint (← mkCongrArg f p) (← mkEq e (zq9okE as[0]! b as[2]!)))
    let x := zq9okE as[0]! as[1]! as[2]!
    return (x, ← zq9rflT e x)
   else if c == ``jE && as.size == 3 then
    let some (v, p) ← zq9evO as[1]! | throwError "zq9ev: stuck at lif{indentExpr as[1]!}"
    return (zq9okE as[0]! v as[2]!, mkAppN (mkConst ``ZI) #[as[0]!, as[1]!, v, as[2]!, p])
   else if c == ``hp && as.size == 3 then
    let st ← zq9wh as[2]!
    let h := if st.isAppOfArity ``cb.mk 2 then st.appArg! else mkApp (mkConst ``cb.h) as[2]!
    let some (v, p) ← zq9evO (mkApp as[1]! h).headBeta | throwError "zq9ev: stuck at hp{indentExpr (mkApp as[1]! h).headBeta}"
    return (zq9okE as[0]! v as[2]!, mkAppN (mkConst ``aca) #[as[0]!, as[1]!, v, as[2]!, p])
   else if c == ``stp && as.size == 2 then
    let some (v, p) ← zq9evO (mkApp as[0]! as[1]!).headBeta | throwError "zq9ev: stuck at stp{indentExpr (mkApp as[0]! as[1]!).headBeta}"
    return (zq9okE (mkConst ``dJ) (mkConst ``dJ.nx) v, mkAppN (mkConst ``T7) #[as[0]!, as[1]!, v, p])
   else if c == ``ite && as.size == 6 then
    let some (_, b, _) := as[1]!.eq? | throwError "zq9ev: ite {as[1]!}"
    let (b', p) ← zq9evB b
    if b'.isConstOf ``Bool.true then
     let (r, p2) ← zq9ev n (mkApp as[3]! as[5]!)
     let α := (← zq9wh as[0]!).bindingBody!.appArg!.appFn!.appArg!.appArg!
     return (r, mkAppN (mkConst ``acb) #[α, b, as[3]!, as[4]!, as[5]!, r, p, p2])
    else if b'.isConstOf ``Bool.false then
     let (r, p2) ← zq9ev n (mkApp as[4]! as[5]!)
     let α := (← zq9wh as[0]!).bindingBody!.appArg!.appFn!.appArg!.appArg!
     return (r, mkAppN (mkConst ``acd) #[α, b, as[3]!, as[4]!, as[5]!, r, p, p2])
    else throwError "zq9ev: open test{indentExpr b'}"
   else if c == ``ik && as.size == 4 then
    let st := mkApp2 (mkConst ``cb.mk) (← zq9nList true 200 (mkApp2 (mkConst ``gS) as[1]! as[2]!)) as[3]!
    let (r, p) ← zq9ev n (mkApp as[0]! st)
    let some (a, s1) := zq9okArgs? r | throwError "zq9ev: run's end {r}"
    let h1 := if s1.isAppOfArity ``cb.mk 2 then s1.appArg! else mkApp (mkConst ``cb.h) s1
    if a.isAppOf ``dJ.rt then return (zq9okH a.appArg! h1, mkAppN (mkConst ``GD) #[as[0]!, as[1]!, as[2]!, as[3]!, a.appArg!, s1, p])
    else if a.isConstOf ``dJ.nx then return (zq9okH (mkConst ``PV.az) h1, mkAppN (mkConst ``XY) #[as[0]!, as[1]!, as[2]!, as[3]!, s1, p])
    else throwError "zq9ev: run's end {r}"
   else if (c == ``jY && as.size == 5) || (c == ``jn && as.size == 4) then
    let k := if c == ``jY then 1 else 0
    let st ← zq9wh as[3 + k]!
    let h := if st.isAppOfArity ``cb.mk 2 then st.appArg! else mkApp (mkConst ``cb.h) st
    let as' ← zq9nList false 50 as[2 + k]!
    let q ← mkAppM ``Bool.or #[← mkAppM ``List.isEmpty #[h], ← mkAppM ``ai #[as']]
    let q ← if k == 1 then mkAppM ``and #[← mkAppM ``BEq.beq #[as[0]!, mkNatLit 0], q] else pure q
    let (b, pb) ← zq9evB q
    let hl ← mkExpectedTypeHint (← mkEqRefl as[k]!) (← mkEq (← mkAppM ``List.length #[as']) as[k]!)
    if b.isConstOf ``Bool.true then
     let q0 ← mkAppM ``Bool.or #[← mkAppM ``List.isEmpty #[h], ← mkAppM ``ai #[as']]
     let (_, pb0) ← zq9evB q0
     let cl := mkApp2 as[1 + k]! as' (← mkAppOptM ``List.nil #[some (mkConst ``ah)])
     let (r, p) ← zq9ev n cl
     let some (v, h') := zq9okArgs? r | throwError "zq9ev: call's end{indentExpr cl}\n is {r}"
     let fz := mkApp2 (mkConst ``ee) h' v
     let some (qv, pf) ← zq9evO fz | throwError "zq9ev: stuck at {fz}"
     return (zq9okE (mkConst ``PV) qv as[3 + k]!, mkAppN (mkConst (if k == 1 then ``OX else ``Kg)) #[as[k]!, as[1 + k]!, as', as[3 + k]!, v, qv, h', pb0, hl, p, pf])
    else if b.isConstOf ``Bool.false && k == 1 then
     let (r, p) ← zq9ev n (mkApp2 as[2]! as' h)
     let some (v, h') := zq9okArgs? r | throwError "zq9ev: call's end {r}"
     let ρ := if st.isAppOfArity ``cb.mk 2 then st.appFn!.appArg! else mkApp (mkConst ``cb.ρ) st
     return (zq9okE (mkConst ``PV) v (mkApp2 (mkConst ``cb.mk) ρ h'), mkAppN (mkConst ``Vm) #[as[0]!, as[1]!, as[2]!, as', as[4]!, v, h', pb, hl, p])
    else throwError "zq9ev: call with refs? {b} of{indentExpr e}"
   else if c == ``fO && as.size == 4 then
    unless zq9isLit as[2]! 300 || as[2]!.isAppOf ``List.cons do
     let r ← zq9sm e
     if (zq9someArg? r.expr).isSome then
      let some x ← zq9nRes r.expr | throwError "zq9ev: loop{indentExpr r.expr}"
      return (x, ← mkExpectedTypeHint (← r.getProof) (← mkEq e x))
    let ps ← zq9wh as[2]!
    if ps.isAppOf ``List.cons || ps.isAppOf ``List.nil then
     let some d ← withDefault (unfoldDefinition? (mkAppN f #[as[0]!, as[1]!, ps, as[3]!])) | throwError "zq9ev: forF"
     let (r, p) ← zq9ev n (← whnfCore d)
     return (r, ← mkExpectedTypeHint p (← mkEq e r))
    else leaf
   else if c == ``jl && as.size == 5 && as[0]!.isConstOf ``Bool.false then
    let (r, p) ← zq9ev n (mkApp as[2]! as[4]!)
    let some (src, st) := zq9okArgs? r | throwError "zq9ev: source {r}"
    unless src.isAppOf ``A3.sq do throwError "zq9ev: source {src}"
    let ps0 := src.appArg!
    let (ps, p) ← if ps0.isAppOf ``List.map || zq9isLit ps0 300 then pure (ps0, p) else (do
     let r ← zq9sm ps0
     let lt := mkApp (mkConst ``List [0]) (mkConst ``PV)
     let lam := mkLambda `l .default lt (zq9okE (mkConst ``A3) (mkApp (mkConst ``A3.sq) (Lean.Expr.bvar 0)) st)
     return (r.expr, ← mkEqTrans p (← mkCongrArg lam (← r.getProof))))
    let ρ ← zq9nList true 100 (mkApp2 (mkConst ``c6) as[1]! st.appFn!.appArg!)
    let bd := mkApp as[3]! ρ
    let h := st.appArg!
    let le ← mkAppM ``LE.le #[← mkAppM ``List.length #[ps], mkNatLit 4000000]
    let hl ← match ← zq9mkLe (← mkAppM ``List.length #[ps]) (mkNatLit 4000000) with
     | some p => pure p
     | none => match ← zq9byS le with | some p => pure p | none => throwError "zq9ev: length of {ps}"
    let hc ← zq9evC (zq9ev n) bd ps h
    let some (_, _, rc) := (← inferType hc).eq? | throwError "zq9ev: comp"
    let x := rc.appArg!
    let qs := x.appFn!.appArg!
    return (zq9okE (mkConst ``PV) (mkApp (mkConst ``PV.lst) qs) (mkApp2 (mkConst ``cb.mk) st.appFn!.appArg! x.appArg!), mkAppN (mkConst ``XZ) #[as[1]!, as[2]!, as[3]!, as[4]!, st, ps, qs, x.appArg!, p, hl, hc])
   else if c == ``gT && as.size == 4 then
    let st ← zq9wh as[3]!
    let h := if st.isAppOfArity ``cb.mk 2 then st.appArg! else mkApp (mkConst ``cb.h) as[3]!
    let ρ := if st.isAppOfArity ``cb.mk 2 then st.appFn!.appArg! else mkApp (mkConst ``cb.ρ) as[3]!
    let as' ← zq9nList false 50 as[2]!
    let hl ← mkExpectedTypeHint (← mkEqRefl as[0]!) (← mkEq (← mkAppM ``List.length #[as']) as[0]!)
    let (r, p) ← zq9ev n (mkApp2 as[1]! as' h)
    let some (v, h') := zq9okArgs? r | throwError "zq9ev: call's end {r}"
    return (zq9okE (mkConst ``PV) v (mkApp2 (mkConst ``cb.mk) ρ h'), mkAppN (mkConst ``Vn) #[as[0]!, as[1]!, as', as[3]!, v, h', hl, p])
   else if c == ``J5 && as.size == 5 then
    let st ← zq9wh as[4]!
    let h := if st.isAppOfArity ``cb.mk 2 then st.appArg! else mkApp (mkConst ``cb.h) as[4]!
    let ρ := if st.isAppOfArity ``cb.mk 2 then st.appFn!.appArg! else mkApp (mkConst ``cb.ρ) as[4]!
    let l ← zq9nList false 50 as[3]!
    let hl ← mkExpectedTypeHint (← mkEqRefl as[1]!) (← mkEq (← mkAppM ``HAdd.hAdd #[← mkAppM ``List.length #[l], mkNatLit 1]) as[1]!)
    let cell := mkApp2 (mkConst ``ah.mk) (mkApp2 (mkConst ``Kd.ins) as[0]! (mkApp (mkConst ``List.nil [0]) (mkConst ``PySem.Str))) (mkApp (mkConst ``List.nil [0]) (mkConst ``PV))
    let h1 ← mkAppM ``HAppend.hAppend #[h, mkApp3 (mkConst ``List.cons [0]) (mkConst ``ah) cell (mkApp (mkConst ``List.nil [0]) (mkConst ``ah))]
    let me := mkApp (mkConst ``PV.ref) (← mkAppM ``List.length #[h])
    let (r, p) ← zq9ev n (mkApp2 as[2]! (mkApp3 (mkConst ``List.cons [0]) (mkConst ``PV) me l) h1)
    let some (_, h') := zq9okArgs? r | throwError "zq9ev: made, end {r}"
    return (zq9okE (mkConst ``PV) me (mkApp2 (mkConst ``cb.mk) ρ h'), mkAppN (mkConst ``X0) #[as[0]!, as[1]!, as[2]!, l, as[4]!, h', hl, p])
   else if c == ``JT && as.size == 2 then
    let (r, p) ← zq9ev n (mkApp as[0]! as[1]!)
    let some (v, s1) := zq9okArgs? r | throwError "zq9ev: dict of {r}"
    let v ← zq9nVal v
    unless v.isAppOfArity ``PV.nd 2 do throwError "zq9ev: dict of {v}"
    let ps := v.appArg!
    let some (cl, pc) ← zq9evO (mkApp (mkConst ``zm) ps) | throwError "zq9ev: stuck at{indentExpr (mkApp (mkConst ``zm) ps)}"
    let s1w ← zq9wh s1
    let h := if s1w.isAppOfArity ``cb.mk 2 then s1w.appArg! else mkApp (mkConst ``cb.h) s1
    let ρ := if s1w.isAppOfArity ``cb.mk 2 then s1w.appFn!.appArg! else mkApp (mkConst ``cb.ρ) s1
    let h ← zq9stripH 60 h
    let h1 ← mkAppM ``HAppend.hAppend #[h, mkApp3 (mkConst ``List.cons [0]) (mkConst ``ah) cl (mkApp (mkConst ``List.nil [0]) (mkConst ``ah))]
    let me := mkApp (mkConst ``PV.ref) (← mkAppM ``List.length #[h])
    return (zq9okE (mkConst ``PV) me (mkApp2 (mkConst ``cb.mk) ρ h1), mkAppN (mkConst ``X1) #[as[0]!, as[1]!, s1, ps, cl, p, pc])
   else if c == ``run || c == ``Qq then leaf
   else if c == ``nR && as.size == 5 && as[0]!.isConstOf ``Bool && (as[2]!.isAppOf ``cx || as[3]!.isAppOf ``cx) then
    let (r, p) ← zq9ev n (mkApp as[1]! as[4]!)
    let some (b, s1) := zq9okArgs? r | throwError "zq9ev: test {r}"
    if b.isConstOf ``Bool.true || b.isConstOf ``Bool.false then
     let t := b.isConstOf ``Bool.true
     let (r2, p2) ← zq9ev n (mkApp (if t then as[2]! else as[3]!) s1)
     return (r2, mkAppN (mkConst (if t then ``XW else ``XX)) #[as[0]!, as[1]!, as[2]!, as[3]!, as[4]!, s1, r2, p, p2])
    else
     let isA := as[3]!.isAppOf ``cx && as[3]!.appArg!.isConstOf ``Bool.false
     let f := if isA then as[2]! else as[3]!
     withLocalDeclD `hb (← mkEq b (mkConst (if isA then ``Bool.true else ``Bool.false))) fun hb => do
      let thms ← (← Simp.getContext).simpTheorems.addTheorem (.fvar hb.fvarId!) hb
      Simp.withSimpTheorems thms do
       let (r2, p2) ← zq9ev n (mkApp f s1)
       let some (b2, _) := zq9okArgs? r2 | throwError "zq9ev: test {r2}"
       let lam ← mkLambdaFVars #[hb] p2
       return (zq9okE (mkConst ``Bool) (mkApp2 (mkConst (if isA then ``Bool.and else ``Bool.or)) b b2) s1, mkAppN (mkConst (if isA then `evAnd else `evOr)) #[as[1]!, f, as[4]!, s1, b, b2, p, lam])
   else if c == ``Fw && as.size == 5 then
    let (r, p) ← zq9ev n (mkApp as[3]! as[4]!)
    let some (l, st) := zq9okArgs? r | throwError "zq9ev: made {r}"
    let l ← zq9nList false 50 l
    let h := st.appArg!
    let q ← mkAppM ``Bool.or #[← mkAppM ``List.isEmpty #[h], ← mkAppM ``ai #[l]]
    let (b, pb) ← zq9evB q
    unless b.isConstOf ``Bool.true do throwError "zq9ev: made with refs {b}"
    let lc := mkApp (mkConst ``List [0]) (mkConst ``ah)
    let nn := mkApp (mkConst ``List.nil [0]) (mkConst ``PV)
    let nS := mkApp (mkConst ``List.nil [0]) (mkConst ``PySem.Str)
    let cell := mkApp2 (mkConst ``ah.mk) (mkApp2 (mkConst ``Kd.ins) as[0]! nS) nn
    let cells := mkApp3 (mkConst ``List.cons [0]) (mkConst ``ah) cell (mkApp (mkConst ``List.nil [0]) (mkConst ``ah))
    let ar := mkApp3 (mkConst ``List.cons [0]) (mkConst ``PV) (mkApp (mkConst ``PV.ref) (mkNatLit 0)) l
    let (r2, p2) ← zq9ev n (mkApp2 as[2]! ar cells)
    let some (_, h') := zq9okArgs? r2 | throwError "zq9ev: made, end {r2}"
    let dr := mkApp3 (mkConst ``kG) h' (mkNatLit 4) (mkApp (mkConst ``PV.ref) (mkNatLit 0))
    let some (qv, pd) ← zq9evO dr | throwError "zq9ev: stuck at {dr}"
    let hl ← mkExpectedTypeHint (← mkEqRefl as[1]!) (← mkEq (← mkAppM ``HAdd.hAdd #[← mkAppM ``List.length #[l], mkNatLit 1]) as[1]!)
    return (zq9okE (mkConst ``PV) qv st, mkAppN (mkConst `evMk) #[as[0]!, as[1]!, as[2]!, as[3]!, as[4]!, st, l, h', qv, p, hl, pb, p2, pd])
   else if (c == ``Nc || c == ``U2) && as.size == 3 then
    let isA := c == ``Nc
    let (r, p) ← zq9ev n (mkApp as[0]! as[2]!)
    let go : SimpM (Lean.Expr × Lean.Expr) := do
     let some d ← withDefault (unfoldDefinition? e) | red
     zq9ev n (← whnfCore d)
    match zq9okArgs? r with
    | none => go
    | some (v, s1) =>
     unless v.isAppOfArity ``PV.bl 1 do return ← go
     let b := v.appArg!
     let (bn, _) ← zq9evB b
     if !(bn.isConstOf ``Bool.true) && !(bn.isConstOf ``Bool.false) then
      withLocalDeclD `hb (← mkEq b (mkConst (if isA then ``Bool.true else ``Bool.false))) fun hb => do
       let thms ← (← Simp.getContext).simpTheorems.addTheorem (.fvar hb.fvarId!) hb
       Simp.withSimpTheorems thms do
        let (r2, p2) ← zq9ev n (mkApp as[1]! s1)
        let some (v2, _) := zq9okArgs? r2 | throwError "zq9ev: test {r2}"
        unless v2.isAppOfArity ``PV.bl 1 do throwError "zq9ev: and/or of {v2}"
        let b2 := v2.appArg!
        let lam ← mkLambdaFVars #[hb] p2
        return (zq9okE (mkConst ``PV) (mkApp (mkConst ``PV.bl) (mkApp2 (mkConst (if isA then ``Bool.and else ``Bool.or)) b b2)) s1, mkAppN (mkConst (if isA then `evAndG else `evOrG)) #[as[0]!, as[1]!, as[2]!, s1, b, b2, p, lam])
     else go
   else if zq9evUnfold.contains c then
    let some d ← withDefault (unfoldDefinition? e) | red
    zq9ev n (← whnfCore d)
   else
    let some d ← withDefault (unfoldDefinition? e) | red
    let d ← withReducible (whnf d)
    match d.getAppFn with
    | .const c' _ =>
     if c' == ``bnd || c' == ``cx || zq9evUnfold.contains c' then
      let (r, p) ← zq9ev n d
      return (r, ← mkExpectedTypeHint p (← mkEq e r))
     else red
    | _ => red
  | .fvar _ => leaf
  | _ => red
simproc_decl iU (gx _ _) := fun e => do
 let as := e.getAppArgs
 let (r, p) ← zq9ev 400 (mkApp as[1]! as[2]!)
 return .done { expr := r, proof? := mkAppN (mkConst ``ZK) #[as[0]!, as[1]!, as[2]!, r, p] }
simproc_decl aW (ik _ _ _ _) := fun e => do
 let (r, p) ← zq9ev 400 e
 return .done { expr := r, proof? := p }
end
end L2.U
namespace bA
open PySem L2 L2.U
theorem u9(k:Nat){h:List ah}{n:Nat}{v:PV}(e:h[n]?=some (cj v .az)):run aJ (k+1) "taken_back" [.ref n] h=some (.ok v,h):=by
 rw[qm];have e1:=ak e rfl;have e2:=λρ=>Bs (w:=v) (ρ:=ρ) e
 have e3:=λρ=>GG (w:=.az) (ρ:=ρ) e
 simp only[↓aW,e1,e2,e3,GF e]
end bA
set_option maxHeartbeats 2000000
namespace bA
open PySem L2 L2.U
abbrev Pl:Type:=List (Nat×PV)
def T8(h:List ah)(P:Pl):Prop:=∀x∈P,h[x.1]?=some (cj x.2 .az)
def gk(P:Pl):PV:=.lst (P.map λx=>.ref x.1)
def gU(P:Pl):PV:=.lst (P.map λx=>x.2)
noncomputable def bz(x:Str):List dG:=[.inr x]
def kO(H:List (Str×Pl)):ah:=⟨.eV false (H.map λe=>bz e.1),H.map λe=>gk e.2⟩
noncomputable abbrev qR(j:Int)(d:Nat)(r:Int):ah:=⟨.ins "Frame" ["at","has","row"],[.int j,.ref d,.int r]⟩
structure Ac where
 w:Str
 x:Str
 t:Bool
 f:Nat
 m:Nat
 k:Str
def dZ(k:Nat)(a:Ac):PV:=.aj [.int (k:Int),.str a.w,.str a.x,.bl a.t,.int (a.f:Int),.int (a.m:Int),.str a.k]
def fx(a:Ac):PV:=.aj [.str a.w,.str a.x,.bl a.t,.int (a.f:Int),.int (a.m:Int),.str a.k]
theorem sP{x:Str}:∀{H:List (Str×Pl)} {P:Pl},H.lookup x=some P->dO (bz x) (H.map λe=>bz e.1) (H.map λe=>gk e.2)=some (gk P)
 | [],_,e=>by cases e
 | (y,Q)::H,P,e=>by
  show(if bz y=bz x then some (gk Q)else dO (bz x) (H.map λe=>bz e.1) (H.map λe=>gk e.2))=_
  rw[ek]at e;by_cases h:x=y
  ·subst h;rw[if_pos rfl];rw[i5]at e;cases e;rfl
  ·rw[if_neg (λz=>h (by unfold bz at z;injection z with z1 _;injection z1 with z2;exact z2.symm))]
   rw[bI.mpr h]at e;exact sP e
theorem GH{h:List ah}{d:Nat}{H:List (Str×Pl)}{x:Str}{P:Pl}(e:h[d]?=some (kO H))(l:H.lookup x=some P):aI h (.ref d) (.str x)=some (gk P):=by
 have e1:=ak (k:=.eV false (H.map λe=>bz e.1)) (ps:=H.map λe=>gk e.2) e rfl
 simp only[aI,e1];exact sP l
theorem GI(k:Nat){h:List ah}{v:PV}:Dy (run aJ k) "Place" [.ref h.length,v] (h++[⟨.ins "Place" [],[]⟩])=some (.ok .az,h++[cj v .az]):=by
 rw[Gw];have e1:∀ρ,fI fJ fK "value" (.ref h.length) v ⟨ρ,h++[⟨.ins "Place" [],[]⟩]⟩=some ⟨ρ,h++[⟨.ins "Place" ["value"],[v]⟩]⟩:=λρ=>by
  rw[gI cH (by kernel_rfl)]
  simp[iD]
 have e2:∀ρ,fI fJ fK "away" (.ref h.length) .az ⟨ρ,h++[⟨.ins "Place" ["value"],[v]⟩]⟩=some ⟨ρ,h++[cj v .az]⟩:=λρ=>by
  rw[gI cH (by kernel_rfl)]
  simp only[bX,cJ,ki,oR,Nat.lt_add_one,List.set_append_right,aD,Nat.sub_self,List.set_cons_zero];rfl
 simp only[↓aW,e1,e2]
theorem T9{h:List ah}{k:Nat}{a:Ac}:aI h (dZ k a) (.int 2)=some (.str a.x):=rfl
theorem Ua{h:List ah}{k:Nat}{a:Ac}:aI h (dZ k a) (.int 4)=some (.int (a.f:Int)):=rfl
theorem Ub{h:List ah}{k:Nat}{a:Ac}:aI h (dZ k a) (.int 5)=some (.int (a.m:Int)):=rfl
theorem LJ{h:List ah}{k:Nat}{a:Ac}:aI h (dZ k a) (.int 1)=some (.str a.w):=rfl
theorem Kh{α:Type}(f:α->PV)(P:List α)(a m:Nat)(hm:a+m<=P.length):ic (P.map f) (some (a:Int)) (some ((a:Int)+(m:Int)))=((P.drop a).take m).map f:=by
 unfold ic;have e:((a:Int)+(m:Int))=((a+m:Nat):Int):=rfl;rw[e,HT.lj,HT.lj,aM,oN (by lia),oN (by lia),Nat.add_sub_cancel_left,t9,List.map_drop]
theorem xg(c:Nat){h:List ah}{fi d k:Nat}{j r:Int}{H:List (Str×Pl)}{a:Ac}{P:Pl}(e1:h[fi]?=some (qR j d r))(e2:h[d]?=some (kO H))(l:H.lookup a.x=some P)(hm:a.f+a.m<=P.length)(hP:P.length<=1000) :
  run aJ (c+1) "places_of" [.ref fi,dZ k a] h=some (.ok (gk ((P.drop a.f).take a.m)),h):=by
 rw[rm];have d1:=ak e1 rfl;have i1:=GH e2 l;simp only[↓aW,d1,i1,T9,Ua,Ub,Kh _ P a.f a.m hm];rfl
theorem hne{h:List ah}{n:Nat}{c:ah}(e:h[n]?=some c):h.isEmpty=false:=by
 cases h with
 | nil=>simp at e
 | cons _ _=>rfl
theorem jQ(n:Nat)(L:List PV):ai (.ref n::L)=false:=rfl
noncomputable def bG(H:List (Str×Pl))(a:Ac):Pl:=(((H.lookup a.x).getD []).drop a.f).take a.m
structure rn (h:List ah) (fi d:Nat) (j r:Int) (H:List (Str×Pl)):Prop where
 f:h[fi]?=some (qR j d r)
 d:h[d]?=some (kO H)
 p:∀e∈H,T8 h e.2
 l:∀e∈H,e.2.length<=1000
def n4(H:List (Str×Pl))(a:Ac):Prop:=∃P,H.lookup a.x=some P/\a.f+a.m<=P.length
theorem zQ{H:List (Str×Pl)}{x:Str}{P:Pl}:H.lookup x=some P->(x,P)∈H:=fw
theorem rn.pl{h:List ah}{fi d:Nat}{j r:Int}{H:List (Str×Pl)}(R:rn h fi d j r H)(a:Ac):T8 h (bG H a):=by
 unfold bG;cases e:H.lookup a.x with
 | none=>intro x hx;simp at hx
 | some P=>exact λx hx=>R.p _ (zQ e) x (List.mem_of_mem_drop (List.mem_of_mem_take hx))
theorem Uc(c:Nat){h:List ah}{fi d k:Nat}{j r:Int}{H:List (Str×Pl)}{a:Ac}(R:rn h fi d j r H)(ft:n4 H a) :
  run aJ (c+1) "places_of" [.ref fi,dZ k a] h=some (.ok (gk (bG H a)),h):=by
 obtain⟨P,l,hm⟩:=ft;have e:bG H a=(P.drop a.f).take a.m:=by unfold bG;rw[l];rfl
 rw[e];exact xg c R.f R.d l hm (R.l _ (zQ l))
theorem OZ{H:List (Str×Pl)}{a:Ac}{h:List ah}{fi d:Nat}{j r:Int}(R:rn h fi d j r H):(bG H a).length<=1000:=by
 unfold bG;cases e:H.lookup a.x with
 | none=>simp
 | some P =>
  refine aP ?_ (R.l _ (zQ e));simp only[yi,mw,tO]
  lia
theorem ow(c:Nat){h:List ah}{w fi d k:Nat}{j r:Int}{H:List (Str×Pl)}{a:Ac}(R:rn h fi d j r H)(ft:n4 H a) :
  run aJ (c+2) "Places.touch" [.ref w,.ref fi,dZ k a] h=some (.ok (gU (bG H a)),h):=by
 rw[mT];have e1:=Uc c R ft (k:=k);have e2:∀x∈bG H a,run aJ (c+1) "taken_back" [.ref x.1] h=some (.ok x.2,h):=λx hx=>u9 c (R.pl a x hx)
 have e3:(bG H a).length<=4000000:=aP (OZ R) (by decide)
 have hE:=hne R.f;simp only[↓aW,e1,e2,e3,gk,aM,hE,jQ,aB,ay];rfl
end bA
set_option maxHeartbeats 2000000
namespace bA
open PySem L2 L2.U
def vc(h:List ah):Pl->List PV->List ah
 | x::P,w::W=>vc (h.set x.1 (cj w .az)) P W
 | _,_=>h
theorem lV:∀(P:Pl) (W:List PV) (h:List ah),Ch h (vc h P W) (P.map (·.1))
 | [],_,h=>Ch.refl h _
 | _::_,[],h=>Ch.refl h _
 | x::P,w::W,h=>by
  refine Ch.tr ((Ch.set (cj w .az)).mono (B:=(x::P).map (·.1)) (by simp)) (lV P W _) ?_
  intro n hn _;simp only[aQ,bh];exact .inr hn
noncomputable def newV(P:Pl)(W:List PV)(x:Nat×PV):PV:=match P,W with
 | y::P,w::W=>newV P W (x.1,if y.1=x.1 then w else x.2)
 | _,_=>x.2
theorem Bt:∀(P:Pl) (W:List PV) (h:List ah) (x:Nat×PV),h[x.1]?=some (cj x.2 .az)->(vc h P W)[x.1]?=some (cj (newV P W x) .az)
 | [],_,_,x,e=>by unfold newV;exact e
 | _::_,[],_,x,e=>by unfold newV;exact e
 | y::P,w::W,h,x,e=>by
  unfold newV;refine Bt P W (h.set y.1 (cj w .az)) (x.1,if y.1=x.1 then w else x.2) ?_
  show(h.set y.1 (cj w .az))[x.1]?=some (cj (if y.1=x.1 then w else x.2) .az)
  by_cases hy:y.1=x.1
  ·rw[if_pos hy,hy];exact cC e
  ·rw[if_neg hy,aL hy];exact e
def O0(H:List (Str×Pl))(P:Pl)(W:List PV):List (Str×Pl):=H.map λe=>(e.1,e.2.map λx=>(x.1,newV P W x))
theorem Ki(H:List (Str×Pl))(P:Pl)(W:List PV):kO (O0 H P W)=kO H:=by
 unfold kO O0 gk;simp only[mF,Function.comp_def]
theorem LK{h:List ah}{P:Pl}(hP:T8 h P){n:Nat}{c:ah}(e:h[n]?=some c)(hc:∀v,c≠cj v .az):n∉P.map (·.1):=by
 intro hm;obtain⟨x,hx,rfl⟩:=ez.mp hm;rw[hP x hx]at e;cases e;exact hc _ rfl
theorem rn.store{h:List ah}{fi d:Nat}{j r:Int}{H:List (Str×Pl)}(R:rn h fi d j r H){P:Pl}(hP:T8 h P)(W:List PV):rn (vc h P W) fi d j r (O0 H P W) where
 f:=(lV P W h).get R.f (LK hP R.f λv z=>by cases z)
 d:=by rw[Ki];exact(lV P W h).get R.d (LK hP R.d λv z=>by unfold kO at z;cases z)
 p:=λe he x hx=>by
  obtain⟨e0,X2,rfl⟩:=ez.mp he;obtain⟨x0,hx0,rfl⟩:=ez.mp hx;exact Bt P W h x0 (R.p e0 X2 x0 hx0)
 l:=λe he=>by
  obtain⟨e0,X2,rfl⟩:=ez.mp he;rw[aM];exact R.l e0 X2
theorem Bu{x0 x1 x2 x3:Option PV}:∀(P:Pl) (W:List PV) (h:List ah) (x4 x5:Option PV),(∀x∈P,∃v,h[x.1]?=some (cj v .az))->P.length=W.length ->
  ∃y4 y5,fO Q0 (JO fJ fK "value" (rd 5) (rd 4)) (List.zipWith fu (P.map λx=>.ref x.1) W) ⟨[x0,x1,x2,x3,x4,x5],h⟩=some (.ok .nx,⟨[x0,x1,x2,x3,y4,y5],vc h P W⟩)
 | [],[],h,x4,x5,_,_=>⟨x4,x5,rfl⟩
 | [],_::_,h,x4,x5,_,e=>by cases e
 | _::_,[],h,x4,x5,_,e=>by cases e
 | x::P,w::W,h,x4,x5,hp,e=>by
  obtain⟨v,e1⟩:=hp x (by simp)
  obtain⟨y4,y5,ih⟩:=Bu (x0:=x0) (x1:=x1) (x2:=x2) (x3:=x3) P W (h.set x.1 (cj w .az)) (some (.ref x.1)) (some w) (λz hz=>by
   obtain⟨u,e2⟩:=hp z (by simp[hz])
   by_cases hx:x.1=z.1
   ·exact⟨w,by rw[hx];exact cC e2⟩
   ·exact⟨u,by rw[aL hx];exact e2⟩) (by simpa using e)
  refine⟨y4,y5,?_⟩;have e2:=λρ=>Bs (w:=w) (ρ:=ρ) e1
  refine bW ?_;simp only[aQ,List.zipWith_cons_cons,fu];simp only[↓iU,e2,ih];rfl
theorem Bv(c:Nat){h:List ah}{w fi d k:Nat}{j r:Int}{H:List (Str×Pl)}{a:Ac}{W:List PV}(R:rn h fi d j r H)(ft:n4 H a)(hW:W.length=(bG H a).length) :
  run aJ (c+2) "Places.store" [.ref w,.ref fi,dZ k a,.lst W] h=some (.ok .az,vc h (bG H a) W):=by
 rw[mU];have e1:=Uc c R ft (k:=k);have hE:=hne R.f;have hz:FP (gk (bG H a)) (.lst W)=some (List.zipWith fu ((bG H a).map λx=>.ref x.1) W):=rfl
 obtain⟨y4,y5,hl⟩:=Bu (x0:=some (.ref w)) (x1:=some (.ref fi)) (x2:=some (dZ k a)) (x3:=some (.lst W)) (bG H a) W h none none (λx hx=>⟨x.2,R.pl a x hx⟩) hW.symm
 simp only[↓aW,e1,hE,jQ,hz,hl,aB,ay]
noncomputable def j3:Nat->List PV->Pl
 | _,[]=>[]
 | n,v::vs=>(n,v)::j3 (n+1) vs
theorem xh{bd:PV->List ah->Option (Option PV×List ah)}(hb:∀v h,bd v h=some (some (.ref h.length),h++[cj v .az])):∀(vs:List PV) (h:List ah),d6 bd vs h=some ((j3 h.length vs).map λx=>.ref x.1,h++vs.map λv=>cj v .az)
 | [],h=>by simp[d6,j3]
 | v::vs,h=>by
  rw[qp (hb v h) (xh hb vs _)];simp[j3]
theorem xi(k:Nat)(vs:List PV)(h:List ah):d6 (pY (dc 1) (Qn "Place" 2 (Dy (run aJ k) "Place") (jX (rd 1) (cx []))) [none,none]) vs h=some ((j3 h.length vs).map λx=>.ref x.1,h++vs.map λv=>cj v .az):=by
 refine xh (λv h=>?_) vs h
 refine OY (st1:=⟨[none,some v],h⟩) (OU:=[none,some v]) rfl ?_;have e1:=GI k (h:=h) (v:=v);refine bW ?_;simp only[↓iU,e1]
theorem Kj(c:Nat){h:List ah}{w:Nat}{j:PV}{vs:List PV}(hv:vs.length<=1000):run aJ (c+1) "Places.owned" [.ref w,j,.lst vs] h=some (.ok (gk (j3 h.length vs)),h++vs.map λv=>cj v .az):=by
 rw[ip];have e3:vs.length<=4000000:=aP hv (by decide)
 simp only[↓aW,e3,xi];rfl
end bA
set_option maxHeartbeats 2000000
namespace bA
open PySem L2 L2.U
structure Nm where
 a:Str
 b:Str
 c:Str
 f:Nat->Str
 z:Nat
structure aT (N:Nm):Prop where
 ab:N.a≠N.b
 ac:N.a≠N.c
 bc:N.b≠N.c
 a0:N.a≠""
 b0:N.b≠""
 c0:N.c≠""
 ff:∀i j,i<3->j<3->N.f i=N.f j->i=j
 z1:1<=N.z
 z8:N.z<=8
inductive N3 where
 | a | b | c
noncomputable def Nm.n(N:Nm):N3->Str
 | .a=>N.a
 | .b=>N.b
 | .c=>N.c
def xj(z:Nat):PV:=.aj [.str "rec",.aj [.aj [.str "strip",.int (z:Int)],.aj [.str "num"]]]
def Ud:PV:=.aj [.str "num"]
def qQ(N:Nm):N3->PV
 | .c=>xj N.z
 | _=>Ud
inductive Ix where
 | at (i:Nat) | a | b
noncomputable def xJ(N:Nm):Ix->PV
 | .at i=>.int (i:Int)
 | .a=>.str N.a
 | .b=>.str N.b
inductive Sp where
 | a | b | i (x:Ix) | s | n
def gA(N:Nm):Sp->PV
 | .a=>.aj [.str N.a,.bl false,.aj [],.az]
 | .b=>.aj [.str N.b,.bl false,.aj [],.az]
 | .i x=>.aj [.str N.c,.bl false,.aj [.int 0],xJ N x]
 | .s=>.aj [.str N.c,.bl false,.aj [.int 0],.az]
 | .n=>.aj [.str N.c,.bl false,.aj [.int 1],.az]
noncomputable def Sp.x:Sp->N3
 | .a=>.a
 | .b=>.b
 | _=>.c
def Sp.f:Sp->Nat
 | .n=>1
 | _=>0
inductive Op where
 | num (i:Int) | sp (s:Sp)
def jw(N:Nm):Op->PV
 | .num i=>.int i
 | .sp s=>gA N s
inductive Sg where
 | add | sub | mul
noncomputable def O1:Sg->Str
 | .add=>"+"
 | .sub=>"-"
 | .mul=>"*"
inductive Rw where
 | put (s:Sp) (o:Op)
 | fill (o:Op)
 | set (s:Sp) (g:Sg) (o p:Op)
 | iG (o:Op)
 | call (j:Nat) (t:Option N3) (as:List N3)
 | ifs (o p:Op) (k:Nat)
 | go (k:Nat)
 | bj (t:Option N3)
def Bw(N:Nm):Option N3->Str
 | none=>""
 | some x=>N.n x
def aR(N:Nm):Rw->PV
 | .put s o=>.aj [.str "put",gA N s,jw N o]
 | .fill o=>.aj [.str "fill",gA N .s,jw N o]
 | .set s g o p=>.aj [.str "set",gA N s,.str (O1 g),jw N o,jw N p]
 | .iG o=>.aj [.str "say",jw N o]
 | .call j t as=>.aj [.str "call",.str (Bw N t),.str (N.f j),.aj (as.map λx=>.str (N.n x))]
 | .ifs o p k=>.aj [.str "if",jw N o,jw N p,.int (k:Int)]
 | .go k=>.aj [.str "go",.int (k:Int)]
 | .bj t=>.aj [.str "give",.str (Bw N t)]
structure Fd where
 f:Str
 w:Bool
 r:Option N3
 rows:List Rw
noncomputable def par(w:Bool):List N3:=if w=true then [.a,.c]else [.a]
noncomputable def O4(w:Bool):List N3:=if w=true then [.b]else [.b,.c]
def dA(N:Nm)(x:N3):PV:=.aj [.str (N.n x),qQ N x]
def qr(N:Nm):Option N3->PV
 | none=>.az
 | some x=>qQ N x
def fdP(N:Nm)(F:Fd):PV:=.aj [.str F.f,.aj ((par F.w).map (dA N)),qr N F.r,.aj ((O4 F.w).map (dA N)),.aj (F.rows.map (aR N))]
theorem Bx(N:Nm)(s:Sp):noRef (gA N s)=true:=by
 cases s
 case i x=>cases x<;>rfl
 all_goals rfl
theorem GJ(N:Nm)(o:Op):noRef (jw N o)=true:=by
 cases o
 ·rfl
 ·exact Bx N _
theorem dw{α:Type}{f:α->PV}(h:∀x,noRef (f x)=true):∀l:List α,ai (l.map f)=true
 | []=>rfl
 | x::l=>by rw[aQ,ai,h x,dw h l];rfl
theorem mW{l:List PV}(h:ai l=true):noRef (.lst l)=true:=by rw[noRef];exact h
theorem zR{l:List PV}(h:ai l=true):noRef (.aj l)=true:=by rw[noRef];exact h
theorem iQ(N:Nm)(x:N3):noRef (qQ N x)=true:=by cases x<;>rfl
theorem GL(N:Nm)(r:Option N3):noRef (qr N r)=true:=by
 cases r
 ·rfl
 ·exact iQ N _
theorem nG(N:Nm)(r:Rw):noRef (aR N r)=true:=by
 cases r
 case call j t as=>simp only[aR,noRef,ai,mB,bY];exact dw (λ_=>rfl) as
 all_goals simp[aR,noRef,ai,Bx,GJ,dw]
theorem nH(N:Nm)(F:Fd):noRef (fdP N F)=true:=by
 simp[fdP,dA,noRef,ai,dw,iQ,GL,nG]
theorem aT.n{N:Nm}(K:aT N):∀{x y:N3},N.n x=N.n y->x=y
 | .a,.a,_=>rfl
 | .b,.b,_=>rfl
 | .c,.c,_=>rfl
 | .a,.b,h=>absurd h K.ab
 | .b,.a,h=>absurd h.symm K.ab
 | .a,.c,h=>absurd h K.ac
 | .c,.a,h=>absurd h.symm K.ac
 | .b,.c,h=>absurd h K.bc
 | .c,.b,h=>absurd h.symm K.bc
theorem Kk{h:List ah}{x y:Str}:qO h (.str x) (.str y)=some (.bl (x==y)):=rfl
theorem jx(c:Nat){N:Nm}(K:aT N)(F:Fd)(x:N3):run aJ (c+1) "kind_of" [fdP N F,.str (N.n x)] []=some (.ok (qQ N x),[]):=by
 rw[wY];have hab:=bI.mpr K.ab;have hac:=bI.mpr K.ac;have X3:=bI.mpr K.bc;have X4:=bI.mpr K.ab.symm;have X5:=bI.mpr K.ac.symm;have X6:=bI.mpr K.bc.symm;obtain⟨f,w,r,rows⟩:=F;cases w<;>cases x<;>simp only[↓aW,Kk,fdP,par,O4,dA,Nm.n,hab,hac,X3,X4,X5,X6,i5]<;>rfl
end bA
set_option maxHeartbeats 2000000
namespace bA
open PySem L2 L2.U
def nI:N3->Nat
 | .c=>2
 | _=>1
def O5(N:Nm)(w:Str)(s:Sp):Ac:=⟨w,N.n s.x,false,s.f,1,""⟩
def Qs(N:Nm)(w:Str)(x:N3):Ac:=⟨w,N.n x,false,0,nI x,""⟩
theorem dy(c:Nat)(N:Nm)(x:N3):run aJ (c+1) "is_holder" [qQ N x] []=some (.ok (.bl false),[]):=by
 cases x<;>kernel_rfl
theorem ox(c:Nat)(N:Nm)(x:N3):run aJ (c+2) "shape_of" [qQ N x] []=some (.ok (qQ N x),[]):=by
 cases x<;>kernel_rfl
theorem touch_s(c:Nat){N:Nm}(K:aT N)(F:Fd)(w t:Str)(s:Sp):run aJ (c+8) "touch" [fdP N F,.str w,gA N s,.str t] []=some (.ok (fx ⟨w,N.n s.x,false,s.f,1,t⟩),[]):=by
 rw[sM];have e1:∀h,aI h (gA N s) (.int 0)=some (.str (N.n s.x)):=λh=>by cases s<;>rfl
 have e2:∀h,aI h (gA N s) (.int 1)=some (.bl false):=λh=>by cases s<;>rfl
 have e3:=λx=>jx (c+6) K F x
 have e4:=λx=>ox (c+5) N x
 cases s<;>simp only[↓aW,e1,e2,e3,e4]<;>rfl
theorem touch_w(c:Nat){N:Nm}(K:aT N)(F:Fd)(w t:Str)(x:N3):run aJ (c+8) "touch" [fdP N F,.str w,.aj [.str (N.n x),.bl false,.aj [],.az],.str t] []=some (.ok (fx ⟨w,N.n x,false,0,nI x,t⟩),[]):=by
 rw[sM];have e3:=λx=>jx (c+6) K F x
 have e4:=λx=>ox (c+5) N x
 cases x<;>simp only[↓aW,e3,e4]<;>rfl
theorem oy(c:Nat){N:Nm}(K:aT N)(F:Fd)(w t:Str)(x:N3):run aJ (c+9) "touch_whole" [fdP N F,.str w,.str (N.n x),.str t] []=some (.ok (fx ⟨w,N.n x,false,0,nI x,t⟩),[]):=by
 rw[nX];have e3:=λx=>jx (c+7) K F x
 have e4:=λx=>dy (c+7) N x
 have e5:=touch_w c K F w t x;simp only[↓aW,e3,e4,e5]
def mX(N:Nm)(x:N3):Ac:=Qs N "read" x
def xK(N:Nm):Sp->List Ac
 | .i .a=>[mX N .a]
 | .i .b=>[mX N .b]
 | _=>[]
def n6(N:Nm):Op->List Ac
 | .num _=>[]
 | .sp s=>xK N s++[O5 N "read" s]
def De(N:Nm):Sp->List Ac
 | .i x=>xK N (.i x)++[O5 N "turn" (.i x)]
 | s=>[O5 N "fill" s]
noncomputable def xk:Ac:=⟨"hand","",false,0,0,""⟩
def bP(N:Nm):Rw->List Ac
 | .put s o=>n6 N o++De N s
 | .fill o=>n6 N o++De N .s
 | .set s _ o p=>n6 N o++n6 N p++De N s
 | .iG o=>n6 N o
 | .call _ t as=>as.map (mX N)++xk::(match t with | none=>[] | some x=>[Qs N "fill" x])
 | .ifs o p _=>n6 N o++n6 N p
 | .go _=>[]
 | .bj t=>match t with | none=>[] | some x=>[mX N x]
noncomputable def Kl:Rw->Str
 | .put _ _=>"put_acts"
 | .fill _=>"put_acts"
 | .set _ _ _ _=>"set_acts"
 | .iG _=>"say_acts"
 | .call _ _ _=>"call_acts"
 | .ifs _ _ _=>"if_acts"
 | .go _=>"go_acts"
 | .bj _=>"give_acts"
theorem Ue(c:Nat){N:Nm}(K:aT N)(F:Fd)(s:Sp):run aJ (c+10) "at_acts" [fdP N F,gA N s] []=some (.ok (.lst ((xK N s).map fx)),[]):=by
 rw[wZ];have e1:run aJ (c+9) "touch_whole" [fdP N F,.str "read",.str N.a,.str ""] []=some (.ok (fx (mX N .a)),[]):=oy c K F "read" "" .a;have e2:run aJ (c+9) "touch_whole" [fdP N F,.str "read",.str N.b,.str ""] []=some (.ok (fx (mX N .b)),[]):=oy c K F "read" "" .b;cases s
 case i x=>cases x<;>simp only[↓aW,gA,xJ,e1,e2]<;>rfl
 all_goals (simp only[↓aW,gA,xJ]<;>rfl)
theorem qt(c:Nat){N:Nm}(K:aT N)(F:Fd)(o:Op):run aJ (c+11) "operand_acts" [fdP N F,jw N o] []=some (.ok (.lst ((n6 N o).map fx)),[]):=by
 rw[mV];cases o with
 | num i=>simp only[↓aW,jw]<;>rfl
 | sp s =>
  have e1:=Ue c K F s;have e2:=touch_s (c+2) K F "read" "" s;have e4:∀st,U5 Ty.tuple (rd 1) ⟨[some (fdP N F),some (gA N s)],st⟩=some (.ok (.bl true),⟨[some (fdP N F),some (gA N s)],st⟩):=λst=>by cases s<;>rfl
  cases s
  case i x=>cases x<;>simp only[↓aW,jw,e1,e2,e4]<;>rfl
  all_goals (simp only[↓aW,jw,e1,e2,e4]<;>rfl)
end bA
set_option maxHeartbeats 2000000
namespace bA
open PySem L2 L2.U
theorem aT.n0{N:Nm}(K:aT N)(x:N3):N.n x≠"":=by
 cases x
 ·exact K.a0
 ·exact K.b0
 ·exact K.c0
theorem add_l{h:List ah}(A B:List Ac)(hl:A.length+B.length<=1000):cY h (.lst (A.map fx)) (.lst (B.map fx))=some (.lst ((A++B).map fx)):=by
 show L2.U.sizeOk ((A.map fx).length+(B.map fx).length) (.lst (A.map fx++B.map fx))=_;rw[aM,aM,fD];unfold L2.U.sizeOk;exact if_pos (aP hl (by decide))
theorem oA(N:Nm)(s:Sp):(xK N s).length<=1:=by
 cases s
 case i x=>cases x<;>simp[xK]
 all_goals simp[xK]
theorem dh(N:Nm)(o:Op):(n6 N o).length<=2:=by
 cases o with
 | num i=>simp[n6]
 | sp s=>have:=oA N s;simp[n6];lia
theorem jI(N:Nm)(s:Sp):(De N s).length<=2:=by
 cases s
 case i x=>have:=oA N (.i x);simp[De];lia
 all_goals simp[De]
theorem GN(c:Nat){N:Nm}(K:aT N)(F:Fd)(s:Sp):run aJ (c+11) "target_acts" [fdP N F,gA N s] []=some (.ok (.lst ((De N s).map fx)),[]):=by
 rw[nY];cases s
 case i x =>
  have e1:=Ue c K F (.i x);have e2:=touch_s (c+2) K F "turn" "" (.i x);have e3:=λh=>add_l (h:=h) (xK N (.i x)) [O5 N "turn" (.i x)] (by have:=oA N (.i x);simp;lia)
  cases x<;>simp only[↓aW,e1,e2,e3]<;>rfl
 case a=>have e2:=touch_s (c+2) K F "fill" "" .a;simp only[↓aW,e2];rfl
 case b=>have e2:=touch_s (c+2) K F "fill" "" .b;simp only[↓aW,e2];rfl
 case s=>have e2:=touch_s (c+2) K F "fill" "" .s;simp only[↓aW,e2];rfl
 case n=>have e2:=touch_s (c+2) K F "fill" "" .n;simp only[↓aW,e2];rfl
theorem Ug(c:Nat){N:Nm}(K:aT N)(F:Fd)(s:Sp)(o:Op):run aJ (c+12) "put_acts" [fdP N F,aR N (.put s o)] []=some (.ok (.lst ((bP N (.put s o)).map fx)),[]):=by
 rw[lS];have e1:=qt c K F o;have e2:=GN c K F s;have e3:=λh=>add_l (h:=h) (n6 N o) (De N s) (by have:=dh N o;have:=jI N s;lia)
 simp only[↓aW,e1,e2,e3,aR];rfl
theorem O6(c:Nat){N:Nm}(K:aT N)(F:Fd)(o:Op):run aJ (c+12) "put_acts" [fdP N F,aR N (.fill o)] []=some (.ok (.lst ((bP N (.fill o)).map fx)),[]):=by
 rw[lS];have e1:=qt c K F o;have e2:=GN c K F .s;have e3:=λh=>add_l (h:=h) (n6 N o) (De N .s) (by have:=dh N o;have:=jI N .s;lia)
 simp only[↓aW,e1,e2,e3,aR];rfl
theorem Uh(c:Nat){N:Nm}(K:aT N)(F:Fd)(s:Sp)(g:Sg)(o p:Op):run aJ (c+12) "set_acts" [fdP N F,aR N (.set s g o p)] []=some (.ok (.lst ((bP N (.set s g o p)).map fx)),[]):=by
 rw[u0];have e1:=qt c K F o;have e4:=qt c K F p;have e2:=GN c K F s;have l1:=dh N o;have l2:=dh N p;have l3:=jI N s;have e3:=λh=>add_l (h:=h) (n6 N o) (n6 N p) (by lia)
 have e5:=λh=>add_l (h:=h) (n6 N o++n6 N p) (De N s) (by rw[bX];lia)
 simp only[↓aW,e1,e2,e3,e4,e5,aR];rfl
theorem Ui(c:Nat){N:Nm}(K:aT N)(F:Fd)(o:Op):run aJ (c+12) "say_acts" [fdP N F,aR N (.iG o)] []=some (.ok (.lst ((bP N (.iG o)).map fx)),[]):=by
 rw[u3];have e1:=qt c K F o;simp only[↓aW,e1,aR];rfl
theorem Uj(c:Nat){N:Nm}(K:aT N)(F:Fd)(o p:Op)(k:Nat):run aJ (c+12) "if_acts" [fdP N F,aR N (.ifs o p k)] []=some (.ok (.lst ((bP N (.ifs o p k)).map fx)),[]):=by
 rw[w6];have e1:=qt c K F o;have e4:=qt c K F p;have l1:=dh N o;have l2:=dh N p;have e3:=λh=>add_l (h:=h) (n6 N o) (n6 N p) (by lia)
 simp only[↓aW,e1,e3,e4,aR];rfl
theorem X7(c:Nat){N:Nm}(F:Fd)(k:Nat):run aJ (c+12) "go_acts" [fdP N F,aR N (.go k)] []=some (.ok (.lst ((bP N (.go k)).map fx)),[]):=by
 rw[w9];simp only[↓aW];rfl
theorem GO(c:Nat)(N:Nm)(x:N3):run aJ (c+4) "is_copied" [qQ N x] []=some (.ok (.bl true),[]):=by
 cases x<;>kernel_rfl
theorem By(c:Nat){N:Nm}(K:aT N)(F:Fd)(x:N3):run aJ (c+10) "owner_act" [fdP N F,.str (N.n x)] []=some (.ok (fx (mX N x)),[]):=by
 rw[rj];have e1:=jx (c+8) K F x;have e2:=GO (c+5) N x;have e3:=oy c K F "read" "" x;simp only[↓aW,e1,e2,e3];rfl
theorem O7(c:Nat){N:Nm}(K:aT N)(F:Fd)(t:Option N3):run aJ (c+12) "give_acts" [fdP N F,aR N (.bj t)] []=some (.ok (.lst ((bP N (.bj t)).map fx)),[]):=by
 rw[rk];cases t with
 | none=>simp only[↓aW,aR,Bw];rfl
 | some x =>
  have e1:=jx (c+10) K F x;have e2:=dy (c+10) N x;have e3:=By (c+1) K F x;have e4:∀h,qO h (.str (N.n x)) (.str "")=some (.bl false):=λh=>by
   show some (PV.bl (N.n x==""))=_;rw[bI.mpr (K.n0 x)]
  simp only[↓aW,aR,Bw,e1,e2,e3,e4];rfl
theorem Uk(c:Nat){N:Nm}(K:aT N)(F:Fd)(x:N3)(t:Str):run aJ (c+11) "arg_act" [fdP N F,.str (N.n x),.str t] []=some (.ok (fx (mX N x)),[]):=by
 rw[w5];have e1:=jx (c+9) K F x;have e2:=dy (c+9) N x;have e3:=By c K F x;simp only[↓aW,e1,e2,e3]
end bA
set_option maxHeartbeats 2000000
namespace bA
open PySem L2 L2.U
def ZL(p:PV):Gx PV:=λst=>match p with
 | .nd .lst qs=>iS ⟨.lst,qs⟩ st
 | _=>none
theorem xl(link:List (Option Nat))(fi:Gx A3)(bd:Bd):jl true link fi bd=bnd (jl false link fi bd) ZL:=by
 funext st
 unfold jl bnd;cases fi st with
 | none=>rfl
 | some r =>
  obtain⟨r,st1⟩:=r;cases r with
  | ok s =>
   show(A5 (bd (c6 link st1.ρ)) st1.h s).bind (A6 true st1.ρ)=((A5 (bd (c6 link st1.ρ)) st1.h s).bind (A6 false st1.ρ)).bind (Nb ZL);cases A5 (bd (c6 link st1.ρ)) st1.h s<;>rfl
  | ex m C=>rfl
theorem lW{h:List ah}{n:Nat}:∀{l:List PV},ai l=true->dq (kG h n) l=some l
 | [],_=>rfl
 | p::l,hn=>by
  simp only[ai,aF]at hn;show(kG h n p).bind (λy=>(dq (kG h n) l).map λys=>y::ys)=_
  rw[lW hn.2,show kG h n p=some p by cases n<;>(unfold kG;rw[if_pos hn.1])]
  rfl
theorem jy{ps:List PV}(h:ai ps=true):ee [⟨.lst,ps⟩] (.ref 0)=some (.lst ps):=by
 show(dq (kG _ 3) ps).map _=_;rw[lW h];rfl
theorem qu{ρ:List (Option PV)}{F:List PV}{v:PV}(h:F.length<=4000):ie (fH iC) (.ref 0) [v] ⟨ρ,[⟨.lst,F⟩]⟩=some (.ok .az,⟨ρ,[⟨.lst,F++[v]⟩]⟩):=by
 have:iC F [v]=some (F++[v]):=if_pos (show F.length<gy from mn h (by decide))
 show(((iC F [v]).map λqs=>((⟨.lst,qs⟩:ah),PV.az)).map λr=>_)=_
 rw[this];rfl
theorem Ul(a:Ac):noRef (fx a)=true:=by simp[fx,noRef,ai]
theorem qw(A:List Ac):ai (A.map fx)=true:=dw Ul A
def GP(as:List N3):Prop:=(∃x,as=[x])\/∃x y,as=[x,y]
theorem O8(c:Nat){N:Nm}(K:aT N)(F:Fd)(j:Nat)(t:Option N3)(as:List N3)(ha:GP as):∃p h',ee h' p=some (.lst ((bP N (.call j t as)).map fx))/\run aJ (c+12) "call_acts" [fdP N F,aR N (.call j t as)] []=some (.ok p,h'):=by
 rw[rh];have e1:=λx t=>Uk c K F x t
 have e2:=λx=>jx (c+10) K F x
 have e3:=λx=>dy (c+10) N x
 have e4:=λx=>oy (c+2) K F "fill" "" x
 have ne:∀h x,qO h (.str (N.n x)) (.str "")=some (.bl false):=λh x=>by
   show some (PV.bl (N.n x==""))=_;rw[bI.mpr (K.n0 x)]
 have e6:∀a,iO 0 [a]=[.aj [.int 0,a]]:=λ_=>rfl
 have l1:∀a:PV,[a].length<=4000000:=λ_=>by simp
 have l2:∀a b:PV,[a,b].length<=4000000:=λ_ _=>by simp
 have e7:∀a b,iO 0 [a,b]=[.aj [.int 0,a],.aj [.int 1,b]]:=λ_ _=>rfl
 rw[xl];rcases ha with⟨x,rfl⟩ | ⟨x,y,rfl⟩
 ·cases t with
  | none =>
   refine⟨.ref 0,_,jy (qw _),?_⟩;simp only[↓aW,aR,Bw,aQ,eu,e1,e6,e7,qu,l1,l2];rfl
  | some z =>
   refine⟨.lst ((bP N (.call j (some z) [x])).map fx),[⟨.lst,[fx (mX N x),fx xk]⟩],ju (mW (qw _)),?_⟩;have e8:∀v,cY [⟨.lst,[fx (mX N x),fx xk]⟩] (.ref 0) (.lst [v])=some (.lst ([fx (mX N x),fx xk]++[v])):=λv=>rfl
   have f1:∀h z,ee h (qQ N z)=some (qQ N z):=λh z=>ju (iQ N z)
   simp only[↓aW,aR,Bw,aQ,eu,e1,e2,e3,e4,e6,e7,e8,f1,qu,l1,l2,ne,nH,iQ,ai,noRef];rfl
 ·cases t with
  | none =>
   refine⟨.ref 0,_,jy (qw _),?_⟩;simp only[↓aW,aR,Bw,aQ,eu,e1,e6,e7,qu,l1,l2];rfl
  | some z =>
   refine⟨.lst ((bP N (.call j (some z) [x,y])).map fx),[⟨.lst,[fx (mX N x),fx (mX N y),fx xk]⟩],ju (mW (qw _)),?_⟩;have e8:∀v,cY [⟨.lst,[fx (mX N x),fx (mX N y),fx xk]⟩] (.ref 0) (.lst [v])=some (.lst ([fx (mX N x),fx (mX N y),fx xk]++[v])):=λv=>rfl
   have f1:∀h z,ee h (qQ N z)=some (qQ N z):=λh z=>ju (iQ N z)
   simp only[↓aW,aR,Bw,aQ,eu,e1,e2,e3,e4,e6,e7,e8,f1,qu,l1,l2,ne,nH,iQ,ai,noRef];rfl
end bA
set_option maxHeartbeats 2000000
namespace bA
open PySem L2 L2.U
def HQ:Rw->Prop
 | .call _ _ as=>GP as
 | _=>True
theorem Um(c:Nat){N:Nm}(K:aT N)(F:Fd)(r:Rw)(h:HQ r):∃p h',ee h' p=some (.lst ((bP N r).map fx))/\run aJ (c+12) (Kl r) [fdP N F,aR N r] []=some (.ok p,h'):=by
 have fz:∀A:List Ac,ee [] (.lst (A.map fx))=some (.lst (A.map fx)):=λA=>ju (mW (qw A))
 cases r with
 | put s o=>exact⟨_,_,fz _,Ug c K F s o⟩
 | fill o=>exact⟨_,_,fz _,O6 c K F o⟩
 | set s g o p=>exact⟨_,_,fz _,Uh c K F s g o p⟩
 | iG o=>exact⟨_,_,fz _,Ui c K F o⟩
 | call j t as=>exact O8 c K F j t as h
 | ifs o p k=>exact⟨_,_,fz _,Uj c K F o p k⟩
 | go k=>exact⟨_,_,fz _,X7 c F k⟩
 | bj t=>exact⟨_,_,fz _,O7 c K F t⟩
theorem xm(N:Nm)(r:Rw)(h:HQ r):(bP N r).length<=6:=by
 cases r with
 | put s o=>have:=dh N o;have:=jI N s;simp only[bP,bX];lia
 | fill o=>have:=dh N o;have:=jI N .s;simp only[bP,bX];lia
 | set s g o p=>have:=dh N o;have:=dh N p;have:=jI N s;simp only[bP,bX];lia
 | iG o=>have:=dh N o;simp only[bP];lia
 | call j t as=>rcases h with⟨x,rfl⟩ | ⟨x,y,rfl⟩<;>cases t<;>simp[bP]
 | ifs o p k=>have:=dh N o;have:=dh N p;simp only[bP,bX];lia
 | go k=>simp[bP]
 | bj t=>cases t<;>simp[bP]
noncomputable def sQ:Rw->Str
 | .put _ _=>"put"
 | .fill _=>"fill"
 | .set _ _ _ _=>"set"
 | .iG _=>"say"
 | .call _ _ _=>"call"
 | .ifs _ _ _=>"if"
 | .go _=>"go"
 | .bj _=>"give"
theorem qx{h:List ah}(N:Nm)(r:Rw):aI h (aR N r) (.int 0)=some (.str (sQ r)):=by cases r<;>rfl
noncomputable abbrev rsA:Ac:=⟨"rest","",false,0,0,""⟩
def GQ(A:List Ac):List Ac:=if A.isEmpty then [rsA]else A
noncomputable def jR:Nat->List (List Ac)->List (Nat×Ac)
 | _,[]=>[]
 | j,A::T=>A.map (λa=>(j,a))++jR (j+1) T
def qy(z:Nat×Ac):PV:=dZ z.1 z.2
theorem Uo(r:Rw):(List.lookup (sQ r) fX)=some (Kl r):=by
 cases r<;>kernel_rfl
theorem O9(r:Rw):Ke.lookup (Kl r)=some 2:=by cases r<;>kernel_rfl
theorem Up{ρ:List (Option PV)}{L R:List PV}(h:L.length+R.length<=1000000):qY (.ref 0) [.lst R] ⟨ρ,[⟨.lst,L⟩]⟩=some (.ok .az,⟨ρ,[⟨.lst,L++R⟩]⟩):=by
 show(ie (fH λps _=>if ps.length+R.length<=gy then some (ps++R)else none) (.ref 0) [] ⟨ρ,[⟨.lst,L⟩]⟩)=_
 have e:(if L.length+R.length<=gy then some (L++R)else none)=some (L++R):=if_pos (aP h (by decide))
 show(((if L.length+R.length<=gy then some (L++R)else none).map λqs=>((⟨.lst,qs⟩:ah),PV.az)).map λr=>_)=_
 rw[e];rfl
theorem Df(c:CT){N:Nm}{x0 x1:Option PV}{F:Fd}{r:Rw}{A:List Ac}{p:PV}{h':List ah}(hA:A.length<=200)(hf:ee h' p=some (.lst (A.map fx)))(hc:c (Kl r) [fdP N F,aR N r] []=some (.ok p,h'))(k:Nat)(L:List PV)(hL:L.length<=9000)(x6:Option PV):jv c ⟨[x0,x1,some (fdP N F),some (.ref 0),some (.int (k:Int)),some (aR N r),x6],[⟨.lst,L⟩]⟩=some (.ok .nx,⟨[x0,x1,some (fdP N F),some (.ref 0),some (.int (k:Int)),some (aR N r),some (.lst (A.map fx))],[⟨.lst,L++(GQ A).map (dZ k)⟩]⟩):=by
 have e1:∀h,aI h (aR N r) (.int 0)=some (.str (sQ r)):=λh=>qx N r
 have e3:(N9 (.str (sQ r))).bind (λk=>Option.map PV.fn (List.lookup k fX))=some (.fn (Kl r)):=by
  show Option.map PV.fn (List.lookup (sQ r) fX)=_;rw[Uo];rfl
 have e4:(Vc (.fn (Kl r))).bind (λx=>Option.map (λn=>(x,n)) (List.lookup x Ke))=some (Kl r,2):=by
  show Option.map (λn=>(Kl r,n)) (List.lookup (Kl r) Ke)=_
  rw[O9];rfl
 have ll:(A.map fx).length<=4000000:=by rw[aM];lia
 cases hE:A.isEmpty with
 | true =>
  cases A with
  | cons a A=>cases hE
  | nil =>
   have e2:∀ρ,qY (.ref 0) [.lst ((some (PV.aj [.int (k:Int),.str "rest",.str "",.bl false,.int 0,.int 0,.str ""])).toList++[])] ⟨ρ,[⟨.lst,L⟩]⟩=some (.ok .az,⟨ρ,[⟨.lst,L++[.aj [.int (k:Int),.str "rest",.str "",.bl false,.int 0,.int 0,.str ""]]⟩]⟩):=λρ=>Up (R:=[.aj [.int (k:Int),.str "rest",.str "",.bl false,.int 0,.int 0,.str ""]]) (by simp;lia)
   have l1:[PV.aj [.str "rest",.str "",.bl false,.int 0,.int 0,.str ""]].length<=4000000:=by simp
   refine bW ?_;unfold jv;simp only[↓iU,e1,e2,e3,e4,l1,hc,hf,ai,noRef,nH,nG];rfl
 | false =>
  have ho:GQ A=A:=by unfold GQ;rw[hE];rfl
  rw[ho];have e2:∀ρ,qY (.ref 0) [.lst (A.map λa=>.aj [.int (k:Int),.str a.w,.str a.x,.bl a.t,.int (a.f:Int),.int (a.m:Int),.str a.k])] ⟨ρ,[⟨.lst,L⟩]⟩=some (.ok .az,⟨ρ,[⟨.lst,L++A.map (dZ k)⟩]⟩):=λρ=>Up (by rw[aM];lia)
  have e5:∀h a,cY h (.aj [.int (k:Int)]) (fx a)=some (.aj [.int (k:Int),.str a.w,.str a.x,.bl a.t,.int (a.f:Int),.int (a.m:Int),.str a.k]):=λh a=>rfl
  refine bW ?_;unfold jv;simp only[↓iU,e1,e2,e3,e4,e5,hc,hf,ll,ai,noRef,nH,nG,List.isEmpty_map,hE,Bool.not_false]
def kP(N:Nm)(rs:List Rw):List (List Ac):=rs.map λr=>GQ (bP N r)
theorem Bz{A:List Ac}(h:A.length<=6):(GQ A).length<=6:=by
 unfold GQ;split
 ·simp
 ·exact h
theorem sR(c:Nat){N:Nm}(K:aT N){x0 x1:Option PV}{F:Fd}:∀(rs:List Rw) (k:Nat) (L:List PV) (x4 x5 x6:Option PV),(∀r∈rs,HQ r)->L.length+6*rs.length<=9000->∃(LL x5' x6':Option PV),fO Q0 (jv (run aJ (c+12))) (iO k (rs.map (aR N))) ⟨[x0,x1,some (fdP N F),some (.ref 0),x4,x5,x6],[⟨.lst,L⟩]⟩=some (.ok .nx,⟨[x0,x1,some (fdP N F),some (.ref 0),LL,x5',x6'],[⟨.lst,L++(jR k (kP N rs)).map qy⟩]⟩)
 | [],k,L,x4,x5,x6,_,_=>⟨x4,x5,x6,by simp[jR,kP];rfl⟩
 | r::rs,k,L,x4,x5,x6,hr,hl=>by
  simp only[cJ]at hl;have h1:=hr r dk;obtain⟨p,h',a3,a4⟩:=Um c K F r h1;have a2:=xm N r h1;have lo:=Bz a2;have st:=Df (run aJ (c+12)) (x0:=x0) (x1:=x1) (F:=F) (by lia) a3 a4 k L (by lia) x6
  obtain⟨z4,z5,z6,t3⟩:=sR c K (x0:=x0) (x1:=x1) (F:=F) rs (k+1) (L++(GQ (bP N r)).map (dZ k)) (some (.int (k:Int))) (some (aR N r)) (some (.lst ((bP N r).map fx))) (λq hq=>hr q (cO _ hq)) (by rw[bX,aM];lia)
  refine⟨z4,z5,z6,?_⟩;rw[show L++(jR k (kP N (r::rs))).map qy=L++(GQ (bP N r)).map (dZ k)++(jR (k+1) (kP N rs)).map qy by simp[kP,jR,qy,Function.comp_def]]
  exact fC (s1:=⟨[x0,x1,some (fdP N F),some (.ref 0),some (.int (k:Int)),some (aR N r),x6],[⟨.lst,L⟩]⟩) rfl st t3
theorem Pa(c:Nat){N:Nm}(K:aT N){P:List Fd}{i:Nat}{F:Fd}(hF:P[i]?=some F)(hr:∀r∈F.rows,HQ r)(hl:F.rows.length<=100):∃p h',ee h' p=some (.lst ((jR 0 (kP N F.rows)).map qy))/\run aJ (c+13) "acts" [.aj (P.map (fdP N)),.int (i:Int)] []=some (.ok p,h'):=by
 refine⟨.ref 0,[⟨.lst,(jR 0 (kP N F.rows)).map qy⟩],jy (dw (λz=>by simp[qy,dZ,noRef,ai]) _),?_⟩
 have e1:aI [] (.aj (P.map (fdP N))) (.int (i:Int))=some (fdP N F):=atI_nat (by rw[bB,hF];rfl)
 obtain⟨z4,z5,z6,t3⟩:=sR c K (x0:=some (.aj (P.map (fdP N)))) (x1:=some (.int (i:Int))) (F:=F) F.rows 0 [] none none none hr (by simp;lia)
 rw[Gz];unfold Gy;simp only[↓aW,e1,t3,gO]
end bA
set_option maxHeartbeats 2000000
namespace bA
open PySem L2 L2.U
noncomputable def bt(T:List (List PV)):List ah:=T.map λl=>⟨.lst,l⟩
noncomputable def di:Nat->Nat->List PV
 | _,0=>[]
 | b,n+1=>.ref b::di (b+1) n
theorem xn:∀(n b i:Nat),i<n->(di b n)[i]?=some (.ref (b+i))
 | n+1,b,0,_=>rfl
 | n+1,b,i+1,h=>by
  show(di (b+1) n)[i]?=_;rw[xn n (b+1) i (by lia)]
  congr 2
  lia
theorem BA{L:List PV}{ρ:List (Option PV)}:∀(ps:List PV) (h:List ah),d6 Q2 ps h=some (di h.length ps.length,h++List.replicate ps.length ⟨.lst,[]⟩)
 | [],h=>by simp[d6,di]
 | p::ps,h=>by
  have e:pY (dc 1) (Cq (cx [])) [none,none] p h=some (some (.ref h.length),h++[⟨.lst,[]⟩]):=rfl;rw[qp e (BA (L:=L) (ρ:=ρ) ps _)];simp[di,eQ]
def vd(T:List (List PV))(z:Nat×Ac):List (List PV):=if z.2.w="rest" then T else T.set z.1 (T.getD z.1 []++[qy z])
theorem qz{h:List ah}{n:Nat}{L:List PV}{v:PV}{ρ:List (Option PV)}(e:h[n]?=some ⟨.lst,L⟩)(hl:L.length<=4000):ie (fH iC) (.ref n) [v] ⟨ρ,h⟩=some (.ok .az,⟨ρ,h.set n ⟨.lst,L++[v]⟩⟩):=by
 have:iC L [v]=some (L++[v]):=if_pos (show L.length<gy from mn hl (by decide))
 show((kF h (.ref n)).bind λc=>(fH iC c.2 [v]).map λr=>_)=_
 rw[eK e rfl];show(((iC L [v]).map λqs=>((⟨.lst,qs⟩:ah),PV.az)).map λr=>_)=_
 rw[this];rfl
theorem qA(c:CT){x0 x1:Option PV}:∀(Z:List (Nat×Ac)) (T:List (List PV)) (g:List ah) (x3:Option PV) (m:Nat),T.length=m->(∀z∈Z,z.1<m)->(∀l∈T,l.length+Z.length<=4000) ->
  ∃y3,fO (dc 3) (dU c) (Z.map qy) ⟨[x0,x1,some (.ref m),x3],bt T++⟨.lst,di 0 m⟩::g⟩=some (.ok .nx,⟨[x0,x1,some (.ref m),y3],bt (Z.foldl vd T)++⟨.lst,di 0 m⟩::g⟩)
 | [],T,g,x3,m,_,_,_=>⟨x3,rfl⟩
 | z::Z,T,g,x3,m,hT,hz,hl=>by
  have hm:=hz z dk;have h1:(bt T++⟨.lst,di 0 m⟩::g)[m]?=some ⟨.lst,di 0 m⟩:=by
   rw[iw (by simp[bt,hT])]
   simp[bt,hT]
  have h2:(bt T++⟨.lst,di 0 m⟩::g)[z.1]?=some ⟨.lst,T.getD z.1 []⟩:=by
   rw[fy (by simp[bt,hT];exact hm)]
   simp only[bt,bB,j6];rw[dW (by rw[hT];exact hm)]
   rfl
  have hlz:(T.getD z.1 []).length+Z.length+1<=4000:=by
   have:=hl (T.getD z.1 []) (by rw[j6,dW (by rw[hT];exact hm)];exact ym _)
   rw[cJ]at this;lia
  have e1:aI (bt T++⟨.lst,di 0 m⟩::g) (.ref m) (.int (z.1:Int))=some (.ref z.1):=by
   have d:=ak h1 rfl;simp only[aI,d];exact atI_nat (by rw[xn m 0 z.1 hm,oR])
  have d2:=ak h2 rfl;have e0:∀h,aI h (qy z) (.int 0)=some (.int (z.1:Int)):=λh=>rfl
  have e2:=λρ=>qz (ρ:=ρ) (v:=qy z) h2 (by lia)
  have e3:∀h,aI h (qy z) (.int 1)=some (.str z.2.w):=λh=>rfl
  have e4:∀h,Qh h (.str z.2.w) (.str "rest")=some (.bl (!(z.2.w=="rest"))):=λh=>rfl
  have hs:(bt T++⟨.lst,di 0 m⟩::g).set z.1 ⟨.lst,T.getD z.1 []++[qy z]⟩=bt (T.set z.1 (T.getD z.1 []++[qy z]))++⟨.lst,di 0 m⟩::g:=by
   rw[List.set_append_left _ _ (by simp[bt,hT];exact hm)]
   simp[bt,List.map_set]
  by_cases hw:z.2.w="rest"
  ·obtain⟨y3,ih⟩:=qA c (x0:=x0) (x1:=x1) Z T g (some (qy z)) m hT (λy hy=>hz y (cO _ hy)) (λl h=>by have:=hl l h;simp at this;lia)
   refine⟨y3,?_⟩;have hp:vd T z=T:=if_pos hw;rw[kl,hp,aQ];have hq:(z.2.w=="rest")=true:=by rw[hw];rfl
   refine fC (s1:=⟨[x0,x1,some (.ref m),some (qy z)],_⟩) rfl ?_ ih;refine bW ?_
   delta dU g8
   simp only[↓iU,e3,e4,hq,Bool.not_true]
  ·have hp:vd T z=T.set z.1 (T.getD z.1 []++[qy z]):=if_neg hw;obtain⟨y3,ih⟩:=qA c (x0:=x0) (x1:=x1) Z (T.set z.1 (T.getD z.1 []++[qy z])) g (some (qy z)) m (by simp[hT]) (λy hy=>hz y (cO _ hy)) (λl h=>by
    rcases List.mem_or_eq_of_mem_set h with h | rfl
    ·have:=hl l h;simp at this;lia
    ·rw[bX];simp only[cJ,ki];lia)
   refine⟨y3,?_⟩;rw[kl,hp,aQ];have hq:(z.2.w=="rest")=false:=bI.mpr hw;refine fC (s1:=⟨[x0,x1,some (.ref m),some (qy z)],_⟩) rfl ?_ ih;refine bW ?_
   delta dU g8
   rw[<-hs];simp only[↓iU,d2,e0,e1,e2,e3,e4,hq,Bool.not_false]
end bA
set_option maxHeartbeats 2000000
namespace bA
open PySem L2 L2.U
def xM(N:Nm):Nat->List Rw->List (List PV)
 | _,[]=>[]
 | k,r::rs=>(bP N r).map (dZ k)::xM N (k+1) rs
theorem BB(N:Nm):∀(rs:List Rw) (k:Nat),(xM N k rs).length=rs.length
 | [],_=>rfl
 | r::rs,k=>by show(xM N (k+1) rs).length+1=_;rw[BB];rfl
theorem GR(N:Nm):∀(rs:List Rw) (k i:Nat) (r:Rw),rs[i]?=some r->(xM N k rs)[i]?=some ((bP N r).map (dZ (k+i)))
 | r::rs,k,0,q,e=>by cases e;rfl
 | r::rs,k,i+1,q,e=>by
  show(xM N (k+1) rs)[i]?=_;rw[GR N rs (k+1) i q (by simpa using e)]
  congr 3
  lia
 | [],_,_,_,e=>by simp at e
theorem xo(k:Nat):∀(A:List Ac) (pre:List (List PV)) (l:List PV) (rest:List (List PV)),pre.length=k->(∀a∈A,a.w≠"rest")->(A.map (λa=>(k,a))).foldl vd (pre++l::rest)=pre++(l++A.map (dZ k))::rest
 | [],pre,l,rest,_,_=>by simp
 | a::A,pre,l,rest,hk,ha=>by
  have e:vd (pre++l::rest) (k,a)=pre++(l++[dZ k a])::rest:=by
   unfold vd;rw[if_neg (ha a dk)];simp only[j6];rw[iw (by lia),List.set_append_right _ _ (by lia),hk]
   simp[qy]
  rw[aQ,kl,e,xo k A pre _ rest hk λb hb=>ha b (cO _ hb)]
  simp
theorem Dg(N:Nm)(r:Rw):∀a∈bP N r,a.w≠"rest":=by
 have ZM:∀s,∀a∈xK N s,a.w="read":=λs a h=>by
  cases s
  case i x=>cases x<;>simp[xK]at h<;>(subst h;rfl)
  all_goals cases h
 have hop:∀o,∀a∈n6 N o,a.w="read":=λo a h=>by
  cases o with
  | num i=>cases h
  | sp s =>
   rcases cW.mp h with h | h
   ·exact ZM s a h
   ·rw[cm.mp h];rfl
 have X8:∀s,∀a∈De N s,a.w≠"rest":=λs a h=>by
  cases s
  case i x =>
   rcases cW.mp h with h | h
   ·rw[ZM _ a h];decide
   ·rw[cm.mp h];show("turn":Str)≠"rest";decide
  all_goals (rw[cm.mp h];show("fill":Str)≠"rest";decide)
 have K9:∀o,∀a∈n6 N o,a.w≠"rest":=λo a h=>by rw[hop o a h];decide
 intro a h;cases r with
 | put s o =>
  rcases cW.mp h with h | h
  ·exact K9 o a h
  ·exact X8 s a h
 | fill o =>
  rcases cW.mp h with h | h
  ·exact K9 o a h
  ·exact X8 .s a h
 | set s g o p =>
  rcases cW.mp h with h | h
  ·rcases cW.mp h with h | h
   ·exact K9 o a h
   ·exact K9 p a h
  ·exact X8 s a h
 | iG o=>exact K9 o a h
 | call j t as =>
  rcases cW.mp h with h | h
  ·obtain⟨x,_,rfl⟩:=ez.mp h;show("read":Str)≠"rest";decide
  ·rcases bh.mp h with rfl | h
   ·show("hand":Str)≠"rest";decide
   ·cases t with
    | none=>cases h
    | some x=>rw[cm.mp h];show("fill":Str)≠"rest";decide
 | ifs o p k =>
  rcases cW.mp h with h | h
  ·exact K9 o a h
  ·exact K9 p a h
 | go k=>cases h
 | bj t =>
  cases t with
  | none=>cases h
  | some x=>rw[cm.mp h];show("read":Str)≠"rest";decide
theorem sS(N:Nm):∀(rs:List Rw) (k:Nat) (pre:List (List PV)),pre.length=k->(jR k (kP N rs)).foldl vd (pre++List.replicate rs.length [])=pre++xM N k rs
 | [],k,pre,_=>by simp[kP,jR,xM]
 | r::rs,k,pre,hk=>by
  show((GQ (bP N r)).map (λa=>(k,a))++jR (k+1) (kP N rs)).foldl vd (pre++List.replicate (rs.length+1) [])=pre++(bP N r).map (dZ k)::xM N (k+1) rs
  rw[List.foldl_append,eQ];have e:((GQ (bP N r)).map (λa=>(k,a))).foldl vd (pre++[]::List.replicate rs.length [])=pre++(bP N r).map (dZ k)::List.replicate rs.length []:=by
   unfold GQ;cases h:(bP N r).isEmpty with
   | true =>
    rw[yj.mp h];rfl
   | false =>
    have:=xo k (bP N r) pre [] (List.replicate rs.length []) hk (Dg N r);simpa using this
  rw[e];have:=sS N rs (k+1) (pre++[(bP N r).map (dZ k)]) (by simp[hk])
  simpa using this
def A7(N:Nm)(rs:List Rw):PV:=.lst ((xM N 0 rs).map .lst)
theorem GS:∀(T:List (List Ac)) (k:Nat),∀z∈jR k T,z.1<k+T.length
 | [],_,z,h=>by cases h
 | A::T,k,z,h=>by
  rcases cW.mp h with h | h
  ·obtain⟨a,_,rfl⟩:=ez.mp h;show k<_;simp
  ·have:=GS T (k+1) z h;simp only[cJ];lia
theorem BC:∀(T:List (List Ac)) (k:Nat),(∀A∈T,A.length<=6)->(jR k T).length<=6*T.length
 | [],_,_=>by simp[jR]
 | A::T,k,h=>by
  have h1:=h A dk;have h2:=BC T (k+1) λB hB=>h B (cO _ hB)
  simp only[jR,bX,aM,cJ]
  lia
theorem xp(T:List (List PV))(g:List ah)(hT:∀l∈T,ai l=true):∀(n b:Nat),b+n=T.length->dq (kG (bt T++g) 3) (di b n)=some ((T.drop b).map .lst)
 | 0,b,hb=>by rw[show T.drop b=[]from List.drop_eq_nil_of_le (by lia)];rfl
 | n+1,b,hb=>by
  have pQ:b<T.length:=by lia
  have h1:(bt T++g)[b]?=some ⟨.lst,T[b]⟩:=by
   rw[fy (by simp[bt];exact pQ)]
   simp[bt,pQ]
  have e1:kG (bt T++g) 3 (.ref b)=some (.lst T[b]):=by
   show(((bt T++g)[b]?).bind λc=>if live c=true then(dq (kG (bt T++g) 2) c.ps).map (PV.nd c.k)else none)=_
   rw[h1];show(dq (kG (bt T++g) 2) T[b]).map (PV.nd Kd.lst)=_;rw[lW (hT _ (ym _))];rfl
  show(kG (bt T++g) 3 (.ref b)).bind (λy=>(dq (kG (bt T++g) 3) (di (b+1) n)).map λys=>y::ys)=_
  rw[e1,xp T g hT n (b+1) (by lia)]
  rw[xP pQ];rfl
theorem qB(c:Nat){N:Nm}(K:aT N){P:List Fd}{i:Nat}{F:Fd}(hF:P[i]?=some F)(hr:∀r∈F.rows,HQ r)(hl:F.rows.length<=100):∃p h',ee h' p=some (A7 N F.rows)/\run aJ (c+14) "acts_by_row" [.aj (P.map (fdP N)),.int (i:Int)] []=some (.ok p,h'):=by
 have nk:∀z,noRef (qy z)=true:=λz=>by simp[qy,dZ,noRef,ai]
 have nl:∀(rs:List Rw) (k:Nat),∀l∈xM N k rs,ai l=true:=λrs=>by
  induction rs with
  | nil=>intro k l h;cases h
  | cons r rs ih =>
   intro k l h;rcases bh.mp h with rfl | h
   ·exact dw (λa=>nk (k,a)) _
   ·exact ih (k+1) l h
 refine⟨.ref F.rows.length,bt (xM N 0 F.rows)++[⟨.lst,di 0 F.rows.length⟩],?_,?_⟩
 ·have hT:=BB N F.rows 0;have h1:(bt (xM N 0 F.rows)++[⟨.lst,di 0 F.rows.length⟩])[F.rows.length]?=some ⟨.lst,di 0 F.rows.length⟩:=by
   rw[iw (by simp[bt,hT])]
   simp[bt,hT]
  unfold ee;rw[if_neg (by simp)]
  show(((bt (xM N 0 F.rows)++[⟨.lst,di 0 F.rows.length⟩])[F.rows.length]?).bind λc=>if live c=true then(dq (kG (bt (xM N 0 F.rows)++[⟨.lst,di 0 F.rows.length⟩]) 3) c.ps).map (PV.nd c.k)else none)=_
  rw[h1];show(dq (kG (bt (xM N 0 F.rows)++[⟨.lst,di 0 F.rows.length⟩]) 3) (di 0 F.rows.length)).map (PV.nd .lst)=_;rw[xp (xM N 0 F.rows) _ (nl F.rows 0) F.rows.length 0 (by lia)]
  rfl
 ·have e1:∀h,aI h (.aj (P.map (fdP N))) (.int (i:Int))=some (fdP N F):=λh=>atI_nat (by rw[bB,hF];rfl)
  have e2:∀h,aI h (fdP N F) (.int 4)=some (.aj (F.rows.map (aR N))):=λh=>rfl
  obtain⟨p,h',f1,f2⟩:=Pa c K hF hr hl;have e3:(F.rows.map (aR N)).length<=4000000:=by rw[aM];lia
  have e4:d6 Q2 (F.rows.map (aR N)) []=some (di 0 F.rows.length,bt (List.replicate F.rows.length [])):=by
   rw[BA (L:=[]) (ρ:=[])];simp[bt]
  have e5:(bt (List.replicate F.rows.length [])).length=F.rows.length:=by simp[bt]
  have e6:ai [PV.nd .aj (P.map (fdP N)),PV.int (i:Int)]=true:=by simp[ai,noRef,dw,nH]
  obtain⟨y3,hL⟩:=qA (run aJ (c+13)) (x0:=some (.aj (P.map (fdP N)))) (x1:=some (.int (i:Int))) (jR 0 (kP N F.rows)) (List.replicate F.rows.length []) [] none F.rows.length (by simp) (λz hz=>by have:=GS _ _ z hz;simpa[kP]using this) (λl h=>by
   rw[oG h];have:=BC (kP N F.rows) 0 λA hA=>by
    obtain⟨r,h1,rfl⟩:=ez.mp hA;exact Bz (xm N r (hr r h1))
   simp only[kP,aM]at this;simp only[ki,kP];lia)
  have hf:=sS N F.rows 0 [] rfl;rw[gO,gO]at hf;rw[hf]at hL;rw[nZ];rw[xl]
  delta dU g8 at hL
  simp only[↓aW,e1,e2,e3,e4,e5,e6,f1,f2,hL,cq,bY]
end bA
set_option maxHeartbeats 2000000
namespace bA
open PySem L2 L2.U
theorem ve{g:List ah}{c d:ah}:(g++[c]).set g.length d=g++[d]:=by simp
theorem qC{g:List ah}{C f:Str}{ns:List Str}{ps:List PV}{v:PV}{ρ:List (Option PV)}(hc:(fJ.contains C&&fK.contains f&&decide (ns.length<900))=true) :
  fI fJ fK f (.ref g.length) v ⟨ρ,g++[⟨.ins C ns,ps⟩]⟩=some ⟨ρ,g++[⟨.ins C (iD f v ns ps).1,(iD f v ns ps).2⟩]⟩:=by
 rw[gI cH hc,ve]
theorem xq(k:Nat){g:List ah}{j:Int}{d:Nat}:Dy (run aJ k) "Frame" [.ref g.length,.int j,.ref d] (g++[⟨.ins "Frame" [],[]⟩])=some (.ok .az,g++[qR j d 0]):=by
 rw[Gv];have e1:∀ρ,fI fJ fK "at" (.ref g.length) (.int j) ⟨ρ,g++[⟨.ins "Frame" [],[]⟩]⟩=some ⟨ρ,g++[⟨.ins "Frame" ["at"],[.int j]⟩]⟩:=λρ=>qC (by kernel_rfl)
 have e2:∀ρ,fI fJ fK "has" (.ref g.length) (.ref d) ⟨ρ,g++[⟨.ins "Frame" ["at"],[.int j]⟩]⟩=some ⟨ρ,g++[⟨.ins "Frame" ["at","has"],[.int j,.ref d]⟩]⟩:=λρ=>qC (by kernel_rfl)
 have e3:∀ρ,fI fJ fK "row" (.ref g.length) (.int 0) ⟨ρ,g++[⟨.ins "Frame" ["at","has"],[.int j,.ref d]⟩]⟩=some ⟨ρ,g++[qR j d 0]⟩:=λρ=>qC (by kernel_rfl)
 simp only[↓aW,e1,e2,e3]
structure Vs where
 a:Int
 b:Int
 s:List Int
 n:Int
def stP(s:List Int):PV:=.aj (s.map .int)
def Hn(N:Nm)(w:Bool)(n:Nat)(V:Vs):List (Str×Pl) :=
 if w=true then [(N.a,[(n+1,.int V.a)]),(N.c,[(n+2,stP V.s),(n+3,.int V.n)]),(N.b,[(n+4,.int V.b)])]
 else [(N.a,[(n+1,.int V.a)]),(N.b,[(n+2,.int V.b)]),(N.c,[(n+3,stP V.s),(n+4,.int V.n)])]
noncomputable abbrev mY:ah:=⟨.ins "Places" [],[]⟩
noncomputable abbrev GU(prog:PV)(w nu:Nat)(li:PV)(fl sd:Nat)(cnt:Int):ah:=⟨.ins "Run" ["program","world","numbers","listed","frames","said","count"],[prog,.ref w,.ref nu,li,.ref fl,.ref sd,.int cnt]⟩
theorem Km(c:Nat)(N:Nm)(z8:N.z<=8)(x:N3):run aJ (c+4) "blank" [qQ N x] []=some (.ok (.aj (match x with | .c=>[stP (List.replicate N.z 0),.int 0] | _=>[.int 0])),[]):=by
 cases x
 case c =>
  rw[C5];have e1:∀h,kK h (.aj [.int 0]) (.int (N.z:Int))=some (stP (List.replicate N.z 0)):=λh=>by
   show(if(0<=(N.z:Int)/\(N.z:Int)<=1000/\1<=[PV.int 0].length/\[PV.int 0].length<=100)then some (PV.aj (List.replicate (N.z:Int).toNat [PV.int 0]).flatten)else none)=_
   rw[if_pos ⟨by lia,by lia,by simp,by simp⟩,iZ]
   unfold stP
   congr 2
   induction N.z with
   | zero=>rfl
   | succ n ih=>rw[eQ,i4,ih];simp[eQ]
  have l2:∀a b:PV,[a,b].length<=4000000:=λ_ _=>by simp
  simp only[↓aW,e1,l2]
 all_goals kernel_rfl
def Pb(N:Nm):N3->List PV
 | .c=>[stP (List.replicate N.z 0),.int 0]
 | _=>[.int 0]
theorem iH{h:List ah}{w:Nat}{L:List (Str×(Str×Nat))}{m:Str}(e:h[w]?=some mY):J7 L m (.ref w) h=L.lookup ("Places":Str):=by
 unfold J7 J6;rw[ak e rfl];rfl
theorem GV(c:Nat){h:List ah}{w:Nat}{j:PV}{vs:List PV}(hv:vs.length<=1000):run aJ (c+1) "Places.owned" [.ref w,j,.aj vs] h=some (.ok (gk (j3 h.length vs)),h++vs.map λv=>cj v .az):=by
 rw[ip];have e3:vs.length<=4000000:=aP hv (by decide)
 simp only[↓aW,e3,xi];rfl
theorem Uq(c:Nat){g:List ah}{w:Nat}{j:Int}{N:Nm}(z8:N.z<=8)(x:N3)(e:g[w]?=some mY):run aJ (c+6) "Places.let" [.ref w,.int j,qQ N x] g=some (.ok (gk (j3 g.length (Pb N x))),g++(Pb N x).map λv=>cj v .az):=by
 rw[qg];have e1:run aJ (c+5) "blank" [qQ N x] []=some (.ok (.aj (Pb N x)),[]):=by
  have:=Km (c+1) N z8 x;cases x<;>exact this
 have e2:=ox (c+3) N x;have e3:=λj=>GV (c+4) (h:=g) (w:=w) (j:=j) (vs:=Pb N x) (by cases x<;>simp[Pb])
 have e4:=λL m=>iH (L:=L) (m:=m) e
 have hE:=hne e;simp only[↓aW,e1,e2,e3,e4,hE,iQ,ai,noRef,cq,bY,km]
end bA
set_option maxHeartbeats 4000000
namespace bA
open PySem L2 L2.U
theorem GW{h L:List ah}{ks:List (List dG)}{ps:List PV}{x:Str}{v:PV}{ρ:List (Option PV)}(hl:ks.length<100)(hd:jj (bz x) ks=false) :
  eI (.ref h.length) (.str x) v ⟨ρ,h++⟨.eV false ks,ps⟩::L⟩=some ⟨ρ,h++⟨.eV false (ks++[bz x]),ps++[v]⟩::L⟩:=by
 have e:(h++⟨.eV false ks,ps⟩::L)[h.length]?=some ⟨.eV false ks,ps⟩:=by simp
 show((kF (h++⟨.eV false ks,ps⟩::L) (.ref h.length)).bind λc=>match c.2.k with
  | .lst=>(lG (.str x)).bind λi=>(AE c.2.ps.length i).map λj=>(⟨ρ,(h++⟨.eV false ks,ps⟩::L).set c.1 ⟨.lst,c.2.ps.set j v⟩⟩:cb)
  | .eV t kY=>(iM t (.str x)).bind λk=>if kY.length<gy then some ⟨ρ,(h++⟨.eV false ks,ps⟩::L).set c.1 (eO t k v kY c.2.ps)⟩else none
  | _=>none)=_
 rw[eK e rfl];show(if ks.length<gy then some (⟨ρ,(h++⟨.eV false ks,ps⟩::L).set h.length (eO false (bz x) v ks ps)⟩:cb)else none)=_
 rw[if_pos (ko hl (by decide))]
 unfold eO;rw[if_neg (by rw[hd];exact cQ)]
 simp
theorem oB{x:Str}{ys:List Str}(h:∀y∈ys,y≠x):jj (bz x) (ys.map bz)=false:=by
 unfold jj;rw[List.any_eq_false];intro k hk;obtain⟨y,hy,rfl⟩:=ez.mp hk;have:bz y≠bz x:=λz=>h y hy (by unfold bz at z;injection z with z1 _;injection z1)
 simp[this]
theorem vf(c:Nat){h L:List ah}{w:Nat}{j:PV}{vs:List PV}(hv:vs.length<=1000):run aJ (c+1) "Places.owned" [.ref w,j,.lst vs] (h++L)=some (.ok (gk (j3 (h.length+L.length) vs)),h++(L++vs.map λv=>cj v .az)):=by
 rw[Kj c hv,bX,ej]
theorem vh(c:Nat){h L:List ah}{w:Nat}{j:Int}{N:Nm}(z8:N.z<=8)(x:N3)(e:h[w]?=some mY):run aJ (c+6) "Places.let" [.ref w,.int j,qQ N x] (h++L)=some (.ok (gk (j3 (h.length+L.length) (Pb N x))),h++(L++(Pb N x).map λv=>cj v .az)):=by
 rw[Uq c z8 x (bS e),bX,ej]
abbrev bV(es:List (Str×PV)):ah:=⟨.eV false (es.map λe=>bz e.1),es.map (·.2)⟩
theorem lX{h:List ah}{g:Nat}{es:List (Str×PV)}{x:Str}{v:PV}(e:h[g]?=some (bV es))(hx:dO (bz x) (es.map λe=>bz e.1) (es.map (·.2))=some v):aI h (.ref g) (.str x)=some v:=by
 have d:=ak e rfl;simp only[aI,d];exact hx
structure cL (h:List ah) (R:Nat) (N:Nm) (P:List Fd) (w nu fl sd:Nat) (fs:List PV) (cnt:Int) (aX:List Int):Prop where
 r:h[R]?=some (GU (.aj (P.map (fdP N))) w nu (.lst (P.map λF=>A7 N F.rows)) fl sd cnt)
 w:h[w]?=some mY
 nu:h[nu]?=some ⟨.eV false (P.map λF=>bz F.f),(List.range P.length).map fun(i:Nat)=>.int (i:Int)⟩
 fl:h[fl]?=some ⟨.lst,fs⟩
 sd:h[sd]?=some ⟨.lst,aX.map .int⟩
theorem zS{h L:List ah}{n:Nat}{fs:List PV}{v:PV}{ρ:List (Option PV)}(e:h[n]?=some ⟨.lst,fs⟩)(hl:fs.length<=4000):ie (fH iC) (.ref n) [v] ⟨ρ,h++L⟩=some (.ok .az,⟨ρ,h.set n ⟨.lst,fs++[v]⟩++L⟩):=by
 rw[qz (bS e) hl,List.set_append_left _ _ (kN e)]
theorem dj{h L:List ah}{es:List (Str×PV)}{x:Str}{v:PV}{ρ:List (Option PV)}(hl:es.length<100)(hd:∀e∈es,e.1≠x) :
  eI (.ref h.length) (.str x) v ⟨ρ,h++bV es::L⟩=some ⟨ρ,h++bV (es++[(x,v)])::L⟩:=by
 rw[GW (by simpa using hl) (by
  have:=oB (x:=x) (ys:=es.map (·.1)) (λy hy=>by obtain⟨e,he,rfl⟩:=ez.mp hy;exact hd e he)
  rw[mF]at this;exact this)]
 simp[bV]
def kQ(N:Nm):List Int:=List.replicate N.z 0
theorem xt(c:Nat){h:List ah}{R w nu fl sd g j:Nat}{N:Nm}(K:aT N){P:List Fd}{fs:List PV}{cnt:Int}{aX:List Int}{F:Fd}{va:Int}{es:List (Str×PV)}
  (hR:cL h R N P w nu fl sd fs cnt aX) (hF:P[j]?=some F) (hw:F.w=false) (hg:h[g]?=some (bV es)) (ga:dO (bz N.a) (es.map λe=>bz e.1) (es.map (·.2))=some (.lst [.int va])) (Kn:fs.length<=4000) :
  run aJ (c+8) "begin" [.ref R,.int (j:Int),.ref g] h=some (.ok .az,h.set fl ⟨.lst,fs++[.ref (h.length+5)]⟩++[kO (Hn N false h.length ⟨va,0,kQ N,0⟩),cj (.int va) .az,cj (.int 0) .az,cj (stP (kQ N)) .az,cj (.int 0) .az,qR j h.length 0]):=by
 have e1:=λL=>ak (bS (g:=L) hR.r) rfl
 have e2:∀h,aI h (.aj (P.map (fdP N))) (.int (j:Int))=some (fdP N F):=λh=>atI_nat (by rw[bB,hF];rfl)
 have e3:∀h,aI h (fdP N F) (.int 1)=some (.aj [dA N .a]):=λh=>by
  show some (PV.aj ((par F.w).map (dA N)))=_;rw[hw];rfl
 have e4:∀h,aI h (fdP N F) (.int 3)=some (.aj [dA N .b,dA N .c]):=λh=>by
  show some (PV.aj ((O4 F.w).map (dA N)))=_;rw[hw];rfl
 have e5:=dy (c+6) N;have e6:∀L,aI (h++L) (.ref g) (.str (N.n .a))=_:=λL=>lX (bS (g:=L) hg) ga
 have e7:=λL l m=>iH (L:=l) (m:=m) (bS (g:=L) hR.w)
 have hE:∀L,(h++L).isEmpty=false:=λL=>hne (bS hR.w)
 have o1:run aJ (c+7) "Places.owned" [.ref w,.int (j:Int),.lst [.int va]] (h++[⟨.eV false [],[]⟩])=some (.ok (.lst [.ref (h.length+1)]),h++[bV [],cj (.int va) .az]):=vf (c+6) (by simp)
 have s1:∀ρ,eI (.ref h.length) (.str (N.n .a)) (.lst [.ref (h.length+1)]) ⟨ρ,h++[bV [],cj (.int va) .az]⟩=some ⟨ρ,h++[bV [(N.a,.lst [.ref (h.length+1)])],cj (.int va) .az]⟩:=λρ=>dj (by simp) (by simp)
 have o2:run aJ (c+7) "Places.let" [.ref w,.int (j:Int),qQ N .b] (h++[bV [(N.a,.lst [.ref (h.length+1)])],cj (.int va) .az])=some (.ok (.lst [.ref (h.length+2)]),h++[bV [(N.a,.lst [.ref (h.length+1)])],cj (.int va) .az,cj (.int 0) .az]):=vh (c+1) K.z8 .b hR.w
 have s2:∀ρ,eI (.ref h.length) (.str (N.n .b)) (.lst [.ref (h.length+2)]) ⟨ρ,h++[bV [(N.a,.lst [.ref (h.length+1)])],cj (.int va) .az,cj (.int 0) .az]⟩=some ⟨ρ,h++[bV [(N.a,.lst [.ref (h.length+1)]),(N.b,.lst [.ref (h.length+2)])],cj (.int va) .az,cj (.int 0) .az]⟩:=λρ=>dj (by simp) (by simp;exact K.ab)
 have o3:run aJ (c+7) "Places.let" [.ref w,.int (j:Int),qQ N .c] (h++[bV [(N.a,.lst [.ref (h.length+1)]),(N.b,.lst [.ref (h.length+2)])],cj (.int va) .az,cj (.int 0) .az])=some (.ok (.lst [.ref (h.length+3),.ref (h.length+4)]),h++[bV [(N.a,.lst [.ref (h.length+1)]),(N.b,.lst [.ref (h.length+2)])],cj (.int va) .az,cj (.int 0) .az,cj (stP (kQ N)) .az,cj (.int 0) .az]):=vh (c+1) K.z8 .c hR.w
 obtain⟨L5,hL⟩:∃L5,L5=[kO (Hn N false h.length ⟨va,0,kQ N,0⟩),cj (.int va) .az,cj (.int 0) .az,cj (stP (kQ N)) .az,cj (.int 0) .az]:=⟨_,rfl⟩
 have s3:∀ρ,eI (.ref h.length) (.str (N.n .c)) (.lst [.ref (h.length+3),.ref (h.length+4)]) ⟨ρ,h++[bV [(N.a,.lst [.ref (h.length+1)]),(N.b,.lst [.ref (h.length+2)])],cj (.int va) .az,cj (.int 0) .az,cj (stP (kQ N)) .az,cj (.int 0) .az]⟩=some ⟨ρ,h++L5⟩:=λρ=>by
  rw[dj (by simp) (by simp;exact⟨K.ac,K.bc⟩),hL]
  rfl
 have Ur:(h++L5).length=h.length+5:=by rw[hL];simp
 have f1:Dy (run aJ (c+7)) "Frame" [.ref (h.length+5),.int (j:Int),.ref h.length] ((h++L5)++[⟨.ins "Frame" [],[]⟩])=some (.ok .az,h++(L5++[qR j h.length 0])):=by rw[<-Ur,xq (c+7) (g:=h++L5),ej]
 have a1:=λρ v=>zS (L:=L5++[qR j h.length 0]) (ρ:=ρ) (v:=v) hR.fl Kn
 have d1:=λL=>ak (bS (g:=L) hR.fl) rfl
 rw[show [kO (Hn N false h.length ⟨va,0,kQ N,0⟩),cj (.int va) .az,cj (.int 0) .az,cj (stP (kQ N)) .az,cj (.int 0) .az,qR j h.length 0]=L5++[qR j h.length 0] by rw[hL];rfl]
 rw[sN];simp only[↓aW,e1,e2,e3,e4,e5,e6,e7,hE,o1,s1,o2,s2,o3,s3,f1,Ur,a1,d1,iQ,ai,noRef,cq,bY,km]
theorem GX(c:Nat){h:List ah}{R w nu fl sd g j:Nat}{N:Nm}(K:aT N){P:List Fd}{fs:List PV}{cnt:Int}{aX:List Int}{F:Fd}{va vn:Int}{vs:List Int}{es:List (Str×PV)}
  (hR:cL h R N P w nu fl sd fs cnt aX) (hF:P[j]?=some F) (hw:F.w=true) (hg:h[g]?=some (bV es)) (ga:dO (bz N.a) (es.map λe=>bz e.1) (es.map (·.2))=some (.lst [.int va])) (gc:dO (bz N.c) (es.map λe=>bz e.1) (es.map (·.2))=some (.lst [stP vs,.int vn])) (Kn:fs.length<=4000) :
  run aJ (c+8) "begin" [.ref R,.int (j:Int),.ref g] h=some (.ok .az,h.set fl ⟨.lst,fs++[.ref (h.length+5)]⟩++[kO (Hn N true h.length ⟨va,0,vs,vn⟩),cj (.int va) .az,cj (stP vs) .az,cj (.int vn) .az,cj (.int 0) .az,qR j h.length 0]):=by
 have e1:=λL=>ak (bS (g:=L) hR.r) rfl
 have e2:∀h,aI h (.aj (P.map (fdP N))) (.int (j:Int))=some (fdP N F):=λh=>atI_nat (by rw[bB,hF];rfl)
 have e3:∀h,aI h (fdP N F) (.int 1)=some (.aj [dA N .a,dA N .c]):=λh=>by
  show some (PV.aj ((par F.w).map (dA N)))=_;rw[hw];rfl
 have e4:∀h,aI h (fdP N F) (.int 3)=some (.aj [dA N .b]):=λh=>by
  show some (PV.aj ((O4 F.w).map (dA N)))=_;rw[hw];rfl
 have e5:=dy (c+6) N;have e6:∀L,aI (h++L) (.ref g) (.str (N.n .a))=_:=λL=>lX (bS (g:=L) hg) ga
 have e8:∀L,aI (h++L) (.ref g) (.str (N.n .c))=_:=λL=>lX (bS (g:=L) hg) gc
 have e7:=λL l m=>iH (L:=l) (m:=m) (bS (g:=L) hR.w)
 have hE:∀L,(h++L).isEmpty=false:=λL=>hne (bS hR.w)
 have o1:run aJ (c+7) "Places.owned" [.ref w,.int (j:Int),.lst [.int va]] (h++[⟨.eV false [],[]⟩])=some (.ok (.lst [.ref (h.length+1)]),h++[bV [],cj (.int va) .az]):=vf (c+6) (by simp)
 have s1:∀ρ,eI (.ref h.length) (.str (N.n .a)) (.lst [.ref (h.length+1)]) ⟨ρ,h++[bV [],cj (.int va) .az]⟩=some ⟨ρ,h++[bV [(N.a,.lst [.ref (h.length+1)])],cj (.int va) .az]⟩:=λρ=>dj (by simp) (by simp)
 have o2:run aJ (c+7) "Places.owned" [.ref w,.int (j:Int),.lst [stP vs,.int vn]] (h++[bV [(N.a,.lst [.ref (h.length+1)])],cj (.int va) .az])=some (.ok (.lst [.ref (h.length+2),.ref (h.length+3)]),h++[bV [(N.a,.lst [.ref (h.length+1)])],cj (.int va) .az,cj (stP vs) .az,cj (.int vn) .az]):=vf (c+6) (by simp)
 have s2:∀ρ,eI (.ref h.length) (.str (N.n .c)) (.lst [.ref (h.length+2),.ref (h.length+3)]) ⟨ρ,h++[bV [(N.a,.lst [.ref (h.length+1)])],cj (.int va) .az,cj (stP vs) .az,cj (.int vn) .az]⟩=some ⟨ρ,h++[bV [(N.a,.lst [.ref (h.length+1)]),(N.c,.lst [.ref (h.length+2),.ref (h.length+3)])],cj (.int va) .az,cj (stP vs) .az,cj (.int vn) .az]⟩:=λρ=>dj (by simp) (by simp;exact K.ac)
 have o3:run aJ (c+7) "Places.let" [.ref w,.int (j:Int),qQ N .b] (h++[bV [(N.a,.lst [.ref (h.length+1)]),(N.c,.lst [.ref (h.length+2),.ref (h.length+3)])],cj (.int va) .az,cj (stP vs) .az,cj (.int vn) .az])=some (.ok (.lst [.ref (h.length+4)]),h++[bV [(N.a,.lst [.ref (h.length+1)]),(N.c,.lst [.ref (h.length+2),.ref (h.length+3)])],cj (.int va) .az,cj (stP vs) .az,cj (.int vn) .az,cj (.int 0) .az]):=vh (c+1) K.z8 .b hR.w
 obtain⟨L5,hL⟩:∃L5,L5=[kO (Hn N true h.length ⟨va,0,vs,vn⟩),cj (.int va) .az,cj (stP vs) .az,cj (.int vn) .az,cj (.int 0) .az]:=⟨_,rfl⟩
 have s3:∀ρ,eI (.ref h.length) (.str (N.n .b)) (.lst [.ref (h.length+4)]) ⟨ρ,h++[bV [(N.a,.lst [.ref (h.length+1)]),(N.c,.lst [.ref (h.length+2),.ref (h.length+3)])],cj (.int va) .az,cj (stP vs) .az,cj (.int vn) .az,cj (.int 0) .az]⟩=some ⟨ρ,h++L5⟩:=λρ=>by
  rw[dj (by simp) (by simp;exact⟨K.ab,λz=>K.bc z.symm⟩),hL]
  rfl
 have Ur:(h++L5).length=h.length+5:=by rw[hL];simp
 have f1:Dy (run aJ (c+7)) "Frame" [.ref (h.length+5),.int (j:Int),.ref h.length] ((h++L5)++[⟨.ins "Frame" [],[]⟩])=some (.ok .az,h++(L5++[qR j h.length 0])):=by rw[<-Ur,xq (c+7) (g:=h++L5),ej]
 have a1:=λρ v=>zS (L:=L5++[qR j h.length 0]) (ρ:=ρ) (v:=v) hR.fl Kn
 have d1:=λL=>ak (bS (g:=L) hR.fl) rfl
 rw[show [kO (Hn N true h.length ⟨va,0,vs,vn⟩),cj (.int va) .az,cj (stP vs) .az,cj (.int vn) .az,cj (.int 0) .az,qR j h.length 0]=L5++[qR j h.length 0] by rw[hL];rfl]
 rw[sN];simp only[↓aW,e1,e2,e3,e4,e5,e6,e7,e8,hE,o1,s1,o2,s2,o3,s3,f1,Ur,a1,d1,iQ,ai,noRef,cq,bY,km]
end bA
set_option maxHeartbeats 4000000
namespace bA
open PySem L2 L2.U
def nJ(V:Vs):Sp->PV
 | .a=>.int V.a
 | .b=>.int V.b
 | .i _=>stP V.s
 | .s=>stP V.s
 | .n=>.int V.n
def Dh(V:Vs):Sp->List PV
 | .i .a=>[.lst [.int V.a]]
 | .i .b=>[.lst [.int V.b]]
 | _=>[]
def zU(V:Vs):Op->List PV
 | .num _=>[]
 | .sp s=>Dh V s++[.lst [nJ V s]]
noncomputable def jS(V:Vs):Ix->Nat
 | .at i=>i
 | .a=>(V.a%(V.s.length:Int)).toNat
 | .b=>(V.b%(V.s.length:Int)).toNat
def opV(V:Vs):Op->Int
 | .num i=>i
 | .sp .a=>V.a
 | .sp .b=>V.b
 | .sp (.i x)=>V.s.getD (jS V x) 0
 | .sp .s=>0
 | .sp .n=>V.n
def BD(V:Vs):Op->Prop
 | .sp (.i (.at i))=>i<V.s.length
 | .sp .s=>False
 | _=>True
theorem BE{h:List ah}{L:List PV}{v:PV}{ρ:List (Option PV)}(hl:L.length<=4000):ie (fH iC) (.ref h.length) [v] ⟨ρ,h++[⟨.lst,L⟩]⟩=some (.ok .az,⟨ρ,h++[⟨.lst,L++[v]⟩]⟩):=by
 rw[qz cH hl,ve]
theorem mZ{V:Vs}{i:Nat}{h:List ah}(hi:i<V.s.length):aI h (stP V.s) (.int (i:Int))=some (.int (V.s.getD i 0)):=atI_nat (by rw[bB,j6,dW hi];rfl)
theorem lY{V:Vs}{h:List ah}:fj h [stP V.s]=some (.int (V.s.length:Int)):=by
 show some (PV.int ((V.s.map PV.int).length:Int))=_;rw[aM]
theorem iI{x:Int}{n:Nat}{h:List ah}(hn:1<=n):cA h (.int x) (.int (n:Int))=some (.int (((x%(n:Int)).toNat:Nat):Int)):=by
 show(if decide (0<(n:Int))=true then some (PV.int (x%(n:Int)))else none)=_
 rw[if_pos (dX (by lia)),tF (et _ (by lia))]
theorem GY{i n:Nat}{h:List ah}(hn:i<n):cA h (.int (i:Int)) (.int (n:Int))=some (.int (i:Int)):=by
 rw[iI (by lia)]
 rw[Int.emod_eq_of_lt (by lia) (by lia),iZ]
theorem mod_lt{x:Int}{n:Nat}(hn:1<=n):(x%(n:Int)).toNat<n:=by
 have:=ix x (show(0:Int)<n by lia)
 have:=et x (show(n:Int)≠0 by lia)
 lia
def ZN:Op->dJ
 | .num _=>.ct
 | _=>.nx
theorem Ko(c:Nat){N:Nm}{V:Vs}{o:Op}{h:List ah}{L:List PV}{r p:PV}{k:Nat}{x4 x5 x6:Option PV}(hs:1<=V.s.length)(hL:L.length<=100)(hk:k<=100)(ho:BD V o)
  (hp:∀(i:Nat) v,(zU V o)[i]?=some v->aI (h++[⟨.lst,L⟩]) p (.int ((k+i:Nat):Int))=some v) :
  ∃y4 y5 y6,aE (run aJ c) ⟨[some r,some p,some (.ref h.length),some (.int (k:Int)),some (jw N o),x5,x6],h++[⟨.lst,L⟩]⟩=some (.ok (ZN o),⟨[some r,some p,some (.ref h.length),some (.int ((k+(zU V o).length:Nat):Int)),y4,y5,y6],h++[⟨.lst,L++[.int (opV V o)]⟩]⟩):=by
 have a1:=λρ v=>BE (h:=h) (ρ:=ρ) (v:=v) (L:=L) (by lia)
 have d1:cR (h++[⟨.lst,L⟩]) (.ref h.length)=some (.lst,L):=ak cH rfl;have ad:∀h (i:Nat),wR h (.int (i:Int)) (.int 1)=some (.int ((i+1:Nat):Int)):=λh i=>rfl
 cases o with
 | num i =>
  refine⟨some (jw N (.num i)),x5,x6,?_⟩;refine bW ?_
  delta aE g8
  simp only[↓iU,a1,d1,jw];rfl
 | sp s =>
  cases s with
  | a =>
   have p0:aI (h++[⟨.lst,L⟩]) p (.int (k:Int))=some _:=hp 0 _ rfl;refine⟨some (gA N .a),some .az,some (.int V.a),?_⟩;refine bW ?_
   delta aE g8
   simp only[↓iU,a1,d1,p0,ad,kq];rfl
  | b =>
   have p0:aI (h++[⟨.lst,L⟩]) p (.int (k:Int))=some _:=hp 0 _ rfl;refine⟨some (gA N .b),some .az,some (.int V.b),?_⟩;refine bW ?_
   delta aE g8
   simp only[↓iU,a1,d1,p0,ad,kq];rfl
  | n =>
   have p0:aI (h++[⟨.lst,L⟩]) p (.int (k:Int))=some _:=hp 0 _ rfl;refine⟨some (gA N .n),some .az,some (.int V.n),?_⟩;refine bW ?_
   delta aE g8
   simp only[↓iU,a1,d1,p0,ad,kq];rfl
  | s=>exact absurd ho id
  | i x =>
   have e3:∀h,fj h [nJ V (.i x)]=_:=λh=>lY (V:=V) (h:=h)
   cases x with
   | «at» i =>
    have p0:aI (h++[⟨.lst,L⟩]) p (.int (k:Int))=some _:=hp 0 _ rfl;have e1:∀h,cA h (xJ N (.at i)) (.int (V.s.length:Int))=_:=λh=>GY ho
    have e2:∀h,aI h (nJ V (.i (.at i))) (.int (i:Int))=_:=λh=>mZ (V:=V) ho
    refine⟨some (gA N (.i (.at i))),some (.int (i:Int)),some (stP V.s),?_⟩;refine bW ?_
    delta aE g8
    simp only[↓iU,a1,d1,p0,ad,e1,e2,e3,kq];rfl
   | a =>
    have p0:aI (h++[⟨.lst,L⟩]) p (.int (k:Int))=some _:=hp 0 _ rfl;have p1:=hp 1 _ rfl;have e1:∀h,cA h (.int V.a) (.int (V.s.length:Int))=_:=λh=>iI hs
    have e2:∀h,aI h (nJ V (.i .a)) (.int ((V.a%(V.s.length:Int)).toNat:Int))=_:=λh=>mZ (V:=V) (mod_lt hs)
    refine⟨some (gA N (.i .a)),some (.int V.a),some (stP V.s),?_⟩;refine bW ?_
    delta aE g8
    simp only[↓iU,a1,d1,p0,p1,ad,e1,e2,e3,kq];rfl
   | b =>
    have p0:aI (h++[⟨.lst,L⟩]) p (.int (k:Int))=some _:=hp 0 _ rfl;have p1:=hp 1 _ rfl;have e1:∀h,cA h (.int V.b) (.int (V.s.length:Int))=_:=λh=>iI hs
    have e2:∀h,aI h (nJ V (.i .b)) (.int ((V.b%(V.s.length:Int)).toNat:Int))=_:=λh=>mZ (V:=V) (mod_lt hs)
    refine⟨some (gA N (.i .b)),some (.int V.b),some (stP V.s),?_⟩;refine bW ?_
    delta aE g8
    simp only[↓iU,a1,d1,p0,p1,ad,e1,e2,e3,kq];rfl
noncomputable def cg:Rw->List Op
 | .put _ o=>[o]
 | .fill o=>[o]
 | .set _ _ o p=>[o,p]
 | .iG o=>[o]
 | .ifs o p _=>[o,p]
 | _=>[]
theorem zV(c:Nat){N:Nm}(r:Rw):run aJ (c+2) "operands" [aR N r] []=some (.ok (.lst ((cg r).map (jw N))),[]):=by
 cases r<;>kernel_rfl
def gV(V:Vs):List Op->List PV
 | []=>[]
 | o::os=>zU V o++gV V os
theorem BF(c:Nat){N:Nm}{V:Vs}{h:List ah}{r p:PV}(hs:1<=V.s.length)(G:List PV)(hp:∀(i:Nat) v L,G[i]?=some v->aI (h++[⟨.lst,L⟩]) p (.int (i:Int))=some v):∀(os:List Op) (L:List PV) (k:Nat) (x4 x5 x6:Option PV),(∀o∈os,BD V o)->L.length+os.length<=100->k+2*os.length<=100->(∃rest,G.drop k=gV V os++rest) ->
  ∃y3 y4 y5 y6,fO (dc 4) (aE (run aJ c)) (os.map (jw N)) ⟨[some r,some p,some (.ref h.length),some (.int (k:Int)),x4,x5,x6],h++[⟨.lst,L⟩]⟩=some (.ok .nx,⟨[some r,some p,some (.ref h.length),y3,y4,y5,y6],h++[⟨.lst,L++os.map (λo=>.int (opV V o))⟩]⟩)
 | [],L,k,x4,x5,x6,_,_,_,_=>⟨_,x4,x5,x6,by simp;rfl⟩
 | o::os,L,k,x4,x5,x6,ho,hl,hk,⟨rest,hG⟩=>by
  simp only[cJ]at hl hk;have fl:(zU V o).length<=2:=by
   cases o with
   | num i=>simp[zU]
   | sp s =>
    cases s
    case i x=>cases x<;>simp[zU,Dh]
    all_goals simp[zU,Dh]
  obtain⟨z4,z5,z6,h1⟩:=Ko c (N:=N) (r:=r) (p:=p) (k:=k) (x4:=x4) (x5:=x5) (x6:=x6) (h:=h) (L:=L) hs (by lia) (by lia) (ho o dk) (λi v hi=>hp (k+i) v L (by
   have:(G.drop k)[i]?=some v:=by
    rw[hG];show((zU V o++gV V os)++rest)[i]?=some v;rw[ej,fy (c8.mp hi).1];exact hi
   rwa [List.getElem?_drop]at this))
  obtain⟨y3,y4,y5,y6,h2⟩:=BF c (N:=N) (r:=r) (p:=p) hs G hp os (L++[.int (opV V o)]) (k+(zU V o).length) z4 z5 z6 (λq hq=>ho q (cO _ hq)) (by rw[bX];simp only[cJ,ki];lia) (by lia) ⟨rest,by
   rw[<-List.drop_drop,hG];show((zU V o++gV V os)++rest).drop _=_;rw[ej,List.drop_left]⟩
  refine⟨y3,y4,y5,y6,?_⟩;rw[ej]at h2;show bnd (stp (dc 4 (jw N o))) (λ_=>bnd (aE (run aJ c)) (pS (fO (dc 4) (aE (run aJ c)) (os.map (jw N))))) _=_
  refine eB (show stp (dc 4 (jw N o)) _=some (.ok .nx,⟨[some r,some p,some (.ref h.length),some (.int (k:Int)),some (jw N o),x5,x6],h++[⟨.lst,L⟩]⟩)from rfl) (eB h1 ?_)
  have:pS (fO (dc 4) (aE (run aJ c)) (os.map (jw N))) (ZN o)=fO (dc 4) (aE (run aJ c)) (os.map (jw N)):=by cases o<;>rfl
  rw[this];exact h2
end bA
set_option maxHeartbeats 4000000
namespace bA
open PySem L2 L2.U
def gm(V:Vs)(r:Rw):List PV:=(cg r).map λo=>.int (opV V o)
structure lZ (g:List ah) (p:PV) (G:List PV):Prop where
 U1:∀(i:Nat) v L,G[i]?=some v->aI (g++L) p (.int (i:Int))=some v
theorem qD(r:Rw):(cg r).length<=2:=by cases r<;>simp[cg]
theorem Us(c:Nat){N:Nm}{V:Vs}{g:List ah}{p:PV}{G:List PV}{r:Rw}(hs:1<=V.s.length)(hp:lZ g p G)(ho:∀o∈cg r,BD V o)(hG:∃rest,G=gV V (cg r)++rest) :
  run aJ (c+3) "numbers_found" [aR N r,p] g=some (.ok (.ref g.length),g++[⟨.lst,gm V r⟩]):=by
 have l:=qD r;obtain⟨y3,y4,y5,y6,hl⟩:=BF (c+2) (N:=N) (r:=aR N r) (p:=p) (h:=g) hs G (λi v L=>hp.U1 i v [⟨.lst,L⟩]) (cg r) [] 0 none none none ho (by simp;lia) (by lia) hG
 have e1:=zV c (N:=N) r;have e2:ai [aR N r]=true:=by simp[ai,nG]
 rw[show(((0:Nat):Int))=0 from rfl,gO]at hl
 delta aE g8 at hl
 rw[lT];simp only[↓aW,e1,e2,hl,gO,cq,bY];rfl
noncomputable def vi:Int:=1000000000000000000000000000000
def X9:Sg->Int->Int->Int
 | .add,x,y=>(x+y)%vi
 | .sub,x,y=>(x-y)%vi
 | .mul,x,y=>x*y%vi
def kR(V:Vs):Rw->Int
 | .put _ o=>opV V o
 | .fill o=>opV V o
 | .set _ g o p=>X9 g (opV V o) (opV V p)
 | _=>0
def Bd(x:Int):Prop:=0<=x/\x<vi
theorem GZ{h:List ah}:Nu h (.int 10) (.int 30)=some (.int vi):=by kernel_rfl
theorem xu{h:List ah}{x:Int}:cA h (.int x) (.int vi)=some (.int (x%vi)):=by
 show(if decide (0<vi)=true then some (PV.int (x%vi))else none)=_
 rw[if_pos (by decide +kernel)]
theorem G3{x:Int}(h:Bd x):x.natAbs<HN:=by
 have h1:=h.1;have h2:=h.2;unfold vi at h2;unfold HN
 lia
theorem LM{h:List ah}{x y:Int}(hx:Bd x)(hy:Bd y):kK h (.int x) (.int y)=some (.int (x*y)):=if_pos (.inr ⟨G3 hx,G3 hy⟩)
theorem Yb(c:Nat){N:Nm}{V:Vs}{g:List ah}{q:Nat}{G:List PV}{r:Rw}(hs:1<=V.s.length)(hp:lZ g (.ref q) G)(ho:∀o∈cg r,BD V o)(hb:∀o∈cg r,Bd (opV V o))(hG:∃rest,G=gV V (cg r)++rest)(hE:g.isEmpty=false)(hr:(∃s o,r=.put s o)\/(∃o,r=.fill o)\/∃s g o p,r=.set s g o p) :
  run aJ (c+4) "number_put" [aR N r,.ref q] g=some (.ok (.int (kR V r)),g++[⟨.lst,gm V r⟩]):=by
 have e1:=Us c (N:=N) hs hp ho hG;have e2:ai [aR N r,.ref q]=false:=by simp[ai,noRef]
 have e3:=qx (h:=g++[⟨.lst,gm V r⟩]) N r;have e4:=λh=>GZ (h:=h)
 have e5:=λh x=>xu (h:=h) (x:=x)
 have i0:∀v,(gm V r)[0]?=some v->aI (g++[⟨.lst,gm V r⟩]) (.ref g.length) (.int 0)=some v:=λv hv=>by
  have d:=ak (h:=g++[⟨.lst,gm V r⟩]) cH rfl;simp only[aI,d];exact atI_nat (j:=0) hv
 have i1:∀v,(gm V r)[1]?=some v->aI (g++[⟨.lst,gm V r⟩]) (.ref g.length) (.int 1)=some v:=λv hv=>by
  have d:=ak (h:=g++[⟨.lst,gm V r⟩]) cH rfl;simp only[aI,d];exact atI_nat (j:=1) hv
 rw[qj];rcases hr with⟨s,o,rfl⟩ | ⟨o,rfl⟩ | ⟨s,w,o,p,rfl⟩
 ·have j0:=i0 _ rfl;simp only[↓aW,e1,e2,e3,j0,hE,aB,ay];rfl
 ·have j0:=i0 _ rfl;simp only[↓aW,e1,e2,e3,j0,hE,aB,ay];rfl
 ·have j0:=i0 _ rfl;have j1:=i1 _ rfl;have b0:=hb o (by simp[cg])
  have b1:=hb p (by simp[cg])
  have e6:=λh=>LM (h:=h) b0 b1
  have e7:∀h,aI h (aR N (.set s w o p)) (.int 2)=some (.str (O1 w)):=λh=>rfl
  cases w<;>(simp only[↓aW,e1,e2,e3,e4,e5,e6,e7,O1,j0,j1,hE,aB,ay];rfl)
end bA
set_option maxHeartbeats 4000000
namespace bA
open PySem L2 L2.U
noncomputable def HR:Rw->Option Sp
 | .put s _=>some s
 | .fill _=>some .s
 | .set s _ _ _=>some s
 | _=>none
def LN(N:Nm)(V:Vs)(x:Int):Sp->PV
 | .i i=>stP (V.s.set (jS V i) x)
 | .s=>stP (List.replicate N.z x)
 | _=>.int x
theorem Kp(c:Nat){N:Nm}(K:aT N)(F:Fd):run aJ (c+7) "strip_of" [fdP N F,gA N .s] []=some (.ok (.aj [.str "strip",.int (N.z:Int)]),[]):=by
 rw[u4];have e3:=jx (c+5) K F .c;have e4:=ox (c+4) N .c;have e5:∀h,aI h (gA N .s) (.int 0)=some (.str (N.n .c)):=λh=>rfl
 simp only[↓aW,e3,e4,e5]
theorem vj{h:List ah}{x:Int}{z:Nat}(z8:z<=8):kK h (.aj [.int x]) (.int (z:Int))=some (stP (List.replicate z x)):=by
 show(if(0<=(z:Int)/\(z:Int)<=1000/\1<=[PV.int x].length/\[PV.int x].length<=100)then some (PV.aj (List.replicate (z:Int).toNat [PV.int x]).flatten)else none)=_
 rw[if_pos ⟨by lia,by lia,by simp,by simp⟩,iZ]
 unfold stP
 congr 2
 clear z8;induction z with
 | zero=>rfl
 | succ n ih=>rw[eQ,i4,ih];simp[eQ]
theorem G4(s:List Int)(q:Nat)(hq:q<=s.length):ic (s.map .int) none (some (q:Int))=(s.take q).map .int:=by
 unfold ic;rw[HT.pE,HT.lj,aM,oN hq,t9];simp
theorem G5(s:List Int)(q:Nat)(hq:q<=s.length):ic (s.map .int) (some (q:Int)) none=(s.drop q).map .int:=by
 unfold ic;rw[HT.pE,HT.lj,aM,oN hq,List.map_drop];rw[tm (by simp)]
theorem vk{h:List ah}{s:List Int}{q:Nat}{x:Int}(hq:q<s.length)(h8:s.length<=8) :
  (cY h (.aj ((s.take q).map .int)) (.aj [.int x]))=some (.aj ((s.take q++[x]).map .int))/\cY h (.aj ((s.take q++[x]).map .int)) (.aj ((s.drop (q+1)).map .int))=some (stP (s.set q x)):=by
 constructor
 ·show L2.U.sizeOk (((s.take q).map PV.int).length+1) (.aj ((s.take q).map PV.int++[.int x]))=_;unfold L2.U.sizeOk;rw[if_pos (aP (show _<=100 by simp;lia) (by decide))]
  simp
 ·show L2.U.sizeOk (((s.take q++[x]).map PV.int).length+((s.drop (q+1)).map PV.int).length) (.aj ((s.take q++[x]).map PV.int++(s.drop (q+1)).map PV.int))=_;unfold L2.U.sizeOk;rw[if_pos (aP (show _<=100 by simp;lia) (by decide))]
  unfold stP;rw[<-fD,List.set_eq_take_append_cons_drop,if_pos hq,ej];rfl
def Di(V:Vs):Sp->Prop
 | .i (.at i)=>i<V.s.length
 | .s=>False
 | _=>True
theorem lenZ{V:Vs}{z:Nat}(hz:V.s.length=z){h:List ah}:fj h [stP V.s]=some (.int (z:Int)):=by rw[lY,hz]
theorem Dj(c:Nat){N:Nm}(K:aT N)(F:Fd){V:Vs}{g:List ah}{q:Nat}{r:Rw}{s:Sp}(hz:V.s.length=N.z)(hp:lZ g (.ref q) (gV V (cg r)++Dh V s))(ho:∀o∈cg r,BD V o)(hb:∀o∈cg r,Bd (opV V o))(hE:g.isEmpty=false)
  (hr:((∃o,r=.put s o)/\Di V s)\/((∃o,r=.fill o)/\s=.s)\/((∃w o p,r=.set s w o p)/\Di V s))
  (hl:∀v,(Dh V s).getLast?=some v->∀L,aI (g++L) (.ref q) (.int (-1))=some v) :
  run aJ (c+8) "written" [fdP N F,aR N r,.ref q,.lst [nJ V s]] g=some (.ok (.lst [LN N V (kR V r) s]),g++[⟨.lst,gm V r⟩]):=by
 have hs:1<=V.s.length:=by rw[hz];exact K.z1
 have h8:V.s.length<=8:=by rw[hz];exact K.z8
 have e1:=Yb (c+3) (N:=N) hs hp ho hb ⟨_,rfl⟩ hE (by
  rcases hr with⟨⟨o,h⟩,_⟩ | ⟨⟨o,h⟩,_⟩ | ⟨⟨w,o,p,h⟩,_⟩
  ·exact .inl ⟨s,o,h⟩
  ·exact .inr (.inl ⟨o,h⟩)
  ·exact .inr (.inr ⟨s,w,o,p,h⟩))
 have e2:ai [aR N r,.ref q]=false:=by simp[ai,noRef]
 have e3:=λh=>qx (h:=h) N r
 have e4:sQ r="put"\/sQ r="set"\/(sQ r="fill"/\s=.s):=by
  rcases hr with⟨⟨o,h⟩,_⟩ | ⟨⟨o,h⟩,h2⟩ | ⟨⟨w,o,p,h⟩,_⟩
  ·rw[h];exact .inl rfl
  ·rw[h];exact .inr (.inr ⟨rfl,h2⟩)
  ·rw[h];exact .inr (.inl rfl)
 have e5:∀h,aI h (aR N r) (.int 1)=some (gA N s):=λh=>by
  rcases hr with⟨⟨o,z⟩,_⟩ | ⟨⟨o,z⟩,z2⟩ | ⟨⟨w,o,p,z⟩,_⟩
  ·rw[z];rfl
  ·rw[z,z2];rfl
  ·rw[z];rfl
 generalize kR V r=num at e1 ⊢
 generalize gm V r=nms at e1 ⊢
 generalize hg:g++[⟨.lst,nms⟩]=g' at e1 ⊢
 have hE':g'.isEmpty=false:=by rw[<-hg];cases g<;>rfl
 rw[xb];by_cases hw:sQ r="fill"
 ·have hss:s=.s:=by
   rcases e4 with h | h | h
   ·rw[h]at hw;exact absurd hw (by decide)
   ·rw[h]at hw;exact absurd hw (by decide)
   ·exact h.2
  subst hss;rw[hw]at e3;have e6:=Kp c K F;have e7:=λh=>vj (h:=h) (x:=num) K.z8
  have nr:ai [fdP N F,gA N .s]=true:=by simp[ai,nH,Bx]
  simp only[↓aW,e1,e2,e3,e5,e6,e7,hE,hE',nr,aB,ay,cq,bY];rfl
 ·have hA:Di V s:=by
   rcases hr with⟨_,h⟩ | ⟨⟨o,h⟩,_⟩ | ⟨_,h⟩
   ·exact h
   ·rw[h]at hw;exact absurd rfl hw
   ·exact h
  have G6:sQ r="put"\/sQ r="set":=by
   rcases e4 with h | h | h
   ·exact .inl h
   ·exact .inr h
   ·exact absurd h.1 hw
  have e6:∀h,aI h (gA N s) (.int 3)=some (match s with | .i x=>xJ N x | _=>.az):=λh=>by
   cases s
   case i x=>cases x<;>rfl
   all_goals rfl
  cases s with
  | s=>exact absurd hA id
  | a=>rcases G6 with h | h<;>(rw[h]at e3;simp only[↓aW,e1,e2,e3,e5,e6,hE,aB,ay];rfl)
  | b=>rcases G6 with h | h<;>(rw[h]at e3;simp only[↓aW,e1,e2,e3,e5,e6,hE,aB,ay];rfl)
  | n=>rcases G6 with h | h<;>(rw[h]at e3;simp only[↓aW,e1,e2,e3,e5,e6,hE,aB,ay];rfl)
  | i x =>
   have e8:∀h,aI h (.lst [nJ V (.i x)]) (.int 0)=some (stP V.s):=λh=>rfl
   have e9:=λh=>lY (V:=V) (h:=h)
   have hI:jS V x<V.s.length:=by
    cases x with
    | «at» i=>exact hA
    | a=>exact mod_lt hs
    | b=>exact mod_lt hs
   have c1:∀h,xH h none (some (jS V x:Int)) (stP V.s)=some (.aj ((V.s.take (jS V x)).map .int)):=λh=>by
    show some (PV.aj (ic (V.s.map .int) none (some (jS V x:Int))))=_;rw[G4 _ _ (by lia)]
   have c2:∀h,xH h (some (((jS V x+1:Nat):Int))) none (stP V.s)=some (.aj ((V.s.drop (jS V x+1)).map .int)):=λh=>by
    show some (PV.aj (ic (V.s.map .int) (some ((jS V x+1:Nat):Int)) none))=_;rw[G5 _ _ (by lia)]
   have c3:=λh=>(vk (h:=h) (x:=num) hI h8).1
   have c4:=λh=>(vk (h:=h) (x:=num) hI h8).2
   have ad:∀h,cY h (.int (jS V x:Int)) (.int 1)=some (.int ((jS V x+1:Nat):Int)):=λh=>rfl
   cases x with
   | «at» i =>
    have m1:∀h,cA h (xJ N (.at i)) (.int (V.s.length:Int))=some (.int ((jS V (.at i):Nat):Int)):=λh=>GY hA
    rcases G6 with h | h<;>(rw[h]at e3;simp only[↓aW,e1,e2,e3,e5,e6,e8,e9,c1,c2,c3,c4,ad,m1,hE,aB,ay];rfl)
   | a =>
    have m1:∀h,cA h (.int V.a) (.int (V.s.length:Int))=some (.int ((jS V .a:Nat):Int)):=λh=>iI hs
    have l1:aI g' (.ref q) (.int (-1))=some (.lst [.int V.a]):=by rw[<-hg];exact hl _ rfl _
    rcases G6 with h | h<;>(rw[h]at e3;simp only[↓aW,e1,e2,e3,e5,e6,e8,e9,c1,c2,c3,c4,ad,m1,l1,hE,aB,ay];rfl)
   | b =>
    have m1:∀h,cA h (.int V.b) (.int (V.s.length:Int))=some (.int ((jS V .b:Nat):Int)):=λh=>iI hs
    have l1:aI g' (.ref q) (.int (-1))=some (.lst [.int V.b]):=by rw[<-hg];exact hl _ rfl _
    rcases G6 with h | h<;>(rw[h]at e3;simp only[↓aW,e1,e2,e3,e5,e6,e8,e9,c1,c2,c3,c4,ad,m1,l1,hE,aB,ay];rfl)
end bA
set_option maxHeartbeats 4000000
namespace bA
open PySem L2 L2.U
structure Fr where
 j:Nat
 r:Nat
 v:Vs
abbrev iV(h:List ah)(N:Nm)(w:Bool)(n:Nat)(F:Fr):Prop:=rn h (n+5) n F.j F.r (Hn N w n F.v)
def vm(w:Bool)(n:Nat)(V:Vs):N3->Pl
 | .a=>[(n+1,.int V.a)]
 | .b=>if w=true then [(n+4,.int V.b)]else [(n+2,.int V.b)]
 | .c=>if w=true then [(n+2,stP V.s),(n+3,.int V.n)]else [(n+3,stP V.s),(n+4,.int V.n)]
noncomputable def zW(w:Bool)(n:Nat):Sp->Nat
 | .a=>n+1
 | .b=>if w=true then n+4 else n+2
 | .n=>if w=true then n+3 else n+4
 | _=>if w=true then n+2 else n+3
theorem Ut{N:Nm}(K:aT N)(w:Bool)(n:Nat)(V:Vs)(x:N3):(Hn N w n V).lookup (N.n x)=some (vm w n V x):=by
 have X4:=bI.mpr K.ab.symm;have X5:=bI.mpr K.ac.symm;have X6:=bI.mpr K.bc.symm;have X3:=bI.mpr K.bc;cases w<;>cases x<;>simp[Hn,Nm.n,vm,ek,X4,X5,X6,X3]
def l0(V:Vs):N3->List PV
 | .a=>[.int V.a]
 | .b=>[.int V.b]
 | .c=>[stP V.s,.int V.n]
theorem ir{N:Nm}(K:aT N)(w:Bool)(n:Nat)(V:Vs)(x:N3)(wd t:Str):bG (Hn N w n V) ⟨wd,N.n x,false,0,nI x,t⟩=vm w n V x:=by
 unfold bG;rw[Ut K];cases w<;>cases x<;>rfl
theorem vo(w:Bool)(n:Nat)(V:Vs)(x:N3):gU (vm w n V x)=.lst (l0 V x):=by cases w<;>cases x<;>rfl
theorem vp{N:Nm}(K:aT N)(w:Bool)(n:Nat)(V:Vs)(s:Sp)(wd t:Str):bG (Hn N w n V) ⟨wd,N.n s.x,false,s.f,1,t⟩=[(zW w n s,nJ V s)]:=by
 unfold bG;show((((Hn N w n V).lookup (N.n s.x)).getD []).drop s.f).take 1=_;rw[Ut K];cases w<;>cases s<;>rfl
theorem gp{N:Nm}(K:aT N)(w:Bool)(n:Nat)(V:Vs)(x:N3)(wd t:Str):n4 (Hn N w n V) ⟨wd,N.n x,false,0,nI x,t⟩:=⟨_,Ut K w n V x,by cases w<;>cases x<;>simp[vm,nI]⟩
theorem sT{N:Nm}(K:aT N)(w:Bool)(n:Nat)(V:Vs)(s:Sp)(wd t:Str):n4 (Hn N w n V) ⟨wd,N.n s.x,false,s.f,1,t⟩:=⟨_,Ut K w n V s.x,by cases w<;>cases s<;>simp[vm,Sp.x,Sp.f]⟩
def gW(N:Nm)(V:Vs)(x:Int):Sp->Vs
 | .a=>{V with a:=x}
 | .b=>{V with b:=x}
 | .n=>{V with n:=x}
 | .s=>{V with s:=List.replicate N.z x}
 | .i i=>{V with s:=V.s.set (jS V i) x}
theorem Kq(N:Nm)(w:Bool)(n:Nat)(V:Vs)(s:Sp)(x:Int):O0 (Hn N w n V) [(zW w n s,nJ V s)] [LN N V x s]=Hn N w n (gW N V x s):=by
 cases w<;>cases s<;>simp[O0,Hn,newV,zW,gW,LN]<;>lia
end bA
set_option maxHeartbeats 4000000
namespace bA
open PySem L2 L2.U
theorem BG(c:Nat)(k:Nat)(a:Ac)(h:a.w="read"\/a.w="fill"\/a.w="turn"):run aJ (c+1) "is_lending" [dZ k a] []=some (.ok (.bl false),[]):=by
 obtain⟨w,x,t,f,m,tk⟩:=a;have h:w="read"\/w="fill"\/w="turn":=h;rcases h with rfl | rfl | rfl<;>kernel_rfl
theorem BH(k:Nat)(a:Ac):noRef (dZ k a)=true:=by simp[dZ,noRef,ai]
theorem Pc(c:Nat){N:Nm}{P:List Fd}{w0 nu fl sd:Nat}{fs:List PV}{cnt:Int}{aX:List Int}{h:List ah}{R fi d k q:Nat}{j r:Int}{H:List (Str×Pl)}{a:Ac}{row:PV}
  (hR:cL h R N P w0 nu fl sd fs cnt aX) (hF:rn h fi d j r H) (ft:n4 H a) (ha:a.w="read") :
  run aJ (c+3) "do_act" [.ref R,.ref fi,row,dZ k a,.ref q] h=some (.ok (gU (bG H a)),h):=by
 have e1:=BG (c+1) k a (.inl ha);have e2:=ow c (w:=w0) (k:=k) hF ft;have e3:=ak hR.r rfl;have e4:=λl m=>iH (L:=l) (m:=m) hR.w
 have e5:∀h,aI h (dZ k a) (.int 1)=some (.str "read"):=λh=>by rw[LJ,ha]
 have hE:=hne hF.f;have nr:ai [dZ k a]=true:=by simp[ai,BH]
 rw[qi];simp only[↓aW,e1,e2,e3,e4,e5,hE,nr,BH,aB,ay,cq,bY]
theorem cL.ch{h h':List ah}{A:List Nat}{N:Nm}{P:List Fd}{R w0 nu fl sd:Nat}{fs:List PV}{cnt:Int}{aX:List Int}(hR:cL h R N P w0 nu fl sd fs cnt aX)(c:Ch h h' A)(hA:R∉A/\w0∉A/\nu∉A/\fl∉A/\sd∉A):cL h' R N P w0 nu fl sd fs cnt aX :=
 ⟨c.get hR.r hA.1,c.get hR.w hA.2.1,c.get hR.nu hA.2.2.1,c.get hR.fl hA.2.2.2.1,c.get hR.sd hA.2.2.2.2⟩
theorem cL.app{h:List ah}(g:List ah){N:Nm}{P:List Fd}{R w0 nu fl sd:Nat}{fs:List PV}{cnt:Int}{aX:List Int}(hR:cL h R N P w0 nu fl sd fs cnt aX):cL (h++g) R N P w0 nu fl sd fs cnt aX:=hR.ch (Ch.app h g []) (by simp)
theorem rn.app{h:List ah}(g:List ah){fi d:Nat}{j r:Int}{H:List (Str×Pl)}(F:rn h fi d j r H):rn (h++g) fi d j r H :=
 ⟨bS F.f,bS F.d,λe he x hx=>bS (F.p e he x hx),F.l⟩
theorem kT(c:Nat){N:Nm}{P:List Fd}{w0 nu fl sd:Nat}{fs:List PV}{cnt:Int}{aX:List Int}{h:List ah}{R fi d k:Nat}{j r:Int}{H:List (Str×Pl)}{row so:PV}
  (hR:cL h R N P w0 nu fl sd fs cnt aX) (hF:rn h fi d j r H):∀(A:List Ac) (L:List PV) (x5:Option PV),(∀a∈A,n4 H a/\a.w="read")->L.length+A.length<=1000 ->
  ∃y5,∀rest,fO (dc 5) (cU (run aJ (c+3))) (A.map (dZ k)++rest) ⟨[some (.ref R),some (.ref fi),some row,some so,some (.ref h.length),x5],h++[⟨.lst,L⟩]⟩=fO (dc 5) (cU (run aJ (c+3))) rest ⟨[some (.ref R),some (.ref fi),some row,some so,some (.ref h.length),y5],h++[⟨.lst,L++A.map λa=>gU (bG H a)⟩]⟩
 | [],L,x5,_,_=>⟨x5,λrest=>by simp⟩
 | a::A,L,x5,ha,hl=>by
  simp only[cJ]at hl;obtain⟨f1,f2⟩:=ha a dk;have e1:=Pc c (k:=k) (q:=h.length) (row:=row) (hR.app [⟨.lst,L⟩]) (hF.app [⟨.lst,L⟩]) f1 f2;have a1:=λρ v=>BE (h:=h) (ρ:=ρ) (v:=v) (L:=L) (by lia)
  have d1:cR (h++[⟨.lst,L⟩]) (.ref h.length)=some (.lst,L):=ak cH rfl;have hE:(h++[(⟨.lst,L⟩:ah)]).isEmpty=false:=hne (cH (h:=h) (c:=⟨.lst,L⟩));have nr:∀l,ai (.ref R::l)=false:=jQ R
  have b1:cU (run aJ (c+3)) ⟨[some (.ref R),some (.ref fi),some row,some so,some (.ref h.length),some (dZ k a)],h++[⟨.lst,L⟩]⟩=some (.ok .nx,⟨[some (.ref R),some (.ref fi),some row,some so,some (.ref h.length),some (dZ k a)],h++[⟨.lst,L++[gU (bG H a)]⟩]⟩):=by
   refine bW ?_
   delta cU g8
   simp only[↓iU,e1,a1,d1,hE,nr,aB,ay]
  obtain⟨y5,ih⟩:=kT c (k:=k) (row:=row) (so:=so) hR hF A (L++[gU (bG H a)]) (some (dZ k a)) (λb hb=>ha b (cO _ hb)) (by rw[bX];simp only[cJ,ki];lia)
  refine⟨y5,λrest=>?_⟩
  rw[aQ,List.cons_append];rw[show L++(a::A).map (λa=>gU (bG H a))=L++[gU (bG H a)]++A.map λa=>gU (bG H a) by simp]
  rw[<-ih rest];exact fC (s1:=⟨[some (.ref R),some (.ref fi),some row,some so,some (.ref h.length),some (dZ k a)],_⟩) rfl b1 rfl
theorem BI(c:Nat){N:Nm}{P:List Fd}{w0 nu fl sd:Nat}{fs:List PV}{cnt:Int}{aX:List Int}{h:List ah}{R fi d k:Nat}{j r:Int}{H:List (Str×Pl)}{row:PV}
  (hR:cL h R N P w0 nu fl sd fs cnt aX) (hF:rn h fi d j r H) (A:List Ac) (ha:∀a∈A,n4 H a/\a.w="read") (hl:A.length<=100) :
  run aJ (c+4) "do_acts" [.ref R,.ref fi,row,.lst (A.map (dZ k))] h=some (.ok (.lst (A.map λa=>gU (bG H a))),h++[gz]):=by
 obtain⟨y5,hL⟩:=kT c (k:=k) (row:=row) (so:=.lst (A.map (dZ k))) hR hF A [] none ha (by simp;lia)
 have e1:=hL [];rw[dE,gO]at e1;have e3:=eK (h:=h++[⟨.lst,A.map λa=>gU (bG H a)⟩]) cH rfl
 have e4:=ve (g:=h) (c:=⟨.lst,A.map λa=>gU (bG H a)⟩) (d:=gz)
 delta cU g8 at e1
 rw[nD];simp only[↓aW,e1,e3,e4]
end bA
set_option maxHeartbeats 4000000
namespace bA
open PySem L2 L2.U
def zX(N:Nm):Sp->Ac
 | .i x=>O5 N "turn" (.i x)
 | s=>O5 N "fill" s
theorem Pd(N:Nm)(s:Sp):∃wd,(wd="fill"\/wd="turn")/\zX N s=⟨wd,N.n s.x,false,s.f,1,""⟩:=by
 cases s
 case i x=>exact⟨"turn",.inr rfl,rfl⟩
 all_goals exact⟨"fill",.inl rfl,rfl⟩
def l5(N:Nm):List Op->List Ac
 | []=>[]
 | o::os=>n6 N o++l5 N os
theorem Pe(N:Nm){r:Rw}{s:Sp}(h:HR r=some s):bP N r=(l5 N (cg r)++xK N s)++[zX N s]:=by
 cases r<;>cases h<;>(first | (cases s<;>simp[bP,l5,cg,De,zX,xK]) | simp[bP,l5,cg,De,zX,xK])
theorem G7{N:Nm}(K:aT N)(w:Bool)(n:Nat)(V:Vs)(s:Sp):(xK N s).map (λa=>gU (bG (Hn N w n V) a))=Dh V s:=by
 have e:=λx=>ir K w n V x "read" ""
 cases s
 case i x =>
  cases x
  case «at» i=>rfl
  case a=>show [gU (bG (Hn N w n V) (mX N .a))]=_;rw[show bG (Hn N w n V) (mX N .a)=_ from e .a,vo];rfl
  case b=>show [gU (bG (Hn N w n V) (mX N .b))]=_;rw[show bG (Hn N w n V) (mX N .b)=_ from e .b,vo];rfl
 all_goals rfl
theorem Pf{N:Nm}(K:aT N)(w:Bool)(n:Nat)(V:Vs)(o:Op):(n6 N o).map (λa=>gU (bG (Hn N w n V) a))=zU V o:=by
 cases o with
 | num i=>rfl
 | sp s =>
  show(xK N s++[O5 N "read" s]).map _=_;rw[fD,G7 K];show _++[gU (bG (Hn N w n V) ⟨"read",N.n s.x,false,s.f,1,""⟩)]=_;rw[vp K];rfl
theorem vq{N:Nm}(K:aT N)(w:Bool)(n:Nat)(V:Vs):∀os:List Op,(l5 N os).map (λa=>gU (bG (Hn N w n V) a))=gV V os
 | []=>rfl
 | o::os=>by
  show(n6 N o++l5 N os).map _=zU V o++gV V os;rw[fD,Pf K,vq K w n V os]
theorem LO{N:Nm}(K:aT N)(w:Bool)(n:Nat)(V:Vs)(s:Sp):∀a∈xK N s,n4 (Hn N w n V) a/\a.w="read":=by
 intro a h;cases s
 case i x =>
  cases x
  case «at» i=>cases h
  case a=>rw[cm.mp h];exact⟨gp K w n V .a "read" "",rfl⟩
  case b=>rw[cm.mp h];exact⟨gp K w n V .b "read" "",rfl⟩
 all_goals cases h
theorem Uu{N:Nm}(K:aT N)(w:Bool)(n:Nat)(V:Vs)(o:Op):∀a∈n6 N o,n4 (Hn N w n V) a/\a.w="read":=by
 intro a h;cases o with
 | num i=>cases h
 | sp s =>
  rcases cW.mp h with h | h
  ·exact LO K w n V s a h
  ·rw[cm.mp h];exact⟨sT K w n V s "read" "",rfl⟩
theorem zY{N:Nm}(K:aT N)(w:Bool)(n:Nat)(V:Vs):∀os:List Op,∀a∈l5 N os,n4 (Hn N w n V) a/\a.w="read"
 | [],a,h=>by cases h
 | o::os,a,h=>by
  rcases cW.mp h with h | h
  ·exact Uu K w n V o a h
  ·exact zY K w n V os a h
theorem qE(N:Nm):∀os:List Op,(l5 N os).length<=2*os.length
 | []=>by simp[l5]
 | o::os=>by
  have:=dh N o;have:=qE N os;simp only[l5,bX,cJ]
  lia
theorem Kr(c:Nat){N:Nm}(K:aT N){P:List Fd}{F:Fd}{w0 nu fl sd:Nat}{fs:List PV}{cnt:Int}{aX:List Int}{g:List ah}{R n k q:Nat}{f:Fr}{r:Rw}{s:Sp}
  (hR:cL g R N P w0 nu fl sd fs cnt aX) (hB:iV g N F.w n f) (hP:P[f.j]?=some F) (hz:f.v.s.length=N.z) (hp:lZ g (.ref q) (gV f.v (cg r)++Dh f.v s)) (ho:∀o∈cg r,BD f.v o) (hb:∀o∈cg r,Bd (opV f.v o))
  (hr:((∃o,r=.put s o)/\Di f.v s)\/((∃o,r=.fill o)/\s=.s)\/((∃w o p,r=.set s w o p)/\Di f.v s))
  (hl:∀v,(Dh f.v s).getLast?=some v->∀L,aI (g++L) (.ref q) (.int (-1))=some v) :
  run aJ (c+9) "do_act" [.ref R,.ref (n+5),aR N r,dZ k (zX N s),.ref q] g=some (.ok (.lst [nJ f.v s]),vc (g++[⟨.lst,gm f.v r⟩]) [(zW F.w n s,nJ f.v s)] [LN N f.v (kR f.v r) s]):=by
 obtain⟨wd,ZO,ea⟩:=Pd N s;have e1:=BG (c+7) k (zX N s) (by rw[ea];rcases ZO with h | h<;>simp[h])
 have ft:n4 (Hn N F.w n f.v) (zX N s):=by rw[ea];exact sT K F.w n f.v s wd ""
 have pl:bG (Hn N F.w n f.v) (zX N s)=[(zW F.w n s,nJ f.v s)]:=by rw[ea];exact vp K F.w n f.v s wd ""
 have e2:=ow (c+6) (w:=w0) (k:=k) hB ft;rw[pl]at e2;have e2:run aJ (c+8) "Places.touch" [.ref w0,.ref (n+5),dZ k (zX N s)] g=some (.ok (.lst [nJ f.v s]),g):=e2;have e3:=ak hR.r rfl;have Ow:=ak (hR.app [⟨.lst,gm f.v r⟩]).r rfl;have e4:=λl m=>iH (L:=l) (m:=m) hR.w
 have e5:∀h,Li false h (.str (zX N s).w) (.aj [.str "fill",.str "turn"])=some (.bl true):=λh=>by rw[ea];rcases ZO with rfl | rfl<;>rfl
 have e6:=ak hB.f rfl;have e7:∀h,aI h (.aj (P.map (fdP N))) (.int (f.j:Int))=some (fdP N F):=λh=>atI_nat (by rw[bB,hP];rfl)
 have hE:=hne hB.f;have e8:=Dj c K F (g:=g) (q:=q) hz hp ho hb hE hr hl;have e9:=Bv (c+6) (w:=w0) (k:=k) (W:=[LN N f.v (kR f.v r) s]) (hB.app [⟨.lst,gm f.v r⟩]) ft (by rw[pl];rfl)
 rw[pl]at e9;have nr:ai [dZ k (zX N s)]=true:=by simp[ai,BH]
 have LP:ai [fdP N F,aR N r,.ref q,.lst [nJ f.v s]]=false:=by simp[ai,noRef]
 rw[qi];simp only[↓aW,LJ,e1,e2,e3,e4,e5,e6,e7,e8,e9,hE,nr,LP,BH,aB,ay,cq,bY]
end bA
set_option maxHeartbeats 4000000
namespace bA
open PySem L2 L2.U
theorem atI_last{α:Type}{xs:List α}{v:α}(h:xs.getLast?=some v):L2.qN xs (-1)=some v:=by
 have hp:0<xs.length:=by cases xs with | nil=>cases h | cons=>simp
 unfold L2.qN L2.AE;rw[if_neg (by lia),if_pos (by lia),i6,show((-1:Int)+xs.length).toNat=xs.length-1 by lia,<-List.getLast?_eq_getElem?]
 exact h
theorem rn.ch{h h':List ah}{A:List Nat}{fi d:Nat}{j r:Int}{H:List (Str×Pl)}(F:rn h fi d j r H)(c:Ch h h' A)(hf:fi∉A)(hd:d∉A)(hp:∀e∈H,∀x∈e.2,x.1∉A):rn h' fi d j r H :=
 ⟨c.get F.f hf,c.get F.d hd,λe he x hx=>c.get (F.p e he x hx) (hp e he x hx),F.l⟩
theorem G8{N:Nm}{w:Bool}{n:Nat}{V:Vs}:∀e∈Hn N w n V,∀x∈e.2,n<x.1/\x.1<n+5:=by
 intro e he x hx;unfold Hn at he;cases w<;>simp at he<;>rcases he with rfl | rfl | rfl<;>simp at hx<;>(first | (rcases hx with rfl | rfl<;>simp) | (subst hx;simp))
theorem Ph(w:Bool)(n:Nat)(s:Sp):n<zW w n s/\zW w n s<n+5:=by cases w<;>cases s<;>simp[zW]
theorem iV.lt{h:List ah}{N:Nm}{w:Bool}{n:Nat}{f:Fr}(F:iV h N w n f):n+5<h.length:=kN F.f
theorem iV.ch{h h':List ah}{A:List Nat}{N:Nm}{w:Bool}{n:Nat}{f:Fr}(F:iV h N w n f)(c:Ch h h' A)(hA:∀a∈A,a<n\/n+5<a):iV h' N w n f :=
 rn.ch F c (λz=>by have:=hA _ z;lia) (λz=>by have:=hA _ z;lia) λe he x hx z=>by
  have:=hA _ z;have:=G8 e he x hx
  lia
theorem Dk(c:Nat){N:Nm}(K:aT N){P:List Fd}{F:Fd}{w0 nu fl sd:Nat}{fs:List PV}{cnt:Int}{aX:List Int}{h:List ah}{R n k:Nat}{f:Fr}{r:Rw}{s:Sp}
  (hR:cL h R N P w0 nu fl sd fs cnt aX) (hB:iV h N F.w n f) (hP:P[f.j]?=some F) (hz:f.v.s.length=N.z) (ho:∀o∈cg r,BD f.v o) (hb:∀o∈cg r,Bd (opV f.v o)) (ht:HR r=some s)
  (hr:((∃o,r=.put s o)/\Di f.v s)\/((∃o,r=.fill o)/\s=.s)\/((∃w o p,r=.set s w o p)/\Di f.v s)) :
  ∃v h',run aJ (c+10) "do_acts" [.ref R,.ref (n+5),aR N r,.lst ((bP N r).map (dZ k))] h=some (.ok v,h')/\Ch h h' [zW F.w n s]/\iV h' N F.w n ⟨f.j,f.r,gW N f.v (kR f.v r) s⟩:=by
 have ln:=iV.lt hB;have ad:=Ph F.w n s;obtain⟨G,hG⟩:∃G,G=gV f.v (cg r)++Dh f.v s:=⟨_,rfl⟩
 obtain⟨A,hA⟩:∃A,A=l5 N (cg r)++xK N s:=⟨_,rfl⟩
 have hv:A.map (λa=>gU (bG (Hn N F.w n f.v) a))=G:=by rw[hA,hG,fD,vq K,G7 K]
 have Al:A.length<=5:=by
  have:=qE N (cg r);have:=qD r;have:=oA N s;rw[hA,bX];lia
 have Gl:G.length<=5:=by rw[<-hv,aM];exact Al
 obtain⟨y5,hL⟩:=kT (c+6) (k:=k) (row:=aR N r) (so:=.lst ((bP N r).map (dZ k))) hR hB A [] none (λa ha=>by
  rw[hA]at ha;rcases cW.mp ha with ha | ha
  ·exact zY K F.w n f.v _ a ha
  ·exact LO K F.w n f.v s a ha) (by simp;lia)
 have e1:=hL [dZ k (zX N s)];rw[hv,gO,show A.map (dZ k)++[dZ k (zX N s)]=(bP N r).map (dZ k) by rw[Pe N ht,hA];simp]at e1
 have fq:lZ (h++[⟨.lst,G⟩]) (.ref h.length) (gV f.v (cg r)++Dh f.v s):=⟨λi v L hi=>by
  have d:=ak (bS (g:=L) (cH (h:=h) (c:=⟨.lst,G⟩))) rfl;simp only[aI,d];exact atI_nat (by rw[hG];exact hi)⟩
 have hl:∀v,(Dh f.v s).getLast?=some v->∀L,aI ((h++[⟨.lst,G⟩])++L) (.ref h.length) (.int (-1))=some v:=λv hv L=>by
  have d:=ak (bS (g:=L) (cH (h:=h) (c:=⟨.lst,G⟩))) rfl;simp only[aI,d];exact atI_last (by rw[hG];rw[List.getLast?_append,hv];rfl)
 have e2:=Kr c K (k:=k) (q:=h.length) (hR.app [⟨.lst,G⟩]) (hB.app [⟨.lst,G⟩]) hP hz fq ho hb hr hl;obtain⟨h2,Dl⟩:∃h2,h2=vc ((h++[⟨.lst,G⟩])++[⟨.lst,gm f.v r⟩]) [(zW F.w n s,nJ f.v s)] [LN N f.v (kR f.v r) s]:=⟨_,rfl⟩
 rw[<-Dl]at e2;have c1:Ch h ((h++[⟨.lst,G⟩])++[⟨.lst,gm f.v r⟩]) [zW F.w n s]:=by rw[ej];exact Ch.app _ _ _
 have c2:=lV [(zW F.w n s,nJ f.v s)] [LN N f.v (kR f.v r) s] ((h++[⟨.lst,G⟩])++[⟨.lst,gm f.v r⟩]);rw[<-Dl]at c2;have g2:h2[h.length]?=some ⟨.lst,G⟩:=c2.get (bS cH) (by simp;lia)
 have B2:iV h2 N F.w n ⟨f.j,f.r,gW N f.v (kR f.v r) s⟩:=by
  have:=((hB.app [⟨.lst,G⟩]).app [⟨.lst,gm f.v r⟩]).store (P:=[(zW F.w n s,nJ f.v s)]) (λx hx=>by
   rw[cm.mp hx];have:=((hB.app [⟨.lst,G⟩]).app [⟨.lst,gm f.v r⟩]).pl ⟨"",N.n s.x,false,s.f,1,""⟩;rw[vp K]at this;exact this _ (by simp)) [LN N f.v (kR f.v r) s]
  rw[Kq,<-Dl]at this;exact this
 have a1:=λρ=>qz (ρ:=ρ) (v:=.lst [nJ f.v s]) g2 (by lia)
 have d0:cR (h++[⟨.lst,G⟩]) (.ref h.length)=some (.lst,G):=ak cH rfl;have d1:=ak g2 rfl;have g3:(h2.set h.length ⟨.lst,G++[.lst [nJ f.v s]]⟩)[h.length]?=some ⟨.lst,G++[.lst [nJ f.v s]]⟩:=cC g2;have e3:=eK g3 rfl;have hE:(h++[(⟨.lst,G⟩:ah)]).isEmpty=false:=hne (cH (h:=h) (c:=⟨.lst,G⟩));have nr:∀l,ai (.ref R::l)=false:=jQ R
 refine⟨.lst (G++[.lst [nJ f.v s]]),(h2.set h.length ⟨.lst,G++[.lst [nJ f.v s]]⟩).set h.length gz,?_,?_,?_⟩
 ·have e4:fO (dc 5) (cU (run aJ (c+9))) [dZ k (zX N s)] ⟨[some (.ref R),some (.ref (n+5)),some (aR N r),some (.lst ((bP N r).map (dZ k))),some (.ref h.length),y5],h++[⟨.lst,G⟩]⟩=some (.ok .nx,⟨[some (.ref R),some (.ref (n+5)),some (aR N r),some (.lst ((bP N r).map (dZ k))),some (.ref h.length),some (dZ k (zX N s))],h2.set h.length ⟨.lst,G++[.lst [nJ f.v s]]⟩⟩):=by
   refine bW ?_
   delta cU g8
   simp only[↓iU,e2,a1,d0,d1,hE,nr,aB,ay]
  have e5:=e1.trans e4
  revert e5
  delta cU g8
  intro e5;rw[nD];simp only[↓aW,e5,e3]
 ·refine Ch.tr (c1.tr (c2.mono (B:=[zW F.w n s]) (by simp)) (λn h _=>h)) (B:=[h.length]) ?_ (λm hm hl=>by simp at hm;lia)
  exact(Ch.set _).tr (Ch.set _) (λ_ h _=>h)
 ·have cc:Ch h2 ((h2.set h.length ⟨.lst,G++[.lst [nJ f.v s]]⟩).set h.length gz) [h.length]:=(Ch.set _).tr (Ch.set _) (λ_ h _=>h)
  exact iV.ch B2 cc (λa ha=>by simp at ha;lia)
end bA
set_option maxHeartbeats 4000000
namespace bA
open PySem L2 L2.U
structure Top (h:List ah) (R:Nat) (N:Nm) (P:List Fd) (w0 nu fl sd:Nat) (fs:List PV) (cnt:Int) (aX:List Int) (n:Nat) (f:Fr) (F:Fd) (r:Rw):Prop where
 R:cL h R N P w0 nu fl sd (fs++[.ref (n+5)]) cnt aX
 B:iV h N F.w n f
 P:P[f.j]?=some F
 r:F.rows[f.r]?=some r
variable {h:List ah} {R:Nat} {N:Nm} {P:List Fd} {w0 nu fl sd:Nat} {fs:List PV} {cnt:Int} {aX:List Int} {n:Nat} {f:Fr} {F:Fd} {r:Rw}
theorem jz(c:Nat)(T:Top h R N P w0 nu fl sd fs cnt aX n f F r):run aJ (c+1) "row_of" [.ref R,.ref (n+5)] h=some (.ok (aR N r),h):=by
 rw[zJ];have e1:=ak T.R.r rfl;have e2:=ak T.B.f rfl;have e3:∀h,aI h (.aj (P.map (fdP N))) (.int (f.j:Int))=some (fdP N F):=λh=>atI_nat (by rw[bB,T.P];rfl)
 have e4:∀h,aI h (fdP N F) (.int 4)=some (.aj (F.rows.map (aR N))):=λh=>rfl
 have e5:∀h,aI h (.aj (F.rows.map (aR N))) (.int (f.r:Int))=some (aR N r):=λh=>atI_nat (by rw[bB,T.r];rfl)
 simp only[↓aW,e1,e2,e3,e4,e5]
theorem jJ(c:Nat)(T:Top h R N P w0 nu fl sd fs cnt aX n f F r):run aJ (c+1) "acts_of" [.ref R,.ref (n+5)] h=some (.ok (.lst ((bP N r).map (dZ f.r))),h):=by
 rw[xa];have e1:=ak T.R.r rfl;have e2:=ak T.B.f rfl;have e3:∀h,aI h (.lst (P.map λF=>A7 N F.rows)) (.int (f.j:Int))=some (A7 N F.rows):=λh=>atI_nat (by rw[bB,T.P];rfl)
 have e5:∀h,aI h (A7 N F.rows) (.int (f.r:Int))=some (.lst ((bP N r).map (dZ f.r))):=λh=>atI_nat (by rw[bB,GR N F.rows 0 f.r r T.r,oR];rfl)
 simp only[↓aW,e1,e2,e3,e5]
def n8(V:Vs)(k:Nat):Rw->Nat
 | .go j=>j
 | .ifs o p j=>if opV V o<opV V p then j else k+1
 | _=>k+1
def vv(V:Vs):Rw->List Int
 | .iG o=>[opV V o]
 | _=>[]
def vR(N:Nm)(V:Vs)(r:Rw):Vs:=match HR r with
 | some s=>gW N V (kR V r) s
 | none=>V
theorem BJ{ps:List PV}(h:ai ps=true):ee [⟨.lst,ps⟩] (.ref 0)=some (.lst ps):=jy h
theorem Pj(V:Vs)(o:Op):ai (zU V o)=true:=by
 cases o with
 | num i=>rfl
 | sp s =>
  have h1:∀s:List Int,noRef (stP s)=true:=λs=>zR (dw (λ_=>rfl) s)
  cases s
  case i x=>cases x<;>simp[zU,Dh,nJ,ai,noRef,h1]
  all_goals simp[zU,Dh,nJ,ai,noRef,h1]
theorem zZ{A B:List PV}(h1:ai A=true)(h2:ai B=true):ai (A++B)=true:=by
 induction A with
 | nil=>exact h2
 | cons a A ih =>
  simp only[ai,aF]at h1;rw[List.cons_append,ai,h1.1,ih h1.2];rfl
theorem z0(V:Vs):∀os,ai (gV V os)=true
 | []=>rfl
 | o::os=>zZ (Pj V o) (z0 V os)
theorem LQ(c:Nat){V:Vs}(hs:1<=V.s.length)(ho:∀o∈cg r,BD V o):run aJ (c+3) "numbers_found" [aR N r,.lst (gV V (cg r))] []=some (.ok (.ref 0),[⟨.lst,gm V r⟩]):=by
 have:=Us c (N:=N) (V:=V) (g:=[]) (p:=.lst (gV V (cg r))) (G:=gV V (cg r)) (r:=r) hs ⟨λi v L hi=>atI_nat hi⟩ ho ⟨[],by simp⟩
 exact this
theorem G9(V:Vs)(r:Rw):ai (gm V r)=true:=dw (λ_=>rfl) _
theorem xw(c:Nat){found:PV}(T:Top h R N P w0 nu fl sd fs cnt aX n f F r)(hs:1<=f.v.s.length)(ho:∀o∈cg r,BD f.v o)(hf:(∃o p k,r=.ifs o p k)->found=.lst (gV f.v (cg r)))(hg:∀t,r≠.bj t)(hc:∀j t as,r≠.call j t as) :
  run aJ (c+4) "row_behind" [.ref (n+5),aR N r,found] h=some (.ok (.int (n8 f.v f.r r:Int)),h):=by
 rw[qh];have e1:=λh=>qx (h:=h) N r
 have e2:=ak T.B.f rfl;have e3:∀h,cY h (.int (f.r:Int)) (.int 1)=some (.int ((f.r+1:Nat):Int)):=λh=>rfl
 cases r
 case bj t=>exact absurd rfl (hg t)
 case call j t as=>exact absurd rfl (hc j t as)
 case go k=>simp only[↓aW,e1];rfl
 case ifs o p k =>
  have hfo:=hf ⟨o,p,k,rfl⟩;subst hfo;have e4:=LQ c (N:=N) hs ho;have nr:ai [aR N (.ifs o p k),.lst (gV f.v (cg (.ifs o p k)))]=true:=by simp only[ai,nG,mW (z0 _ _),km]
  have e5:=BJ (G9 f.v (.ifs o p k));have i0:∀h,aI h (.lst (gm f.v (.ifs o p k))) (.int 0)=some (.int (opV f.v o)):=λh=>rfl
  have i1:∀h,aI h (.lst (gm f.v (.ifs o p k))) (.int 1)=some (.int (opV f.v p)):=λh=>rfl
  have i2:∀h x y,Lf h (.int x) (.int y)=some (.bl (decide (x<y))):=λh x y=>rfl
  by_cases uI:opV f.v o<opV f.v p
  ·have hd:=dX uI;simp only[↓aW,e1,e4,e5,nr,i0,i1,i2,hd,n8,if_pos uI,cq,bY]
  ·have hd:=cz uI;simp only[↓aW,e1,e2,e3,e4,e5,nr,i0,i1,i2,hd,n8,if_neg uI,cq,bY]
 all_goals (simp only[↓aW,e1,e2,e3,n8])
end bA
set_option maxHeartbeats 4000000
namespace bA
open PySem L2 L2.U
variable {h:List ah} {N:Nm} {P:List Fd} {fs:List PV} {cnt:Int} {aX:List Int} {n:Nat} {f:Fr} {F:Fd} {r:Rw}
abbrev og(h:List ah)(N:Nm)(P:List Fd)(fs:List PV)(cnt:Int)(aX:List Int):Prop:=cL h 1 N P 0 2 3 4 fs cnt aX
abbrev Tp(h:List ah)(N:Nm)(P:List Fd)(fs:List PV)(cnt:Int)(aX:List Int)(n:Nat)(f:Fr)(F:Fd)(r:Rw):Prop:=Top h 1 N P 0 2 3 4 fs cnt aX n f F r
noncomputable def xx(n:Nat):List Nat:=[1,3,4,n+1,n+2,n+3,n+4,n+5]
theorem oC{h:List ah}{i d:Nat}{j r x:Int}{ρ:List (Option PV)}(e:h[i]?=some (qR j d r)):fI fJ fK "row" (.ref i) (.int x) ⟨ρ,h⟩=some ⟨ρ,h.set i (qR j d x)⟩:=by
 rw[gI e (by kernel_rfl)]
 rfl
theorem l6{h:List ah}{i:Nat}{pr li:PV}{w nu fl sd:Nat}{x y:Int}{ρ:List (Option PV)}(e:h[i]?=some (GU pr w nu li fl sd x)):fI fJ fK "count" (.ref i) (.int y) ⟨ρ,h⟩=some ⟨ρ,h.set i (GU pr w nu li fl sd y)⟩:=by
 rw[gI e (by kernel_rfl)]
 rfl
theorem iV.row{h:List ah}{N:Nm}{w:Bool}{n:Nat}{f:Fr}(B:iV h N w n f)(k:Nat):iV (h.set (n+5) (qR f.j n k)) N w n ⟨f.j,k,f.v⟩ :=
 ⟨cC B.f,by
  rw[aL (by lia)];exact B.d,λe he x hx=>by
  have:=G8 e he x hx;rw[aL (by lia)]
  exact B.p e he x hx,B.l⟩
theorem cL.gX(hR:og h N P fs cnt aX)(y:Int):og (h.set 1 (GU (.aj (P.map (fdP N))) 0 2 (.lst (P.map λF=>A7 N F.rows)) 3 4 y)) N P fs y aX :=
 ⟨cC hR.r,by rw[aL (by decide)];exact hR.w,by rw[aL (by decide)];exact hR.nu,by rw[aL (by decide)];exact hR.fl,by rw[aL (by decide)];exact hR.sd⟩
theorem dD{h:List ah}{i:Nat}{fs:List PV}{p:PV}(e:h[i]?=some ⟨.lst,fs++[p]⟩):aI h (.ref i) (.int (-1))=some p:=by
 have d:=ak e rfl;simp only[aI,d];exact atI_last (by simp)
theorem Pk{h:List ah}{n:Nat}{L R:List PV}{ρ:List (Option PV)}(e:h[n]?=some ⟨.lst,L⟩)(hl:L.length+R.length<=1000000):qY (.ref n) [.lst R] ⟨ρ,h⟩=some (.ok .az,⟨ρ,h.set n ⟨.lst,L++R⟩⟩):=by
 show(ie (fH λps _=>if ps.length+R.length<=gy then some (ps++R)else none) (.ref n) [] ⟨ρ,h⟩)=_
 have e1:(if L.length+R.length<=gy then some (L++R)else none)=some (L++R):=if_pos (aP hl (by decide))
 show((kF h (.ref n)).bind λc=>(fH (λps _=>if ps.length+R.length<=gy then some (ps++R)else none) c.2 []).map λr=>_)=_
 rw[eK e rfl];show(((if L.length+R.length<=gy then some (L++R)else none).map λqs=>((⟨.lst,qs⟩:ah),PV.az)).map λr=>_)=_
 rw[e1];rfl
structure sU (N:Nm) (V:Vs) (r:Rw):Prop where
 o:∀o∈cg r,BD V o/\Bd (opV V o)
 t:∀s,HR r=some s->((∃o,r=.put s o)/\Di V s)\/((∃o,r=.fill o)/\s=.s)\/((∃w o p,r=.set s w o p)/\Di V s)
 g:∀t,r≠.bj t
 c:∀j t as,r≠.call j t as
theorem Pm(N:Nm){r:Rw}(h:HR r=none)(hg:∀t,r≠.bj t)(hc:∀j t as,r≠.call j t as):bP N r=l5 N (cg r):=by
 cases r
 case bj t=>exact absurd rfl (hg t)
 case call j t as=>exact absurd rfl (hc j t as)
 case put s o=>cases h
 case fill o=>cases h
 case set s w o p=>cases h
 all_goals simp[bP,l5,cg]
theorem Aa(c:Nat)(K:aT N)(T:Tp h N P fs cnt aX n f F r)(hn:5<=n)(hz:f.v.s.length=N.z)(ok:sU N f.v r) :
  ∃v h',run aJ (c+10) "do_acts" [.ref 1,.ref (n+5),aR N r,.lst ((bP N r).map (dZ f.r))] h=some (.ok v,h')/\Ch h h' [n+1,n+2,n+3,n+4]/\iV h' N F.w n ⟨f.j,f.r,vR N f.v r⟩/\(HR r=none->v=.lst (gV f.v (cg r))/\vR N f.v r=f.v):=by
 cases ht:HR r with
 | none =>
  have e:=BI (c+6) (k:=f.r) (row:=aR N r) T.R T.B (l5 N (cg r)) (zY K F.w n f.v _) (by have:=qE N (cg r);have:=qD r;lia)
  rw[vq K,<-Pm N ht ok.g ok.c]at e;have hv:vR N f.v r=f.v:=by unfold vR;rw[ht]
  refine⟨_,_,e,Ch.app _ _ _,?_,λ_=>⟨rfl,hv⟩⟩
  rw[hv];exact rn.app _ T.B
 | some s =>
  obtain⟨v,h',e,c1,b1⟩:=Dk c K (k:=f.r) T.R T.B T.P hz (λo ho=>(ok.o o ho).1) (λo ho=>(ok.o o ho).2) ht (ok.t s ht)
  have hv:vR N f.v r=gW N f.v (kR f.v r) s:=by unfold vR;rw[ht]
  refine⟨v,h',e,c1.mono (λm hm=>by
   rw[cm.mp hm];cases F.w<;>cases s<;>simp[zW]),?_,λz=>by cases z⟩
  rw[hv];exact b1
end bA
set_option maxHeartbeats 4000000
namespace bA
open PySem L2 L2.U
variable {h:List ah} {N:Nm} {P:List Fd} {fs:List PV} {cnt:Int} {aX:List Int} {n:Nat} {f:Fr} {F:Fd} {r:Rw}
theorem Ha(N:Nm)(V:Vs)(k:Nat)(r:Rw):n8 (vR N V r) k r=n8 V k r:=by cases r<;>rfl
theorem cL.Uv(hR:og h N P fs cnt aX)(x:List Int):og (h.set 4 ⟨.lst,x.map .int⟩) N P fs cnt x :=
 ⟨by rw[aL (by decide)];exact hR.r,by rw[aL (by decide)];exact hR.w,by rw[aL (by decide)];exact hR.nu,by rw[aL (by decide)];exact hR.fl,cC hR.sd⟩
theorem gq{h:List ah}{i:Nat}{C:Str}{ns:List Str}{ps:List PV}(e:h[i]?=some ⟨.ins C ns,ps⟩):qa h (.ref i) C=true:=by
 unfold qa;rw[eK e rfl];exact i5 C
theorem l7{h:List ah}{i:Nat}{pr li:PV}{w nu fl sd:Nat}{x:Int}(e:h[i]?=some (GU pr w nu li fl sd x)):zx "count" (.ref i) h=some (("Run":Str),PV.int x):=by
 unfold zx;rw[ak e rfl];rfl
theorem Hb{N:Nm}{V:Vs}(hz:V.s.length=N.z)(r:Rw):(vR N V r).s.length=N.z:=by
 unfold vR;split
 ·rename_i s _;cases s<;>simp[gW,hz]
 ·exact hz
theorem Uw{V V':Vs}(h:V'.s.length=V.s.length){o:Op}(ho:BD V o):BD V' o:=by
 cases o with
 | num i=>trivial
 | sp s =>
  cases s
  case i x =>
   cases x
   case «at» i=>show i<V'.s.length;rw[h];exact ho
   all_goals trivial
  case s=>exact ho
  all_goals trivial
theorem Hc(c:Nat)(K:aT N)(T:Tp h N P fs cnt aX n f F r)(hn:5<=n)(hz:f.v.s.length=N.z)(ok:sU N f.v r)(LR:aX.length<=10000) :
  ∃h',run aJ (c+11) "do_row" [.ref 1] h=some (.ok .az,h')/\og h' N P (fs++[.ref (n+5)]) (cnt+1) (aX++vv f.v r)/\iV h' N F.w n ⟨f.j,n8 f.v f.r r,vR N f.v r⟩/\Ch h h' (xx n):=by
 have hs:1<=f.v.s.length:=by rw[hz];exact K.z1
 obtain⟨v,h1,e1,c1,b1,v1⟩:=Aa c K T hn hz ok;have R1:og h1 N P (fs++[.ref (n+5)]) cnt aX:=T.R.ch c1 (by simp;lia)
 have T1:Tp h1 N P fs cnt aX n ⟨f.j,f.r,vR N f.v r⟩ F r:=⟨R1,b1,T.P,T.r⟩;have e0:=dD T.R.fl;have e2:=jz (c+9) T;have e3:=jJ (c+9) T;have e4:=λh=>qx (h:=h) N r
 have hd:=ak T.R.r rfl;have hE:=hne T.R.r;have nr:∀l,ai (.ref 1::l)=false:=jQ 1
 have ZP:∀l,ai (.ref (n+5)::l)=false:=jQ (n+5)
 have ad:∀h,wR h (.int cnt) (.int 1)=some (.int (cnt+1)):=λh=>rfl
 by_cases Pn:∃o,r=.iG o
 ·obtain⟨o,rfl⟩:=Pn;obtain⟨hv1,ZQ⟩:=v1 rfl;subst hv1;have q1:=LQ (c+7) (N:=N) (r:=.iG o) hs λo ho=>(ok.o o ho).1
  have nq:ai [aR N (.iG o),.lst (gV f.v (cg (.iG o)))]=true:=by simp only[ai,nG,mW (z0 _ _),km]
  have q2:=BJ (G9 f.v (.iG o));have q3:=λρ=>Pk (ρ:=ρ) (R:=[.int (opV f.v o)]) R1.sd (by rw[aM];show _+1<=_;lia)
  have LU:=ak R1.r rfl;have hd4:=ak R1.sd rfl;have sdE:aX.map PV.int++[.int (opV f.v o)]=(aX++vv f.v (.iG o)).map .int:=by rw[fD];rfl
  rw[sdE]at q3;have R2:=cL.Uv R1 (aX++vv f.v (.iG o));obtain⟨h2,Dl⟩:∃h2,h2=h1.set 4 ⟨.lst,(aX++vv f.v (.iG o)).map .int⟩:=⟨_,rfl⟩
  rw[<-Dl]at R2;have c2:Ch h1 h2 [4]:=by rw[Dl];exact Ch.set _
  have b2:=iV.ch b1 c2 (by simp;lia)
  have T2:Tp h2 N P fs cnt (aX++vv f.v (.iG o)) n ⟨f.j,f.r,vR N f.v (.iG o)⟩ F (.iG o):=⟨R2,b2,T.P,T.r⟩;have q4:=xw (c+6) (found:=.lst (gV f.v (cg (.iG o)))) T2 (by rw[ZQ];exact hs) (λo ho=>by rw[ZQ];exact(ok.o o ho).1) (λ⟨_,_,_,z⟩=>by cases z) (λt z=>by cases z) (λj t as z=>by cases z)
  have q5:=λρ=>oC (ρ:=ρ) (x:=(n8 (vR N f.v (.iG o)) f.r (.iG o):Int)) b2.f
  have b3:=iV.row b2 (n8 f.v f.r (.iG o));obtain⟨h3,JP⟩:∃h3,h3=h2.set (n+5) (qR (f.j:Int) n (n8 f.v f.r (.iG o):Int)):=⟨_,rfl⟩
  have c3:Ch h2 h3 [n+5]:=by rw[JP];exact Ch.set _
  rw[Ha]at q4;rw[Ha,<-JP]at q5;rw[<-JP]at b3;have R3:og h3 N P (fs++[.ref (n+5)]) cnt (aX++vv f.v (.iG o)):=R2.ch c3 (by simp)
  have q6:=λρ=>l6 (ρ:=ρ) (y:=cnt+1) R3.r
  have q7:=gq R3.r;have q8:=l7 R3.r;have Ux:=ak R3.r rfl;have R4:=cL.gX R3 (cnt+1);have c4:=Ch.set (h:=h3) (n:=1) (GU (.aj (P.map (fdP N))) 0 2 (.lst (P.map λF=>A7 N F.rows)) 3 4 (cnt+1))
  have HS:=hne R1.r;have LV:=hne R2.r;refine⟨_,?_,R4,iV.ch b3 c4 (by simp;lia),?_⟩
  ·rw[gj];rw[<-Dl]at q3;simp only[↓aW,e0,e1,e2,e3,e4,hd,hE,nr,ZP,ad,q1,nq,q2,q3,q4,q5,q6,q7,q8,LU,hd4,Ux,HS,LV,aB,ay,cq,bY]
  ·have t1:=(c1.mono (B:=xx n) (by simp[xx])).tr c2 (by simp[xx])
   have t2:=t1.tr c3 (by simp[xx])
   exact t2.tr c4 (by simp[xx])
 ·have w1:∀h,qO h (.str (sQ r)) (.str "call")=some (.bl false):=λh=>by cases r<;>first | rfl | exact absurd rfl (ok.c _ _ _)
  have w2:∀h,qO h (.str (sQ r)) (.str "give")=some (.bl false):=λh=>by cases r<;>first | rfl | exact absurd rfl (ok.g _)
  have w3:∀h,qO h (.str (sQ r)) (.str "say")=some (.bl false):=λh=>by cases r<;>first | rfl | exact absurd ⟨_,rfl⟩ Pn
  have sd0:vv f.v r=[]:=by cases r<;>first | rfl | exact absurd ⟨_,rfl⟩ Pn
  rw[sd0,dE];have q4:=xw (c+6) (found:=v) T1 (by rw[Hb hz];exact K.z1) (λo ho=>Uw (by rw[Hb hz,hz]) (ok.o o ho).1) (by
   rintro⟨o,p,k,z⟩
   subst z;obtain⟨u1,u2⟩:=v1 rfl;rw[u1,u2]) ok.g ok.c
  have q5:=λρ=>oC (ρ:=ρ) (x:=(n8 f.v f.r r:Int)) b1.f
  have b3:=iV.row b1 (n8 f.v f.r r);obtain⟨h3,JP⟩:∃h3,h3=h1.set (n+5) (qR (f.j:Int) n (n8 f.v f.r r:Int)):=⟨_,rfl⟩
  have c3:Ch h1 h3 [n+5]:=by rw[JP];exact Ch.set _
  rw[Ha]at q4;rw[<-JP]at q5;rw[<-JP]at b3;have R3:og h3 N P (fs++[.ref (n+5)]) cnt aX:=R1.ch c3 (by simp)
  have q6:=λρ=>l6 (ρ:=ρ) (y:=cnt+1) R3.r
  have q7:=gq R3.r;have q8:=l7 R3.r;have R4:=cL.gX R3 (cnt+1);have c4:=Ch.set (h:=h3) (n:=1) (GU (.aj (P.map (fdP N))) 0 2 (.lst (P.map λF=>A7 N F.rows)) 3 4 (cnt+1))
  have HS:=hne R1.r;refine⟨_,?_,R4,iV.ch b3 c4 (by simp;lia),?_⟩
  ·rw[gj];simp only[↓aW,e0,e1,e2,e3,e4,hd,hE,nr,ZP,ad,w1,w2,w3,q4,q5,q6,q7,q8,HS,aB,ay,cq,bY]
  ·have t1:=(c1.mono (B:=xx n) (by simp[xx])).tr c3 (by simp[xx])
   exact t1.tr c4 (by simp[xx])
end bA
set_option maxHeartbeats 4000000
namespace bA
open PySem L2 L2.U
variable {h:List ah} {N:Nm} {P:List Fd} {fs:List PV} {cnt:Int} {aX:List Int} {n:Nat} {f:Fr} {F:Fd} {r:Rw}
def gY(N:Nm)(w:Bool)(m:Nat)(j:Int)(V:Vs):List ah :=
 if w=true then [kO (Hn N true m V),cj (.int V.a) .az,cj (stP V.s) .az,cj (.int V.n) .az,cj (.int V.b) .az,qR j m 0]
 else [kO (Hn N false m V),cj (.int V.a) .az,cj (.int V.b) .az,cj (stP V.s) .az,cj (.int V.n) .az,qR j m 0]
theorem LW(g:List ah)(w:Bool)(j:Nat)(V:Vs):iV (g++gY N w g.length j V) N w g.length ⟨j,0,V⟩:=by
 have gt:∀(L:List ah) (i:Nat),(g++L)[g.length+i]?=L[i]?:=λL i=>by rw[iw (by lia)];congr 1;lia
 have g0:∀(L:List ah),(g++L)[g.length]?=L[0]?:=λL=>gt L 0
 cases w
 all_goals
  refine⟨?_,?_,?_,?_⟩
  ·exact gt _ 5
  ·exact g0 _
  ·intro e he x hx;simp[Hn]at he;rcases he with rfl | rfl | rfl<;>simp at hx<;>(first | (rcases hx with rfl | rfl<;>exact gt _ _) | (subst hx;exact gt _ _))
  ·intro e he;simp[Hn]at he;rcases he with rfl | rfl | rfl<;>simp
noncomputable def gr(V:Vs):N3->Int
 | .a=>V.a
 | .b=>V.b
 | .c=>0
def gZ(w:Bool)(as:List N3):Prop:=(w=false/\∃x,x≠.c/\as=[x])\/(w=true/\∃x,x≠.c/\as=[x,.c])
def dP(N:Nm)(V:Vs)(w:Bool)(as:List N3):Vs:=match as with
 | x::_=>if w=true then⟨gr V x,0,V.s,V.n⟩else⟨gr V x,0,kQ N,0⟩
 | []=>V
structure Hd (N:Nm) (P:List Fd):Prop where
 p:∃F0 F1 F2,P=[F0,F1,F2]
 n:∀j F,P[j]?=some F->F.f=N.f j
theorem BK(K:aT N)(hP:Hd N P){j:Nat}{G:Fd}(hj:P[j]?=some G):dO (bz (N.f j)) (P.map λF=>bz F.f) ((List.range P.length).map fun(i:Nat)=>.int (i:Int))=some (.int (j:Int)):=by
 obtain⟨F0,F1,F2,rfl⟩:=hP.p;have h0:=hP.n 0 F0 rfl;have h1:=hP.n 1 F1 rfl;have h2:=hP.n 2 F2 rfl;have ky:∀x y,x<3->y<3->(bz (N.f x)=bz (N.f y)↔x=y):=λx y hx hy=>⟨λz=>K.ff x y hx hy (by unfold bz at z;injection z with z1 _;injection z1),λz=>by rw[z]⟩
 have Yc:j<3:=(c8.mp hj).1;show dO (bz (N.f j)) [bz F0.f,bz F1.f,bz F2.f] [.int 0,.int 1,.int 2]=_;rw[h0,h1,h2];simp only[dO,ky 0 j (by decide) Yc,ky 1 j (by decide) Yc,ky 2 j (by decide) Yc]
 rcases(by lia : j=0\/j=1\/j=2)with rfl | rfl | rfl<;>rfl
theorem Ab{w:Bool}{as:List N3}(K:aT N)(n:Nat)(V:Vs)(w':Bool):(as.map (mX N)).map (λa=>gU (bG (Hn N w' n V) a))=as.map λx=>.lst (l0 V x):=by
 rw[mF];refine yd λx _=>?_
 show gU (bG (Hn N w' n V) ⟨"read",N.n x,false,0,nI x,""⟩)=_;rw[ir K,vo]
end bA
set_option maxHeartbeats 4000000
namespace bA
open PySem L2 L2.U
variable {h:List ah} {N:Nm} {P:List Fd} {fs:List PV} {cnt:Int} {aX:List Int} {n:Nat} {f:Fr} {F:Fd} {r:Rw}
def Dz(N:Nm)(V:Vs):List N3->List (Str×PV)
 | [x]=>[(N.a,.lst [.int (gr V x)])]
 | x::_=>[(N.a,.lst [.int (gr V x)]),(N.c,.lst [stP V.s,.int V.n])]
 | []=>[]
theorem ZR{a:Str}{v:PV}:zm [.aj [.str a,v]]=some (bV [(a,v)]):=rfl
theorem dO2{a b:Str}{v u:PV}(h:a≠b):zm [.aj [.str a,v],.aj [.str b,u]]=some (bV [(a,v),(b,u)]):=by
 have e:eO false (bz b) u [bz a] [v]=bV [(a,v),(b,u)]:=by
  unfold eO;rw[if_neg (by have:=oB (x:=b) (ys:=[a]) (by simp;exact h);rw[show jj (bz b) [bz a]=false from this];exact cQ)]
  rfl
 show some (eO false (bz b) u [bz a] [v])=_;rw[e]
theorem sV(c:Nat)(K:aT N)(hR:og h N P fs cnt aX){j:Nat}{G:Fd}(hj:P[j]?=some G){V:Vs}{as:List N3}(ca:gZ G.w as)(Kn:fs.length<=4000) :
  run aJ (c+8) "begin" [.ref 1,.int (j:Int),.ref h.length] (h++[bV (Dz N V as)])=some (.ok .az,(h++[bV (Dz N V as)]).set 3 ⟨.lst,fs++[.ref ((h++[bV (Dz N V as)]).length+5)]⟩++gY N G.w (h++[bV (Dz N V as)]).length j (dP N V G.w as)):=by
 have R1:∀x,og (h++[x]) N P fs cnt aX:=λx=>hR.app _
 rcases ca with⟨hw,x,hx,rfl⟩ | ⟨hw,x,hx,rfl⟩
 ·have:=xt c K (R1 (bV [(N.a,.lst [.int (gr V x)])])) hj hw (g:=h.length) (va:=gr V x) (cH) (by show(if bz N.a=bz N.a then _ else _)=_;rw[if_pos rfl]) Kn
  show run aJ (c+8) "begin" _ _=_;refine this.trans ?_;simp only[gY,dP,hw,Dz];rfl
 ·have xy:bz N.a≠bz N.c:=λz=>K.ac (by unfold bz at z;injection z with z1 _;injection z1)
  have:=GX c K (R1 (bV [(N.a,.lst [.int (gr V x)]),(N.c,.lst [stP V.s,.int V.n])])) hj hw (g:=h.length) (va:=gr V x) (vs:=V.s) (vn:=V.n) (cH) (by show(if bz N.a=bz N.a then _ else _)=_;rw[if_pos rfl]) (by show(if bz N.a=bz N.c then _ else if bz N.c=bz N.c then _ else _)=_;rw[if_neg xy,if_pos rfl]) Kn
  show run aJ (c+8) "begin" _ _=_;refine this.trans ?_;simp only[gY,dP,hw,fU,Dz]
theorem Dn(c:Nat)(K:aT N){j:Nat}{t:Option N3}{as:List N3}(T:Tp h N P fs cnt aX n f F (.call j t as))(hP:Hd N P){G:Fd}(hj:P[j]?=some G)(ca:gZ G.w as)(Kn:fs.length<=3000) :
  run aJ (c+10) "do_call" [.ref 1,.ref (n+5),aR N (.call j t as)] h=some (.ok .az,((h++[gz])++[bV (Dz N f.v as)]).set 3 ⟨.lst,(fs++[.ref (n+5)])++[.ref (h.length+2+5)]⟩++gY N G.w (h.length+2) j (dP N f.v G.w as)):=by
 have e1:=jJ (c+8) T;have hE:=hne T.R.r;have HS:(h++[gz]).isEmpty=false:=by cases h<;>rfl
 have LV:∀x,(h++[gz]++[x]).isEmpty=false:=λx=>by cases h<;>rfl
 have nr:∀l,ai (.ref 1::l)=false:=jQ 1
 have R1:og (h++[gz]) N P (fs++[.ref (n+5)]) cnt aX:=T.R.app _;have LU:=ak R1.r rfl;have e5:aI (h++[gz]) (.ref 2) (.str (N.f j))=some (.int (j:Int)):=by
  have d:=ak R1.nu rfl;simp only[aI,d];exact BK K hP hj
 have e6:∀h,aI h (.aj (P.map (fdP N))) (.int (j:Int))=some (fdP N G):=λh=>atI_nat (by rw[bB,hj];rfl)
 have i3:∀h,aI h (aR N (.call j t as)) (.int 3)=some (.aj (as.map λx=>.str (N.n x))):=λh=>rfl
 have i2:∀h,aI h (aR N (.call j t as)) (.int 2)=some (.str (N.f j)):=λh=>rfl
 have HJ:(h++[gz]).length=h.length+1:=by simp
 have e2:=BI (c+5) (k:=f.r) (row:=aR N (.call j t as)) T.R T.B (as.map (mX N)) (λa ha=>by
  obtain⟨x,_,rfl⟩:=ez.mp ha;exact⟨gp K F.w n f.v x "read" "",rfl⟩) (by rcases ca with⟨_,x,_,rfl⟩ | ⟨_,x,_,rfl⟩<;>simp)
 rw[Ab (w:=true) (as:=as) K n f.v F.w]at e2;have cu:∀h,xH h none (some (as.length:Int)) (.lst ((bP N (.call j t as)).map (dZ f.r)))=some (.lst ((as.map (mX N)).map (dZ f.r))):=λh=>by
  show some (PV.lst (ic ((bP N (.call j t as)).map (dZ f.r)) none (some (as.length:Int))))=_;unfold ic;rw[HT.pE,HT.lj,aM];have:as.length<=(bP N (.call j t as)).length:=by simp[bP]
  rw[oN this,List.drop_zero,Nat.sub_zero,<-t9];rw[show(bP N (.call j t as)).take as.length=as.map (mX N) by
   show(as.map (mX N)++_).take as.length=_;rw[List.take_append_of_le_length (by simp),tm (by simp)]]
 have ln:∀h,fj h [.aj (as.map λx=>.str (N.n x))]=some (.int (as.length:Int)):=λh=>by
  show some (PV.int ((as.map λx=>PV.str (N.n x)).length:Int))=_
  rw[aM]
 have l1:∀a:PV,[a].length<=4000000:=λ_=>by simp
 have l2:∀a b:PV,[a,b].length<=4000000:=λ_ _=>by simp
 have Uy:∀x,x≠.c->l0 f.v x=[.int (gr f.v x)]:=λx hx=>by cases x<;>first | rfl | exact absurd rfl hx
 rcases ca with⟨hw,x,hx,rfl⟩ | ⟨hw,x,hx,rfl⟩
 ·have bg:=sV (c+1) K R1 hj (V:=f.v) (.inl ⟨hw,x,hx,rfl⟩) (by simp;lia)
  have i1:∀h,aI h (fdP N G) (.int 1)=some (.aj [dA N .a]):=λh=>by
   show some (PV.aj ((par G.w).map (dA N)))=_;rw[hw];rfl
  rw[show(h++[gz]++[bV (Dz N f.v [x])]).length=h.length+2 by simp]at bg
  rw[nE];rw[show([x].map λx=>PV.lst (l0 f.v x))=[.lst [.int (gr f.v x)]] by rw[aQ,Uy x hx];rfl]at e2
  have Yd:(h++[gz]).length=h.length+1:=HJ;rw[HJ]at bg;have Ye:run aJ (c+1+8) "begin" [.ref 1,.int (j:Int),.ref (h.length+1)] (h++[gz]++[bV [(N.n .a,.lst [.int (gr f.v x)])]])=_:=bg;have z1:FP (.aj [dA N .a]) (.lst [.lst [.int (gr f.v x)]])=some [.aj [dA N .a,.lst [.int (gr f.v x)]]]:=rfl;simp only[↓aW,e1,e2,e5,e6,i1,i2,i3,cu,ln,hE,HS,LV,nr,LU,z1,l1,HJ,Yd,Ye,ZR,aB,ay]
 ·have bg:=sV (c+1) K R1 hj (V:=f.v) (.inr ⟨hw,x,hx,rfl⟩) (by simp;lia)
  have i1:∀h,aI h (fdP N G) (.int 1)=some (.aj [dA N .a,dA N .c]):=λh=>by
   show some (PV.aj ((par G.w).map (dA N)))=_;rw[hw];rfl
  rw[show(h++[gz]++[bV (Dz N f.v [x,.c])]).length=h.length+2 by simp]at bg
  rw[nE];rw[show([x,N3.c].map λx=>PV.lst (l0 f.v x))=[.lst [.int (gr f.v x)],.lst [stP f.v.s,.int f.v.n]] by rw[aQ,Uy x hx];rfl]at e2
  have Yd:(h++[gz]).length=h.length+1:=HJ;rw[HJ]at bg;have Ye:run aJ (c+1+8) "begin" [.ref 1,.int (j:Int),.ref (h.length+1)] (h++[gz]++[bV [(N.n .a,.lst [.int (gr f.v x)]),(N.n .c,.lst [stP f.v.s,.int f.v.n])]])=_:=bg;have z1:FP (.aj [dA N .a,dA N .c]) (.lst [.lst [.int (gr f.v x)],.lst [stP f.v.s,.int f.v.n]])=some [.aj [dA N .a,.lst [.int (gr f.v x)]],.aj [dA N .c,.lst [stP f.v.s,.int f.v.n]]]:=rfl;have dd:=λv u=>dO2 (a:=N.n .a) (b:=N.n .c) (v:=v) (u:=u) K.ac
  simp only[↓aW,e1,e2,e5,e6,i1,i2,i3,cu,ln,hE,HS,LV,nr,LU,z1,l2,HJ,Yd,Ye,dd,aB,ay]
end bA
set_option maxHeartbeats 4000000
namespace bA
open PySem L2 L2.U
variable {h:List ah} {N:Nm} {P:List Fd} {fs:List PV} {cnt:Int} {aX:List Int} {n:Nat} {f:Fr} {F:Fd} {r:Rw}
theorem cL.Vo(hR:og h N P fs cnt aX)(x:List PV):og (h.set 3 ⟨.lst,x⟩) N P x cnt aX :=
 ⟨by rw[aL (by decide)];exact hR.r,by rw[aL (by decide)];exact hR.w,by rw[aL (by decide)];exact hR.nu,cC hR.fl,by rw[aL (by decide)];exact hR.sd⟩
theorem Ad(c:Nat)(K:aT N){j:Nat}{t:Option N3}{as:List N3}(T:Tp h N P fs cnt aX n f F (.call j t as))(hP:Hd N P){G:Fd}(hj:P[j]?=some G)(ca:gZ G.w as)(Kn:fs.length<=3000) :
  ∃h',run aJ (c+11) "do_row" [.ref 1] h=some (.ok .az,h')/\og h' N P ((fs++[.ref (n+5)])++[.ref (h.length+2+5)]) (cnt+1) aX/\iV h' N G.w (h.length+2) ⟨j,0,dP N f.v G.w as⟩/\Ch h h' [1,3]/\h.length+2+5<h'.length:=by
 obtain⟨g,hg⟩:∃g,g=((h++[gz])++[bV (Dz N f.v as)]).set 3 ⟨.lst,(fs++[.ref (n+5)])++[.ref (h.length+2+5)]⟩:=⟨_,rfl⟩
 have gl:g.length=h.length+2:=by rw[hg];simp
 have e1:=Dn c K T hP hj ca Kn;rw[<-hg]at e1;have R1:og g N P ((fs++[.ref (n+5)])++[.ref (h.length+2+5)]) cnt aX:=by rw[hg];exact cL.Vo ((T.R.app [gz]).app _) _
 have B1:iV (g++gY N G.w (h.length+2) j (dP N f.v G.w as)) N G.w (h.length+2) ⟨j,0,dP N f.v G.w as⟩:=by rw[<-gl];exact LW g G.w j _
 have c1:Ch h (g++gY N G.w (h.length+2) j (dP N f.v G.w as)) [1,3]:=by
  have a1:Ch h ((h++[gz])++[bV (Dz N f.v as)]) [1,3]:=by rw[ej];exact Ch.app _ _ _
  have a2:Ch ((h++[gz])++[bV (Dz N f.v as)]) g [3]:=by rw[hg];exact Ch.set _
  exact(a1.tr a2 (by simp)).tr (Ch.app _ _ []) (by simp)
 obtain⟨h1,He⟩:∃h1,h1=g++gY N G.w (h.length+2) j (dP N f.v G.w as):=⟨_,rfl⟩
 have R2:og h1 N P ((fs++[.ref (n+5)])++[.ref (h.length+2+5)]) cnt aX:=by rw[He];exact R1.app _
 rw[<-He]at e1 B1 c1;have e0:=dD T.R.fl;have e2:=jz (c+9) T;have e4:∀h,aI h (aR N (.call j t as)) (.int 0)=some (.str "call"):=λh=>rfl
 have hd:=ak T.R.r rfl;have hE:=hne T.R.r;have nr:∀l,ai (.ref 1::l)=false:=jQ 1
 have ad:∀h,wR h (.int cnt) (.int 1)=some (.int (cnt+1)):=λh=>rfl
 have q6:=λρ=>l6 (ρ:=ρ) (y:=cnt+1) R2.r
 have q7:=gq R2.r;have q8:=l7 R2.r;have R3:=cL.gX R2 (cnt+1);have c4:=Ch.set (h:=h1) (n:=1) (GU (.aj (P.map (fdP N))) 0 2 (.lst (P.map λF=>A7 N F.rows)) 3 4 (cnt+1))
 have h5:1<h.length:=kN T.R.r;refine⟨_,?_,R3,iV.ch B1 c4 (by simp),c1.tr c4 (by simp),?_⟩
 ·rw[gj];simp only[↓aW,e0,e1,e2,e4,hd,hE,nr,ad,q6,q7,q8,aB,ay]
 ·have:=kN B1.f;simp only[my];exact this
end bA
set_option maxHeartbeats 4000000
namespace bA
open PySem L2 L2.U
variable {h:List ah} {N:Nm} {P:List Fd} {fs:List PV} {cnt:Int} {aX:List Int} {n:Nat} {f:Fr} {F:Fd} {r:Rw}
def Yg(V:Vs):Option N3->PV
 | none=>.az
 | some x=>.lst (l0 V x)
theorem Ae(c:Nat)(K:aT N)(T:Tp h N P fs cnt aX n f F r):∃v,run aJ (c+2) "owned_by" [.ref 1,.ref (n+5)] h=some (.ok v,h):=by
 have e1:=ak T.R.r rfl;have e2:=ak T.B.f rfl;have e3:∀h,aI h (.aj (P.map (fdP N))) (.int (f.j:Int))=some (fdP N F):=λh=>atI_nat (by rw[bB,T.P];rfl)
 have e5:=dy c N;have hE:=hne T.R.r;have l3:∀a b d:PV,[a,b,d].length<=4000000:=λ_ _ _=>by simp
 have ZT:=λx=>GH T.B.d (Ut K F.w n f.v x)
 cases hw:F.w
 ·have i1:∀h,aI h (fdP N F) (.int 1)=some (.aj [dA N .a]):=λh=>by
   show some (PV.aj ((par F.w).map (dA N)))=_;rw[hw];rfl
  have i3:∀h,aI h (fdP N F) (.int 3)=some (.aj [dA N .b,dA N .c]):=λh=>by
   show some (PV.aj ((O4 F.w).map (dA N)))=_;rw[hw];rfl
  refine⟨.lst [gk (vm F.w n f.v .a),gk (vm F.w n f.v .b),gk (vm F.w n f.v .c)],?_⟩;rw[lU];simp only[↓aW,e1,e2,e3,e5,i1,i3,hE,l3,ZT,iQ,ai,noRef,cq,bY,km];rfl
 ·have i1:∀h,aI h (fdP N F) (.int 1)=some (.aj [dA N .a,dA N .c]):=λh=>by
   show some (PV.aj ((par F.w).map (dA N)))=_;rw[hw];rfl
  have i3:∀h,aI h (fdP N F) (.int 3)=some (.aj [dA N .b]):=λh=>by
   show some (PV.aj ((O4 F.w).map (dA N)))=_;rw[hw];rfl
  refine⟨.lst [gk (vm F.w n f.v .a),gk (vm F.w n f.v .c),gk (vm F.w n f.v .b)],?_⟩;rw[lU];simp only[↓aW,e1,e2,e3,e5,i1,i3,hE,l3,ZT,iQ,ai,noRef,cq,bY,km];rfl
theorem BL(c:Nat)(K:aT N){t:Option N3}(T:Tp h N P fs cnt aX n f F (.bj t)):run aJ (c+4) "given_back" [.ref 1,.ref (n+5),aR N (.bj t)] h=some (.ok (Yg f.v t),h):=by
 have e1:=jJ (c+2) T;obtain⟨v,e2⟩:=Ae (c+1) K T;have e3:∀v,run aJ (c+3) "Places.let_go" [.ref 0,.ref (n+5),v] h=some (.ok .az,h):=λv=>by
  rw[lR];simp only[↓aW]
 have e4:=λl m=>iH (L:=l) (m:=m) T.R.w
 have hd:=ak T.R.r rfl;have hE:=hne T.R.r;have nr:∀l,ai (.ref 1::l)=false:=jQ 1
 rw[qk];cases t with
 | none =>
  simp only[↓aW,e1,e2,e3,e4,hd,hE,nr,aB,ay];rfl
 | some x =>
  have e5:=ow (c+1) (w:=0) (k:=f.r) T.B (gp K F.w n f.v x "read" "");rw[ir K,vo]at e5;have e5:run aJ (c+3) "Places.touch" [.ref 0,.ref (n+5),dZ f.r (mX N x)] h=some (.ok (.lst (l0 f.v x)),h):=e5;simp only[↓aW,e1,e2,e3,e4,e5,hd,hE,nr,aB,ay];rfl
end bA
set_option maxHeartbeats 4000000
namespace bA
open PySem L2 L2.U
variable {h:List ah} {N:Nm} {P:List Fd} {fs:List PV} {cnt:Int} {aX:List Int} {n:Nat} {f:Fr} {F:Fd} {r:Rw}
def LX(U V:Vs)(y:N3):N3->Vs
 | .a=>{U with a:=gr V y}
 | .b=>{U with b:=gr V y}
 | .c=>{U with s:=V.s,n:=V.n}
def l8(x y:N3):Prop:=x=.c↔y=.c
theorem Hf(N:Nm)(w:Bool)(m:Nat)(U V:Vs){x y:N3}(hk:l8 x y):O0 (Hn N w m U) (vm w m U x) (l0 V y)=Hn N w m (LX U V y x):=by
 unfold l8 at hk;cases w<;>cases x<;>cases y<;>simp at hk<;>simp[O0,Hn,newV,vm,LX,l0,gr]<;>lia
theorem Uz{h:List ah}{N:Nm}(K:aT N){w:Bool}{m:Nat}{g:Fr}(B:iV h N w m g)(x:N3):T8 h (vm w m g.v x):=by
 have:=B.pl ⟨"",N.n x,false,0,nI x,""⟩;rw[ir K]at this;exact this
theorem Po{w:Bool}{m:Nat}{U:Vs}{x:N3}:∀z∈(vm w m U x).map (·.1),m<z/\z<m+5:=by
 cases w<;>cases x<;>simp[vm]<;>lia
theorem Hg{w:Bool}{m:Nat}{U V:Vs}{x y:N3}(hk:l8 x y):(l0 V y).length=(vm w m U x).length:=by
 unfold l8 at hk;cases w<;>cases x<;>cases y<;>simp at hk<;>rfl
def Hh(f:Fr)(V:Vs)(y:Option N3)(x:Option N3):Fr:=⟨f.j,f.r+1,match x,y with | some x,some y=>LX f.v V y x | _,_=>f.v⟩
def gJ:Option N3->Option N3->Prop
 | none,none=>True
 | some x,some y=>l8 x y
 | _,_=>False
theorem BM{h:List ah}{i d:Nat}{j x:Int}(e:h[i]?=some (qR j d x)):zx "row" (.ref i) h=some (("Frame":Str),PV.int x):=by
 unfold zx;rw[ak e rfl];rfl
theorem Pp(c:Nat)(K:aT N){j:Nat}{t y:Option N3}{as:List N3}{V:Vs}(T:Tp h N P fs cnt aX n f F (.call j t as))(hk:gJ t y)(hn:5<=n) :
  ∃h',run aJ (c+4) "take_back" [.ref 1,.ref (n+5),Yg V y] h=some (.ok .az,h')/\iV h' N F.w n (Hh f V y t)/\Ch h h' [n+1,n+2,n+3,n+4,n+5]:=by
 have e1:=jJ (c+2) T;have hd:=ak T.R.r rfl;have hE:=hne T.R.r;have nr:∀l,ai (.ref 1::l)=false:=jQ 1
 have ad:∀h,wR h (.int (f.r:Int)) (.int 1)=some (.int ((f.r+1:Nat):Int)):=λh=>rfl
 cases t with
 | none =>
  cases y with
  | some y=>exact absurd hk id
  | none =>
   have la:∀h,aI h (.lst ((bP N (.call j none as)).map (dZ f.r))) (.int (-1))=some (dZ f.r xk):=λh=>atI_last (by simp[bP])
   have q5:=λρ=>oC (ρ:=ρ) (x:=((f.r+1:Nat):Int)) T.B.f
   have q7:=gq T.B.f;have q8:=BM T.B.f;refine⟨_,?_,iV.row T.B (f.r+1),(Ch.set _).mono (by simp)⟩
   rw[j2];simp only[↓aW,e1,la,hd,hE,nr,ad,q5,q7,q8,aB,ay]
 | some x =>
  cases y with
  | none=>exact absurd hk id
  | some y =>
   have hk:l8 x y:=hk;have la:∀h,aI h (.lst ((bP N (.call j (some x) as)).map (dZ f.r))) (.int (-1))=some (dZ f.r (Qs N "fill" x)):=λh=>atI_last (by simp[bP])
   have w1:∀h,aI h (dZ f.r (Qs N "fill" x)) (.int 1)=some (.str "fill"):=λh=>rfl
   have e4:=λl m=>iH (L:=l) (m:=m) T.R.w
   have ft:=gp K F.w n f.v x "fill" "";have e2:=ow (c+1) (w:=0) (k:=f.r) T.B ft;have e3:=Bv (c+1) (w:=0) (k:=f.r) (W:=l0 V y) T.B ft (by rw[ir K];exact Hg hk)
   rw[ir K]at e3;obtain⟨h1,He⟩:∃h1,h1=vc h (vm F.w n f.v x) (l0 V y):=⟨_,rfl⟩
   rw[<-He]at e3;have e3:run aJ (c+3) "Places.store" [.ref 0,.ref (n+5),dZ f.r (Qs N "fill" x),.lst (l0 V y)] h=some (.ok .az,h1):=e3;have e2:run aJ (c+3) "Places.touch" [.ref 0,.ref (n+5),dZ f.r (Qs N "fill" x)] h=some (.ok _,h):=e2;have B1:=T.B.store (Uz K T.B x) (l0 V y);rw[Hf N F.w n f.v V hk,<-He]at B1;have B1:iV h1 N F.w n ⟨f.j,f.r,LX f.v V y x⟩:=B1;have c1:Ch h h1 [n+1,n+2,n+3,n+4,n+5]:=by
    rw[He];refine(lV _ _ _).mono λz hz=>?_
    have:=Po z hz;simp only[bh,c9,da]
    lia
   have q5:=λρ=>oC (ρ:=ρ) (x:=((f.r+1:Nat):Int)) B1.f
   have q7:=gq B1.f;have q8:=BM B1.f;refine⟨_,?_,iV.row B1 (f.r+1),c1.tr (Ch.set _) (by simp)⟩
   rw[j2];simp only[↓aW,Yg,e1,e2,e3,e4,la,w1,hd,hE,nr,ad,q5,q7,q8,aB,ay]
end bA
set_option maxHeartbeats 4000000
namespace bA
open PySem L2 L2.U
variable {h:List ah} {N:Nm} {P:List Fd} {fs:List PV} {cnt:Int} {aX:List Int} {n:Nat} {f:Fr} {F:Fd} {r:Rw}
theorem pop_at{h:List ah}{i:Nat}{fs:List PV}{p:PV}{ρ:List (Option PV)}(e:h[i]?=some ⟨.lst,fs++[p]⟩):ie qb (.ref i) [] ⟨ρ,h⟩=some (.ok p,⟨ρ,h.set i ⟨.lst,fs⟩⟩):=by
 show((kF h (.ref i)).bind λc=>(qb c.2 []).map λr=>_)=_
 rw[eK e rfl];show((((fs++[p])[(fs++[p]).length-1]?).map λq=>((⟨.lst,(fs++[p]).dropLast⟩:ah),q)).map λr=>_)=_
 rw[show(fs++[p])[(fs++[p]).length-1]?=some p by simp,List.dropLast_concat]
 rfl
theorem qF{h:List ah}{i:Nat}{fs:List PV}(e:h[i]?=some ⟨.lst,fs⟩):kC h (.ref i)=some (!fs.isEmpty):=by
 have d:=ak e rfl;simp only[kC,d]
theorem xA(c:Nat)(K:aT N){t:Option N3}(T:Tp h N P [] cnt aX n f F (.bj t)) :
  ∃h',run aJ (c+11) "do_row" [.ref 1] h=some (.ok .az,h')/\og h' N P [] (cnt+1) aX:=by
 have e0:=dD T.R.fl;have e2:=jz (c+9) T;have e4:∀h,aI h (aR N (.bj t)) (.int 0)=some (.str "give"):=λh=>rfl
 have e1:=BL (c+5) K T;have hd:=ak T.R.r rfl;have Ux:=ak T.R.fl rfl;have hE:=hne T.R.r;have nr:∀l,ai (.ref 1::l)=false:=jQ 1
 have ad:∀h,wR h (.int cnt) (.int 1)=some (.int (cnt+1)):=λh=>rfl
 have p1:=λρ=>pop_at (ρ:=ρ) T.R.fl
 have R1:=cL.Vo T.R [];obtain⟨h1,He⟩:∃h1,h1=h.set 3 ⟨.lst,[]⟩:=⟨_,rfl⟩
 rw[<-He]at p1 R1;have LU:=ak R1.r rfl;have hd2:=ak R1.fl rfl;have q6:=λρ=>l6 (ρ:=ρ) (y:=cnt+1) R1.r
 have q7:=gq R1.r;have q8:=l7 R1.r;have g1:run aJ (c+10) "do_give" [.ref 1,.ref (n+5),aR N (.bj t)] h=some (.ok .az,h1):=by
  rw[nF];have tr:kC h1 (.ref 3)=some false:=qF R1.fl;simp only[↓aW,e1,p1,hd,LU,hd2,Ux,hE,nr,tr,aB,ay]
 refine⟨_,?_,cL.gX R1 (cnt+1)⟩;rw[gj];simp only[↓aW,e0,e2,e4,g1,hd,hE,nr,ad,q6,q7,q8,aB,ay]
theorem xB(c:Nat)(K:aT N){t u:Option N3}{j m:Nat}{as:List N3}{g:Fr}{G:Fd}(T:Tp h N P (fs++[.ref (m+5)]) cnt aX n f F (.bj t))(B:iV h N G.w m g)(hG:P[g.j]?=some G)(hr:G.rows[g.r]?=some (.call j u as))(hk:gJ u t)(hm:5<=m) :
  ∃h',run aJ (c+11) "do_row" [.ref 1] h=some (.ok .az,h')/\og h' N P (fs++[.ref (m+5)]) (cnt+1) aX/\iV h' N G.w m (Hh g f.v t u)/\Ch h h' (xx m):=by
 have e0:=dD T.R.fl;have e2:=jz (c+9) T;have e4:∀h,aI h (aR N (.bj t)) (.int 0)=some (.str "give"):=λh=>rfl
 have e1:=BL (c+5) K T;have hd:=ak T.R.r rfl;have Ux:=ak T.R.fl rfl;have hE:=hne T.R.r;have nr:∀l,ai (.ref 1::l)=false:=jQ 1
 have ad:∀h,wR h (.int cnt) (.int 1)=some (.int (cnt+1)):=λh=>rfl
 have p1:=λρ=>pop_at (ρ:=ρ) T.R.fl
 have R1:=cL.Vo T.R (fs++[.ref (m+5)]);obtain⟨h1,He⟩:∃h1,h1=h.set 3 ⟨.lst,fs++[.ref (m+5)]⟩:=⟨_,rfl⟩
 rw[<-He]at p1 R1;have c1:Ch h h1 [3]:=by rw[He];exact Ch.set _
 have B1:=iV.ch B c1 (by simp;lia)
 have T1:Tp h1 N P fs cnt aX m g G (.call j u as):=⟨R1,B1,hG,hr⟩;have LU:=ak R1.r rfl;have hd2:=ak R1.fl rfl;have HS:=hne R1.r;have fl1:=dD R1.fl;obtain⟨h2,t1,t2,t3⟩:=Pp (c+5) K (V:=f.v) T1 hk hm;have R2:og h2 N P (fs++[.ref (m+5)]) cnt aX:=R1.ch t3 (by simp;lia)
 have q6:=λρ=>l6 (ρ:=ρ) (y:=cnt+1) R2.r
 have q7:=gq R2.r;have q8:=l7 R2.r;have ne:(fs++[PV.ref (m+5)]).isEmpty=false:=by cases fs<;>rfl
 have g1:run aJ (c+10) "do_give" [.ref 1,.ref (n+5),aR N (.bj t)] h=some (.ok .az,h2):=by
  rw[nF];have tr:kC h1 (.ref 3)=some true:=by rw[qF R1.fl,ne];rfl
  simp only[↓aW,e1,p1,hd,LU,hd2,Ux,hE,HS,nr,tr,fl1,t1,ne,aB,ay]
 have c4:=Ch.set (h:=h2) (n:=1) (GU (.aj (P.map (fdP N))) 0 2 (.lst (P.map λF=>A7 N F.rows)) 3 4 (cnt+1))
 refine⟨_,?_,cL.gX R2 (cnt+1),iV.ch t2 c4 (by simp;lia),?_⟩
 ·rw[gj];simp only[↓aW,e0,e2,e4,g1,hd,hE,nr,ad,q6,q7,q8,aB,ay]
 ·exact(((c1.mono (B:=xx m) (by simp[xx])).tr t3 (by simp[xx])).tr c4 (by simp[xx]))
end bA
set_option maxHeartbeats 4000000
namespace bA
open PySem L2 L2.U
noncomputable def dQ(P:List Fd)(f:Fr):Option Rw:=(P[f.j]?).bind λF=>F.rows[f.r]?
noncomputable def Hj(P:List Fd)(j:Nat):Bool:=((P[j]?).map λF=>F.w).getD false
noncomputable def UA:Option Rw->Option N3
 | some (.call _ t _)=>t
 | _=>none
def fP(N:Nm)(P:List Fd):Nat->Nat->List Fr->List Int->Str×List Int×Nat
 | 0,cnt,_,sd=>("more",sd,cnt)
 | _+1,cnt,[],sd=>("done",sd,cnt)
 | k+1,cnt,f::fs,sd=>match dQ P f with
  | none=>("",sd,cnt)
  | some r=>match r with
   | .call j t as=>if fs.length=11 then("deep",sd,cnt)else fP N P k (cnt+1) (⟨j,0,dP N f.v (Hj P j) as⟩::f::fs) sd
   | .bj t=>match fs with
    | []=>("done",sd,cnt+1)
    | g::gs=>fP N P k (cnt+1) (Hh g f.v t (UA (dQ P g))::gs) sd
   | r=>fP N P k (cnt+1) (⟨f.j,n8 f.v f.r r,vR N f.v r⟩::fs) (sd++vv f.v r)
structure BN (N:Nm) (V:Vs):Prop where
 z:V.s.length=N.z
 a:Bd V.a
 b:Bd V.b
 n:Bd V.n
 s:∀x∈V.s,Bd x
def xN(N:Nm):Op->Prop
 | .num i=>Bd i
 | .sp (.i (.at i))=>i<N.z
 | .sp .s=>False
 | _=>True
def Pq(N:Nm):Sp->Prop
 | .i (.at i)=>i<N.z
 | .s=>False
 | _=>True
def Vp(N:Nm)(P:List Fd):Rw->Prop
 | .put s o=>Pq N s/\xN N o
 | .fill o=>xN N o
 | .set s _ o p=>Pq N s/\xN N o/\xN N p
 | .iG o=>xN N o
 | .call j t as=>∃G,P[j]?=some G/\gZ G.w as/\∀u,Rw.bj u∈G.rows->gJ t u
 | .ifs o p _=>xN N o/\xN N p
 | _=>True
def NxS(m k:Nat):Rw->Prop
 | .go j=>j<m
 | .ifs _ _ j=>j<m/\k+1<m
 | .bj _=>True
 | _=>k+1<m
structure jP (N:Nm) (P:List Fd):Prop where
 p:Hd N P
 r:∀F∈P,∀r∈F.rows,Vp N P r
 x:∀F∈P,∀(k:Nat) r,F.rows[k]?=some r->NxS F.rows.length k r
 l:∀F∈P,1<=F.rows.length/\F.rows.length<=100
theorem l9{N:Nm}{V:Vs}(K:aT N)(v:BN N V){o:Op}(h:xN N o):BD V o/\Bd (opV V o):=by
 have Yh:∀i,i<V.s.length->Bd (V.s.getD i 0):=λi hi=>by
  rw[j6,dW hi];exact v.s _ (ym _)
 have z1:1<=V.s.length:=by rw[v.z];exact K.z1
 cases o with
 | num i=>exact⟨trivial,h⟩
 | sp s =>
  cases s with
  | a=>exact⟨trivial,v.a⟩
  | b=>exact⟨trivial,v.b⟩
  | n=>exact⟨trivial,v.n⟩
  | s=>exact absurd h id
  | i x =>
   cases x with
   | «at» i =>
    have hi:i<V.s.length:=by rw[v.z];exact h
    exact⟨hi,Yh i hi⟩
   | a=>exact⟨trivial,Yh _ (mod_lt z1)⟩
   | b=>exact⟨trivial,Yh _ (mod_lt z1)⟩
theorem m6(x:Int):Bd (x%vi):=⟨et _ (by decide +kernel),ix _ (by decide +kernel)⟩
theorem Pr{N:Nm}{V:Vs}{P:List Fd}(K:aT N)(v:BN N V){r:Rw}(h:Vp N P r):Bd (kR V r):=by
 cases r with
 | put s o=>exact(l9 K v h.2).2
 | fill o=>exact(l9 K v h).2
 | set s g o p=>cases g<;>exact m6 _
 | _=>exact(show Bd 0 from⟨by decide,by decide +kernel⟩)
theorem Ks{N:Nm}{V:Vs}(v:BN N V){x:Int}(hx:Bd x)(s:Sp):BN N (gW N V x s):=by
 cases s with
 | a=>exact⟨v.z,hx,v.b,v.n,v.s⟩
 | b=>exact⟨v.z,v.a,hx,v.n,v.s⟩
 | n=>exact⟨v.z,v.a,v.b,hx,v.s⟩
 | s=>exact⟨by simp[gW],v.a,v.b,v.n,λy hy=>by rw[oG hy];exact hx⟩
 | i i=>exact⟨by simp[gW,v.z],v.a,v.b,v.n,λy hy=>by
   rcases List.mem_or_eq_of_mem_set hy with hy | rfl
   ·exact v.s y hy
   ·exact hx⟩
theorem Pt{N:Nm}{V:Vs}{P:List Fd}(K:aT N)(v:BN N V){r:Rw}(h:Vp N P r):BN N (vR N V r):=by
 unfold vR;split
 ·exact Ks v (Pr K v h) _
 ·exact v
theorem LY{N:Nm}{V:Vs}{P:List Fd}(K:aT N)(v:BN N V){r:Rw}(h:Vp N P r)(hg:∀t,r≠.bj t)(hc:∀j t as,r≠.call j t as):sU N V r:=by
 have sp:∀s,Pq N s->Di V s:=λs hs=>by
  cases s
  case i x =>
   cases x
   case «at» i=>show i<V.s.length;rw[v.z];exact hs
   all_goals trivial
  case s=>exact hs
  all_goals trivial
 refine⟨?_,?_,hg,hc⟩
 ·intro o ho;cases r with
  | put s q=>rw[cm.mp ho];exact l9 K v h.2
  | fill q=>rw[cm.mp ho];exact l9 K v h
  | set s g p q =>
   rcases bh.mp ho with rfl | ho
   ·exact l9 K v h.2.1
   ·rw[cm.mp ho];exact l9 K v h.2.2
  | iG q=>rw[cm.mp ho];exact l9 K v h
  | ifs p q k =>
   rcases bh.mp ho with rfl | ho
   ·exact l9 K v h.1
   ·rw[cm.mp ho];exact l9 K v h.2
  | _=>cases ho
 ·intro s hs;cases r with
  | put q o=>cases hs;exact .inl ⟨⟨o,rfl⟩,sp _ h.1⟩
  | fill o=>cases hs;exact .inr (.inl ⟨⟨o,rfl⟩,rfl⟩)
  | set q g o p=>cases hs;exact .inr (.inr ⟨⟨g,o,p,rfl⟩,sp _ h.1⟩)
  | _=>cases hs
end bA
set_option maxHeartbeats 4000000
namespace bA
open PySem L2 L2.U
def HU(h:List ah)(N:Nm)(P:List Fd):Nat->List Nat->List Fr->Prop
 | _,[],[]=>True
 | b,n::ns,f::fs=>(5<=n/\n+5<b)/\(∃F,P[f.j]?=some F/\iV h N F.w n f)/\HU h N P n ns fs
 | _,_,_=>False
theorem HU.ch{h h':List ah}{N:Nm}{P:List Fd}{A:List Nat}(c:Ch h h' A):∀{ns:List Nat} {fs:List Fr} {b:Nat},(∀a∈A,a<5\/b<=a)->HU h N P b ns fs->HU h' N P b ns fs
 | [],[],_,_,_=>trivial
 | n::ns,f::fs,b,hA,⟨h1,⟨F,h2,h3⟩,h4⟩=>⟨h1,⟨F,h2,h3.ch c λa ha=>by have:=hA a ha;lia⟩,h4.ch c λa ha=>by have:=hA a ha;lia⟩
 | [],_::_,_,_,h=>h.elim
 | _::_,[],_,_,h=>h.elim
theorem HU.len{h:List ah}{N:Nm}{P:List Fd}:∀{ns:List Nat} {fs:List Fr} {b:Nat},HU h N P b ns fs->ns.length=fs.length
 | [],[],_,_=>rfl
 | n::ns,f::fs,b,⟨_,_,h4⟩=>by simp[h4.len]
 | [],_::_,_,h=>h.elim
 | _::_,[],_,h=>h.elim
theorem HU.mono{h:List ah}{N:Nm}{P:List Fd}:∀{ns:List Nat} {fs:List Fr} {b b':Nat},b<=b'->HU h N P b ns fs->HU h N P b' ns fs
 | [],[],_,_,_,_=>trivial
 | n::ns,f::fs,b,b',hb,⟨h1,h2,h4⟩=>⟨⟨h1.1,by lia⟩,h2,h4⟩
 | [],_::_,_,_,_,h=>h.elim
 | _::_,[],_,_,_,h=>h.elim
def gK(N:Nm)(P:List Fd):Option Nat->List Fr->Prop
 | _,[]=>True
 | a,f::fs=>BN N f.v/\(∃r,dQ P f=some r/\(∀j,a=some j->∃t as,r=.call j t as))/\gK N P (some f.j) fs
noncomputable def iR(ns:List Nat):List PV:=ns.reverse.map λn=>.ref (n+5)
theorem c7(n:Nat)(ns:List Nat):iR (n::ns)=iR ns++[.ref (n+5)]:=by simp[iR]
structure vw (h:List ah) (N:Nm) (P:List Fd) (ns:List Nat) (fs:List Fr) (cnt:Nat) (sd:List Int):Prop where
 r:og h N P (iR ns) (cnt:Int) sd
 s:HU h N P h.length ns fs
def cV(N:Nm)(P:List Fd)(f:Fr)(fs:List Fr)(sd:List Int)(r:Rw):List Fr×List Int:=match r with
 | .call j t as=>(⟨j,0,dP N f.v (Hj P j) as⟩::f::fs,sd)
 | .bj t=>match fs with
  | []=>([],sd)
  | g::gs=>(Hh g f.v t (UA (dQ P g))::gs,sd)
 | r=>(⟨f.j,n8 f.v f.r r,vR N f.v r⟩::fs,sd++vv f.v r)
theorem Pu(c:Nat){N:Nm}(K:aT N){P:List Fd}(W:jP N P){h:List ah}{n:Nat}{ns:List Nat}{f:Fr}{fs:List Fr}{cnt:Nat}{sd:List Int}{r:Rw}
  (H:vw h N P (n::ns) (f::fs) cnt sd) (O:gK N P none (f::fs)) (hr:dQ P f=some r) (hl:fs.length<=11) (LR:sd.length<=10000) :
  ∃h' Bo,run aJ (c+11) "do_row" [.ref 1] h=some (.ok .az,h')/\vw h' N P Bo (cV N P f fs sd r).1 (cnt+1) (cV N P f fs sd r).2:=by
 obtain⟨⟨n5,nb⟩,⟨F,hF,B⟩,S⟩:=H.s;have HV:F.rows[f.r]?=some r:=by unfold dQ at hr;rw[hF]at hr;exact hr
 have Qt:=cP hF;have Kt:=W.r F Qt r (cP HV);have v:=O.1;have T:Tp h N P (iR ns) (cnt:Int) sd n f F r:=⟨by have:=H.r;rw[c7]at this;exact this,B,hF,HV⟩
 have rl:(iR ns).length<=11:=by simp[iR];rw[S.len];exact hl
 have iu:(∀t,r≠.bj t)->(∀j t as,r≠.call j t as)->cV N P f fs sd r=(⟨f.j,n8 f.v f.r r,vR N f.v r⟩::fs,sd++vv f.v r)->∃h' Bo,run aJ (c+11) "do_row" [.ref 1] h=some (.ok .az,h')/\vw h' N P Bo (cV N P f fs sd r).1 (cnt+1) (cV N P f fs sd r).2:=λg1 g2 e=>by
  obtain⟨h',e1,e2,e3,e4⟩:=Hc c K T n5 v.z (LY K v Kt g1 g2) LR;refine⟨h',n::ns,e1,?_⟩;rw[e];refine⟨by rw[c7];exact e2,⟨⟨n5,bM nb e4.le⟩,⟨F,hF,e3⟩,S.ch e4 ?_⟩⟩
  intro a ha;simp only[xx,bh,c9,da]at ha
  lia
 cases r with
 | put s o=>exact iu (by simp) (by simp) rfl
 | fill o=>exact iu (by simp) (by simp) rfl
 | set s g o p=>exact iu (by simp) (by simp) rfl
 | iG o=>exact iu (by simp) (by simp) rfl
 | ifs o p k=>exact iu (by simp) (by simp) rfl
 | go k=>exact iu (by simp) (by simp) rfl
 | call j t as =>
  obtain⟨G,g1,g2,g3⟩:=Kt;obtain⟨h',e1,e2,e3,e4,e5⟩:=Ad c K T W.p g1 g2 (by lia)
  have hw:Hj P j=G.w:=by unfold Hj;rw[g1];rfl
  refine⟨h',(h.length+2)::n::ns,e1,?_⟩;show vw h' N P _ (⟨j,0,dP N f.v (Hj P j) as⟩::f::fs) (cnt+1) sd;rw[hw];refine⟨by rw[c7,c7];exact e2,⟨⟨by lia,e5⟩,⟨G,g1,e3⟩,?_⟩⟩
  have:=H.s.ch e4 (by simp)
  exact this.mono (by lia)
 | bj t =>
  cases fs with
  | nil =>
   cases ns with
   | nil =>
    obtain⟨h',e1,e2⟩:=xA c K T;exact⟨h',[],e1,⟨e2,trivial⟩⟩
   | cons _ _=>exact absurd S id
  | cons g gs =>
   cases ns with
   | nil=>exact absurd S id
   | cons m ms =>
    obtain⟨⟨m5,mb⟩,⟨G,hG,B2⟩,S2⟩:=S;obtain⟨vg,⟨q,hq,hc⟩,_⟩:=O.2.2;obtain⟨u,as,rfl⟩:=hc f.j rfl;have AA:G.rows[g.r]?=some (.call f.j u as):=by unfold dQ at hq;rw[hG]at hq;exact hq
    obtain⟨G',y1,_,y3⟩:=W.r G (cP hG) _ (cP AA);rw[hF]at y1;cases y1;have hk:=y3 t (cP HV);have T2:Tp h N P (iR ms++[.ref (m+5)]) (cnt:Int) sd n f F (.bj t):=⟨by have:=T.R;rw[c7]at this;exact this,B,hF,HV⟩
    obtain⟨h',e1,e2,e3,e4⟩:=xB c K T2 B2 hG AA hk m5;refine⟨h',m::ms,e1,?_⟩;show vw h' N P _ (Hh g f.v t (UA (dQ P g))::gs) (cnt+1) sd;rw[hq];refine⟨by rw[c7];exact e2,⟨⟨m5,by have:=e4.le;lia⟩,⟨G,hG,e3⟩,S2.ch e4 ?_⟩⟩
    intro a ha;simp only[xx,bh,c9,da]at ha
    lia
end bA
set_option maxHeartbeats 4000000
namespace bA
open PySem L2 L2.U
theorem Hk:Bd 0:=⟨by decide,by decide +kernel⟩
theorem oE{N:Nm}{V:Vs}(v:BN N V)(x:N3):Bd (gr V x):=by
 cases x
 ·exact v.a
 ·exact v.b
 ·exact Hk
theorem Ku{N:Nm}{V:Vs}(v:BN N V){w:Bool}{as:List N3}(h:gZ w as):BN N (dP N V w as):=by
 rcases h with⟨rfl,x,_,rfl⟩ | ⟨rfl,x,_,rfl⟩
 ·exact⟨by simp[dP,kQ],oE v x,Hk,Hk,λy hy=>by
   have hy:y∈List.replicate N.z 0:=hy;rw[oG hy];exact Hk⟩
 ·exact⟨v.z,oE v x,Hk,v.n,v.s⟩
theorem Pw{N:Nm}{U V:Vs}(u:BN N U)(v:BN N V)(x y:N3):BN N (LX U V y x):=by
 cases x
 ·exact⟨u.z,oE v y,u.b,u.n,u.s⟩
 ·exact⟨u.z,u.a,oE v y,u.n,u.s⟩
 ·exact⟨v.z,u.a,u.b,v.n,v.s⟩
theorem qG{P:List Fd}{j k:Nat}{V:Vs}{F:Fd}(hF:P[j]?=some F)(hk:k<F.rows.length):∃r,dQ P ⟨j,k,V⟩=some r:=⟨F.rows[k],by unfold dQ;rw[hF];exact dW hk⟩
theorem Hl{N:Nm}(K:aT N){P:List Fd}(W:jP N P){f:Fr}{fs:List Fr}{sd:List Int}{r:Rw}(O:gK N P none (f::fs))(hr:dQ P f=some r):gK N P none (cV N P f fs sd r).1:=by
 obtain⟨v,_,O2⟩:=O;have⟨F,hF,HV⟩:∃F,P[f.j]?=some F/\F.rows[f.r]?=some r:=by
  unfold dQ at hr;cases e:P[f.j]? with
  | none=>rw[e]at hr;cases hr
  | some F=>rw[e]at hr;exact⟨F,rfl,hr⟩
 have Qt:=cP hF;have Kt:=W.r F Qt r (cP HV);have hx:=W.x F Qt f.r r HV;have sm:n8 f.v f.r r<F.rows.length->gK N P none (⟨f.j,n8 f.v f.r r,vR N f.v r⟩::fs):=λhk=>by
  obtain⟨q,hq⟩:=qG (V:=vR N f.v r) hF hk;exact⟨Pt K v Kt,⟨q,hq,λj z=>by cases z⟩,O2⟩
 cases r with
 | put s o=>exact sm hx
 | fill o=>exact sm hx
 | set s g o p=>exact sm hx
 | iG o=>exact sm hx
 | go k=>exact sm hx
 | ifs o p k =>
  refine sm ?_;show(if _ then k else f.r+1)<_
  split
  ·exact hx.1
  ·exact hx.2
 | call j t as =>
  obtain⟨G,g1,g2,g3⟩:=Kt;have hw:Hj P j=G.w:=by unfold Hj;rw[g1];rfl
  obtain⟨q,hq⟩:=qG (V:=dP N f.v (Hj P j) as) (k:=0) g1 (W.l G (cP g1)).1;refine⟨by rw[hw];exact Ku v g2,⟨q,hq,λj z=>by cases z⟩,v,⟨_,hr,λi z=>?_⟩,O2⟩
  cases z;exact⟨t,as,rfl⟩
 | bj t =>
  cases fs with
  | nil=>trivial
  | cons g gs =>
   obtain⟨vg,⟨q,hq,hc⟩,O3⟩:=O2;obtain⟨u,as,rfl⟩:=hc f.j rfl;have⟨G,hG,AA⟩:∃G,P[g.j]?=some G/\G.rows[g.r]?=some (.call f.j u as):=by
    unfold dQ at hq;cases e:P[g.j]? with
    | none=>rw[e]at hq;cases hq
    | some G=>rw[e]at hq;exact⟨G,rfl,hq⟩
   have Ve:g.r+1<G.rows.length:=W.x G (cP hG) g.r _ AA;show gK N P none (Hh g f.v t (UA (dQ P g))::gs);rw[hq];obtain⟨q2,ZU⟩:=qG (V:=(Hh g f.v t u).v) hG Ve;refine⟨?_,⟨q2,ZU,λj z=>by cases z⟩,O3⟩
   clear ZU q2 Ve AA hc hq sm hx Kt HV hr;cases u<;>cases t
   ·exact vg
   ·exact vg
   ·exact vg
   ·exact Pw vg v _ _
theorem Hm{N:Nm}{P:List Fd}{f:Fr}{fs:List Fr}{sd:List Int}{r:Rw}:(cV N P f fs sd r).2.length<=sd.length+1:=by
 cases r
 case bj t=>cases fs<;>simp[cV]
 case iG o=>simp[cV,vv]
 all_goals simp[cV,vv]
theorem Ho{N:Nm}{P:List Fd}{f:Fr}{fs:List Fr}{sd:List Int}{r:Rw}:(cV N P f fs sd r).1.length<=fs.length+2/\((∀j t as,r≠.call j t as)->(cV N P f fs sd r).1.length<=fs.length+1):=by
 cases r
 case bj t=>cases fs<;>simp[cV]<;>lia
 all_goals simp[cV]
end bA
set_option maxHeartbeats 4000000
namespace bA
open PySem L2 L2.U
theorem Hq{N:Nm}{P:List Fd}{k cnt:Nat}{f:Fr}{fs:List Fr}{sd:List Int}{r:Rw}(hr:dQ P f=some r)(hd:¬(fs.length=11/\∃j t as,r=.call j t as))(hn:(cV N P f fs sd r).1≠[]):fP N P (k+1) cnt (f::fs) sd=fP N P k (cnt+1) (cV N P f fs sd r).1 (cV N P f fs sd r).2:=by
 unfold fP;rw[hr];cases r
 case call j t as =>
  have:¬fs.length=11:=λz=>hd ⟨z,_,_,_,rfl⟩
  show(if fs.length=11 then _ else _)=_
  rw[if_neg this];unfold cV;cases k<;>rfl
 case bj t =>
  cases fs with
  | nil=>exact absurd rfl hn
  | cons g gs=>cases k<;>rfl
 all_goals (cases k<;>rfl)
theorem qH{h:List ah}{i:Nat}{fs:List PV}(e:h[i]?=some ⟨.lst,fs⟩):fj h [.ref i]=some (.int (fs.length:Int)):=by
 have d:=ak e rfl;have l:Sb h (.ref i)=some fs.length:=by simp only[Sb,d]
 show(Sb h (.ref i)).map (λn=>PV.int n)=_
 rw[l];rfl
theorem Kv(c:Nat){N:Nm}(K:aT N){P:List Fd}(W:jP N P){most:Nat}(hm:most<=9000):∀(k cnt me:Nat) (h:List ah) (ns:List Nat) (eW:List Fr) (sd:List Int),vw h N P ns eW cnt sd->gK N P none eW->eW≠[]->eW.length<=12->cnt+k=most->sd.length<=cnt->k<me ->
  ∃h' fl w xC gX q,fP N P k cnt eW sd=(w,xC,gX)/\og h' N P fl (gX:Int) xC/\xC.length<=most/\(q=dJ.rt (.str w)\/(q=dJ.nx/\w="done")) /\
   kD (qX Q1) (dt (run aJ (c+11))) me ⟨[some (.ref 1),some (.int (most:Int))],h⟩=some (.ok q,⟨[some (.ref 1),some (.int (most:Int))],h'⟩):=by
 intro k;induction k with
 | zero =>
  intro cnt me h ns eW sd H O xy hl hc hs hf;obtain⟨me,rfl⟩:∃m,me=m+1:=⟨me-1,by lia⟩
  cases eW with
  | nil=>exact absurd rfl xy
  | cons f fs =>
   cases ns with
   | nil=>exact absurd H.s id
   | cons n ns =>
    have hd:=ak H.r.r rfl;have tr:kC h (.ref 3)=some true:=by rw[qF H.r.fl,c7];cases iR ns<;>rfl
    have g1:∀h,U3 h (.int (cnt:Int)) (.int (most:Int))=some (.bl true):=λh=>by
     show some (PV.bl (decide ((cnt:Int)>=(most:Int))))=_;rw[dX (by lia)]
    refine⟨h,_,"more",sd,cnt,_,rfl,H.r,by lia,.inl rfl,?_⟩
    have UB:qX Q1 ⟨[some (.ref 1),some (.int (most:Int))],h⟩=some (.ok true,⟨[some (.ref 1),some (.int (most:Int))],h⟩):=by
     refine bW ?_;simp only[↓iU,hd,tr]
    refine eB UB ?_
    ·rw[if_pos rfl];refine eB (show dt (run aJ (c+11)) _=some (.ok (.rt (.str "more")),⟨[some (.ref 1),some (.int (most:Int))],h⟩)from ?_) rfl
     refine bW ?_
     delta dt g8
     simp only[↓iU,hd,g1]
 | succ k ih =>
  intro cnt me h ns eW sd H O xy hl hc hs hf;obtain⟨me,rfl⟩:∃m,me=m+1:=⟨me-1,by lia⟩
  cases eW with
  | nil=>exact absurd rfl xy
  | cons f fs =>
   cases ns with
   | nil=>exact absurd H.s id
   | cons n ns =>
    have hd:=ak H.r.r rfl;have tr:kC h (.ref 3)=some true:=by rw[qF H.r.fl,c7];cases iR ns<;>rfl
    have g1:∀h,U3 h (.int (cnt:Int)) (.int (most:Int))=some (.bl false):=λh=>by
     show some (PV.bl (decide ((cnt:Int)>=(most:Int))))=_;rw[cz (by lia)]
    obtain⟨v,⟨r,hr,_⟩,O2⟩:=O;have O:gK N P none (f::fs):=⟨v,⟨r,hr,λj z=>by cases z⟩,O2⟩
    obtain⟨⟨n5,nb⟩,⟨F,hF,B⟩,S⟩:=H.s;have HV:F.rows[f.r]?=some r:=by unfold dQ at hr;rw[hF]at hr;exact hr
    have T:Tp h N P (iR ns) (cnt:Int) sd n f F r:=⟨by have:=H.r;rw[c7]at this;exact this,B,hF,HV⟩
    have e1:=jz (c+10) T;have e2:=dD T.R.fl;have e3:fj h [.ref 3]=some (.int ((fs.length+1:Nat):Int)):=by
     rw[qH T.R.fl];simp[iR,S.len]
    have e4:=λh=>qx (h:=h) N r
    have hE:=hne H.r.r;have nr:∀l,ai (.ref 1::l)=false:=jQ 1
    have e5:∀h,qO h (.int ((fs.length+1:Nat):Int)) (.int 12)=some (.bl (((fs.length+1:Nat):Int)==12)):=λh=>rfl
    have e6:∀h,qO h (.str (sQ r)) (.str "call")=some (.bl (sQ r=="call")):=λh=>rfl
    have UC:fs.length<=11:=by simpa using hl
    have UB:qX Q1 ⟨[some (.ref 1),some (.int (most:Int))],h⟩=some (.ok true,⟨[some (.ref 1),some (.int (most:Int))],h⟩):=by
     refine bW ?_;simp only[↓iU,hd,tr]
    by_cases hdp:fs.length=11/\∃j t as,r=.call j t as
    ·obtain⟨BO,j,t,as,rfl⟩:=hdp;have b5:(((fs.length+1:Nat):Int)==12)=true:=by rw[BO];rfl
     have b6:(sQ (.call j t as)=="call")=true:=rfl;have Af:fP N P (k+1) cnt (f::fs) sd=(("deep":Str),sd,cnt):=by
      unfold fP;rw[hr];show(if fs.length=11 then _ else _)=_
      rw[if_pos BO]
     refine⟨h,_,"deep",sd,cnt,_,Af,H.r,by lia,.inl rfl,?_⟩
     refine eB UB ?_;rw[if_pos rfl];refine eB (show dt (run aJ (c+11)) _=some (.ok (.rt (.str "deep")),⟨[some (.ref 1),some (.int (most:Int))],h⟩)from ?_) rfl
     refine bW ?_
     delta dt g8
     simp only[↓iU,hd,g1,e1,e2,e3,e4,e5,e6,b5,b6,hE,nr,aB,ay]
    ·obtain⟨h',Bo,x1,x2⟩:=Pu c K W H O hr UC (by lia)
     have O':=Hl K W (sd:=sd) O hr;have ZV:dt (run aJ (c+11)) ⟨[some (.ref 1),some (.int (most:Int))],h⟩=some (.ok .nx,⟨[some (.ref 1),some (.int (most:Int))],h'⟩):=by
      refine bW ?_
      delta dt g8
      by_cases BO:fs.length=11
      ·have b5:(((fs.length+1:Nat):Int)==12)=true:=by rw[BO];rfl
       have b6:(sQ r=="call")=false:=by
        cases r
        case call j t as=>exact absurd ⟨BO,_,_,_,rfl⟩ hdp
        all_goals rfl
       simp only[↓iU,hd,g1,e1,e2,e3,e4,e5,e6,b5,b6,x1,hE,nr,aB,ay]
      ·have b5:(((fs.length+1:Nat):Int)==12)=false:=bI.mpr (by lia)
       simp only[↓iU,hd,g1,e1,e2,e3,e4,e5,e6,b5,x1,hE,nr,aB,ay]
     have HM:=Ho (N:=N) (P:=P) (f:=f) (fs:=fs) (sd:=sd) (r:=r);have hsl:=Hm (N:=N) (P:=P) (f:=f) (fs:=fs) (sd:=sd) (r:=r);by_cases rp:(cV N P f fs sd r).1=[]
     ·have Yi:∃t,r=.bj t/\fs=[]:=by
       cases r
       case bj t =>
        cases fs with
        | nil=>exact⟨_,rfl,rfl⟩
        | cons g gs=>cases rp
       all_goals cases rp
      obtain⟨t,rfl,rfl⟩:=Yi;have x2:vw h' N P Bo [] (cnt+1) sd:=x2;have Du:Bo=[]:=mi x2.s.len;subst Du;have Af:fP N P (k+1) cnt [f] sd=(("done":Str),sd,cnt+1):=by
       unfold fP;rw[hr]
      have QN:=ak x2.r.r rfl;have tr':kC h' (.ref 3)=some false:=qF x2.r.fl;have Yj:qX Q1 ⟨[some (.ref 1),some (.int (most:Int))],h'⟩=some (.ok false,⟨[some (.ref 1),some (.int (most:Int))],h'⟩):=by
       refine bW ?_;simp only[↓iU,QN,tr']
      obtain⟨me,rfl⟩:∃m,me=m+1:=⟨me-1,by lia⟩
      refine⟨h',_,"done",sd,cnt+1,.nx,Af,x2.r,by lia,.inr ⟨rfl,rfl⟩,?_⟩
      refine eB UB ?_;rw[if_pos rfl];refine eB ZV ?_;exact eB Yj rfl
     ·obtain⟨h2,fl,w,xC,gX,q,y1,y2,y3,y4,y5⟩:=ih (cnt+1) me h' Bo _ _ x2 O' rp (by
       by_cases BO:fs.length=11
       ·have:=HM.2 λj t as z=>hdp ⟨BO,j,t,as,z⟩
        lia
       ·lia) (by lia) (by lia) (by lia)
      refine⟨h2,fl,w,xC,gX,q,by rw[Hq hr hdp rp];exact y1,y2,y3,y4,?_⟩
      refine eB UB ?_;rw[if_pos rfl];exact eB ZV y5
theorem Hr(c:Nat){N:Nm}(K:aT N){P:List Fd}(W:jP N P){most:Nat}(hm:most<=9000){h:List ah}{ns:List Nat}{eW:List Fr}(H:vw h N P ns eW 0 [])(O:gK N P none eW)(hn:eW≠[])(hl:eW.length<=12) :
  ∃h' fl w xC gX,fP N P most 0 eW []=(w,xC,gX)/\og h' N P fl (gX:Int) xC/\xC.length<=most/\run aJ (c+12) "run_on" [.ref 1,.int (most:Int)] h=some (.ok (.str w),h'):=by
 obtain⟨h',fl,w,xC,gX,q,y1,y2,y3,y4,y5⟩:=Kv c K W hm most 0 8000000 h ns eW [] H O hn hl (by lia) (by simp) (by lia)
 refine⟨h',fl,w,xC,gX,y1,y2,y3,?_⟩;rw[zK]
 delta dt g8 at y5
 rcases y4 with rfl | ⟨rfl,rfl⟩
 ·refine GD (st':=⟨[some (.ref 1),some (.int (most:Int))],h'⟩) ?_;exact eB y5 rfl
 ·refine GD (st':=⟨[some (.ref 1),some (.int (most:Int))],h'⟩) ?_;exact eB y5 rfl
end bA
set_option maxHeartbeats 4000000
namespace bA
open PySem L2 L2.U
theorem dO3{a b d:Str}{v u w:PV}(h1:a≠b)(h2:a≠d)(h3:b≠d):zm [.aj [.str a,v],.aj [.str b,u],.aj [.str d,w]]=some (bV [(a,v),(b,u),(d,w)]):=by
 have e1:eO false (bz b) u [bz a] [v]=bV [(a,v),(b,u)]:=by
  unfold eO;rw[if_neg (by have:=oB (x:=b) (ys:=[a]) (by simp;exact h1);rw[show jj (bz b) [bz a]=false from this];exact cQ)]
  rfl
 have e2:eO false (bz d) w [bz a,bz b] [v,u]=bV [(a,v),(b,u),(d,w)]:=by
  unfold eO;rw[if_neg (by have:=oB (x:=d) (ys:=[a,b]) (by simp;exact⟨h2,h3⟩);rw[show jj (bz d) [bz a,bz b]=false from this];exact cQ)]
  rfl
 show some (wI [(.inr d,w)] (eO false (bz b) u [bz a] [v]))=_;rw[e1];show some (eO false (bz d) w [bz a,bz b] [v,u])=_;rw[e2]
theorem qI{f:Str}{ns:List Str}{ps:List PV}{v:PV}{ρ:List (Option PV)}{L:List ah}(hc:(fJ.contains "Run"&&fK.contains f&&decide (ns.length<900))=true):fI fJ fK f (.ref 1) v ⟨ρ,mY::⟨.ins "Run" ns,ps⟩::L⟩=some ⟨ρ,mY::⟨.ins "Run" (iD f v ns ps).1,(iD f v ns ps).2⟩::L⟩:=gI (h:=mY::⟨.ins "Run" ns,ps⟩::L) rfl hc
theorem Px(c:Nat){N:Nm}(K:aT N){P:List Fd}(W:jP N P)(hA:∀F∈P,∀r∈F.rows,HQ r):Dy (run aJ (c+14)) "Run" [.ref 1,.aj (P.map (fdP N)),.ref 0] [mY,⟨.ins "Run" [],[]⟩]=some (.ok .az,[mY,GU (.aj (P.map (fdP N))) 0 2 (.lst (P.map λF=>A7 N F.rows)) 3 4 0,⟨.eV false (P.map λF=>bz F.f),(List.range P.length).map fun(i:Nat)=>.int (i:Int)⟩,⟨.lst,[]⟩,⟨.lst,[]⟩]):=by
 obtain⟨F0,F1,F2,rfl⟩:=W.p.p;obtain⟨p0,h0,a0,b0⟩:=qB c K (P:=[F0,F1,F2]) (i:=0) rfl (hA F0 (by simp)) (W.l F0 (by simp)).2
 obtain⟨p1,h1,a1,b1⟩:=qB c K (P:=[F0,F1,F2]) (i:=1) rfl (hA F1 (by simp)) (W.l F1 (by simp)).2
 obtain⟨p2,h2,a2,b2⟩:=qB c K (P:=[F0,F1,F2]) (i:=2) rfl (hA F2 (by simp)) (W.l F2 (by simp)).2
 have n0:=W.p.n 0 F0 rfl;have n1:=W.p.n 1 F1 rfl;have n2:=W.p.n 2 F2 rfl;have Yk:F0.f≠F1.f:=λz=>by rw[n0,n1]at z;exact absurd (K.ff 0 1 (by decide) (by decide) z) (by decide)
 have Yl:F0.f≠F2.f:=λz=>by rw[n0,n2]at z;exact absurd (K.ff 0 2 (by decide) (by decide) z) (by decide)
 have Ym:F1.f≠F2.f:=λz=>by rw[n1,n2]at z;exact absurd (K.ff 1 2 (by decide) (by decide) z) (by decide)
 have dd:=λv u w=>dO3 (v:=v) (u:=u) (w:=w) Yk Yl Ym
 have en:iO 0 ([F0,F1,F2].map (fdP N))=[.aj [.int 0,fdP N F0],.aj [.int 1,fdP N F1],.aj [.int 2,fdP N F2]]:=rfl;have l3:∀a b d:PV,[a,b,d].length<=4000000:=λ_ _ _=>by simp
 have i0:∀h F,aI h (fdP N F) (.int 0)=some (.str F.f):=λh F=>rfl
 have nr:∀(i:Int),ai [PV.aj ([F0,F1,F2].map (fdP N)),PV.int i]=true:=λi=>by simp[ai,noRef,nH]
 have b0:run aJ (c+14) "acts_by_row" [.aj ([F0,F1,F2].map (fdP N)),.int 0] []=_:=b0;have b1:run aJ (c+14) "acts_by_row" [.aj ([F0,F1,F2].map (fdP N)),.int 1] []=_:=b1;have b2:run aJ (c+14) "acts_by_row" [.aj ([F0,F1,F2].map (fdP N)),.int 2] []=_:=b2;have t1:∀ρ v L,fI fJ fK "program" (.ref 1) v ⟨ρ,mY::⟨.ins "Run" [],[]⟩::L⟩=some ⟨ρ,mY::⟨.ins "Run" ["program"],[v]⟩::L⟩:=λρ v L=>qI (by kernel_rfl)
 have t2:∀ρ v L a,fI fJ fK "world" (.ref 1) v ⟨ρ,mY::⟨.ins "Run" ["program"],[a]⟩::L⟩=some ⟨ρ,mY::⟨.ins "Run" ["program","world"],[a,v]⟩::L⟩:=λρ v L a=>qI (by kernel_rfl)
 have t3:∀ρ v L a b,fI fJ fK "numbers" (.ref 1) v ⟨ρ,mY::⟨.ins "Run" ["program","world"],[a,b]⟩::L⟩=some ⟨ρ,mY::⟨.ins "Run" ["program","world","numbers"],[a,b,v]⟩::L⟩:=λρ v L a b=>qI (by kernel_rfl)
 have t4:∀ρ v L a b d,fI fJ fK "listed" (.ref 1) v ⟨ρ,mY::⟨.ins "Run" ["program","world","numbers"],[a,b,d]⟩::L⟩=some ⟨ρ,mY::⟨.ins "Run" ["program","world","numbers","listed"],[a,b,d,v]⟩::L⟩:=λρ v L a b d=>qI (by kernel_rfl)
 have t5:∀ρ v L a b d e,fI fJ fK "frames" (.ref 1) v ⟨ρ,mY::⟨.ins "Run" ["program","world","numbers","listed"],[a,b,d,e]⟩::L⟩=some ⟨ρ,mY::⟨.ins "Run" ["program","world","numbers","listed","frames"],[a,b,d,e,v]⟩::L⟩:=λρ v L a b d e=>qI (by kernel_rfl)
 have t6:∀ρ v L a b d e g,fI fJ fK "said" (.ref 1) v ⟨ρ,mY::⟨.ins "Run" ["program","world","numbers","listed","frames"],[a,b,d,e,g]⟩::L⟩=some ⟨ρ,mY::⟨.ins "Run" ["program","world","numbers","listed","frames","said"],[a,b,d,e,g,v]⟩::L⟩:=λρ v L a b d e g=>qI (by kernel_rfl)
 have t7:∀ρ v L a b d e g i,fI fJ fK "count" (.ref 1) v ⟨ρ,mY::⟨.ins "Run" ["program","world","numbers","listed","frames","said"],[a,b,d,e,g,i]⟩::L⟩=some ⟨ρ,mY::⟨.ins "Run" ["program","world","numbers","listed","frames","said","count"],[a,b,d,e,g,i,v]⟩::L⟩:=λρ v L a b d e g i=>qI (by kernel_rfl)
 have ln:∀h,fj h [.aj ([F0,F1,F2].map (fdP N))]=some (.int 3):=λh=>rfl
 have rg:nV [.int 3]=some [.int 0,.int 1,.int 2]:=by rfl
 rw[OW];simp only[↓aW,t1,t2,t3,t4,t5,t6,t7,ln,rg,en,dd,l3,i0,nr,a0,a1,a2,b0,b1,b2,cq,bY];rfl
end bA
set_option maxHeartbeats 4000000
namespace bA
open PySem L2 L2.U
theorem Kw(c:Nat){N:Nm}(K:aT N){P:List Fd}(W:jP N P)(hA:∀F∈P,∀r∈F.rows,HQ r){F0:Fd}(h0:P[0]?=some F0)(hw:F0.w=false){x:Int} :
  ∃h',run aJ (c+15) "run_from_first" [.aj (P.map (fdP N)),.ref 0,.lst [.int x]] [mY]=some (.ok (.ref 1),h')/\vw h' N P [6] [⟨0,0,⟨x,0,kQ N,0⟩⟩] 0 []:=by
 obtain⟨g,hg⟩:∃g:List ah,g=[mY,GU (.aj (P.map (fdP N))) 0 2 (.lst (P.map λF=>A7 N F.rows)) 3 4 0,⟨.eV false (P.map λF=>bz F.f),(List.range P.length).map fun(i:Nat)=>.int (i:Int)⟩,⟨.lst,[]⟩,⟨.lst,[]⟩]:=⟨_,rfl⟩
 have gl:g.length=5:=by rw[hg];rfl
 have R0:og g N P [] 0 []:=by rw[hg];exact⟨rfl,rfl,rfl,rfl,rfl⟩
 have e1:Dy (run aJ (c+14)) "Run" [.ref [mY].length,.aj (P.map (fdP N)),.ref 0] ([mY]++[⟨.ins "Run" [],[]⟩])=some (.ok .az,g):=by rw[hg];exact Px c K W hA
 have e2:∀h,aI h (.aj (P.map (fdP N))) (.int 0)=some (fdP N F0):=λh=>atI_nat (j:=0) (by rw[bB,h0];rfl)
 have e3:∀h,aI h (fdP N F0) (.int 1)=some (.aj [dA N .a]):=λh=>by
  show some (PV.aj ((par F0.w).map (dA N)))=_;rw[hw];rfl
 have z1:FP (.aj [dA N .a]) (.lst [.int x])=some [.aj [dA N .a,.int x]]:=rfl;have l1:∀a:PV,[a].length<=4000000:=λ_=>by simp
 have R1:og (g++[bV [(N.n .a,.lst [.int x])]]) N P [] 0 []:=R0.app _;have bg:=xt (c+6) K R1 h0 hw (g:=5) (va:=x) (es:=[(N.n .a,.lst [.int x])]) (by rw[iw (by lia),gl];rfl) (by show(if bz N.a=bz N.a then _ else _)=_;rw[if_pos rfl]) (by simp)
 have ZW:(g++[bV [(N.n .a,.lst [.int x])]]).length=6:=by rw[bX,gl];rfl
 rw[ZW]at bg;obtain⟨q,hq⟩:∃q:List ah,q=(g++[bV [(N.n .a,.lst [.int x])]]).set 3 ⟨.lst,[]++[.ref (6+5)]⟩:=⟨_,rfl⟩
 have ql:q.length=6:=by rw[hq,my,ZW]
 have R2:og q N P ([]++[.ref (6+5)]) 0 []:=by rw[hq];exact cL.Vo R1 _
 rw[<-hq]at bg;have B:=LW (N:=N) q false 0 ⟨x,0,kQ N,0⟩;rw[ql]at B;have hE:(g++[bV [(N.n .a,.lst [.int x])]]).isEmpty=false:=hne R1.r;have nr:∀l,ai (.ref 1::l)=false:=jQ 1
 have bg:run aJ (c+14) "begin" [.ref 1,.int 0,.ref 5] (g++[bV [(N.n .a,.lst [.int x])]])=some (.ok .az,q++gY N false 6 0 ⟨x,0,kQ N,0⟩):=bg;refine⟨q++gY N false 6 0 ⟨x,0,kQ N,0⟩,?_,?_⟩
 ·have dd:=λv=>ZR (a:=N.n .a) (v:=v)
  rw[kL];simp only[↓aW,e1,e2,e3,z1,l1,dd,gl,bg,hE,nr,aB,ay]
 ·refine⟨R2.app _,⟨by decide,?_⟩,⟨F0,h0,by rw[hw];exact B⟩,trivial⟩
  rw[bX,ql];show 6+5<6+6;decide
theorem Hs(c:Nat){N:Nm}(K:aT N){P:List Fd}(W:jP N P)(hA:∀F∈P,∀r∈F.rows,HQ r){F0:Fd}(h0:P[0]?=some F0)(hw:F0.w=false){x:Int}(hx:Bd x){most:Nat}(hm:most<=9000) :
  ∃p h',run aJ (c+16) "played" [.aj (P.map (fdP N)),.lst [.int x],.int (most:Int)] []=some (.ok p,h')/\ee h' p=some (.aj [.str (fP N P most 0 [⟨0,0,⟨x,0,kQ N,0⟩⟩] []).1,.lst ((fP N P most 0 [⟨0,0,⟨x,0,kQ N,0⟩⟩] []).2.1.map .int),.int ((fP N P most 0 [⟨0,0,⟨x,0,kQ N,0⟩⟩] []).2.2:Int)]):=by
 obtain⟨h1,e1,H⟩:=Kw c K W hA h0 hw (x:=x);have O:gK N P none [⟨0,0,⟨x,0,kQ N,0⟩⟩]:=by
  obtain⟨q,hq⟩:=qG (V:=⟨x,0,kQ N,0⟩) (k:=0) h0 (W.l F0 (cP h0)).1;exact⟨⟨by simp[kQ],hx,Hk,Hk,λy hy=>by
   have hy:y∈List.replicate N.z 0:=hy;rw[oG hy];exact Hk⟩,⟨q,hq,λj z=>by cases z⟩,trivial⟩
 obtain⟨h2,fl,w,sd,cnt,y1,y2,y3,y4⟩:=Hr (c+3) K W hm H O (by simp) (by simp)
 rw[y1];have hd:=ak y2.r rfl;have HS:=hne H.r.r;have nr:∀l,ai (.ref 1::l)=false:=jQ 1
 refine⟨.aj [.str w,.ref 4,.int (cnt:Int)],h2,?_,?_⟩
 ·rw[zL];simp only[↓aW,e1,y4,hd,HS,nr,aB,ay]
 ·have LV:=hne y2.r;unfold ee;rw[if_neg (by rw[LV];exact cQ)]
  have d4:kG h2 3 (.ref 4)=some (.lst (sd.map .int)):=by
   show((h2[4]?).bind λc=>if live c=true then(dq (kG h2 2) c.ps).map (PV.nd c.k)else none)=_
   rw[y2.sd];show(dq (kG h2 2) (sd.map .int)).map (PV.nd Kd.lst)=_;rw[lW (dw (λ_=>rfl) sd)]
   rfl
  show((some (PV.str w)).bind λa=>((kG h2 3 (.ref 4)).bind λb=>((some (PV.int (cnt:Int))).bind λd=>(some []).map λr=>d::r).map λr=>b::r).map λr=>a::r).map (PV.nd Kd.aj)=_
  rw[d4];rfl
end bA
set_option maxHeartbeats 4000000
namespace bA
open PySem L2 L2.U
def BP(V:Vs):PV:=.aj [stP V.s,.int V.n]
def g9(N:Nm)(w:Bool)(V:Vs):List (Str×PV):=if w=true then [(N.a,.int V.a),(N.c,BP V),(N.b,.int V.b)]else [(N.a,.int V.a),(N.b,.int V.b),(N.c,BP V)]
def oh(V:Vs):N3->PV
 | .a=>.int V.a
 | .b=>.int V.b
 | .c=>BP V
theorem j4{N:Nm}(K:aT N){h:List ah}{d:Nat}{w:Bool}{V:Vs}(e:h[d]?=some (bV (g9 N w V)))(x:N3):aI h (.ref d) (.str (N.n x))=some (oh V x):=by
 refine lX e ?_;have ky:∀x y:N3,bz (N.n x)=bz (N.n y)↔x=y:=λx y=>⟨λz=>K.n (by unfold bz at z;injection z with z1 _;injection z1),λz=>by rw[z]⟩
 have t:∀x y:N3,bz (N.n x)=bz (N.n y)->x=y:=λx y=>(ky x y).1
 cases w
 ·show dO (bz (N.n x)) [bz (N.n .a),bz (N.n .b),bz (N.n .c)] [.int V.a,.int V.b,BP V]=_;cases x<;>simp[dO,oh,ky]
 ·show dO (bz (N.n x)) [bz (N.n .a),bz (N.n .c),bz (N.n .b)] [.int V.a,BP V,.int V.b]=_;cases x<;>simp[dO,oh,ky]
theorem Ht(c:Nat){N:Nm}(K:aT N){h:List ah}{d:Nat}{w:Bool}{V:Vs}(e:h[d]?=some (bV (g9 N w V)))(hs:1<=V.s.length){o:Op}(ho:BD V o):run aJ (c+1) "_law_number" [.ref d,jw N o] h=some (.ok (.int (opV V o)),h):=by
 have ka:aI h (.ref d) (.str N.a)=some (.int V.a):=j4 K e .a;have kb:aI h (.ref d) (.str N.b)=some (.int V.b):=j4 K e .b;have kc:aI h (.ref d) (.str N.c)=some (BP V):=j4 K e .c;have e9:=λh=>lY (V:=V) (h:=h)
 have t0:∀h,aI h (BP V) (.int 0)=some (stP V.s):=λh=>rfl
 rw[xc];cases o with
 | num i=>simp only[↓aW,jw];rfl
 | sp s =>
  cases s with
  | s=>exact absurd ho id
  | a=>simp only[↓aW,jw,gA,ka];rfl
  | b=>simp only[↓aW,jw,gA,kb];rfl
  | n=>simp only[↓aW,jw,gA,kc];rfl
  | i x =>
   cases x with
   | «at» i =>
    have e2:∀h,aI h (stP V.s) (.int (i:Int))=_:=λh=>mZ (V:=V) ho
    simp only[↓aW,jw,gA,xJ,kc,t0,e2];rfl
   | a =>
    have m1:∀h,cA h (.int V.a) (.int (V.s.length:Int))=_:=λh=>iI hs
    have e2:∀h,aI h (stP V.s) (.int ((V.a%(V.s.length:Int)).toNat:Int))=_:=λh=>mZ (V:=V) (mod_lt hs)
    simp only[↓aW,jw,gA,xJ,ka,kc,t0,e9,m1,e2];rfl
   | b =>
    have m1:∀h,cA h (.int V.b) (.int (V.s.length:Int))=_:=λh=>iI hs
    have e2:∀h,aI h (stP V.s) (.int ((V.b%(V.s.length:Int)).toNat:Int))=_:=λh=>mZ (V:=V) (mod_lt hs)
    simp only[↓aW,jw,gA,xJ,kb,kc,t0,e9,m1,e2];rfl
end bA
set_option maxHeartbeats 4000000
namespace bA
open PySem L2 L2.U
theorem nc{N:Nm}(K:aT N){h:List ah}{d:Nat}{w:Bool}{V V':Vs}(e:h[d]?=some (bV (g9 N w V)))(x:N3)(hv:∀y,y≠x->oh V' y=oh V y){ρ:List (Option PV)}:eI (.ref d) (.str (N.n x)) (oh V' x) ⟨ρ,h⟩=some ⟨ρ,h.set d (bV (g9 N w V'))⟩:=by
 have ky:∀x y:N3,bz (N.n x)=bz (N.n y)↔x=y:=λx y=>⟨λz=>K.n (by unfold bz at z;injection z with z1 _;injection z1),λz=>by rw[z]⟩
 have key:∀(w:Bool),eO false (bz (N.n x)) (oh V' x) ((g9 N w V).map λe=>bz e.1) ((g9 N w V).map (·.2))=bV (g9 N w V'):=λw=>by
  unfold eO;have ha:=hv .a;have hb:=hv .b;have hc:=hv .c;cases w
  ·show(if jj (bz (N.n x)) [bz (N.n .a),bz (N.n .b),bz (N.n .c)]=true then(⟨.eV false [bz (N.n .a),bz (N.n .b),bz (N.n .c)],mQ (bz (N.n x)) (oh V' x) [bz (N.n .a),bz (N.n .b),bz (N.n .c)] [oh V .a,oh V .b,oh V .c]⟩:ah)else _)=⟨.eV false [bz (N.n .a),bz (N.n .b),bz (N.n .c)],[oh V' .a,oh V' .b,oh V' .c]⟩
   cases x<;>simp[jj,mQ,ky]<;>simp_all
  ·show(if jj (bz (N.n x)) [bz (N.n .a),bz (N.n .c),bz (N.n .b)]=true then(⟨.eV false [bz (N.n .a),bz (N.n .c),bz (N.n .b)],mQ (bz (N.n x)) (oh V' x) [bz (N.n .a),bz (N.n .c),bz (N.n .b)] [oh V .a,oh V .c,oh V .b]⟩:ah)else _)=⟨.eV false [bz (N.n .a),bz (N.n .c),bz (N.n .b)],[oh V' .a,oh V' .c,oh V' .b]⟩
   cases x<;>simp[jj,mQ,ky]<;>simp_all
 show((kF h (.ref d)).bind λc=>match c.2.k with
  | .lst=>(lG (.str (N.n x))).bind λi=>(AE c.2.ps.length i).map λj=>(⟨ρ,h.set c.1 ⟨.lst,c.2.ps.set j (oh V' x)⟩⟩:cb)
  | .eV t kY=>(iM t (.str (N.n x))).bind λk=>if kY.length<gy then some ⟨ρ,h.set c.1 (eO t k (oh V' x) kY c.2.ps)⟩else none
  | _=>none)=_
 rw[eK e rfl];show(if((g9 N w V).map λe=>bz e.1).length<gy then some (⟨ρ,h.set d (eO false (bz (N.n x)) (oh V' x) ((g9 N w V).map λe=>bz e.1) ((g9 N w V).map (·.2)))⟩:cb)else none)=_
 rw[if_pos (bM (show _<10 by rw[aM];cases w<;>simp[g9]) (by decide)),key]
theorem Dp(c:Nat){g:Sg}{x y:Int}(hx:Bd x)(hy:Bd y):run aJ (c+1) "_law_reckon" [.str (O1 g),.int x,.int y] []=some (.ok (.int (X9 g x y)),[]):=by
 have e4:=λh=>GZ (h:=h)
 have e5:=λh x=>xu (h:=h) (x:=x)
 have e6:=λh=>LM (h:=h) hx hy
 rw[xf];cases g<;>(simp only[↓aW,e4,e5,e6,O1];rfl)
end bA
set_option maxHeartbeats 4000000
namespace bA
open PySem L2 L2.U
theorem Kx(c:Nat){N:Nm}(K:aT N){h:List ah}{d:Nat}{w:Bool}{V:Vs}(e:h[d]?=some (bV (g9 N w V)))(hz:V.s.length=N.z){r:Rw}(ok:sU N V r){s:Sp}(ht:HR r=some s) :
  run aJ (c+2) "_law_done" [.ref d,aR N r] h=some (.ok .az,h.set d (bV (g9 N w (vR N V r)))):=by
 have hs:1<=V.s.length:=by rw[hz];exact K.z1
 have h8:V.s.length<=8:=by rw[hz];exact K.z8
 have ka:aI h (.ref d) (.str N.a)=some (.int V.a):=j4 K e .a;have kb:aI h (.ref d) (.str N.b)=some (.int V.b):=j4 K e .b;have kc:aI h (.ref d) (.str N.c)=some (.aj [stP V.s,.int V.n]):=j4 K e .c;have e9:=λh=>lY (V:=V) (h:=h)
 have hE:h.isEmpty=false:=hne e;have nr:∀l,ai (.ref d::l)=false:=λl=>by simp[ai,noRef]
 have nm:=λo ho=>Ht c K e hs (o:=o) ho
 obtain⟨Qu,ZX,_,_⟩:=ok;have hv:vR N V r=gW N V (kR V r) s:=by unfold vR;rw[ht]
 rw[hv];obtain⟨x,hx⟩:∃x,kR V r=x:=⟨_,rfl⟩
 rw[hx];have sa:∀ρ,eI (.ref d) (.str N.a) (.int x) ⟨ρ,h⟩=some ⟨ρ,h.set d (bV (g9 N w (gW N V x .a)))⟩:=λρ=>nc K e (V':=gW N V x .a) .a (λy hy=>by cases y<;>first | rfl | exact absurd rfl hy)
 have sb:∀ρ,eI (.ref d) (.str N.b) (.int x) ⟨ρ,h⟩=some ⟨ρ,h.set d (bV (g9 N w (gW N V x .b)))⟩:=λρ=>nc K e (V':=gW N V x .b) .b (λy hy=>by cases y<;>first | rfl | exact absurd rfl hy)
 have sn:∀ρ,eI (.ref d) (.str N.c) (.aj [stP V.s,.int x]) ⟨ρ,h⟩=some ⟨ρ,h.set d (bV (g9 N w (gW N V x .n)))⟩:=λρ=>nc K e (V':=gW N V x .n) .c (λy hy=>by cases y<;>first | rfl | exact absurd rfl hy)
 have ss:∀ρ,eI (.ref d) (.str N.c) (.aj [stP (List.replicate N.z x),.int V.n]) ⟨ρ,h⟩=some ⟨ρ,h.set d (bV (g9 N w (gW N V x .s)))⟩:=λρ=>nc K e (V':=gW N V x .s) .c (λy hy=>by cases y<;>first | rfl | exact absurd rfl hy)
 have si:∀ρ i,eI (.ref d) (.str N.c) (.aj [stP (V.s.set (jS V i) x),.int V.n]) ⟨ρ,h⟩=some ⟨ρ,h.set d (bV (g9 N w (gW N V x (.i i))))⟩:=λρ i=>nc K e (V':=gW N V x (.i i)) .c (λy hy=>by cases y<;>first | rfl | exact absurd rfl hy)
 have rep:=λh=>vj (h:=h) (x:=x) K.z8
 have NB:∀i,jS V i<V.s.length->(∀h,xH h none (some (jS V i:Int)) (stP V.s)=some (.aj ((V.s.take (jS V i)).map .int)))/\(∀h,xH h (some (((jS V i+1:Nat):Int))) none (stP V.s)=some (.aj ((V.s.drop (jS V i+1)).map .int)))/\(∀h,cY h (.aj ((V.s.take (jS V i)).map .int)) (.aj [.int x])=some (.aj ((V.s.take (jS V i)++[x]).map .int)))/\(∀h,cY h (.aj ((V.s.take (jS V i)++[x]).map .int)) (.aj ((V.s.drop (jS V i+1)).map .int))=some (stP (V.s.set (jS V i) x))):=λi hI=>by
  refine⟨λh=>?_,λh=>?_,λh=>(vk hI h8).1,λh=>(vk hI h8).2⟩
  ·show some (PV.aj (ic (V.s.map .int) none (some (jS V i:Int))))=_;rw[G4 _ _ (by lia)]
  ·show some (PV.aj (ic (V.s.map .int) (some ((jS V i+1:Nat):Int)) none))=_;rw[G5 _ _ (by lia)]
 have ad:∀i h,cY h (.int (jS V i:Int)) (.int 1)=some (.int ((jS V i+1:Nat):Int)):=λi h=>rfl
 have hI:∀i,Di V (.i i)->jS V i<V.s.length:=λi hA=>by
  cases i with
  | «at» i=>exact hA
  | a=>exact mod_lt hs
  | b=>exact mod_lt hs
 have ma:∀h,cA h (.int V.a) (.int (V.s.length:Int))=some (.int ((jS V .a:Nat):Int)):=λh=>iI hs
 have mb:∀h,cA h (.int V.b) (.int (V.s.length:Int))=some (.int ((jS V .b:Nat):Int)):=λh=>iI hs
 have e9z:∀h,fj h [stP V.s]=some (.int (N.z:Int)):=λh=>lenZ hz
 rw[C9];cases r with
 | put t o =>
  cases ht;have n0:=nm o (Qu o (by simp[cg])).1
  have hx:opV V o=x:=hx;rw[hx]at n0;have sp:Di V s:=by
   rcases ZX s rfl with⟨_,h⟩ | ⟨⟨o,h⟩,_⟩ | ⟨⟨g,o,p,h⟩,_⟩
   ·exact h
   ·cases h
   ·cases h
  cases s with
  | s=>exact absurd sp id
  | a=>simp only[↓aW,aR,gA,n0,sa,hE,nr,aB,ay]
  | b=>simp only[↓aW,aR,gA,n0,sb,hE,nr,aB,ay]
  | n=>simp only[↓aW,aR,gA,n0,kc,sn,hE,nr,aB,ay]
  | i i =>
   obtain⟨c1,c2,c3,c4⟩:=NB i (hI i sp);have st:=λρ=>si ρ i
   have ad:=ad i;cases i with
   | «at» i =>
    have st:∀ρ,eI (.ref d) (.str N.c) (.aj [stP (V.s.set i x),.int V.n]) ⟨ρ,h⟩=_:=st
    have c1:∀h,xH h none (some (i:Int)) (stP V.s)=some (.aj ((V.s.take i).map .int)):=c1
    have c2:∀h,xH h (some ((i:Int)+1)) none (stP V.s)=some (.aj ((V.s.drop (i+1)).map .int)):=c2
    have c3:∀h,cY h (.aj ((V.s.take i).map .int)) (.aj [.int x])=some (.aj ((V.s.take i++[x]).map .int)):=c3
    have c4:∀h,cY h (.aj ((V.s.take i++[x]).map .int)) (.aj ((V.s.drop (i+1)).map .int))=some (stP (V.s.set i x)):=c4
    have ad:∀h,cY h (.int (i:Int)) (.int 1)=some (.int ((i+1:Nat):Int)):=ad
    simp only[↓aW,aR,gA,xJ,n0,kc,st,c1,c2,c3,c4,ad,e9,hE,nr,aB,ay]
   | a=>simp only[↓aW,aR,gA,xJ,n0,ka,kc,st,c1,c2,c3,c4,ad,e9,ma,hE,nr,aB,ay]
   | b=>simp only[↓aW,aR,gA,xJ,n0,kb,kc,st,c1,c2,c3,c4,ad,e9,mb,hE,nr,aB,ay]
 | fill o =>
  cases ht;have n0:=nm o (Qu o (by simp[cg])).1
  have hx:opV V o=x:=hx;rw[hx]at n0;simp only[↓aW,aR,gA,n0,kc,ss,rep,e9z,hE,nr,aB,ay]
 | set t g o p =>
  cases ht;have n0:=nm o (Qu o (by simp[cg])).1
  have n1:=nm p (Qu p (by simp[cg])).1
  have nk:=Dp c (g:=g) (Qu o (by simp[cg])).2 (Qu p (by simp[cg])).2
  have hx:X9 g (opV V o) (opV V p)=x:=hx;rw[hx]at nk;have sp:Di V s:=by
   rcases ZX s rfl with⟨⟨o,h⟩,_⟩ | ⟨⟨o,h⟩,_⟩ | ⟨_,h⟩
   ·cases h
   ·cases h
   ·exact h
  have DA:ai [.str (O1 g),.int (opV V o),.int (opV V p)]=true:=rfl;cases s with
  | s=>exact absurd sp id
  | a=>simp only[↓aW,aR,gA,n0,n1,nk,DA,sa,hE,nr,aB,ay,cq,bY]
  | b=>simp only[↓aW,aR,gA,n0,n1,nk,DA,sb,hE,nr,aB,ay,cq,bY]
  | n=>simp only[↓aW,aR,gA,n0,n1,nk,DA,kc,sn,hE,nr,aB,ay,cq,bY]
  | i i =>
   obtain⟨c1,c2,c3,c4⟩:=NB i (hI i sp);have st:=λρ=>si ρ i
   have ad:=ad i;cases i with
   | «at» i =>
    have st:∀ρ,eI (.ref d) (.str N.c) (.aj [stP (V.s.set i x),.int V.n]) ⟨ρ,h⟩=_:=st
    have c1:∀h,xH h none (some (i:Int)) (stP V.s)=some (.aj ((V.s.take i).map .int)):=c1
    have c2:∀h,xH h (some ((i:Int)+1)) none (stP V.s)=some (.aj ((V.s.drop (i+1)).map .int)):=c2
    have c3:∀h,cY h (.aj ((V.s.take i).map .int)) (.aj [.int x])=some (.aj ((V.s.take i++[x]).map .int)):=c3
    have c4:∀h,cY h (.aj ((V.s.take i++[x]).map .int)) (.aj ((V.s.drop (i+1)).map .int))=some (stP (V.s.set i x)):=c4
    have ad:∀h,cY h (.int (i:Int)) (.int 1)=some (.int ((i+1:Nat):Int)):=ad
    simp only[↓aW,aR,gA,xJ,n0,n1,nk,DA,kc,st,c1,c2,c3,c4,ad,e9,hE,nr,aB,ay,cq,bY]
   | a=>simp only[↓aW,aR,gA,xJ,n0,n1,nk,DA,ka,kc,st,c1,c2,c3,c4,ad,e9,ma,hE,nr,aB,ay,cq,bY]
   | b=>simp only[↓aW,aR,gA,xJ,n0,n1,nk,DA,kb,kc,st,c1,c2,c3,c4,ad,e9,mb,hE,nr,aB,ay,cq,bY]
 | _=>cases ht
end bA
set_option maxHeartbeats 4000000
namespace bA
open PySem L2 L2.U
theorem Py{N:Nm}(K:aT N){h:List ah}{va vb u v:PV}{ρ:List (Option PV)}:eI (.ref h.length) (.str (N.n .c)) v ⟨ρ,h++[bV [(N.n .a,va),(N.n .b,vb),(N.n .c,u)]]⟩=some ⟨ρ,h++[bV [(N.n .a,va),(N.n .b,vb),(N.n .c,v)]]⟩:=by
 have e:(h++[bV [(N.n .a,va),(N.n .b,vb),(N.n .c,u)]])[h.length]?=some (bV [(N.n .a,va),(N.n .b,vb),(N.n .c,u)]):=by simp
 have ky:∀x y:N3,bz (N.n x)=bz (N.n y)↔x=y:=λx y=>⟨λz=>K.n (by unfold bz at z;injection z with z1 _;injection z1),λz=>by rw[z]⟩
 have key:eO false (bz (N.n .c)) v [bz (N.n .a),bz (N.n .b),bz (N.n .c)] [va,vb,u]=bV [(N.n .a,va),(N.n .b,vb),(N.n .c,v)]:=by
  unfold eO;simp[jj,mQ,ky]
 generalize hg:h++[bV [(N.n .a,va),(N.n .b,vb),(N.n .c,u)]]=g at e ⊢
 show((kF g (.ref h.length)).bind λc=>match c.2.k with
  | .lst=>(lG (.str (N.n .c))).bind λi=>(AE c.2.ps.length i).map λj=>(⟨ρ,g.set c.1 ⟨.lst,c.2.ps.set j v⟩⟩:cb)
  | .eV t kY=>(iM t (.str (N.n .c))).bind λk=>if kY.length<gy then some ⟨ρ,g.set c.1 (eO t k v kY c.2.ps)⟩else none
  | _=>none)=_
 rw[eK e rfl];show(if [bz (N.n .a),bz (N.n .b),bz (N.n .c)].length<gy then some (⟨ρ,g.set h.length (eO false (bz (N.n .c)) v [bz (N.n .a),bz (N.n .b),bz (N.n .c)] [va,vb,u])⟩:cb)else none)=_
 refine(if_pos (show 3<gy by decide)).trans ?_
 rw[key,<-hg];simp
theorem xD(c:Nat){N:Nm}(K:aT N){F:Fd}{h:List ah}{V:Vs}(hv:V.b=0)(hf:F.w=false->V.s=kQ N/\V.n=0) :
  run aJ (c+1) "_law_begin" [fdP N F,.lst (if F.w=true then [.int V.a,BP V]else [.int V.a])] h=some (.ok (.ref h.length),h++[bV (g9 N F.w V)]):=by
 have e0:∀h,aI h (fdP N F) (.int 1)=some (.aj ((par F.w).map (dA N))):=λh=>rfl
 have e1:∀h,aI h (fdP N F) (.int 3)=some (.aj ((O4 F.w).map (dA N))):=λh=>rfl
 have rep:=λh=>vj (h:=h) (x:=0) K.z8
 have n0:∀(x:N3) h,aI h (dA N x) (.int 0)=some (.str (N.n x)):=λx h=>rfl
 have z1:∀h,aI h (xj N.z) (.int 0)=some (.str "rec"):=λh=>rfl
 have z2:∀h,aI h Ud (.int 0)=some (.str "num"):=λh=>rfl
 have z3:∀h,aI h (xj N.z) (.int 1)=some (.aj [.aj [.str "strip",.int (N.z:Int)],.aj [.str "num"]]):=λh=>rfl
 have sa:∀ρ v,eI (.ref h.length) (.str (N.n .a)) v ⟨ρ,h++[⟨.eV false [],[]⟩]⟩=some ⟨ρ,h++[bV [(N.n .a,v)]]⟩:=λρ v=>dj (es:=[]) (by simp) (by simp)
 have sb:∀ρ v u,eI (.ref h.length) (.str (N.n .b)) v ⟨ρ,h++[bV [(N.n .a,u)]]⟩=some ⟨ρ,h++[bV [(N.n .a,u),(N.n .b,v)]]⟩:=λρ v u=>dj (by simp) (by simp;exact K.ab)
 have sc:∀ρ v u,eI (.ref h.length) (.str (N.n .c)) v ⟨ρ,h++[bV [(N.n .a,u)]]⟩=some ⟨ρ,h++[bV [(N.n .a,u),(N.n .c,v)]]⟩:=λρ v u=>dj (by simp) (by simp;exact K.ac)
 have ZY:∀ρ v u w,eI (.ref h.length) (.str (N.n .b)) v ⟨ρ,h++[bV [(N.n .a,u),(N.n .c,w)]]⟩=some ⟨ρ,h++[bV [(N.n .a,u),(N.n .c,w),(N.n .b,v)]]⟩:=λρ v u w=>dj (by simp) (by simp;exact⟨K.ab,λz=>K.bc z.symm⟩)
 have ZZ:∀ρ v u w,eI (.ref h.length) (.str (N.n .c)) v ⟨ρ,h++[bV [(N.n .a,u),(N.n .b,w)]]⟩=some ⟨ρ,h++[bV [(N.n .a,u),(N.n .b,w),(N.n .c,v)]]⟩:=λρ v u w=>dj (by simp) (by simp;exact⟨K.ac,K.bc⟩)
 have Z2:=λρ u v w x=>Py K (h:=h) (ρ:=ρ) (va:=u) (vb:=v) (u:=w) (v:=x)
 have Z4:nV [.int 1]=some [.int 0]:=by rfl
 have Z5:nV [.int 2]=some [.int 0,.int 1]:=by rfl
 have Yn:∀h x,fj h [.aj [dA N x]]=some (.int 1):=λh x=>rfl
 have ln2:∀h x y,fj h [.aj [dA N x,dA N y]]=some (.int 2):=λh x y=>rfl
 obtain⟨va,vb,vs,vn⟩:=V;have hv:vb=0:=hv;subst hv;obtain⟨f,w,r,rows⟩:=F;rw[zP];cases w with
 | false =>
  obtain⟨q1,q2⟩:=hf rfl;have q1:vs=kQ N:=q1;have q2:vn=0:=q2;subst q1 q2;have e0:∀h,aI h (fdP N ⟨f,false,r,rows⟩) (.int 1)=some (.aj [dA N .a]):=λh=>rfl
  have e1:∀h,aI h (fdP N ⟨f,false,r,rows⟩) (.int 3)=some (.aj [dA N .b,dA N .c]):=λh=>rfl
  simp only[↓aW,e0,e1,rep,n0,z1,z2,z3,qQ,dA,sa,sb,sc,ZY,ZZ,Z2,Z4,Z5,Yn,ln2];rfl
 | true =>
  have e0:∀h,aI h (fdP N ⟨f,true,r,rows⟩) (.int 1)=some (.aj [dA N .a,dA N .c]):=λh=>rfl
  have e1:∀h,aI h (fdP N ⟨f,true,r,rows⟩) (.int 3)=some (.aj [dA N .b]):=λh=>rfl
  simp only[↓aW,e0,e1,rep,n0,z1,z2,z3,qQ,dA,sa,sb,sc,ZY,ZZ,Z2,Z4,Z5,Yn,ln2];rfl
end bA
set_option maxHeartbeats 4000000
namespace bA
open PySem L2 L2.U
theorem gB{h:List ah}{p:Nat}{xs:List PV}(e:h[p]?=some ⟨.lst,xs⟩)(i:Nat){v:PV}(hi:xs[i]?=some v):aI h (.ref p) (.int (i:Int))=some v:=by
 have d:=ak e rfl;simp only[aI,d];exact atI_nat hi
theorem kU{h:List ah}{p:Nat}{a b d v:PV}{ρ:List (Option PV)}(e:h[p]?=some ⟨.lst,[a,b,d]⟩):eI (.ref p) (.int 1) v ⟨ρ,h⟩=some ⟨ρ,h.set p ⟨.lst,[a,v,d]⟩⟩:=by
 show((kF h (.ref p)).bind λc=>match c.2.k with
  | .lst=>(lG (.int 1)).bind λi=>(AE c.2.ps.length i).map λj=>(⟨ρ,h.set c.1 ⟨.lst,c.2.ps.set j v⟩⟩:cb)
  | .eV t kY=>(iM t (.int 1)).bind λk=>if kY.length<gy then some ⟨ρ,h.set c.1 (eO t k v kY c.2.ps)⟩else none
  | _=>none)=_
 rw[eK e rfl];rfl
theorem Dq(c:Nat){N:Nm}(K:aT N){h:List ah}{n q:Nat}{w:Bool}{f:Fr}{sd:List Int}{r:Rw}
  (e:h[n]?=some (bV (g9 N w f.v))) (ef:h[n+1]?=some ⟨.lst,[.int (f.j:Int),.int (f.r:Int),.ref n]⟩) (es:h[q]?=some ⟨.lst,sd.map .int⟩) (hq:q≠n/\q≠n+1)
  (hz:f.v.s.length=N.z) (ok:sU N f.v r) (LR:sd.length<=4000) :
  ∃h',run aJ (c+3) "_law_onward" [.ref (n+1),aR N r,.ref q] h=some (.ok .az,h')/\h'[n]?=some (bV (g9 N w (vR N f.v r)))/\h'[n+1]?=some ⟨.lst,[.int (f.j:Int),.int (n8 f.v f.r r:Int),.ref n]⟩/\h'[q]?=some ⟨.lst,(sd++vv f.v r).map .int⟩/\Ch h h' [n,n+1,q]:=by
 have hs:1<=f.v.s.length:=by rw[hz];exact K.z1
 have hE:h.isEmpty=false:=hne e;have nr:∀l,ai (.ref n::l)=false:=λl=>by simp[ai,noRef]
 have e2:aI h (.ref (n+1)) (.int 2)=some (.ref n):=gB ef 2 rfl;have e1:aI h (.ref (n+1)) (.int 1)=some (.int (f.r:Int)):=gB ef 1 rfl;have s1:=λρ v=>kU (ρ:=ρ) (v:=v) ef
 have nm:=λo ho=>Ht (c+1) K e hs (o:=o) (ok.o o ho).1
 have plain:∀k',HR r=none->vv f.v r=[]->n8 f.v f.r r=k'->run aJ (c+3) "_law_onward" [.ref (n+1),aR N r,.ref q] h=some (.ok .az,h.set (n+1) ⟨.lst,[.int (f.j:Int),.int (k':Int),.ref n]⟩)->∃h',run aJ (c+3) "_law_onward" [.ref (n+1),aR N r,.ref q] h=some (.ok .az,h')/\h'[n]?=some (bV (g9 N w (vR N f.v r)))/\h'[n+1]?=some ⟨.lst,[.int (f.j:Int),.int (n8 f.v f.r r:Int),.ref n]⟩/\h'[q]?=some ⟨.lst,(sd++vv f.v r).map .int⟩/\Ch h h' [n,n+1,q]:=λk' h1 h2 h3 h4=>by
  refine⟨_,h4,?_,?_,?_,Ch.mono (Ch.set _) (by simp)⟩
  ·rw[aL (by lia),e];unfold vR;rw[h1]
  ·rw[cC ef,h3]
  ·rw[aL (by lia),es,h2,dE]
 have wr:∀s,HR r=some s->vv f.v r=[]->n8 f.v f.r r=f.r+1->(∀h1:List ah,h1=h.set n (bV (g9 N w (vR N f.v r)))->run aJ (c+3) "_law_onward" [.ref (n+1),aR N r,.ref q] h=some (.ok .az,h1.set (n+1) ⟨.lst,[.int (f.j:Int),.int ((f.r+1:Nat):Int),.ref n]⟩))->∃h',run aJ (c+3) "_law_onward" [.ref (n+1),aR N r,.ref q] h=some (.ok .az,h')/\h'[n]?=some (bV (g9 N w (vR N f.v r)))/\h'[n+1]?=some ⟨.lst,[.int (f.j:Int),.int (n8 f.v f.r r:Int),.ref n]⟩/\h'[q]?=some ⟨.lst,(sd++vv f.v r).map .int⟩/\Ch h h' [n,n+1,q]:=λs h1 h2 h3 h4=>by
  refine⟨_,h4 _ rfl,?_,?_,?_,?_⟩
  ·rw[aL (by lia),cC e]
  ·rw[cC (c:=⟨.lst,[.int (f.j:Int),.int (f.r:Int),.ref n]⟩) (by rw[aL (by lia),ef]),h3]
  ·rw[aL (by lia),aL (by lia),es,h2,dE]
  ·exact Ch.mono (Ch.tr (A:=[n,n+1]) (Ch.mono (Ch.set _) (by simp)) (Ch.set _) (by simp)) (by simp)
 have dn:=λs ht=>Kx (c) K e hz ok (s:=s) ht
 have a1:∀h,cY h (.int (f.r:Int)) (.int 1)=some (.int ((f.r+1:Nat):Int)):=λh=>rfl
 cases r with
 | put s o =>
  refine wr s rfl rfl rfl λh1 hh=>?_
  have dn:=dn s rfl;rw[<-hh]at dn;have DB:h1[n+1]?=some ⟨.lst,[.int (f.j:Int),.int (f.r:Int),.ref n]⟩:=by rw[hh,aL (by lia),ef]
  have s1:=λρ v=>kU (ρ:=ρ) (v:=v) DB
  have e1:aI h1 (.ref (n+1)) (.int 1)=some (.int (f.r:Int)):=gB DB 1 rfl;have i0:∀h,aI h (aR N (.put s o)) (.int 0)=some (.str "put"):=λh=>rfl
  rw[dv];simp only[↓aW,i0,e1,e2,s1,dn,a1,hE,nr,aB,ay]
 | fill o =>
  refine wr .s rfl rfl rfl λh1 hh=>?_
  have dn:=dn .s rfl;rw[<-hh]at dn;have DB:h1[n+1]?=some ⟨.lst,[.int (f.j:Int),.int (f.r:Int),.ref n]⟩:=by rw[hh,aL (by lia),ef]
  have s1:=λρ v=>kU (ρ:=ρ) (v:=v) DB
  have e1:aI h1 (.ref (n+1)) (.int 1)=some (.int (f.r:Int)):=gB DB 1 rfl;have i0:∀h,aI h (aR N (.fill o)) (.int 0)=some (.str "fill"):=λh=>rfl
  rw[dv];simp only[↓aW,i0,e1,e2,s1,dn,a1,hE,nr,aB,ay]
 | set s g o p =>
  refine wr s rfl rfl rfl λh1 hh=>?_
  have dn:=dn s rfl;rw[<-hh]at dn;have DB:h1[n+1]?=some ⟨.lst,[.int (f.j:Int),.int (f.r:Int),.ref n]⟩:=by rw[hh,aL (by lia),ef]
  have s1:=λρ v=>kU (ρ:=ρ) (v:=v) DB
  have e1:aI h1 (.ref (n+1)) (.int 1)=some (.int (f.r:Int)):=gB DB 1 rfl;have i0:∀h,aI h (aR N (.set s g o p)) (.int 0)=some (.str "set"):=λh=>rfl
  rw[dv];simp only[↓aW,i0,e1,e2,s1,dn,a1,hE,nr,aB,ay]
 | iG o =>
  have n0:=nm o (by simp[cg])
  have ap:=λρ=>qz (ρ:=ρ) (v:=.int (opV f.v o)) es (by rw[aM];exact LR)
  obtain⟨h1,hh⟩:∃h1,h1=h.set q ⟨.lst,sd.map .int++[.int (opV f.v o)]⟩:=⟨_,rfl⟩
  rw[<-hh]at ap;have DB:h1[n+1]?=some ⟨.lst,[.int (f.j:Int),.int (f.r:Int),.ref n]⟩:=by rw[hh,aL (by lia),ef]
  have s1:=λρ v=>kU (ρ:=ρ) (v:=v) DB
  have e1:aI h1 (.ref (n+1)) (.int 1)=some (.int (f.r:Int)):=gB DB 1 rfl;have d1:=λL=>ak (bS (g:=L) es) rfl
  have d0:=ak es rfl;have i0:∀h,aI h (aR N (.iG o)) (.int 0)=some (.str "say"):=λh=>rfl
  have i1:∀h,aI h (aR N (.iG o)) (.int 1)=some (jw N o):=λh=>rfl
  refine⟨h1.set (n+1) ⟨.lst,[.int (f.j:Int),.int ((f.r+1:Nat):Int),.ref n]⟩,?_,?_,?_,?_,?_⟩
  ·rw[dv];simp only[↓aW,i0,i1,e1,e2,s1,n0,ap,d0,a1,hE,nr,aB,ay]
  ·rw[aL (by lia),hh,aL (by lia),e];rfl
  ·rw[cC DB];rfl
  ·rw[aL (by lia),hh,cC es]
   show _=some (⟨.lst,(sd++[opV f.v o]).map .int⟩:ah);rw[fD];rfl
  ·rw[hh];exact Ch.mono (Ch.tr (A:=[q,n+1]) (Ch.mono (Ch.set _) (by simp)) (Ch.set _) (by simp)) (by simp)
 | ifs o p k =>
  have n0:=nm o (by simp[cg])
  have n1:=nm p (by simp[cg])
  have lt:∀h,Lf h (.int (opV f.v o)) (.int (opV f.v p))=some (.bl (decide (opV f.v o<opV f.v p))):=λh=>rfl
  have i0:∀h,aI h (aR N (.ifs o p k)) (.int 0)=some (.str "if"):=λh=>rfl
  have i1:∀h,aI h (aR N (.ifs o p k)) (.int 1)=some (jw N o):=λh=>rfl
  have i2:∀h,aI h (aR N (.ifs o p k)) (.int 2)=some (jw N p):=λh=>rfl
  have i3:∀h,aI h (aR N (.ifs o p k)) (.int 3)=some (.int (k:Int)):=λh=>rfl
  by_cases hc:opV f.v o<opV f.v p
  ·refine plain k rfl rfl (if_pos hc) ?_;have hd:=dX hc;rw[dv];simp only[↓aW,i0,i1,i2,i3,e1,e2,s1,n0,n1,lt,hd,a1,hE,nr,aB,ay]
  ·refine plain (f.r+1) rfl rfl (if_neg hc) ?_;have hd:=cz hc;rw[dv];simp only[↓aW,i0,i1,i2,i3,e1,e2,s1,n0,n1,lt,hd,a1,hE,nr,aB,ay]
 | go k =>
  refine plain k rfl rfl rfl ?_;rw[dv];simp only[↓aW,aR,e2,s1]
 | call j t as=>exact absurd rfl (ok.c _ _ _)
 | bj t=>exact absurd rfl (ok.g _)
end bA
set_option maxHeartbeats 4000000
namespace bA
open PySem L2 L2.U
theorem Ky{h:List ah}{a b:Int}:qO h (.int a) (.int b)=some (.bl (a==b)):=rfl
theorem fL{h:List ah}{i j:Int}(hj:0<j):cA h (.int i) (.int j)=some (.int (i%j)):=if_pos (dX hj)
theorem nh{h:List ah}{i j:Int}(hj:0<j/\j<1073741824):fM h (.int i) (.int j)=some (.int (i/j)):=if_pos (dX hj)
theorem Pz{h:List ah}{i j:Int}(hj:(-nS<i/\i<nS)\/(-nS<j/\j<nS)):kK h (.int i) (.int j)=some (.int (i*j)):=if_pos (.inl hj)
theorem Kz{n:Nat}(hn:n<=4000000):nV [.int n]=some ((List.range n).map λm:Nat=>.int (m:Int)):=by
 show(if NU 0 n=true then some (Fb 0 ((n:Int)).toNat)else none)=_
 rw[if_pos (by unfold NU;exact dX (by lia))]
 unfold Fb;simp
noncomputable def cp(n:Int):Nat:=97+(n%26).toNat
def lt(n:Int):Str:=⟨#[cp n]⟩
def strOf(l:List Nat):Str:=⟨l.toArray⟩
theorem sW{a b:List Nat}(h:strOf a=strOf b):a=b:=by
 have:a.toArray=b.toArray:=fT Str.cps h;simpa using this
theorem Ag(a b:List Nat):strOf a++strOf b=strOf (a++b):=by
 show Str.append _ _=_;unfold Str.append strOf;simp
theorem BQ:(Str.ofString "")=strOf []:=by decide +kernel
theorem BR(l:List Nat):(strOf l).length=l.length:=by
 unfold strOf Str.length;simp
theorem Ah:∀m:Fin 26,L2.qN (Str.ofString "abcdefghijklmnopqrstuvwxyz").cps.toList ((m:Nat):Int)=some (97+(m:Nat)):=by decide +kernel
theorem sX{h:List ah}{n:Int}:aI h (.str "abcdefghijklmnopqrstuvwxyz") (.int (n%26))=some (.str (lt n)):=by
 have h0:=et n (show(26:Int)≠0 by decide)
 have h1:=ix n (show(0:Int)<26 by decide)
 obtain⟨m,hm⟩:=Int.eq_ofNat_of_zero_le h0;have:=Ah ⟨m,by lia⟩
 show(if(Str.ofString "abcdefghijklmnopqrstuvwxyz").length<=gy then(L2.qN (Str.ofString "abcdefghijklmnopqrstuvwxyz").cps.toList (n%26)).map λc=>PV.str ⟨#[c]⟩else none)=_
 rw[if_pos (by decide +kernel),hm,this]
 show some (PV.str ⟨#[97+m]⟩)=some (PV.str ⟨#[cp n]⟩);unfold cp;rw[hm,iZ]
theorem PC{a b:Int}(h:cp a=cp b):a%26=b%26:=by
 unfold cp at h;have h0:=et a (show(26:Int)≠0 by decide)
 have h1:=et b (show(26:Int)≠0 by decide)
 lia
theorem Hu{l:List Nat}{n:Int}{h:List ah}(hl:l.length<=100):cY h (.str (strOf l)) (.str (lt n))=some (.str (strOf (l++[cp n]))):=by
 have e:cY h (.str (strOf l)) (.str (lt n))=U.sizeOk ((strOf l).length+(lt n).length) (.str (strOf l++lt n)):=rfl;rw[e,show lt n=strOf [cp n]from rfl,Ag,BR,BR]
 exact if_pos (show l.length+1<=gy by have:gy=4000000:=rfl;lia)
noncomputable abbrev PD:PV:=.str "abcdefghijklmnopqrstuvwxyz"
def PF(B:List Int)(a q i:Nat):Nat:=cp (B.getD i 0+(q:Int)*(if i=a then 1 else 0))
theorem nK(c:CT){x0 x1 x6:Option PV}{h0:List ah}(B:List Int)(a q:Nat)(hB:B.length<=50):∀(Vq pre:List Nat) (x8:Option PV),List.range B.length=pre++Vq->∃sY,fO (dc 8) (qo c) (Vq.map λn:Nat=>.int (n:Int)) ⟨[x0,x1,some PD,some (.int q),some (.lst (B.map .int)),some (.int a),x6,some (.str (strOf (pre.map (PF B a q)))),x8],h0⟩=some (.ok .nx,⟨[x0,x1,some PD,some (.int q),some (.lst (B.map .int)),some (.int a),x6,some (.str (strOf ((List.range B.length).map (PF B a q)))),sY],h0⟩)
 | [],pre,x8,e=>⟨x8,by rw[e,dE];rfl⟩
 | i::Vq,pre,x8,e=>by
  have hi:i<B.length:=tV.mp (by rw[e];simp)
  have hp:pre.length<=B.length:=by
   have:=fT List.length e;rw[mr,bX]at this
   lia
  obtain⟨sY,h⟩:=nK c (x0:=x0) (x1:=x1) (x6:=x6) (h0:=h0) B a q hB Vq (pre++[i]) (some (.int i)) (by rw[e];simp)
  simp only[fD,aQ,eu,PF]at h;refine⟨sY,?_⟩;have hb:∀h,aI h (.lst (B.map PV.int)) (.int (i:Int))=some (.int (B.getD i 0)):=λ_=>atI_nat (by rw[bB,j6,dW hi];rfl)
  have he:∀h,ET h [.bl ((i:Int)==(a:Int))]=some (.int (if i=a then 1 else 0)):=λh=>by
   by_cases hh:i=a
   ·rw[if_pos hh,hh,i5];rfl
   ·rw[if_neg hh,show((i:Int)==(a:Int))=false by rw[bI];lia];rfl
  have hm:∀h,kK h (.int (q:Int)) (.int (if i=a then 1 else 0))=some (.int ((q:Int)*(if i=a then 1 else 0))):=λh=>Pz (.inr (by split<;>decide))
  have hl:(pre.map (PF B a q)).length<=100:=by rw[aM];lia
  rw[aQ];refine bW ?_;simp only[↓iU,hb,he,hm,Ky,sX,Hu hl,h]
def vD(C:Int)(B:List Int)(a q:Nat):List Nat:=(List.range B.length).map (PF B a q)++(if C/49%2==1&&(q:Int)%2==1 then [cp (C/98)]else [])
theorem Dr(c:CT){x1:Option PV}{C:Int}(B:List Int)(a q:Nat)(hB:B.length<=50){F:List PV}(hF:F.length<=100)(x7 x8:Option PV):∃sY,kM c ⟨[some (.int C),x1,some PD,some (.int q),some (.lst (B.map .int)),some (.int a),some (.ref 0),x7,x8],[⟨.lst,F⟩]⟩=some (.ok .nx,⟨[some (.int C),x1,some PD,some (.int q),some (.lst (B.map .int)),some (.int a),some (.ref 0),some (.str (strOf (vD C B a q))),sY],[⟨.lst,F++[.str (strOf (vD C B a q))]⟩]⟩):=by
 obtain⟨sY,h⟩:=nK c (x0:=some (.int C)) (x1:=x1) (x6:=some (.ref 0)) (h0:=[⟨.lst,F⟩]) B a q hB (List.range B.length) [] x8 rfl;obtain⟨l,hl⟩:∃l,l=(List.range B.length).map (PF B a q):=⟨_,rfl⟩
 have ll:l.length<=100:=by rw[hl];simp;lia
 rw[<-hl]at h
 delta qo g8 at h
 refine⟨sY,?_⟩;have e1:fj [⟨.lst,F⟩] [.lst (B.map .int)]=some (.int (B.length:Nat)):=by show some (PV.int (((B.map PV.int).length:Nat):Int))=_;rw[aM]
 have e2:=Kz (n:=B.length) (by lia)
 have hF:=λρ v=>@qu ρ F v (aP hF (by decide))
 simp only[eu,<-BQ]at h;refine bW ?_;unfold vD;rw[<-hl];cases h1:C/49%2==1
 ·simp only[↓iU,h,e1,e2,Ky,h1,hF,Bool.false_and,iY,fF,dE]
 ·cases h2:(q:Int)%2==1
  ·simp only[↓iU,h,e1,e2,Ky,h1,h2,hF,mB,iY,fF,dE]
  ·simp only[↓iU,h,e1,e2,Ky,h1,h2,hF,mB,fU,sX,Hu ll]
theorem qJ(c:CT){x1:Option PV}{C:Int}(B:List Int)(a:Nat)(hB:B.length<=50):∀(qs:List Nat) (F:List PV) (x3 x7 x8:Option PV),F.length+qs.length<=100->∃x3' Vr sY,fO (dc 3) (kM c) (qs.map λn:Nat=>.int (n:Int)) ⟨[some (.int C),x1,some PD,x3,some (.lst (B.map .int)),some (.int a),some (.ref 0),x7,x8],[⟨.lst,F⟩]⟩=some (.ok .nx,⟨[some (.int C),x1,some PD,x3',some (.lst (B.map .int)),some (.int a),some (.ref 0),Vr,sY],[⟨.lst,F++qs.map λq=>.str (strOf (vD C B a q))⟩]⟩)
 | [],F,x3,x7,x8,_=>⟨x3,x7,x8,by simp;rfl⟩
 | q::qs,F,x3,x7,x8,hz=>by
  rw[cJ]at hz;obtain⟨y8,h⟩:=Dr c (x1:=x1) (C:=C) B a q hB (F:=F) (by lia) x7 x8
  obtain⟨z3,z7,z8,h2⟩:=qJ c (x1:=x1) (C:=C) B a hB qs (F++[.str (strOf (vD C B a q))]) (some (.int q)) (some (.str (strOf (vD C B a q)))) y8 (by simp;lia)
  refine⟨z3,z7,z8,?_⟩;rw[aQ,aQ,show F++PV.str (strOf (vD C B a q))::qs.map (λq=>PV.str (strOf (vD C B a q)))=F++[PV.str (strOf (vD C B a q))]++qs.map (λq=>PV.str (strOf (vD C B a q))) by simp]
  exact fC (s1:=⟨[some (.int C),x1,some PD,some (.int q),some (.lst (B.map .int)),some (.int a),some (.ref 0),x7,x8],[⟨.lst,F⟩]⟩) rfl h h2
theorem KA{C:Int}{B:List Int}{a q q':Nat}(hp:a<B.length)(h1:q<26)(h2:q'<26)(h:strOf (vD C B a q)=strOf (vD C B a q')):q=q':=by
 have h:=sW h;have at_:∀q:Nat,(vD C B a q)[a]?=some (cp (B.getD a 0+(q:Int))):=λq=>by
  unfold vD;rw[fy (by simp;lia),bB,ye hp]
  simp[PF]
 have e:=fT (λl=>l[a]?) h
 simp only[at_]at e;have:=PC (bJ e)
 lia
theorem PH{C:Int}{B:List Int}{a q:Nat}(h1:1<=B.length):strOf (vD C B a q)≠"":=λh=>by
 have h:strOf (vD C B a q)=strOf []:=h.trans BQ;have:=fT List.length (sW h);unfold vD at this;rw[bX,aM,mr]at this;have:B.length+_=0:=this
 lia
noncomputable def Z6(N:Nat->Str):List Str:=(List.range 6).map N
theorem KC(k:Nat)(C:Int):∃N:Nat->Str,(∀i j,i<6->j<6->N i=N j->i=j)/\(∀i,N i≠"")/\run aJ (k+1) "_law_names" [.int C,.int 6] []=some (.ok (.ref 0),[⟨.lst,(Z6 N).map .str⟩]):=by
 obtain⟨ln,HM⟩:∃ln:Nat,1+C%7=(ln:Int):=⟨(1+C%7).toNat,by lia⟩
 have Yn:1<=ln/\ln<=7:=by lia
 obtain⟨B,hB⟩:∃B:List Int,B=(List.range ln).map λi:Nat=>(C/7/((i:Int)*i+1)+5*(i:Int))%26:=⟨_,rfl⟩
 have Bl:B.length=ln:=by rw[hB];simp
 obtain⟨a,ha⟩:∃a:Nat,C/7%(ln:Int)=(a:Int):=⟨(C/7%(ln:Int)).toNat,(tF (et _ (by lia))).symm⟩
 have hal:a<B.length:=by
  have:=ix (C/7) (show(0:Int)<(ln:Int) by lia)
  lia
 obtain⟨x3,x7,x8,h⟩:=qJ (run aJ k) (x1:=some (.int 6)) (C:=C) B a (by lia) (List.range 6) [] none none none (by simp)
 refine⟨λq=>strOf (vD C B a q),λi j hi hj e=>KA hal (by lia) (by lia) e,λi=>PH (by lia),?_⟩
 have e1:=Kz (n:=ln) (by lia)
 have e2:∀i∈List.range ln,∀h,kK h (.int (i:Int)) (.int (i:Int))=some (.int ((i:Int)*i)):=λi hi h=>Pz (.inl (by have:=tV.mp hi;have:(nS:Int)=18446744073709551616:=rfl;lia))
 have e3:∀i∈List.range ln,∀h (a:Int),fM h (.int a) (.int ((i:Int)*i+1))=some (.int (a/((i:Int)*i+1))):=λi hi h a=>by
  have hi:=tV.mp hi;have i0:(0:Int)<=(i:Int)*i:=Int.mul_nonneg (by lia) (by lia)
  have i49:(i:Int)*i<=49:=by
   rcases i with _ | _ | _ | _ | _ | _ | _ | _<;>first | lia | decide
  exact nh (by lia)
 have e4:∀i∈List.range ln,∀h,kK h (.int 5) (.int (i:Int))=some (.int (5*(i:Int))):=λi hi h=>Pz (.inl (by decide))
 have e5:(List.range ln).length<=4000000:=by rw[mr];lia
 have e6:(List.range ln).map (λi:Nat=>PV.int ((C/7/((i:Int)*i+1)+5*(i:Int))%26))=B.map .int:=by rw[hB,mF];rfl
 have e7:∀h,cA h (.int (C/7)) (.int (ln:Int))=some (.int (a:Int)):=λh'=>by rw[fL (by lia),ha]
 have e8:∀(f:Nat->PV) h,fj h [.lst ((List.range ln).map f)]=some (.int (ln:Int)):=λf h'=>by show some (PV.int ((((List.range ln).map f).length:Nat):Int))=_;rw[aM,mr]
 have e9:nV [.int 6]=some ((List.range 6).map λm:Nat=>.int (m:Int)):=Kz (n:=6) (by decide)
 delta kM g8 at h
 rw[gO,<-e6]at h;rw[zN];simp only[↓aW,HM,e1,e2,e3,e4,e5,e7,e8,e9,h,aM];rfl
end bA
set_option maxHeartbeats 4000000
namespace bA
open PySem L2 L2.U
noncomputable def aS(N:Nat->Str)(z:Nat):Nm:=⟨N 0,N 1,N 2,λj=>N (3+j),z⟩
def gu(N:Nat->Str):PV:=.lst [.str (N 0),.str (N 1),.str (N 2),.str (N 3),.str (N 4),.str (N 5)]
theorem BS(c:Nat){N:Nat->Str}{z:Nat}(z1:1<=z)(k:Int):∃s,Pq (aS N z) s/\run aJ (c+1) "_law_spot" [gu N,.int (z:Int),.int k] []=some (.ok (gA (aS N z) s),[]):=by
 obtain⟨p,hp,hz⟩:∃p:Nat,k/4%(z:Int)=(p:Int)/\p<z:=⟨(k/4%(z:Int)).toNat,(tF (et _ (by lia))).symm,by have:=ix (k/4) (show(0:Int)<z by lia);have:=et (k/4) (show(z:Int)≠0 by lia);lia⟩
 have e1:∀h,cA h (.int (k/4)) (.int (z:Int))=some (.int (p:Int)):=λh=>by rw[fL (by lia),hp]
 have e4:∀h,fM h (.int k) (.int 4)=some (.int (k/4)):=λh=>nh (by decide)
 have e5:∀h,fM h (.int k) (.int 32)=some (.int (k/32)):=λh=>nh (by decide)
 obtain⟨a,ha,hi⟩:∃a,Pq (aS N z) (.i a)/\((k/32%3=0/\a=.at p)\/(k/32%3=1/\a=.a)\/(k/32%3=2/\a=.b)):=by
  rcases(by lia : k/32%3=0\/k/32%3=1\/k/32%3=2)with h | h | h
  ·exact⟨.at p,hz,.inl ⟨h,rfl⟩⟩
  ·exact⟨.a,trivial,.inr (.inl ⟨h,rfl⟩)⟩
  ·exact⟨.b,trivial,.inr (.inr ⟨h,rfl⟩)⟩
 have e2:∃i,k/32%3=i/\∀h,aI h (.lst [.int (p:Int),.str (N 0),.str (N 1)]) (.int i)=some (xJ (aS N z) a):=by
  rcases hi with⟨h,rfl⟩ | ⟨h,rfl⟩ | ⟨h,rfl⟩
  ·exact⟨_,h,λ_=>rfl⟩
  ·exact⟨_,h,λ_=>rfl⟩
  ·exact⟨_,h,λ_=>rfl⟩
 obtain⟨i,h2,e2⟩:=e2;have e6:∀h,cA h (.int (k/32)) (.int 3)=some (.int i):=λh=>by rw[fL (by decide),h2]
 have l3:∀a b d:PV,[a,b,d].length<=4000000:=λ_ _ _=>by simp
 have l4:∀a b d e:PV,[a,b,d,e].length<=4000000:=λ_ _ _ _=>by simp
 rw[C6];rcases(by lia : k%4=0\/k%4=1\/k%4=2\/k%4=3)with h | h | h | h
 all_goals have e3:∀g,cA g (.int k) (.int 4)=_:=λg=>by rw[fL (by decide),h]
 ·exact⟨.a,trivial,by simp only[↓aW,gu,e1,e2,e3,e4,e5,e6,l3,l4];rfl⟩
 ·exact⟨.b,trivial,by simp only[↓aW,gu,e1,e2,e3,e4,e5,e6,l3,l4];rfl⟩
 ·exact⟨.i a,ha,by simp only[↓aW,gu,e1,e2,e3,e4,e5,e6,l3,l4];rfl⟩
 ·exact⟨.n,trivial,by simp only[↓aW,gu,e1,e2,e3,e4,e5,e6,l3,l4];rfl⟩
theorem qK(c:Nat){N:Nat->Str}{z:Nat}(z1:1<=z)(k q:Int):∃o,xN (aS N z) o/\run aJ (c+2) "_law_operand" [gu N,.int (z:Int),.int k,.int q] []=some (.ok (jw (aS N z) o),[]):=by
 have e4:=λh=>GZ (h:=h)
 have e5:=λh x=>xu (h:=h) (x:=x)
 have e1:∀h,kK h (.int q) (.int 982451653)=some (.int (q*982451653)):=λh=>Pz (.inr (by decide))
 have e3:∀h,fM h (.int k) (.int 3)=some (.int (k/3)):=λh=>nh (by decide)
 have e6:∀h,fM h (.int k) (.int 6)=some (.int (k/6)):=λh=>nh (by decide)
 have m3:∀h x,cA h (.int x) (.int 3)=some (.int (x%3)):=λh x=>fL (by decide)
 have m2:∀h x,cA h (.int x) (.int 2)=some (.int (x%2)):=λh x=>fL (by decide)
 have m8:∀h x,cA h (.int x) (.int 8)=some (.int (x%8)):=λh x=>fL (by decide)
 have q0:∀h x,qO h (.int x) (.int 0)=some (.bl (x==0)):=λh x=>rfl
 obtain⟨s,hs,e7⟩:=BS c (N:=N) z1 (k/3);have nr:∀x y:Int,ai [gu N,.int x,.int y]=true:=λ_ _=>rfl
 rw[u6];cases h1:k%3==0
 ·refine⟨.sp s,?_,by simp only[↓aW,e1,e3,e4,e5,e6,m3,m2,m8,q0,h1,e7,nr,Bool.false_and,cq,bY];rfl⟩
  cases s
  case i i=>cases i<;>exact hs
  all_goals first | trivial | exact hs
 ·cases h2:k/3%2==0
  ·exact⟨.num _,m6 _,by simp only[↓aW,e1,e3,e4,e5,e6,m3,m2,m8,q0,h1,h2,mB,iY,fF];rfl⟩
  ·refine⟨.num (k/6%8),?_,by simp only[↓aW,e1,e3,e4,e5,e6,m3,m2,m8,q0,h1,h2,mB];rfl⟩
   exact⟨et _ (by decide),Int.lt_trans (ix _ (by decide)) (by decide +kernel)⟩
end bA
set_option maxHeartbeats 4000000
namespace bA
open PySem L2 L2.U
def Ai(h:List ah)(N:Nm)(P:List Fd):Nat->List Nat->List Fr->Prop
 | _,[],[]=>True
 | b,n::ns,f::fs=>((n=1\/5<=n)/\n+1<b/\(n+1<3\/5<=n))/\(∃F,P[f.j]?=some F/\h[n]?=some (bV (g9 N F.w f.v))/\h[n+1]?=some ⟨.lst,[.int (f.j:Int),.int (f.r:Int),.ref n]⟩)/\Ai h N P n ns fs
 | _,_,_=>False
theorem Ai.ch{h h':List ah}{N:Nm}{P:List Fd}{A:List Nat}(c:Ch h h' A):∀{ns:List Nat} {fs:List Fr} {b:Nat},(∀a∈A,a=0\/a=3\/a=4\/b<=a)->Ai h N P b ns fs->Ai h' N P b ns fs
 | [],[],_,_,_=>trivial
 | n::ns,f::fs,b,hA,⟨h1,⟨F,h2,h3,h5⟩,h4⟩=>⟨h1,⟨F,h2,c.get h3 λa=>by have:=hA _ a;lia,c.get h5 λa=>by have:=hA _ a;lia⟩,h4.ch c λa ha=>by have:=hA a ha;lia⟩
 | [],_::_,_,_,h=>h.elim
 | _::_,[],_,_,h=>h.elim
theorem Ai.len{h:List ah}{N:Nm}{P:List Fd}:∀{ns:List Nat} {fs:List Fr} {b:Nat},Ai h N P b ns fs->ns.length=fs.length
 | [],[],_,_=>rfl
 | n::ns,f::fs,b,⟨_,_,h4⟩=>by simp[h4.len]
 | [],_::_,_,h=>h.elim
 | _::_,[],_,h=>h.elim
noncomputable def eL(ns:List Nat):List PV:=ns.reverse.map λn=>.ref (n+1)
theorem dz(n:Nat)(ns:List Nat):eL (n::ns)=eL ns++[.ref (n+1)]:=by simp[eL]
structure nj (h:List ah) (N:Nm) (P:List Fd) (ns:List Nat) (fs:List Fr) (sd:List Int):Prop where
 nu:h[0]?=some ⟨.eV false (P.map λF=>bz F.f),(List.range P.length).map fun(i:Nat)=>.int (i:Int)⟩
 fl:h[3]?=some ⟨.lst,eL ns⟩
 sd:h[4]?=some ⟨.lst,sd.map .int⟩
 st:Ai h N P h.length ns fs
end bA
set_option maxHeartbeats 4000000
namespace bA
open PySem L2 L2.U
structure vx (h:List ah) (N:Nm) (P:List Fd) (n:Nat) (ns:List Nat) (f:Fr) (fs:List Fr) (sd:List Int) (F:Fd) (r:Rw):Prop where
 H:nj h N P (n::ns) (f::fs) sd
 e:P[f.j]?=some F
 r:F.rows[f.r]?=some r
 d:h[n]?=some (bV (g9 N F.w f.v))
 l:h[n+1]?=some ⟨.lst,[.int (f.j:Int),.int (f.r:Int),.ref n]⟩
theorem vx.of{h:List ah}{N:Nm}{P:List Fd}{n:Nat}{ns:List Nat}{f:Fr}{fs:List Fr}{sd:List Int}{r:Rw}(H:nj h N P (n::ns) (f::fs) sd)(hr:dQ P f=some r):∃F,vx h N P n ns f fs sd F r:=by
 obtain⟨_,⟨F,h1,h2,h3⟩,_⟩:=H.st;refine⟨F,H,h1,?_,h2,h3⟩;unfold dQ at hr;rw[h1]at hr;exact hr
theorem rA{N:Nm}{P:List Fd}{j:Nat}{F:Fd}(hF:P[j]?=some F):∀h,aI h (.aj (P.map (fdP N))) (.int (j:Int))=some (fdP N F):=λh=>atI_nat (by rw[bB,hF];rfl)
theorem Ds{N:Nm}{F:Fd}{k:Nat}{r:Rw}(hr:F.rows[k]?=some r):∀h,aI h (.aj (F.rows.map (aR N))) (.int (k:Int))=some (aR N r):=λh=>atI_nat (by rw[bB,hr];rfl)
theorem KD(c:Nat){N:Nm}(K:aT N){P:List Fd}{h:List ah}{n:Nat}{ns:List Nat}{f:Fr}{fs:List Fr}{sd:List Int}{F:Fd}{r:Rw}(T:vx h N P n ns f fs sd F r)
  (hz:f.v.s.length=N.z) (ok:sU N f.v r) (LR:sd.length<=4000) {x1 x2 x4 x7 x8 x9 x10:Option PV} :
  ∃h',bO (run aJ (c+3)) ⟨[some (.aj (P.map (fdP N))),x1,x2,some (.ref 0),x4,some (.ref 3),some (.ref 4),x7,x8,x9,x10],h⟩=some (.ok .nx,⟨[some (.aj (P.map (fdP N))),x1,x2,some (.ref 0),x4,some (.ref 3),some (.ref 4),x7,some (.ref (n+1)),some (aR N r),x10],h'⟩)/\nj h' N P (n::ns) (⟨f.j,n8 f.v f.r r,vR N f.v r⟩::fs) (sd++vv f.v r):=by
 have⟨⟨PJ,Yo,Yp⟩,_,S⟩:=T.H.st;obtain⟨h',o1,o2,o3,o4,o5⟩:=Dq c K T.d T.l T.H.sd (by lia) hz ok LR
 have fl:h[3]?=some ⟨.lst,eL ns++[.ref (n+1)]⟩:=by have:=T.H.fl;rw[dz]at this;exact this
 have e1:=dD fl;have e2:aI h (.ref (n+1)) (.int 0)=some (.int (f.j:Int)):=gB T.l 0 rfl;have e3:aI h (.ref (n+1)) (.int 1)=some (.int (f.r:Int)):=gB T.l 1 rfl;have e4:=rA (N:=N) T.e;have e5:∀h,aI h (fdP N F) (.int 4)=some (.aj (F.rows.map (aR N))):=λh=>rfl
 have e6:=Ds (N:=N) T.r;have e7:=λh=>qx (h:=h) N r
 have w1:(sQ r=="call")=false:=by
  cases r
  case call j t as=>exact absurd rfl (ok.c _ _ _)
  all_goals rfl
 have w2:(sQ r=="give")=false:=by
  cases r
  case bj t=>exact absurd rfl (ok.g _)
  all_goals rfl
 have q:∀(h:List ah) (x y:Str),qO h (.str x) (.str y)=some (.bl (x==y)):=λh x y=>rfl
 have hE:h.isEmpty=false:=hne T.d;have nr:∀l,ai (.ref (n+1)::l)=false:=jQ _
 refine⟨h',?_,⟨?_,?_,o4,?_⟩⟩
 ·refine bW ?_
  delta bO g8
  simp only[↓iU,e1,e2,e3,e4,e5,e6,e7,w1,w2,q,o1,hE,nr,aB,ay]
 ·exact o5.get T.H.nu (by simp;lia)
 ·exact o5.get T.H.fl (by simp;lia)
 ·refine⟨⟨PJ,bM Yo o5.le,Yp⟩,⟨F,T.e,o2,o3⟩,S.ch o5 ?_⟩;intro a ha;simp at ha
  lia
end bA
set_option maxHeartbeats 4000000
namespace bA
open PySem L2 L2.U
theorem PK(c:Nat){N:Nm}(K:aT N){P:List Fd}(W:Hd N P){h:List ah}{n:Nat}{ns:List Nat}{f:Fr}{fs:List Fr}{sd:List Int}{F:Fd}{j:Nat}{t:Option N3}{as:List N3}(T:vx h N P n ns f fs sd F (.call j t as))
  {G:Fd} (hG:P[j]?=some G) (hc:gZ G.w as) (hl:fs.length<11) {x1 x2 x4 x7 x8 x9 x10:Option PV} :
  ∃h',bO (run aJ (c+3)) ⟨[some (.aj (P.map (fdP N))),x1,x2,some (.ref 0),x4,some (.ref 3),some (.ref 4),x7,x8,x9,x10],h⟩=some (.ok .nx,⟨[some (.aj (P.map (fdP N))),x1,x2,some (.ref 0),some (.int (j:Int)),some (.ref 3),some (.ref 4),x7,some (.ref (n+1)),some (aR N (.call j t as)),x10],h'⟩)/\nj h' N P (h.length::n::ns) (⟨j,0,dP N f.v G.w as⟩::f::fs) sd:=by
 have⟨⟨PJ,Yo,Yp⟩,_,S⟩:=T.H.st;have fl:h[3]?=some ⟨.lst,eL ns++[.ref (n+1)]⟩:=by have:=T.H.fl;rw[dz]at this;exact this
 have sl:=S.len;have e1:=dD fl;have e2:aI h (.ref (n+1)) (.int 0)=some (.int (f.j:Int)):=gB T.l 0 rfl;have e3:aI h (.ref (n+1)) (.int 1)=some (.int (f.r:Int)):=gB T.l 1 rfl;have Ow:aI h (.ref (n+1)) (.int 2)=some (.ref n):=gB T.l 2 rfl;have e4:=rA (N:=N) T.e;have G6:=rA (N:=N) hG;have e5:∀h,aI h (fdP N F) (.int 4)=some (.aj (F.rows.map (aR N))):=λh=>rfl
 have e6:=Ds (N:=N) T.r;have e7:∀h,aI h (aR N (.call j t as)) (.int 0)=some (.str "call"):=λh=>rfl
 have e8:∀h,aI h (aR N (.call j t as)) (.int 2)=some (.str (N.f j)):=λh=>rfl
 have e9:fj h [.ref 3]=some (.int ((fs.length+1:Nat):Int)):=by
  rw[qH fl];simp[eL,sl]
 have b9:(((fs.length+1:Nat):Int)==12)=false:=bI.mpr (by lia)
 have q:∀(h:List ah) (x y:Int),qO h (.int x) (.int y)=some (.bl (x==y)):=λh x y=>rfl
 have nu:aI h (.ref 0) (.str (N.f j))=some (.int (j:Int)):=by
  have d:=ak T.H.nu rfl;simp only[aI,d];exact BK K W hG
 have hE:h.isEmpty=false:=hne T.d;have l1:∀a:PV,[a].length<=4000000:=λ_=>by simp
 have l2:∀a b:PV,[a,b].length<=4000000:=λ_ _=>by simp
 obtain⟨V,hV⟩:∃V,dP N f.v G.w as=V:=⟨_,rfl⟩
 rw[hV];have Qk:∀d:ah,(h++[d]).length=h.length+1:=λd=>by simp
 have d3:=λL=>ak (bS (g:=L) fl) rfl
 have KH:=ak fl rfl;have ap:∀ρ v,ie (fH iC) (.ref 3) [v] ⟨ρ,h++[bV (g9 N G.w V)]++[⟨.lst,[.int (j:Int),.int 0,.ref h.length]⟩]⟩=some (.ok .az,⟨ρ,h.set 3 ⟨.lst,(eL ns++[.ref (n+1)])++[v]⟩++[bV (g9 N G.w V),⟨.lst,[.int (j:Int),.int 0,.ref h.length]⟩]⟩):=λρ v=>by
  rw[ej];exact zS (L:=[bV (g9 N G.w V),⟨.lst,[.int (j:Int),.int 0,.ref h.length]⟩]) fl (by simp[eL];lia)
 have n1:=dz h.length (n::ns);have ka:aI h (.ref n) (.str (N.n .a))=some (.int f.v.a):=j4 K T.d .a;have kb:aI h (.ref n) (.str (N.n .b))=some (.int f.v.b):=j4 K T.d .b;have kc:aI h (.ref n) (.str (N.n .c))=some (BP f.v):=j4 K T.d .c;refine⟨h.set 3 ⟨.lst,(eL ns++[.ref (n+1)])++[.ref (h.length+1)]⟩++[bV (g9 N G.w V),⟨.lst,[.int (j:Int),.int 0,.ref h.length]⟩],?_,?_⟩
 ·have Z7:=λhv hf=>xD (c+2) K (F:=G) (h:=h) (V:=V) hv hf
  rcases hc with⟨hw,x,hx,rfl⟩ | ⟨hw,x,hx,rfl⟩
  ·have bg:run aJ (c+3) "_law_begin" [fdP N G,.lst [.int V.a]] h=some (.ok (.ref h.length),h++[bV (g9 N G.w V)]):=by
    have:=Z7 (by rw[<-hV];unfold dP;rw[hw];rfl) (λ_=>by rw[<-hV];unfold dP;rw[hw];exact⟨rfl,rfl⟩)
    rw[hw]at this;rw[hw];exact this
   have va:V.a=gr f.v x:=by rw[<-hV,hw];rfl
   rw[va]at bg;cases x with
   | c=>exact absurd rfl hx
   | a =>
    have bg:run aJ (c+3) "_law_begin" [fdP N G,.lst ((some (.int f.v.a)).toList++[])] h=some (.ok (.ref h.length),h++[bV (g9 N G.w V)]):=bg;have i3:∀h,aI h (aR N (.call j t [.a])) (.int 3)=some (.aj [.str (N.n .a)]):=λh=>rfl
    refine bW ?_
    delta bO g8
    simp only[↓iU,e1,e2,e3,Ow,e4,G6,e5,e6,e7,e8,e9,b9,q,nu,hE,l1,ka,kb,kc,i3,bg,Qk,d3,KH,ap,aB,ay]
   | b =>
    have bg:run aJ (c+3) "_law_begin" [fdP N G,.lst ((some (.int f.v.b)).toList++[])] h=some (.ok (.ref h.length),h++[bV (g9 N G.w V)]):=bg;have i3:∀h,aI h (aR N (.call j t [.b])) (.int 3)=some (.aj [.str (N.n .b)]):=λh=>rfl
    refine bW ?_
    delta bO g8
    simp only[↓iU,e1,e2,e3,Ow,e4,G6,e5,e6,e7,e8,e9,b9,q,nu,hE,l1,ka,kb,kc,i3,bg,Qk,d3,KH,ap,aB,ay]
  ·have bg:run aJ (c+3) "_law_begin" [fdP N G,.lst [.int V.a,BP V]] h=some (.ok (.ref h.length),h++[bV (g9 N G.w V)]):=by
    have:=Z7 (by rw[<-hV];unfold dP;rw[hw];rfl) (λz=>by rw[hw]at z;cases z)
    rw[hw]at this;rw[hw];exact this
   have va:V.a=gr f.v x:=by rw[<-hV,hw];rfl
   have vt:BP V=BP f.v:=by rw[<-hV,hw];rfl
   rw[va,vt]at bg;cases x with
   | c=>exact absurd rfl hx
   | a =>
    have bg:run aJ (c+3) "_law_begin" [fdP N G,.lst ((some (.int f.v.a)).toList++((some (BP f.v)).toList++[]))] h=some (.ok (.ref h.length),h++[bV (g9 N G.w V)]):=bg;have i3:∀h,aI h (aR N (.call j t [.a,.c])) (.int 3)=some (.aj [.str (N.n .a),.str (N.n .c)]):=λh=>rfl
    refine bW ?_
    delta bO g8
    simp only[↓iU,e1,e2,e3,Ow,e4,G6,e5,e6,e7,e8,e9,b9,q,nu,hE,l2,ka,kb,kc,i3,bg,Qk,d3,KH,ap,aB,ay]
   | b =>
    have bg:run aJ (c+3) "_law_begin" [fdP N G,.lst ((some (.int f.v.b)).toList++((some (BP f.v)).toList++[]))] h=some (.ok (.ref h.length),h++[bV (g9 N G.w V)]):=bg;have i3:∀h,aI h (aR N (.call j t [.b,.c])) (.int 3)=some (.aj [.str (N.n .b),.str (N.n .c)]):=λh=>rfl
    refine bW ?_
    delta bO g8
    simp only[↓iU,e1,e2,e3,Ow,e4,G6,e5,e6,e7,e8,e9,b9,q,nu,hE,l2,ka,kb,kc,i3,bg,Qk,d3,KH,ap,aB,ay]
 ·have h0:5<=h.length:=kN T.H.sd;have C:Ch h (h.set 3 ⟨.lst,(eL ns++[.ref (n+1)])++[.ref (h.length+1)]⟩++[bV (g9 N G.w V),⟨.lst,[.int (j:Int),.int 0,.ref h.length]⟩]) [3]:=Ch.tr (Ch.set _) (Ch.app _ _ []) (by simp)
  refine⟨C.get T.H.nu (by simp),?_,C.get T.H.sd (by simp),⟨⟨.inr h0,by simp,.inr h0⟩,⟨G,hG,by simp,?_⟩,?_⟩⟩
  ·rw[fy (by simp;lia),cC fl,dz,dz]
  ·rw[iw (by simp)]
   simp
  ·exact(T.H.st.ch C (by simp))
end bA
set_option maxHeartbeats 4000000
namespace bA
open PySem L2 L2.U
theorem PL(c:Nat){N:Nm}{P:List Fd}{h:List ah}{n:Nat}{f:Fr}{sd:List Int}{F:Fd}{t:Option N3}(T:vx h N P n [] f [] sd F (.bj t)){x1 x2 x4 x8 x9 x10:Option PV}{cnt:Nat} :
  ∃h' ρ,bO (run aJ (c+3)) ⟨[some (.aj (P.map (fdP N))),x1,x2,some (.ref 0),x4,some (.ref 3),some (.ref 4),some (.int (cnt:Int)),x8,x9,x10],h⟩=some (.ok (.rt (.aj [.str "done",.ref 4,.int ((cnt+1:Nat):Int)])),⟨ρ,h'⟩)/\h'[4]?=some ⟨.lst,sd.map .int⟩:=by
 have fl:h[3]?=some ⟨.lst,[]++[.ref (n+1)]⟩:=T.H.fl;have e1:=dD fl;have e2:aI h (.ref (n+1)) (.int 0)=some (.int (f.j:Int)):=gB T.l 0 rfl;have e3:aI h (.ref (n+1)) (.int 1)=some (.int (f.r:Int)):=gB T.l 1 rfl;have e4:=rA (N:=N) T.e;have e5:∀h,aI h (fdP N F) (.int 4)=some (.aj (F.rows.map (aR N))):=λh=>rfl
 have e6:=Ds (N:=N) T.r;have e7:∀h,aI h (aR N (.bj t)) (.int 0)=some (.str "give"):=λh=>rfl
 have KH:=ak fl rfl;have pp:=λρ=>pop_at (ρ:=ρ) fl
 obtain⟨h1,hh⟩:∃h1,h1=h.set 3 ⟨.lst,[]⟩:=⟨_,rfl⟩
 have g3:h1[3]?=some ⟨.lst,[]⟩:=by rw[hh,cC fl]
 rw[<-hh]at pp;have ln:fj h1 [.ref 3]=some (.int 0):=qH g3;have ad:∀h,cY h (.int (cnt:Int)) (.int 1)=some (.int ((cnt+1:Nat):Int)):=λh=>rfl
 refine⟨h1,?_⟩;refine⟨[some (.aj (P.map (fdP N))),x1,x2,some (.ref 0),x4,some (.ref 3),some (.ref 4),some (.int (cnt:Int)),some (.ref (n+1)),some (aR N (.bj t)),x10],?_,by rw[hh,aL (by decide)];exact T.H.sd⟩
 refine bW ?_
 delta bO g8
 simp only[↓iU,e1,e2,e3,e4,e5,e6,e7,KH,pp,ln,ad]
theorem PM(c:Nat){N:Nm}(K:aT N){P:List Fd}{h:List ah}{n m:Nat}{ms:List Nat}{f g:Fr}{gs:List Fr}{sd:List Int}{F G:Fd}{t u:Option N3}{j:Nat}{as:List N3}(T:vx h N P n (m::ms) f (g::gs) sd F (.bj t))
  (hG:P[g.j]?=some G) (hr:G.rows[g.r]?=some (.call j u as)) (hk:gJ u t) {x1 x2 x4 x7 x8 x9 x10:Option PV} :
  ∃h',bO (run aJ (c+3)) ⟨[some (.aj (P.map (fdP N))),x1,x2,some (.ref 0),x4,some (.ref 3),some (.ref 4),x7,x8,x9,x10],h⟩=some (.ok .nx,⟨[some (.aj (P.map (fdP N))),x1,x2,some (.ref 0),x4,some (.ref 3),some (.ref 4),x7,some (.ref (n+1)),some (aR N (.bj t)),some (.str (Bw N u))],h'⟩)/\nj h' N P (m::ms) (Hh g f.v t u::gs) sd:=by
 obtain⟨⟨PJ,Yo,Yp⟩,_,⟨⟨hm1,hmb,hm5⟩,⟨G',Z8,D,E⟩,S⟩⟩:=T.H.st;rw[hG]at Z8;cases Z8;have fl:h[3]?=some ⟨.lst,eL (m::ms)++[.ref (n+1)]⟩:=by have:=T.H.fl;rw[dz]at this;exact this
 have e1:=dD fl;have e2:aI h (.ref (n+1)) (.int 0)=some (.int (f.j:Int)):=gB T.l 0 rfl;have e3:aI h (.ref (n+1)) (.int 1)=some (.int (f.r:Int)):=gB T.l 1 rfl;have e4:=rA (N:=N) T.e;have f4:=rA (N:=N) hG;have e5:∀F h,aI h (fdP N F) (.int 4)=some (.aj (F.rows.map (aR N))):=λF h=>rfl
 have e6:=Ds (N:=N) T.r;have f6:=Ds (N:=N) hr;have e7:∀h,aI h (aR N (.bj t)) (.int 0)=some (.str "give"):=λh=>rfl
 have e8:∀h,aI h (aR N (.bj t)) (.int 1)=some (.str (Bw N t)):=λh=>rfl
 have f7:∀h,aI h (aR N (.call j u as)) (.int 1)=some (.str (Bw N u)):=λh=>rfl
 have KH:=ak fl rfl;have pp:=λρ=>pop_at (ρ:=ρ) fl
 obtain⟨h1,hh⟩:∃h1,h1=h.set 3 ⟨.lst,eL (m::ms)⟩:=⟨_,rfl⟩
 rw[<-hh]at pp;have g3:h1[3]?=some ⟨.lst,eL (m::ms)⟩:=by rw[hh,cC fl]
 have ln:fj h1 [.ref 3]=some (.int ((ms.length+1:Nat):Int)):=by
  rw[qH g3];simp[eL]
 have q:∀h,qO h (.int ((ms.length+1:Nat):Int)) (.int 0)=some (.bl false):=λh=>by
  show some (PV.bl (((ms.length+1:Nat):Int)==0))=_;rw[bI.mpr (by lia)]
 have gE:h1[m+1]?=some ⟨.lst,[.int (g.j:Int),.int (g.r:Int),.ref m]⟩:=by rw[hh,aL (by lia),E]
 have gD:h1[m]?=some (bV (g9 N G.w g.v)):=by rw[hh,aL (by lia),D]
 have gd:h1[n]?=some (bV (g9 N F.w f.v)):=by rw[hh,aL (by lia),T.d]
 have gl:h1[n+1]?=some ⟨.lst,[.int (f.j:Int),.int (f.r:Int),.ref n]⟩:=by rw[hh,aL (by lia),T.l]
 have Vj:h1[3]?=some ⟨.lst,eL ms++[.ref (m+1)]⟩:=by rw[g3,dz]
 have a1:=dD Vj;have a2:aI h1 (.ref (m+1)) (.int 0)=some (.int (g.j:Int)):=gB gE 0 rfl;have a3:aI h1 (.ref (m+1)) (.int 1)=some (.int (g.r:Int)):=gB gE 1 rfl;have a4:aI h1 (.ref (m+1)) (.int 2)=some (.ref m):=gB gE 2 rfl;have a5:aI h1 (.ref (n+1)) (.int 2)=some (.ref n):=gB gl 2 rfl;have s1:=λρ v=>kU (ρ:=ρ) (v:=v) gE
 have ad:∀h,cY h (.int (g.r:Int)) (.int 1)=some (.int ((g.r+1:Nat):Int)):=λh=>rfl
 have C1:Ch h h1 [3]:=by rw[hh];exact Ch.set _
 have hJ:∀h2,Ch h1 h2 [m,m+1]->h2[m]?=some (bV (g9 N G.w (Hh g f.v t u).v))->h2[m+1]?=some ⟨.lst,[.int (g.j:Int),.int ((g.r+1:Nat):Int),.ref m]⟩->nj h2 N P (m::ms) (Hh g f.v t u::gs) sd:=λh2 C y1 y2=>by
  have C2:Ch h h2 [3,m,m+1]:=Ch.tr (C1.mono (by simp)) C (by simp)
  exact⟨C2.get T.H.nu (by simp;lia),C.get g3 (by simp;lia),C2.get T.H.sd (by simp;lia),⟨⟨hm1,by have:=C2.le;lia,hm5⟩,⟨G,hG,y1,y2⟩,S.ch C2 (by simp)⟩⟩
 have b0:∀x:N3,(N.n x != "")=true:=λx=>by
  rw[bne_iff_ne];cases x
  ·exact K.a0
  ·exact K.b0
  ·exact K.c0
 cases u with
 | none =>
  cases t with
  | some y=>exact absurd hk id
  | none =>
   refine⟨h1.set (m+1) ⟨.lst,[.int (g.j:Int),.int ((g.r+1:Nat):Int),.ref m]⟩,?_,hJ _ ((Ch.set _).mono (by simp)) (by rw[aL (by lia),gD];rfl) (cC gE)⟩
   have f7:∀h,aI h (aR N (.call j none as)) (.int 1)=some (.str ""):=f7
   refine bW ?_
   delta bO g8
   simp only[↓iU,e1,e2,e3,e4,e5,e6,e7,e8,f4,f6,f7,KH,pp,ln,ad,q,a1,a2,a3,a4,a5,s1];rfl
 | some x =>
  cases t with
  | none=>exact absurd hk id
  | some y =>
   have hk:l8 x y:=hk;have e8:∀h,aI h (aR N (.bj (some y))) (.int 1)=some (.str (N.n y)):=e8
   have f7:∀h,aI h (aR N (.call j (some x) as)) (.int 1)=some (.str (N.n x)):=f7
   have ne:∀h,Qh h (.str (N.n x)) (.str "")=some (.bl true):=λh=>by
    show some (PV.bl (N.n x != ""))=_;rw[b0]
   have k1:aI h1 (.ref n) (.str (N.n y))=some (oh (LX g.v f.v y x) x):=by
    rw[j4 K gd y];unfold l8 at hk;cases x<;>cases y<;>simp at hk<;>rfl
   have st:=λρ=>nc K (w:=G.w) gD (V':=LX g.v f.v y x) x (ρ:=ρ) (λz hz=>by
    cases x<;>cases z<;>first | rfl | exact absurd rfl hz)
   obtain⟨h2,Dl⟩:∃h2,h2=h1.set m (bV (g9 N G.w (LX g.v f.v y x))):=⟨_,rfl⟩
   rw[<-Dl]at st;have Yq:h2[m+1]?=some ⟨.lst,[.int (g.j:Int),.int (g.r:Int),.ref m]⟩:=by rw[Dl,aL (by lia),gE]
   have g32:h2[3]?=some ⟨.lst,eL ms++[.ref (m+1)]⟩:=by rw[Dl,aL (by lia),Vj]
   have c1:=dD g32;have c3:aI h2 (.ref (m+1)) (.int 1)=some (.int (g.r:Int)):=gB Yq 1 rfl;have s2:=λρ v=>kU (ρ:=ρ) (v:=v) Yq
   refine⟨h2.set (m+1) ⟨.lst,[.int (g.j:Int),.int ((g.r+1:Nat):Int),.ref m]⟩,?_,hJ _ ?_ ?_ (cC Yq)⟩
   ·refine bW ?_
    delta bO g8
    simp only[↓iU,e1,e2,e3,e4,e5,e6,e7,e8,f4,f6,f7,KH,pp,ln,ad,q,a1,a2,a3,a4,a5,ne,k1,st,c1,c3,s2];rfl
   ·rw[Dl];exact Ch.tr ((Ch.set _).mono (by simp)) (Ch.set _) (by simp)
   ·rw[aL (by lia),Dl,cC gD]
    rfl
end bA
set_option maxHeartbeats 4000000
namespace bA
open PySem L2 L2.U
theorem Z9{g:Tg}{b:Gx dJ}{p v:PV}{ps:List PV}{s s1 s2:cb}(h0:g p s=some s1)(h1:b s1=some (.ok (.rt v),s2)):fO g b (p::ps) s=some (.ok (.rt v),s2):=by
 exact eB (show stp (g p) s=some (.ok .nx,s1)from T7 h0) (eB h1 rfl)
theorem PN(c:Nat){N:Nm}{P:List Fd}{h:List ah}{n:Nat}{ns:List Nat}{f:Fr}{fs:List Fr}{sd:List Int}{F:Fd}{j:Nat}{t:Option N3}{as:List N3}(T:vx h N P n ns f fs sd F (.call j t as))
  (hl:fs.length=11) {x1 x2 x4 x8 x9 x10:Option PV} {cnt:Nat} :
  bO (run aJ (c+3)) ⟨[some (.aj (P.map (fdP N))),x1,x2,some (.ref 0),x4,some (.ref 3),some (.ref 4),some (.int (cnt:Int)),x8,x9,x10],h⟩=some (.ok (.rt (.aj [.str "deep",.ref 4,.int (cnt:Int)])),⟨[some (.aj (P.map (fdP N))),x1,x2,some (.ref 0),x4,some (.ref 3),some (.ref 4),some (.int (cnt:Int)),some (.ref (n+1)),some (aR N (.call j t as)),x10],h⟩):=by
 have fl:h[3]?=some ⟨.lst,eL ns++[.ref (n+1)]⟩:=by have:=T.H.fl;rw[dz]at this;exact this
 have S:=T.H.st.2.2;have e1:=dD fl;have e2:aI h (.ref (n+1)) (.int 0)=some (.int (f.j:Int)):=gB T.l 0 rfl;have e3:aI h (.ref (n+1)) (.int 1)=some (.int (f.r:Int)):=gB T.l 1 rfl;have e4:=rA (N:=N) T.e;have e5:∀h,aI h (fdP N F) (.int 4)=some (.aj (F.rows.map (aR N))):=λh=>rfl
 have e6:=Ds (N:=N) T.r;have e7:∀h,aI h (aR N (.call j t as)) (.int 0)=some (.str "call"):=λh=>rfl
 have e9:fj h [.ref 3]=some (.int 12):=by
  rw[qH fl];simp[eL,S.len,hl]
 refine bW ?_
 delta bO g8
 simp only[↓iU,e1,e2,e3,e4,e5,e6,e7,e9]
theorem PQ(c:Nat){N:Nm}(K:aT N){P:List Fd}(W:jP N P){h:List ah}{n:Nat}{ns:List Nat}{f:Fr}{fs:List Fr}{sd:List Int}{r:Rw}
  (H:nj h N P (n::ns) (f::fs) sd) (O:gK N P none (f::fs)) (hr:dQ P f=some r) (hl:fs.length<=11) (LR:sd.length<=4000) (hd:¬(fs.length=11/\∃j t as,r=.call j t as)) (hn:(cV N P f fs sd r).1≠[]) {x1 x2 x4 x7 x8 x9 x10:Option PV} :
  ∃h' Bo LL sY Qv Dt,bO (run aJ (c+3)) ⟨[some (.aj (P.map (fdP N))),x1,x2,some (.ref 0),x4,some (.ref 3),some (.ref 4),x7,x8,x9,x10],h⟩=some (.ok .nx,⟨[some (.aj (P.map (fdP N))),x1,x2,some (.ref 0),LL,some (.ref 3),some (.ref 4),x7,sY,Qv,Dt],h'⟩)/\nj h' N P Bo (cV N P f fs sd r).1 (cV N P f fs sd r).2:=by
 obtain⟨F,T⟩:=vx.of H hr;have Qt:=cP T.e;have Kt:=W.r F Qt r (cP T.r);have v:=O.1;have iu:(∀t,r≠.bj t)->(∀j t as,r≠.call j t as)->cV N P f fs sd r=(⟨f.j,n8 f.v f.r r,vR N f.v r⟩::fs,sd++vv f.v r)->∃h' Bo LL sY Qv Dt,bO (run aJ (c+3)) ⟨[some (.aj (P.map (fdP N))),x1,x2,some (.ref 0),x4,some (.ref 3),some (.ref 4),x7,x8,x9,x10],h⟩=some (.ok .nx,⟨[some (.aj (P.map (fdP N))),x1,x2,some (.ref 0),LL,some (.ref 3),some (.ref 4),x7,sY,Qv,Dt],h'⟩)/\nj h' N P Bo (cV N P f fs sd r).1 (cV N P f fs sd r).2:=λg1 g2 e=>by
  obtain⟨h',e1,e2⟩:=KD c K T v.z (LY K v Kt g1 g2) LR (x1:=x1) (x2:=x2) (x4:=x4) (x7:=x7) (x8:=x8) (x9:=x9) (x10:=x10);rw[e];exact⟨h',_,_,_,_,_,e1,e2⟩
 cases r with
 | put s o=>exact iu (by simp) (by simp) rfl
 | fill o=>exact iu (by simp) (by simp) rfl
 | set s g o p=>exact iu (by simp) (by simp) rfl
 | iG o=>exact iu (by simp) (by simp) rfl
 | ifs o p k=>exact iu (by simp) (by simp) rfl
 | go k=>exact iu (by simp) (by simp) rfl
 | call j t as =>
  obtain⟨G,g1,g2,g3⟩:=Kt;have BO:fs.length<11:=by
   have:¬fs.length=11:=λz=>hd ⟨z,_,_,_,rfl⟩
   lia
  obtain⟨h',e1,e2⟩:=PK c K W.p T g1 g2 BO (x1:=x1) (x2:=x2) (x4:=x4) (x7:=x7) (x8:=x8) (x9:=x9) (x10:=x10);have hw:Hj P j=G.w:=by unfold Hj;rw[g1];rfl
  refine⟨h',h.length::n::ns,_,_,_,_,e1,?_⟩;show nj h' N P _ (⟨j,0,dP N f.v (Hj P j) as⟩::f::fs) sd;rw[hw];exact e2
 | bj t =>
  cases fs with
  | nil=>exact absurd rfl hn
  | cons g gs =>
   cases ns with
   | nil=>exact absurd H.st.2.2 id
   | cons m ms =>
    obtain⟨_,⟨G,hG,_,_⟩,_⟩:=H.st.2.2;obtain⟨vg,⟨q,hq,hc⟩,_⟩:=O.2.2;obtain⟨u,as,rfl⟩:=hc f.j rfl;have AA:G.rows[g.r]?=some (.call f.j u as):=by unfold dQ at hq;rw[hG]at hq;exact hq
    obtain⟨G',y1,_,y3⟩:=W.r G (cP hG) _ (cP AA);rw[T.e]at y1;cases y1;have hk:=y3 t (cP T.r);obtain⟨h',e1,e2⟩:=PM c K T hG AA hk (x1:=x1) (x2:=x2) (x4:=x4) (x7:=x7) (x8:=x8) (x9:=x9) (x10:=x10);refine⟨h',m::ms,_,_,_,_,e1,?_⟩;show nj h' N P _ (Hh g f.v t (UA (dQ P g))::gs) sd;rw[hq];exact e2
theorem PR(c:Nat){N:Nm}(K:aT N){P:List Fd}(W:jP N P){most:Nat}(hm:most<=4000){x1 x2:Option PV}:∀(k cnt:Nat) (h:List ah) (ns:List Nat) (eW:List Fr) (sd:List Int) (x4 x7 x8 x9 x10:Option PV),nj h N P ns eW sd->gK N P none eW->eW≠[]->eW.length<=12->cnt+k=most->sd.length<=cnt ->
  ∃h' w xC gX q ρ,fP N P k cnt eW sd=(w,xC,gX)/\h'[4]?=some ⟨.lst,xC.map .int⟩/\xC.length<=most /\
   ((q=dJ.rt (.aj [.str w,.ref 4,.int (gX:Int)]))\/(q=dJ.nx/\w="more"/\gX=most/\∃LL Vr sY Qv Dt,ρ=[some (.aj (P.map (fdP N))),x1,x2,some (.ref 0),LL,some (.ref 3),some (.ref 4),Vr,sY,Qv,Dt])) /\
   fO (dc 7) (bO (run aJ (c+3))) ((List.range' cnt k).map λm:Nat=>.int (m:Int)) ⟨[some (.aj (P.map (fdP N))),x1,x2,some (.ref 0),x4,some (.ref 3),some (.ref 4),x7,x8,x9,x10],h⟩=some (.ok q,⟨ρ,h'⟩):=by
 intro k;induction k with
 | zero =>
  intro cnt h ns eW sd x4 x7 x8 x9 x10 H O xy hl hc hs;exact⟨h,"more",sd,cnt,_,_,rfl,H.sd,by lia,.inr ⟨rfl,rfl,by lia,_,_,_,_,_,rfl⟩,rfl⟩
 | succ k ih =>
  intro cnt h ns eW sd x4 x7 x8 x9 x10 H O xy hl hc hs;rw[List.range'_succ,aQ];cases eW with
  | nil=>exact absurd rfl xy
  | cons f fs =>
   cases ns with
   | nil=>exact absurd H.st id
   | cons n ns =>
    obtain⟨v,⟨r,hr,_⟩,O2⟩:=O;have O:gK N P none (f::fs):=⟨v,⟨r,hr,λj z=>by cases z⟩,O2⟩
    have UC:fs.length<=11:=by simpa using hl
    obtain⟨F,T⟩:=vx.of H hr;by_cases hdp:fs.length=11/\∃j t as,r=.call j t as
    ·obtain⟨BO,j,t,as,rfl⟩:=hdp;have Af:fP N P (k+1) cnt (f::fs) sd=(("deep":Str),sd,cnt):=by
      unfold fP;rw[hr];show(if fs.length=11 then _ else _)=_
      rw[if_pos BO]
     exact⟨h,"deep",sd,cnt,_,_,Af,H.sd,by lia,.inl rfl,Z9 (s1:=⟨[some (.aj (P.map (fdP N))),x1,x2,some (.ref 0),x4,some (.ref 3),some (.ref 4),some (.int (cnt:Int)),x8,x9,x10],h⟩) rfl (PN c T BO)⟩
    ·by_cases rp:(cV N P f fs sd r).1=[]
     ·have Yi:∃t,r=.bj t/\fs=[]:=by
       cases r
       case bj t =>
        cases fs with
        | nil=>exact⟨_,rfl,rfl⟩
        | cons g gs=>cases rp
       all_goals cases rp
      obtain⟨t,rfl,rfl⟩:=Yi;have Du:ns=[]:=mi H.st.2.2.len;subst Du;have Af:fP N P (k+1) cnt [f] sd=(("done":Str),sd,cnt+1):=by
       unfold fP;rw[hr]
      obtain⟨h',ρ,e1,e2⟩:=PL c T (x1:=x1) (x2:=x2) (x4:=x4) (x8:=x8) (x9:=x9) (x10:=x10) (cnt:=cnt);exact⟨h',"done",sd,cnt+1,_,ρ,Af,e2,by lia,.inl rfl,Z9 (s1:=⟨[some (.aj (P.map (fdP N))),x1,x2,some (.ref 0),x4,some (.ref 3),some (.ref 4),some (.int (cnt:Int)),x8,x9,x10],h⟩) rfl e1⟩
     ·obtain⟨h',Bo,y4,y8,y9,y10,e1,e2⟩:=PQ c K W H O hr UC (by lia) hdp rp (x1:=x1) (x2:=x2) (x4:=x4) (x7:=some (.int (cnt:Int))) (x8:=x8) (x9:=x9) (x10:=x10)
      have O':=Hl K W (sd:=sd) O hr;have HM:=Ho (N:=N) (P:=P) (f:=f) (fs:=fs) (sd:=sd) (r:=r);have hsl:=Hm (N:=N) (P:=P) (f:=f) (fs:=fs) (sd:=sd) (r:=r);obtain⟨h2,w,xC,gX,q,ρ,y1,y2,y3,y5,y6⟩:=ih (cnt+1) h' Bo _ _ y4 (some (.int (cnt:Int))) y8 y9 y10 e2 O' rp (by
       by_cases BO:fs.length=11
       ·have:=HM.2 λj t as z=>hdp ⟨BO,j,t,as,z⟩
        lia
       ·lia) (by lia) (by lia)
      refine⟨h2,w,xC,gX,q,ρ,by rw[Hq hr hdp rp];exact y1,y2,y3,y5,?_⟩
      exact fC (s1:=⟨[some (.aj (P.map (fdP N))),x1,x2,some (.ref 0),x4,some (.ref 3),some (.ref 4),some (.int (cnt:Int)),x8,x9,x10],h⟩) rfl e1 y6
end bA
set_option maxHeartbeats 4000000
namespace bA
open PySem L2 L2.U
theorem KI{h2:List ah}{w:Str}{sd:List Int}{cnt:Nat}(e:h2[4]?=some ⟨.lst,sd.map .int⟩):ee h2 (.aj [.str w,.ref 4,.int (cnt:Int)])=some (.aj [.str w,.lst (sd.map .int),.int (cnt:Int)]):=by
 have LV:=hne e;unfold ee;rw[if_neg (by rw[LV];exact cQ)]
 have d4:kG h2 3 (.ref 4)=some (.lst (sd.map .int)):=by
  show((h2[4]?).bind λc=>if live c=true then(dq (kG h2 2) c.ps).map (PV.nd c.k)else none)=_
  rw[e];show(dq (kG h2 2) (sd.map .int)).map (PV.nd Kd.lst)=_;rw[lW (dw (λ_=>rfl) sd)]
  rfl
 show((some (PV.str w)).bind λa=>((kG h2 3 (.ref 4)).bind λb=>((some (PV.int (cnt:Int))).bind λd=>(some []).map λr=>d::r).map λr=>b::r).map λr=>a::r).map (PV.nd Kd.aj)=_
 rw[d4];rfl
def Aj(N:Nm)(P:List Fd)(most:Nat)(x:Int):PV:=.aj [.str (fP N P most 0 [⟨0,0,⟨x,0,kQ N,0⟩⟩] []).1,.lst ((fP N P most 0 [⟨0,0,⟨x,0,kQ N,0⟩⟩] []).2.1.map .int),.int ((fP N P most 0 [⟨0,0,⟨x,0,kQ N,0⟩⟩] []).2.2:Int)]
theorem PU(c:Nat){N:Nm}(K:aT N){P:List Fd}(W:jP N P){F0:Fd}(h0:P[0]?=some F0)(hw:F0.w=false){x:Int}(hx:Bd x){most:Nat}(hm:most<=4000) :
  ∃p h',run aJ (c+4) "_law_due" [.aj (P.map (fdP N)),.int x,.int (most:Int)] []=some (.ok p,h')/\ee h' p=some (Aj N P most x)/\(fP N P most 0 [⟨0,0,⟨x,0,kQ N,0⟩⟩] []).2.1.length<=4000:=by
 have O:gK N P none [⟨0,0,⟨x,0,kQ N,0⟩⟩]:=by
  obtain⟨q,hq⟩:=qG (V:=⟨x,0,kQ N,0⟩) (k:=0) h0 (W.l F0 (cP h0)).1;exact⟨⟨by simp[kQ],hx,Hk,Hk,λy hy=>by
   have hy:y∈List.replicate N.z 0:=hy;rw[oG hy];exact Hk⟩,⟨q,hq,λj z=>by cases z⟩,trivial⟩
 have hP:=W.p.p;obtain⟨G0,G1,G2,hP⟩:=hP;have hG:F0=G0:=by rw[hP]at h0;cases h0;rfl
 subst hG;have n0:=W.p.n 0 F0 h0;have n1:=W.p.n 1 G1 (by rw[hP];rfl)
 have n2:=W.p.n 2 G2 (by rw[hP];rfl)
 have Yk:F0.f≠G1.f:=λz=>by rw[n0,n1]at z;exact absurd (K.ff 0 1 (by decide) (by decide) z) (by decide)
 have Yl:F0.f≠G2.f:=λz=>by rw[n0,n2]at z;exact absurd (K.ff 0 2 (by decide) (by decide) z) (by decide)
 have Ym:G1.f≠G2.f:=λz=>by rw[n1,n2]at z;exact absurd (K.ff 1 2 (by decide) (by decide) z) (by decide)
 obtain⟨V,hV⟩:∃V:Vs,V=⟨x,0,kQ N,0⟩:=⟨_,rfl⟩
 obtain⟨D,hD⟩:∃D:ah,D=⟨.eV false (P.map λF=>bz F.f),(List.range P.length).map fun(i:Nat)=>.int (i:Int)⟩:=⟨_,rfl⟩
 have hD':D=bV [(F0.f,.int 0),(G1.f,.int 1),(G2.f,.int 2)]:=by rw[hD,hP];rfl
 obtain⟨E,hE⟩:∃E:ah,E=bV (g9 N false V):=⟨_,rfl⟩
 have H:nj [D,E,⟨.lst,[.int 0,.int 0,.ref 1]⟩,⟨.lst,[.ref 2]⟩,⟨.lst,[]⟩] N P [1] [⟨0,0,⟨x,0,kQ N,0⟩⟩] []:=by
  refine⟨by rw[hD];rfl,rfl,rfl,⟨⟨.inl rfl,(show 1+1<5 by decide),.inl (by decide)⟩,⟨F0,h0,?_,rfl⟩,trivial⟩⟩
  rw[hw,<-hV];show some E=_;rw[hE]
 obtain⟨h',w,sd,cnt,q,ρ,y1,y2,y3,y4,y5⟩:=PR c K W hm (x1:=some (.int x)) (x2:=some (.int (most:Int))) most 0 _ [1] _ [] (some (.int 2)) none none none none H O (by simp) (by simp) (by lia) (by simp)
 have Yr:Aj N P most x=.aj [.str w,.lst (sd.map .int),.int (cnt:Int)]:=by unfold Aj;rw[y1]
 rw[Yr,y1];have rg:nV [.int (most:Int)]=some ((List.range' 0 most).map λm:Nat=>.int (m:Int)):=by rw[Kz (by lia),List.range_eq_range']
 have Vt:nV [.int 3]=some [.int 0,.int 1,.int 2]:=rfl;have i0:∀h,aI h (.aj (P.map (fdP N))) (.int 0)=some (fdP N F0):=rA (j:=0) h0
 have i1:∀h,aI h (.aj (P.map (fdP N))) (.int 1)=some (fdP N G1):=rA (j:=1) (by rw[hP];rfl)
 have i2:∀h,aI h (.aj (P.map (fdP N))) (.int 2)=some (fdP N G2):=rA (j:=2) (by rw[hP];rfl)
 have f0:∀F h,aI h (fdP N F) (.int 0)=some (.str F.f):=λF h=>rfl
 obtain⟨C1,hC1⟩:∃C:ah,C=bV [(F0.f,.int 0)]:=⟨_,rfl⟩
 obtain⟨C2,hC2⟩:∃C:ah,C=bV [(F0.f,.int 0),(G1.f,.int 1)]:=⟨_,rfl⟩
 have s0:∀ρ,eI (.ref 0) (.str F0.f) (.int 0) ⟨ρ,[⟨.eV false [],[]⟩]⟩=some ⟨ρ,[C1]⟩:=λρ=>by rw[hC1];exact dj (h:=[]) (L:=[]) (es:=[]) (by simp) (by simp)
 have s1:∀ρ,eI (.ref 0) (.str G1.f) (.int 1) ⟨ρ,[C1]⟩=some ⟨ρ,[C2]⟩:=λρ=>by rw[hC1,hC2];exact dj (h:=[]) (L:=[]) (by simp) (by simp;exact Yk)
 have s2:∀ρ,eI (.ref 0) (.str G2.f) (.int 2) ⟨ρ,[C2]⟩=some ⟨ρ,[D]⟩:=λρ=>by rw[hD',hC2];exact dj (h:=[]) (L:=[]) (by simp) (by simp;exact⟨Yl,Ym⟩)
 have bg:run aJ (c+3) "_law_begin" [fdP N F0,.lst [.int x]] [D]=some (.ok (.ref 1),[D,E]):=by
  have:=xD (c+2) K (F:=F0) (h:=[D]) (V:=V) (by rw[hV]) (λ_=>by rw[hV];exact⟨rfl,rfl⟩)
  rw[hw]at this;rw[hE,hV];rw[hV]at this;exact this
 delta bO g8 at y5
 have hJ:=KI (w:=w) (cnt:=cnt) y2;refine⟨.aj [.str w,.ref 4,.int (cnt:Int)],h',?_,hJ,aP y3 hm⟩;rw[GB];rcases y4 with rfl | ⟨rfl,rfl,rfl,LL,Vr,sY,Qv,Dt,rfl⟩
 ·simp only[↓aW,rg,Vt,i0,i1,i2,f0,s0,s1,s2,bg,y5]
 ·simp only[↓aW,rg,Vt,i0,i1,i2,f0,s0,s1,s2,bg,y5]
end bA
set_option maxHeartbeats 4000000
namespace bA
open PySem L2 L2.U
theorem Hv(c:Nat)(x:Int):run aJ (c+1) "_law_whole" [.int x] []=some (.ok (.bl true),[]):=by
 rw[zM];simp only[↓aW];rfl
theorem toT_ints(h:List ah)(n:Nat):∀l:List Int,dq (toT h (n+1)) (l.map PV.int)=some (l.map Tr.int)
 | []=>rfl
 | x::l=>by
  show(some (Tr.int x)).bind (λy=>(dq (toT h (n+1)) (l.map PV.int)).map λr=>y::r)=_
  rw[toT_ints h n l];rfl
theorem eq_refl(w:Str)(l:List Int)(n:Int):∀h,qO h (.aj [.str w,.lst (l.map .int),.int n]) (.aj [.str w,.lst (l.map .int),.int n])=some (.bl true):=λh=>by
 obtain⟨m,hm⟩:∃m,jL=m+3:=⟨_,rfl⟩
 have e1:toT h (m+2) (.lst (l.map .int))=some (.lst (l.map Tr.int)):=by
  show(dq (toT h (m+1)) (l.map PV.int)).bind (Qg .lst)=_;rw[toT_ints];rfl
 have e:toT h jL (.aj [.str w,.lst (l.map .int),.int n])=some (.aj [.str w,.lst (l.map Tr.int),.int n]):=by
  rw[hm];show((some (Tr.str w)).bind λy=>((toT h (m+2) (.lst (l.map .int))).bind λz=>((some (Tr.int n)).bind λu=>(some []).map λr=>u::r).map λr=>z::r).map λr=>y::r).bind (Qg .aj)=_
  rw[e1];rfl
 show(((toT h jL _).bind λx=>(toT h jL _).map λy=>eqT x y).map PV.bl)=_
 rw[e];show some (PV.bl (eqT _ _))=_;rw[jh]
theorem sZ{bd:PV->List ah->Option (Option PV×List ah)}{h:List ah}(H:∀x:Int,bd (.int x) h=some (none,h)):∀l:List Int,d6 bd (l.map PV.int) h=some ([],h)
 | []=>rfl
 | x::l=>by
  show(bd (.int x) h).bind (λr=>(d6 bd (l.map PV.int) r.2).map λs=>(r.1.toList++s.1,s.2))=_
  rw[H x];show(d6 bd (l.map PV.int) h).map _=_;rw[sZ H l];rfl
theorem KJ(c:Nat)(w:Str){l:List Int}(hl:l.length<=9000)(n:Int):run aJ (c+2) "_law_told" [.aj [.str w,.lst (l.map .int),.int n],.aj [.str w,.lst (l.map .int),.int n]] []=some (.ok (.bl true),[]):=by
 have e1:=λx=>Hv c x
 have e2:=eq_refl w l n;have e3:∀h,Qh h (.lst []) (.lst [])=some (.bl false):=λh=>rfl
 have UC:l.length<=4000000:=aP hl (by decide)
 have cp:=λx1:Option PV=>sZ (bd:=wq (dc 1) (Jd (qX (bnd (jX (rd 1) (cx [])) (jY 0 1 (run aJ (c+1) "_law_whole"))))) (rd 1) [none,x1]) (h:=[]) (λx=>e2F (Lk:=[none,some (.int x)]) (h1:=[]) rfl (by
  refine bW ?_;simp only[↓iU,e1];rfl)) l
 rw[Dc];simp only[↓aW,e1,e2,e3,cp,UC,aM]
end bA
set_option maxHeartbeats 4000000
namespace bA
open PySem L2 L2.U
def xE(M:Nm)(j:Nat)(r:Option N3):PV:=.aj [.str (M.f j),.aj ((par (j==2)).map (dA M)),qr M r]
def kZ(M:Nm)(r1 r2:Option N3):PV:=.lst [xE M 0 none,xE M 1 r1,xE M 2 r2]
noncomputable def rs(r1 r2:Option N3):Nat->Option N3
 | 0=>none
 | 1=>r1
 | _=>r2
def jT(r:Option N3):Prop:=r=none\/r=some .a\/r=some .c
theorem BU(c:Nat)(z:Nat):run aJ (c+1) "_law_wide" [.int (z:Int)] []=some (.ok (xj z),[]):=by
 rw[C8];simp only[↓aW];rfl
theorem Hw(c:Nat)(N:Nat->Str)(z:Nat)(k:Int):∃r1 r2,jT r1/\jT r2/\run aJ (c+2) "_law_heads" [gu N,.int (z:Int),.int k] []=some (.ok (kZ (aS N z) r1 r2),[]):=by
 have e1:=BU c z;have e2:∀h,fM h (.int k) (.int 2)=some (.int (k/2)):=λh=>nh (by decide)
 have l2:∀a b:PV,[a,b].length<=4000000:=λ_ _=>by simp
 have l3:∀a b d:PV,[a,b,d].length<=4000000:=λ_ _ _=>by simp
 rw[zO];rcases(by lia : k%2=0\/k%2=1)with h | h<;>rcases(by lia : k/2%3=0\/k/2%3=1\/k/2%3=2)with g | g | g
 all_goals have e3:∀g,cA g (.int k) (.int 2)=_:=λg=>by rw[fL (by decide),h]
 all_goals have e4:∀h,cA h (.int (k/2)) (.int 3)=_:=λh=>by rw[fL (by decide),g]
 ·exact⟨some .a,some .c,.inr (.inl rfl),.inr (.inr rfl),by simp only[↓aW,gu,e1,e2,e3,e4,l2,l3];rfl⟩
 ·exact⟨some .a,some .a,.inr (.inl rfl),.inr (.inl rfl),by simp only[↓aW,gu,e1,e2,e3,e4,l2,l3];rfl⟩
 ·exact⟨some .a,none,.inr (.inl rfl),.inl rfl,by simp only[↓aW,gu,e1,e2,e3,e4,l2,l3];rfl⟩
 ·exact⟨none,some .c,.inl rfl,.inr (.inr rfl),by simp only[↓aW,gu,e1,e2,e3,e4,l2,l3];rfl⟩
 ·exact⟨none,some .a,.inl rfl,.inr (.inl rfl),by simp only[↓aW,gu,e1,e2,e3,e4,l2,l3];rfl⟩
 ·exact⟨none,none,.inl rfl,.inl rfl,by simp only[↓aW,gu,e1,e2,e3,e4,l2,l3];rfl⟩
theorem Hx(M:Nm){r:Option N3}(hr:jT r):∀h,qO h (qr M r) (.aj [.str "num"])=some (.bl (match r with | some .a=>true | _=>false)):=λh=>by
 rcases hr with rfl | rfl | rfl<;>rfl
theorem Hy(M:Nm){r:Option N3}(hr:jT r):∀h,EY h (qr M r) .az=some (.bl (match r with | none=>false | _=>true)):=λh=>by
 rcases hr with rfl | rfl | rfl<;>rfl
theorem KL(c:Nat)(N:Nat->Str)(z:Nat){r1 r2:Option N3}(k1:jT r1)(k2:jT r2)(c0 c1 c2:Int):∃j t as,j<3/\gZ (j==2) as/\gJ (rs r1 r2 j) t/\run aJ (c+1) "_law_call" [gu N,kZ (aS N z) r1 r2,.lst [.int c0,.int c1,.int c2]] []=some (.ok (aR (aS N z) (.call j t as)),[]):=by
 have l2:∀a b:PV,[a,b].length<=4000000:=λ_ _=>by simp
 have b2:∃x,x≠N3.c/\∃i,c1%2=i/\∀h,aI h (gu N) (.int i)=some (.str ((aS N z).n x)):=by
  rcases(by lia : c1%2=0\/c1%2=1)with h | h
  ·exact⟨.a,(by intro z;cases z),_,h,λ_=>rfl⟩
  ·exact⟨.b,(by intro z;cases z),_,h,λ_=>rfl⟩
 have b3:∃x,x≠N3.c/\∃i,c2%2=i/\∀h,aI h (gu N) (.int i)=some (.str ((aS N z).n x)):=by
  rcases(by lia : c2%2=0\/c2%2=1)with h | h
  ·exact⟨.a,(by intro z;cases z),_,h,λ_=>rfl⟩
  ·exact⟨.b,(by intro z;cases z),_,h,λ_=>rfl⟩
 obtain⟨x,hx,i,h1,e1⟩:=b2;obtain⟨y,hy,i',h2,e2⟩:=b3;have e4:∀h,cA h (.int c1) (.int 2)=some (.int i):=λh=>by rw[fL (by decide),h1]
 have e5:∀h,cA h (.int c2) (.int 2)=some (.int i'):=λh=>by rw[fL (by decide),h2]
 have n2:∀h,aI h (gu N) (.int 2)=some (.str ((aS N z).n .c)):=λh=>rfl
 have hJ:∀j r,j<3->jT r->r=rs r1 r2 j->c0%3=(j:Int)->(∀h,aI h (kZ (aS N z) r1 r2) (.int (j:Int))=some (xE (aS N z) j r))->∃j t as,j<3/\gZ (j==2) as/\gJ (rs r1 r2 j) t/\run aJ (c+1) "_law_call" [gu N,kZ (aS N z) r1 r2,.lst [.int c0,.int c1,.int c2]] []=some (.ok (aR (aS N z) (.call j t as)),[]):=λj r hj hr er h0 e6=>by
  have e3:∀h,cA h (.int c0) (.int 3)=some (.int (j:Int)):=λh=>by rw[fL (by decide),h0]
  have e7:∀h,aI h (xE (aS N z) j r) (.int 0)=some (.str ((aS N z).f j)):=λh=>rfl
  have e8:∀h,aI h (xE (aS N z) j r) (.int 1)=some (.aj ((par (j==2)).map (dA (aS N z)))):=λh=>rfl
  have e9:∀h,aI h (xE (aS N z) j r) (.int 2)=some (qr (aS N z) r):=λh=>rfl
  have q1:=Hx (aS N z) hr;have q2:=Hy (aS N z) hr;have NB:∃as,gZ (j==2) as/\∃m,(∀h,fj h [.aj ((par (j==2)).map (dA (aS N z)))]=some (.int m))/\∀h,xH h none (some m) (.lst [.str ((aS N z).n x),.str ((aS N z).n .c)])=some (.lst (as.map λx=>.str ((aS N z).n x))):=by
   cases hjj:j==2
   ·exact⟨[x],.inl ⟨rfl,x,hx,rfl⟩,1,λ_=>rfl,λ_=>rfl⟩
   ·exact⟨[x,.c],.inr ⟨rfl,x,hx,rfl⟩,2,λ_=>rfl,λ_=>rfl⟩
  obtain⟨as,ha,m,m1,m2⟩:=NB;rw[C7];rcases hr with rfl | rfl | rfl
  ·exact⟨j,none,as,hj,ha,(by rw[<-er];trivial),by simp only[↓aW,e1,e2,e3,e4,e5,e6,e7,e8,e9,q1,q2,m1,m2,n2,l2];rfl⟩
  ·exact⟨j,some y,as,hj,ha,(by rw[<-er];exact(show N3.a=.c↔y=.c from⟨(λh=>by cases h),λh=>absurd h hy⟩)),by simp only[↓aW,e1,e2,e3,e4,e5,e6,e7,e8,e9,q1,q2,m1,m2,n2,l2];rfl⟩
  ·exact⟨j,some .c,as,hj,ha,(by rw[<-er];exact Iff.rfl),by simp only[↓aW,e1,e2,e3,e4,e5,e6,e7,e8,e9,q1,q2,m1,m2,n2,l2];rfl⟩
 rcases(by lia : c0%3=0\/c0%3=1\/c0%3=2)with h | h | h
 ·exact hJ 0 none (by decide) (.inl rfl) rfl h λ_=>rfl
 ·exact hJ 1 r1 (by decide) k1 rfl h λ_=>rfl
 ·exact hJ 2 r2 (by decide) k2 rfl h λ_=>rfl
end bA
set_option maxHeartbeats 4000000
namespace bA
open PySem L2 L2.U
def PX(M:Nm)(r1 r2:Option N3)(m:Nat):Rw->Prop
 | .put s o=>Pq M s/\xN M o
 | .fill o=>xN M o
 | .set s _ o p=>Pq M s/\xN M o/\xN M p
 | .iG o=>xN M o
 | .call j t as=>j<3/\gZ (j==2) as/\gJ (rs r1 r2 j) t
 | .ifs o p k=>xN M o/\xN M p/\k<m
 | .go k=>k<m
 | .bj _=>False
theorem Hz(N:Nat->Str):noRef (gu N)=true:=rfl
theorem UD(M:Nm)(j:Nat)(r:Option N3):noRef (xE M j r)=true:=by
 have:=GL M r;simp[xE,dA,noRef,ai,dw,iQ,this]
theorem BV(M:Nm)(r1 r2:Option N3):noRef (kZ M r1 r2)=true:=by
 simp[kZ,noRef,ai,UD]
theorem PY(c:Nat)(N:Nat->Str){z:Nat}(z1:1<=z){r1 r2:Option N3}(k1:jT r1)(k2:jT r2){m:Nat}(hm:1<=m)(Sf:m<1000)(k:Int):∃r,PX (aS N z) r1 r2 m r/\run aJ (c+3) "_law_row" [gu N,.int (z:Int),kZ (aS N z) r1 r2,.int k,.int (m:Int)] []=some (.ok (aR (aS N z) r),[]):=by
 have w1:∀h,kK h (.int k) (.int 48271)=some (.int (k*48271)):=λh=>Pz (.inr (by decide))
 have w2:∀h,kK h (.int k) (.int 69621)=some (.int (k*69621)):=λh=>Pz (.inr (by decide))
 have w3:∀h,kK h (.int k) (.int 16807)=some (.int (k*16807)):=λh=>Pz (.inr (by decide))
 have v1:∀h x,cA h (.int x) (.int 2147483647)=some (.int (x%2147483647)):=λh x=>fL (by decide)
 have v2:∀h x,cA h (.int x) (.int 2147483629)=some (.int (x%2147483629)):=λh x=>fL (by decide)
 have v3:∀h x,cA h (.int x) (.int 2147483587)=some (.int (x%2147483587)):=λh x=>fL (by decide)
 obtain⟨c0,hc0⟩:∃c0,k*48271%2147483647=c0:=⟨_,rfl⟩
 obtain⟨c1,WY⟩:∃c0,k*69621%2147483629=c0:=⟨_,rfl⟩
 obtain⟨c2,M0⟩:∃c0,k*16807%2147483587=c0:=⟨_,rfl⟩
 have v1:∀h,cA h (.int (k*48271)) (.int 2147483647)=some (.int c0):=λh=>by rw[v1,hc0]
 have v2:∀h,cA h (.int (k*69621)) (.int 2147483629)=some (.int c1):=λh=>by rw[v2,WY]
 have v3:∀h,cA h (.int (k*16807)) (.int 2147483587)=some (.int c2):=λh=>by rw[v3,M0]
 obtain⟨o,ho,eo⟩:=qK c (N:=N) z1 c1 k;obtain⟨p,hp,ep⟩:=qK c (N:=N) z1 c2 (k+1);obtain⟨s,hs,es⟩:=BS (c+1) (N:=N) z1 c0;obtain⟨j,t,as,hj,ha,ht,ec⟩:=KL (c+1) N z k1 k2 c0 c1 c2;obtain⟨q,hq,hqm⟩:∃q:Nat,c0%(m:Int)=(q:Int)/\q<m:=⟨(c0%(m:Int)).toNat,(tF (et _ (by lia))).symm,by have:=ix c0 (show(0:Int)<m by lia);have:=et c0 (show(m:Int)≠0 by lia);lia⟩
 have eq:∀h,cA h (.int c0) (.int (m:Int))=some (.int (q:Int)):=λh=>by rw[fL (by lia),hq]
 have l3:∀a b d:PV,[a,b,d].length<=4000000:=λ_ _ _=>by simp
 have Qw:∀x y:Int,ai [gu N,.int (z:Int),.int x,.int y]=true:=λ_ _=>rfl
 have LP:∀x:Int,ai [gu N,.int (z:Int),.int x]=true:=λ_=>rfl
 have DA:ai [gu N,kZ (aS N z) r1 r2,.lst [.int c0,.int c1,.int c2]]=true:=by simp[ai,Hz,BV,noRef]
 have f1:=GJ (aS N z) o;have f2:=GJ (aS N z) p;have f3:=Bx (aS N z) s;have e9:∃n,k%9=n/\0<=n/\n<9:=⟨_,rfl,by lia,by lia⟩
 obtain⟨n,hn,n0,n9⟩:=e9;have v9:∀h,cA h (.int k) (.int 9)=some (.int n):=λh=>by rw[fL (by decide),hn]
 have q0:∀h,qO h (.int n) (.int 0)=some (.bl (n==0)):=λh=>rfl
 have q7:∀h,qO h (.int n) (.int 7)=some (.bl (n==7)):=λh=>rfl
 have t3:∀h,Lf h (.int n) (.int 3)=some (.bl (decide (n<3))):=λh=>rfl
 have t5:∀h,Lf h (.int n) (.int 5)=some (.bl (decide (n<5))):=λh=>rfl
 have t7:∀h,Lf h (.int n) (.int 7)=some (.bl (decide (n<7))):=λh=>rfl
 have d9:∀h,fM h (.int k) (.int 9)=some (.int (k/9)):=λh=>nh (by decide)
 have sg:∃g i,k/9%3=i/\∀h,aI h (.str "+-*") (.int i)=some (.str (O1 g)):=by
  rcases(by lia : k/9%3=0\/k/9%3=1\/k/9%3=2)with h | h | h
  ·exact⟨.add,_,h,λ_=>rfl⟩
  ·exact⟨.sub,_,h,λ_=>rfl⟩
  ·exact⟨.mul,_,h,λ_=>rfl⟩
 obtain⟨g,i,hi,eg⟩:=sg;have m3:∀h,cA h (.int (k/9)) (.int 3)=some (.int i):=λh=>by rw[fL (by decide),hi]
 have ad:∀h,cY h (.int k) (.int 1)=some (.int (k+1)):=λh=>rfl
 rw[GA];rcases(by lia : n=0\/n=7\/n=8\/(n≠0/\n<3)\/(3<=n/\n<5)\/(5<=n/\n<7))with h | h | h | h | h | h
 ·have b0:(n==0)=true:=mG.mpr h;exact⟨.put s o,⟨hs,ho⟩,by simp only[↓aW,w1,w2,w3,v1,v2,v3,v9,eo,ep,es,l3,Qw,LP,q0,b0,ad];rfl⟩
 ·have b0:(n==0)=false:=bI.mpr (by lia)
  have b7:(n==7)=true:=mG.mpr h;have b1:decide (n<3)=false:=cz (by lia)
  have b2:decide (n<5)=false:=cz (by lia)
  have b3:decide (n<7)=false:=cz (by lia)
  exact⟨.ifs o p q,⟨ho,hp,hqm⟩,by simp only[↓aW,w1,w2,w3,v1,v2,v3,v9,eo,ep,es,eq,l3,Qw,LP,q0,b0,b1,b2,b3,b7,t3,t5,t7,q7,ad];rfl⟩
 ·have b0:(n==0)=false:=bI.mpr (by lia)
  have b7:(n==7)=false:=bI.mpr (by lia)
  have b1:decide (n<3)=false:=cz (by lia)
  have b2:decide (n<5)=false:=cz (by lia)
  have b3:decide (n<7)=false:=cz (by lia)
  exact⟨.go q,hqm,by simp only[↓aW,w1,w2,w3,v1,v2,v3,v9,eo,ep,es,eq,l3,Qw,LP,q0,b0,b1,b2,b3,b7,t3,t5,t7,q7,ad];rfl⟩
 ·have b0:(n==0)=false:=bI.mpr (by lia)
  have b1:decide (n<3)=true:=dX (by lia)
  exact⟨.set s g o p,⟨hs,ho,hp⟩,by simp only[↓aW,w1,w2,w3,v1,v2,v3,v9,eo,ep,es,eg,m3,d9,l3,Qw,LP,q0,b0,b1,t3,ad];rfl⟩
 ·have b0:(n==0)=false:=bI.mpr (by lia)
  have b1:decide (n<3)=false:=cz (by lia)
  have b2:decide (n<5)=true:=dX (by lia)
  exact⟨.iG o,ho,by simp only[↓aW,w1,w2,w3,v1,v2,v3,v9,eo,ep,es,l3,Qw,LP,q0,b0,b1,b2,t3,t5,ad];rfl⟩
 ·have b0:(n==0)=false:=bI.mpr (by lia)
  have b1:decide (n<3)=false:=cz (by lia)
  have b2:decide (n<5)=false:=cz (by lia)
  have b3:decide (n<7)=true:=dX (by lia)
  have f4:=nG (aS N z) (.call j t as);exact⟨.call j t as,⟨hj,ha,ht⟩,by simp only[↓aW,w1,w2,w3,v1,v2,v3,v9,eo,ep,es,ec,l3,Qw,LP,DA,q0,b0,b1,b2,b3,t3,t5,t7,ad]⟩
end bA
set_option maxHeartbeats 4000000
namespace bA
open PySem L2 L2.U
theorem xF(c:Nat)(N:Nat->Str){z:Nat}(z1:1<=z){r1 r2:Option N3}(k1:jT r1)(k2:jT r2){m:Nat}(hm:1<=m)(Sf:m<1000){x3 x4 x5 x9:Option PV}:∀(L:List Int) (F:List PV) (x8:Option PV),F.length+L.length<=100 ->
  ∃(R:List Rw) (sY:Option PV),(∀r∈R,PX (aS N z) r1 r2 m r)/\R.length=L.length/\fO (dc 8) (iq (run aJ (c+3))) (L.map .int) ⟨[some (gu N),some (.int (z:Int)),some (kZ (aS N z) r1 r2),x3,x4,x5,some (.ref 0),some (.int (m:Int)),x8,x9],[⟨.lst,F⟩]⟩=some (.ok .nx,⟨[some (gu N),some (.int (z:Int)),some (kZ (aS N z) r1 r2),x3,x4,x5,some (.ref 0),some (.int (m:Int)),sY,x9],[⟨.lst,F++R.map (aR (aS N z))⟩]⟩)
 | [],F,x8,_=>⟨[],x8,(λ_ h=>by cases h),rfl,by rw[eu,eu,dE];rfl⟩
 | k::L,F,x8,hl=>by
  rw[cJ]at hl;obtain⟨r,hr,er⟩:=PY c N z1 k1 k2 hm Sf k;obtain⟨R,sY,h1,h2,h3⟩:=xF c N z1 k1 k2 hm Sf (x3:=x3) (x4:=x4) (x5:=x5) (x9:=x9) L (F++[aR (aS N z) r]) (some (.int k)) (by simp;lia)
  refine⟨r::R,sY,?_,by simp[h2],?_⟩
  ·intro q hq;rcases bh.mp hq with rfl | hq
   ·exact hr
   ·exact h1 q hq
  have ap:=λρ v=>@qu ρ F v (by lia)
  have DA:ai [gu N,.int (z:Int),kZ (aS N z) r1 r2,.int k,.int (m:Int)]=true:=by simp[ai,Hz,BV,noRef]
  rw[aQ,aQ,show F++aR (aS N z) r::R.map (aR (aS N z))=F++[aR (aS N z) r]++R.map (aR (aS N z)) by simp]
  refine fC (s1:=⟨[some (gu N),some (.int (z:Int)),some (kZ (aS N z) r1 r2),x3,x4,x5,some (.ref 0),some (.int (m:Int)),some (.int k),x9],[⟨.lst,F⟩]⟩) (s2:=⟨[some (gu N),some (.int (z:Int)),some (kZ (aS N z) r1 r2),x3,x4,x5,some (.ref 0),some (.int (m:Int)),some (.int k),x9],[⟨.lst,F++[aR (aS N z) r]⟩]⟩) rfl ?_ h3;refine bW ?_
  delta iq g8
  simp only[↓iU,er,ap,DA,cq,bY]
theorem PZ{r1 r2:Option N3}(k1:jT r1)(k2:jT r2):∀j,jT (rs r1 r2 j)
 | 0=>.inl rfl
 | 1=>k1
 | _+2=>k2
theorem UE(M:Nm)(r1 r2:Option N3){j:Nat}(hj:j<3):∀h,aI h (kZ M r1 r2) (.int (j:Int))=some (xE M j (rs r1 r2 j)):=λh=>by
 rcases(by lia : j=0\/j=1\/j=2)with rfl | rfl | rfl<;>rfl
theorem vy(c:Nat)(N:Nat->Str){z:Nat}(z1:1<=z){r1 r2:Option N3}(k1:jT r1)(k2:jT r2){j:Nat}(hj:j<3){L:List Int}(hL:L.length<=66)(x:Int) :
  ∃(R:List Rw) (t:Option N3) (p:PV) (h':List ah),R.length<=70/\(∀r∈R,PX (aS N z) r1 r2 (R.length+1) r)/\gJ (rs r1 r2 j) t/\run aJ (c+4) "_law_rows" [gu N,.int (z:Int),kZ (aS N z) r1 r2,.int (j:Int),.lst (L.map .int),.int x] []=some (.ok p,h')/\ee h' p=some (.aj ((R++[Rw.bj t]).map (aR (aS N z)))):=by
 have e0:=PZ k1 k2 j;have e1:=UE (aS N z) r1 r2 hj;obtain⟨r,hr⟩:∃r,r=rs r1 r2 j:=⟨_,rfl⟩
 rw[<-hr]at e0 e1 ⊢;have e9:∀h,aI h (xE (aS N z) j r) (.int 2)=some (qr (aS N z) r):=λh=>rfl
 have q1:=Hx (aS N z) e0;have q2:=Hy (aS N z) e0;have HA:=λh=>GZ (h:=h)
 have P0:=λh x=>xu (h:=h) (x:=x)
 have a1:∀h n,cY h (.int (j:Int)) (.int n)=some (.int ((j:Int)+n)):=λh n=>rfl
 have d1:∀h,fM h (.int x) (.int ((j:Int)+1))=some (.int (x/((j:Int)+1))):=λh=>nh (by lia)
 have d3:∀h,fM h (.int x) (.int ((j:Int)+3))=some (.int (x/((j:Int)+3))):=λh=>nh (by lia)
 have d5:∀h,fM h (.int x) (.int ((j:Int)+5))=some (.int (x/((j:Int)+5))):=λh=>nh (by lia)
 have dd:∀h,fM h (.int x) (.int 5)=some (.int (x/5)):=λh=>nh (by decide)
 have m7:∀h x,cA h (.int x) (.int 7)=some (.int (x%7)):=λh x=>fL (by decide)
 have b3:∃y,y≠N3.c/\∃i,x/5%2=i/\∀h,aI h (gu N) (.int i)=some (.str ((aS N z).n y)):=by
  rcases(by lia : x/5%2=0\/x/5%2=1)with h | h
  ·exact⟨.a,(by intro z;cases z),_,h,λ_=>rfl⟩
  ·exact⟨.b,(by intro z;cases z),_,h,λ_=>rfl⟩
 obtain⟨y,hy,i,hi,ei⟩:=b3;have m2:∀h,cA h (.int (x/5)) (.int 2)=some (.int i):=λh=>by rw[fL (by decide),hi]
 have n2:∀h,aI h (gu N) (.int 2)=some (.str (N 2)):=λh=>rfl
 have n1:∀h,aI h (gu N) (.int 1)=some (.str (N 1)):=λh=>rfl
 obtain⟨t,ht,gv⟩:∃t,gJ r t/\(Bw (aS N z) t=match(generalizing:=false) r with | none=>Str.ofString "" | some .a=>(aS N z).n y | _=>N 2):=by
  rcases e0 with rfl | rfl | rfl
  ·exact⟨none,trivial,rfl⟩
  ·exact⟨some y,(show N3.a=.c↔y=.c from⟨(λh=>by cases h),λh=>absurd h hy⟩),rfl⟩
  ·exact⟨some .c,(show N3.c=.c↔N3.c=.c from Iff.rfl),rfl⟩
 have ze:∀h,Lf h (.int (j:Int)) (.int 2)=some (.bl (decide ((j:Int)<2))):=λh=>rfl
 have ln:∀h,fj h [.lst (L.map .int)]=some (.int (L.length:Int)):=λh=>by show some (PV.int (((L.map PV.int).length:Nat):Int))=_;rw[aM]
 obtain⟨Ak,PJ⟩:∃n:Int,n=x/((j:Int)+1)%vi:=⟨_,rfl⟩
 obtain⟨Qx,Rh⟩:∃n:Int,n=x/((j:Int)+3)%7:=⟨_,rfl⟩
 obtain⟨Qy,hn3⟩:∃n:Int,n=x/((j:Int)+5)%vi:=⟨_,rfl⟩
 have bd7:Bd Qx:=by rw[Rh];exact⟨et _ (by decide),Int.lt_trans (ix _ (by decide)) (by decide +kernel)⟩
 have w1:∀h,cA h (.int (x/((j:Int)+1))) (.int vi)=some (.int Ak):=λh=>by rw[P0,PJ]
 have w2:∀h,cA h (.int (x/((j:Int)+3))) (.int 7)=some (.int Qx):=λh=>by rw[m7,Rh]
 have w3:∀h,cA h (.int (x/((j:Int)+5))) (.int vi)=some (.int Qy):=λh=>by rw[P0,hn3]
 have A1:∀ρ a v,ie (fH iC) (.ref 0) [v] ⟨ρ,[⟨.lst,[a]⟩]⟩=some (.ok .az,⟨ρ,[⟨.lst,[a,v]⟩]⟩):=λρ a v=>qu (by simp)
 have A2:∀ρ a b v,ie (fH iC) (.ref 0) [v] ⟨ρ,[⟨.lst,[a,b]⟩]⟩=some (.ok .az,⟨ρ,[⟨.lst,[a,b,v]⟩]⟩):=λρ a b v=>qu (by simp)
 have hJ:∀I:List Rw,I.length<=3->(∀m,∀r∈I,PX (aS N z) r1 r2 m r)->(∀(R:List Rw) (x8:Option PV),(∀r∈R,PX (aS N z) r1 r2 (L.length+I.length+1) r)->R.length=L.length ->
   fO (dc 8) (iq (run aJ (c+3))) (L.map .int) ⟨[some (gu N),some (.int (z:Int)),some (kZ (aS N z) r1 r2),some (.int (j:Int)),some (.lst (L.map .int)),some (.int x),some (.ref 0),some (.int ((L.length+I.length+1:Nat):Int)),none,none],[⟨.lst,I.map (aR (aS N z))⟩]⟩=some (.ok .nx,⟨[some (gu N),some (.int (z:Int)),some (kZ (aS N z) r1 r2),some (.int (j:Int)),some (.lst (L.map .int)),some (.int x),some (.ref 0),some (.int ((L.length+I.length+1:Nat):Int)),x8,none],[⟨.lst,I.map (aR (aS N z))++R.map (aR (aS N z))⟩]⟩) ->
   run aJ (c+4) "_law_rows" [gu N,.int (z:Int),kZ (aS N z) r1 r2,.int (j:Int),.lst (L.map .int),.int x] []=some (.ok (.aj (I.map (aR (aS N z))++R.map (aR (aS N z))++[.aj [.str "give",.str (Bw (aS N z) t)]])),[⟨.lst,I.map (aR (aS N z))++R.map (aR (aS N z))⟩])) ->
   ∃(R:List Rw) (t:Option N3) (p:PV) (h':List ah),R.length<=70/\(∀r∈R,PX (aS N z) r1 r2 (R.length+1) r)/\gJ r t/\run aJ (c+4) "_law_rows" [gu N,.int (z:Int),kZ (aS N z) r1 r2,.int (j:Int),.lst (L.map .int),.int x] []=some (.ok p,h')/\ee h' p=some (.aj ((R++[Rw.bj t]).map (aR (aS N z)))):=λI hI hIr H=>by
  obtain⟨R,x8,g1,g2,g3⟩:=xF c N z1 k1 k2 (m:=L.length+I.length+1) (by lia) (by lia) (x3:=some (.int (j:Int))) (x4:=some (.lst (L.map .int))) (x5:=some (.int x)) (x9:=none) L (I.map (aR (aS N z))) none (by simp;lia)
  have len:(I++R).length+1=L.length+I.length+1:=by simp;lia
  refine⟨I++R,t,_,_,by simp;lia,?_,ht,H R x8 g1 g2 g3,?_⟩
  ·rw[len];intro q hq;rcases cW.mp hq with hq | hq
   ·exact hIr _ q hq
   ·exact g1 q hq
  ·rw[show I.map (aR (aS N z))++R.map (aR (aS N z))++[.aj [.str "give",.str (Bw (aS N z) t)]]=(I++R++[Rw.bj t]).map (aR (aS N z)) by simp[aR]]
   exact ju (zR (dw (nG _) _))
 cases hd:decide ((j:Int)<2)
 ·refine hJ [.put .b (.num Ak)] (by simp) (λm q hq=>?_) λR x8 g1 g2 g3=>?_
  ·rw[cm.mp hq];exact⟨trivial,(show Bd Ak by rw[PJ];exact m6 _)⟩
  ·have ll:(L.map PV.int).length<=4000000:=by simp;lia
   have lF:∀a:PV,([a]++R.map (aR (aS N z))).length<=2000:=λa=>by simp;lia
   have P1:∀h,cY h (.int 1) (.int (L.length:Int))=some (.int ((L.length+1:Nat):Int)):=λh=>by show some (PV.int (1+(L.length:Int)))=_;rw[show(1+(L.length:Int))=((L.length+1:Nat):Int) by lia]
   have P2:∀h,cY h (.int ((L.length+1:Nat):Int)) (.int 1)=some (.int ((L.length+1+1:Nat):Int)):=λh=>rfl
   have l1:∀a,fj [⟨.lst,[a]⟩] [.ref 0]=some (.int 1):=λa=>rfl
   revert g3
   delta iq g8
   intro g3;have bk:∀v,cY [⟨.lst,[aR (aS N z) (.put .b (.num Ak))]++R.map (aR (aS N z))⟩] (.ref 0) (.lst [v])=some (.lst ([aR (aS N z) (.put .b (.num Ak))]++R.map (aR (aS N z))++[v])):=λv=>if_pos (by
    show([aR (aS N z) (.put .b (.num Ak))]++R.map (aR (aS N z))).length+1<=gy;have:=lF (aR (aS N z) (.put .b (.num Ak)));have:gy=4000000:=rfl
    lia)
   have tC:∀h l,wc h [.lst l]=some (.aj l):=λh l=>rfl
   obtain⟨G,hG⟩:∃G,G=[aR (aS N z) (.put .b (.num Ak))]++R.map (aR (aS N z)):=⟨_,rfl⟩
   rw[<-hG]at bk;have g3:=g3;rw[show [Rw.put .b (.num Ak)].map (aR (aS N z))++R.map (aR (aS N z))=G from hG.symm]at g3 ⊢
   have g3:fO (dc 8) _ (L.map .int) ⟨[some (gu N),some (.int (z:Int)),some (kZ (aS N z) r1 r2),some (.int (j:Int)),some (.lst (L.map .int)),some (.int x),some (.ref 0),some (.int ((L.length+1+1:Nat):Int)),none,none],[⟨.lst,[.aj [.str "put",.aj [.str (N 1),.bl false,.aj [],.az],.int Ak]]⟩]⟩=_:=g3;rw[sO];rcases e0 with rfl | rfl | rfl
   ·rw[gv];simp only[↓aW,e1,e9,q1,q2,HA,a1,d1,dd,m2,n1,n2,ze,hd,ln,w1,l1,P1,P2,ll,g3,bk,ei,tC]
   ·rw[gv];simp only[↓aW,e1,e9,q1,q2,HA,a1,d1,dd,m2,n1,n2,ze,hd,ln,w1,l1,P1,P2,ll,g3,bk,ei,tC]
   ·rw[gv];simp only[↓aW,e1,e9,q1,q2,HA,a1,d1,dd,m2,n1,n2,ze,hd,ln,w1,l1,P1,P2,ll,g3,bk,ei,tC]
 ·refine hJ [.put .b (.num Ak),.fill (.num Qx),.put .n (.num Qy)] (by simp) (λm q hq=>?_) λR x8 g1 g2 g3=>?_
  ·simp only[bh,c9,da]at hq;rcases hq with rfl | rfl | rfl
   ·exact⟨trivial,(show Bd Ak by rw[PJ];exact m6 _)⟩
   ·exact bd7
   ·exact⟨trivial,(show Bd Qy by rw[hn3];exact m6 _)⟩
  ·have ll:(L.map PV.int).length<=4000000:=by simp;lia
   have lF:∀a b d:PV,([a,b,d]++R.map (aR (aS N z))).length<=2000:=λa b d=>by simp;lia
   have P1:∀h,cY h (.int 3) (.int (L.length:Int))=some (.int ((L.length+3:Nat):Int)):=λh=>by show some (PV.int (3+(L.length:Int)))=_;rw[show(3+(L.length:Int))=((L.length+3:Nat):Int) by lia]
   have P2:∀h,cY h (.int ((L.length+3:Nat):Int)) (.int 1)=some (.int ((L.length+3+1:Nat):Int)):=λh=>rfl
   have l1:∀a b d,fj [⟨.lst,[a,b,d]⟩] [.ref 0]=some (.int 3):=λa b d=>rfl
   revert g3
   delta iq g8
   intro g3;obtain⟨G,hG⟩:∃G,G=[Rw.put .b (.num Ak),.fill (.num Qx),.put .n (.num Qy)].map (aR (aS N z))++R.map (aR (aS N z)):=⟨_,rfl⟩
   rw[<-hG]at g3 ⊢;have bk:∀v,cY [⟨.lst,G⟩] (.ref 0) (.lst [v])=some (.lst (G++[v])):=λv=>if_pos (by
    show G.length+1<=gy;have:=lF (aR (aS N z) (.put .b (.num Ak))) (aR (aS N z) (.fill (.num Qx))) (aR (aS N z) (.put .n (.num Qy)));have h2:G.length<=2000:=by rw[hG];exact this
    have:gy=4000000:=rfl
    lia)
   have tC:∀h l,wc h [.lst l]=some (.aj l):=λh l=>rfl
   have g3:fO (dc 8) _ (L.map .int) ⟨[some (gu N),some (.int (z:Int)),some (kZ (aS N z) r1 r2),some (.int (j:Int)),some (.lst (L.map .int)),some (.int x),some (.ref 0),some (.int ((L.length+3+1:Nat):Int)),none,none],[⟨.lst,[.aj [.str "put",.aj [.str (N 1),.bl false,.aj [],.az],.int Ak],.aj [.str "fill",.aj [.str (N 2),.bl false,.aj [.int 0],.az],.int Qx],.aj [.str "put",.aj [.str (N 2),.bl false,.aj [.int 1],.az],.int Qy]]⟩]⟩=_:=g3;rw[sO];rcases e0 with rfl | rfl | rfl
   ·rw[gv];simp only[↓aW,e1,e9,q1,q2,HA,a1,d1,d3,d5,dd,m2,n1,n2,ze,hd,ln,w1,w2,w3,l1,P1,P2,ll,g3,bk,ei,tC,A1,A2]
   ·rw[gv];simp only[↓aW,e1,e9,q1,q2,HA,a1,d1,d3,d5,dd,m2,n1,n2,ze,hd,ln,w1,w2,w3,l1,P1,P2,ll,g3,bk,ei,tC,A1,A2]
   ·rw[gv];simp only[↓aW,e1,e9,q1,q2,HA,a1,d1,d3,d5,dd,m2,n1,n2,ze,hd,ln,w1,w2,w3,l1,P1,P2,ll,g3,bk,ei,tC,A1,A2]
end bA
set_option maxHeartbeats 4000000
namespace bA
open PySem L2 L2.U
def DC(M:Nm)(r1 r2:Option N3)(Rs:Nat->List Rw)(ts:Nat->Option N3)(j:Nat):Fd:=⟨M.f j,j==2,rs r1 r2 j,Rs j++[.bj (ts j)]⟩
def Fw(M:Nm)(r1 r2:Option N3)(Rs:Nat->List Rw)(ts:Nat->Option N3):List Fd:=[DC M r1 r2 Rs ts 0,DC M r1 r2 Rs ts 1,DC M r1 r2 Rs ts 2]
theorem KN{a b d:Option N3}(h1:gJ a b)(h2:gJ a d):gJ b d:=by
 cases a<;>cases b<;>cases d
 all_goals first | exact(False.elim h1) | exact(False.elim h2) | trivial | skip
 exact(Iff.trans (Iff.symm h1) h2:l8 _ _)
theorem Gp{M:Nm}(K:aT M){r1 r2:Option N3}{Rs:Nat->List Rw}{ts:Nat->Option N3} (H:∀j<3,(Rs j).length<=70/\(∀r∈Rs j,PX M r1 r2 ((Rs j).length+1) r)/\gJ (rs r1 r2 j) (ts j)) :
  jP M (Fw M r1 r2 Rs ts)/\(∀F∈Fw M r1 r2 Rs ts,∀r∈F.rows,HQ r):=by
 have Vu:∀F∈Fw M r1 r2 Rs ts,∃j<3,F=DC M r1 r2 Rs ts j:=λF hF=>by
  simp only[Fw,bh,c9,da]at hF;rcases hF with rfl | rfl | rfl
  ·exact⟨0,by decide,rfl⟩
  ·exact⟨1,by decide,rfl⟩
  ·exact⟨2,by decide,rfl⟩
 have atP:∀j<3,(Fw M r1 r2 Rs ts)[j]?=some (DC M r1 r2 Rs ts j):=λj hj=>by
  rcases(by lia : j=0\/j=1\/j=2)with rfl | rfl | rfl<;>rfl
 refine⟨⟨⟨⟨_,_,_,rfl⟩,?_⟩,?_,?_,?_⟩,?_⟩
 ·intro j F hF;have hj:j<3:=(c8.mp hF).1;rw[atP j hj]at hF;cases hF;rfl
 ·intro F hF r hr;obtain⟨i,hi,rfl⟩:=Vu F hF;obtain⟨_,h2,_⟩:=H i hi;rcases cW.mp hr with hr | hr
  ·have h:=h2 r hr;cases r with
   | call j t as =>
    obtain⟨hj,ca,so⟩:=h;refine⟨_,atP j hj,ca,λu hu=>?_⟩
    obtain⟨_,g2,g3⟩:=H j hj;rcases cW.mp hu with hu | hu
    ·exact absurd (g2 _ hu) id
    ·cases cm.mp hu;exact KN so g3
   | ifs o p k=>exact⟨h.1,h.2.1⟩
   | go k=>trivial
   | bj t=>exact absurd h id
   | _=>exact h
  ·rw[cm.mp hr];trivial
 ·intro F hF k r hr;obtain⟨i,hi,rfl⟩:=Vu F hF;obtain⟨_,h2,_⟩:=H i hi;have hr:(Rs i++[Rw.bj (ts i)])[k]?=some r:=hr;have hl:(DC M r1 r2 Rs ts i).rows.length=(Rs i).length+1:=by simp[DC]
  rw[hl];by_cases hk:k<(Rs i).length
  ·rw[fy hk]at hr;have h:=h2 r (cP hr);cases r with
   | go j=>exact h
   | ifs o p j=>exact⟨h.2.2,by lia⟩
   | bj t=>trivial
   | _=>exact(by lia : k+1<(Rs i).length+1)
  ·rw[iw (by lia)]at hr
   cases cm.mp (cP hr);trivial
 ·intro F hF;obtain⟨i,hi,rfl⟩:=Vu F hF;obtain⟨h1,_,_⟩:=H i hi;have hl:(DC M r1 r2 Rs ts i).rows.length=(Rs i).length+1:=by simp[DC]
  rw[hl]
  lia
 ·intro F hF r hr;obtain⟨i,hi,rfl⟩:=Vu F hF;obtain⟨_,h2,_⟩:=H i hi;rcases cW.mp hr with hr | hr
  ·have h:=h2 r hr;cases r with
   | call j t as =>
    rcases h.2.1 with⟨_,x,_,rfl⟩ | ⟨_,x,_,rfl⟩
    ·exact .inl ⟨_,rfl⟩
    ·exact .inr ⟨_,_,rfl⟩
   | _=>trivial
  ·rw[cm.mp hr];trivial
def cell(ns:List Int)(i:Nat):Int:=ns.getD i 0
theorem nv(k:Nat)(ns:List Int)(i:Nat):run aJ (k+1) "_law_cell_at" [xI ns,.int (i:Int)] []=some (.ok (.int (cell ns i)),[]):=by
 rw[u5];have ln:fj [] [xI ns]=some (.int (ns.length:Int)):=by
  show some (PV.int (((ns.map PV.int).length:Nat):Int))=_;rw[aM]
 unfold cell;rw[j6];by_cases hi:i<ns.length
 ·have e:aI [] (xI ns) (.int (i:Int))=some (.int ns[i]):=atI_nat (by rw[bB,dW hi];rfl)
  simp only[↓aW,ln,e,dX (show(i:Int)<(ns.length:Int) by lia),dW hi,yi]
 ·simp only[↓aW,ln,cz (show ¬(i:Int)<(ns.length:Int) by lia),tu (yl hi),yo]
theorem P4{ns:List Int}(hl:ns.length<=63):∃ms:List Int,ms.length<=63/\∀h,xH h (some 6) (some 30) (xI ns)=some (.lst (ms.map .int)):=by
 refine⟨(ns.drop (HT.dM ns.length 0 (some 6))).take (HT.dM ns.length ns.length (some 30)-HT.dM ns.length 0 (some 6)),?_,λh=>?_⟩
 ·rw[mw,tO]
  lia
 show some (PV.lst (ic (ns.map PV.int) (some 6) (some 30)))=_;unfold ic;rw[aM,t9,List.map_drop]
theorem s9{i m n B:Nat}(hm:1<=m)(h:n+m<=B):(U.lJ i m n).length<=B:=by
 unfold U.lJ sliceRange;rw[aM,mr];have e:sliceBounds (some (i:Int)) none (some (m:Int)) n=(max 0 (min (i:Int) n),(n:Int),(m:Int)):=by
  unfold sliceBounds;simp only[yi,if_pos (show(m:Int)>0 by lia),if_neg (show ¬(i:Int)<0 by lia)]
 rw[e];simp only;rw[if_pos (by lia)]
 split
 ·have:=Int.ediv_le_self (a:=(n:Int)-max 0 (min (i:Int) n)+m-1) (m:Int) (by lia)
  lia
 ·simp
theorem HB{α β:Type}(f:α->β)(a m:Int)(ps:List α):ji a m (ps.map f)=(ji a m ps).map f:=by
 unfold ji;rw[aM,List.map_filterMap];refine fT (λg=>List.filterMap g _) (funext λj=>?_)
 rw[bB]
theorem HC{α:Type}{a m:Int}{ps:List α}:(ji a m ps).length<=(U.lJ a m ps.length).length:=List.length_filterMap_le _ _
theorem qL(i:Nat){cs:List Int}(h:cs.length<=63):∃L:List Int,L.length<=66/\Cy (.lst (cs.map .int)) (some (i:Int)) (some 3)=some (.lst (L.map .int)):=by
 refine⟨ji (i:Int) 3 cs,aP HC (s9 (m:=3) (by decide) (by lia)),?_⟩
 show(if((3:Int) != 0&&decide ((U.lJ (i:Int) 3 (cs.map PV.int).length).length<=gy))=true then some (PV.lst (ji (i:Int) 3 (cs.map PV.int)))else none)=_
 rw[if_pos,HB];rw[aM,aF];exact⟨by decide,dX (aP (s9 (m:=3) (B:=66) (by decide) (by lia)) (by decide))⟩
end bA
set_option maxHeartbeats 4000000
namespace bA
open PySem L2 L2.U
theorem BW(l:List Int):ai (l.map PV.int)=true:=dw (λ_=>rfl) l
theorem Am(c:Nat){ns:List Int}(hl:ns.length<=63):∃(M:Nm) (P:List Fd) (p:PV) (h':List ah),aT M/\jP M P/\(∀F∈P,∀r∈F.rows,HQ r)/\(∃F0,P[0]?=some F0/\F0.w=false)/\run aJ (c+5) "_law_program" [xI ns] []=some (.ok p,h')/\ee h' p=some (.aj (P.map (fdP M))):=by
 obtain⟨N,hN,Ys,en⟩:=KC (c+3) (cell ns 0);obtain⟨z,hz,z1,z8⟩:∃z:Nat,1+cell ns 1%8=(z:Int)/\1<=z/\z<=8:=⟨(1+cell ns 1%8).toNat,by lia,by lia,by lia⟩
 have K:aT (aS N z):=⟨λe=>absurd (hN 0 1 (by decide) (by decide) e) (by decide),λe=>absurd (hN 0 2 (by decide) (by decide) e) (by decide),λe=>absurd (hN 1 2 (by decide) (by decide) e) (by decide),Ys 0,Ys 1,Ys 2,(λi j hi hj e=>by have:=hN (3+i) (3+j) (by lia) (by lia) e;lia),z1,z8⟩
 obtain⟨r1,r2,k1,k2,eh⟩:=Hw (c+2) N z (cell ns 1/8);obtain⟨cs,hc,esl⟩:=P4 hl;obtain⟨L0,a0,Yt⟩:=qL 0 hc;obtain⟨L1,a1,st1⟩:=qL 1 hc;obtain⟨L2',a2,dH⟩:=qL 2 hc;obtain⟨R0,t0,p0,g0,b0,d0,s0,e0,f0⟩:=vy c N z1 k1 k2 (j:=0) (by decide) a0 (cell ns 2)
 obtain⟨R1,t1,p1,g1,b1,d1,s1,e1,f1⟩:=vy c N z1 k1 k2 (j:=1) (by decide) a1 (cell ns 2)
 obtain⟨R2,t2,p2,g2,b2,d2,s2,e2,f2⟩:=vy c N z1 k1 k2 (j:=2) (by decide) a2 (cell ns 2)
 obtain⟨Rs,Vv⟩:∃Rs:Nat->List Rw,Rs=λj=>match j with | 0=>R0 | 1=>R1 | _=>R2:=⟨_,rfl⟩
 obtain⟨ts,Vw⟩:∃ts:Nat->Option N3,ts=λj=>match j with | 0=>t0 | 1=>t1 | _=>t2:=⟨_,rfl⟩
 obtain⟨o1,o2⟩:=Gp K (r1:=r1) (r2:=r2) (Rs:=Rs) (ts:=ts) (λj hj=>by
  subst Vv Vw;rcases(by lia : j=0\/j=1\/j=2)with rfl | rfl | rfl
  ·exact⟨b0,d0,s0⟩
  ·exact⟨b1,d1,s1⟩
  ·exact⟨b2,d2,s2⟩)
 have w0:DC (aS N z) r1 r2 Rs ts 0=⟨(aS N z).f 0,false,none,R0++[.bj t0]⟩:=by subst Vv Vw;rfl
 have w1:DC (aS N z) r1 r2 Rs ts 1=⟨(aS N z).f 1,false,r1,R1++[.bj t1]⟩:=by subst Vv Vw;rfl
 have w2:DC (aS N z) r1 r2 Rs ts 2=⟨(aS N z).f 2,true,r2,R2++[.bj t2]⟩:=by subst Vv Vw;rfl
 have hP:((Fw (aS N z) r1 r2 Rs ts).map (fdP (aS N z)))=[fdP (aS N z) ⟨(aS N z).f 0,false,none,R0++[.bj t0]⟩,fdP (aS N z) ⟨(aS N z).f 1,false,r1,R1++[.bj t1]⟩,fdP (aS N z) ⟨(aS N z).f 2,true,r2,R2++[.bj t2]⟩]:=by
  rw[<-w0,<-w1,<-w2];rfl
 refine⟨aS N z,Fw (aS N z) r1 r2 Rs ts,.aj ((Fw (aS N z) r1 r2 Rs ts).map (fdP (aS N z))),[⟨.lst,(Fw (aS N z) r1 r2 Rs ts).map (fdP (aS N z))⟩],K,o1,o2,⟨_,rfl,rfl⟩,?_,ju (zR (dw (nH _) _))⟩;rw[hP];obtain⟨T0,hT0⟩:∃T,T=(R0++[Rw.bj t0]).map (aR (aS N z)):=⟨_,rfl⟩
 obtain⟨T1,hT1⟩:∃T,T=(R1++[Rw.bj t1]).map (aR (aS N z)):=⟨_,rfl⟩
 obtain⟨T2,hT2⟩:∃T,T=(R2++[Rw.bj t2]).map (aR (aS N z)):=⟨_,rfl⟩
 rw[<-hT0]at f0;rw[<-hT1]at f1;rw[<-hT2]at f2;have F0:fdP (aS N z) ⟨(aS N z).f 0,false,none,R0++[.bj t0]⟩=.aj [.str ((aS N z).f 0),.aj [dA (aS N z) .a],.az,.aj [dA (aS N z) .b,dA (aS N z) .c],.aj T0]:=by rw[hT0];rfl
 have F1:fdP (aS N z) ⟨(aS N z).f 1,false,r1,R1++[.bj t1]⟩=.aj [.str ((aS N z).f 1),.aj [dA (aS N z) .a],qr (aS N z) r1,.aj [dA (aS N z) .b,dA (aS N z) .c],.aj T1]:=by rw[hT1];rfl
 have F2:fdP (aS N z) ⟨(aS N z).f 2,true,r2,R2++[.bj t2]⟩=.aj [.str ((aS N z).f 2),.aj [dA (aS N z) .a,dA (aS N z) .c],qr (aS N z) r2,.aj [dA (aS N z) .b],.aj T2]:=by rw[hT2];rfl
 rw[F0,F1,F2];have c0:run aJ (c+4) "_law_cell_at" [xI ns,.int 0] []=some (.ok (.int (cell ns 0)),[]):=nv (c+3) ns 0;have c1:run aJ (c+4) "_law_cell_at" [xI ns,.int 1] []=some (.ok (.int (cell ns 1)),[]):=nv (c+3) ns 1;have c2:run aJ (c+4) "_law_cell_at" [xI ns,.int 2] []=some (.ok (.int (cell ns 2)),[]):=nv (c+3) ns 2;have en2:ee [⟨.lst,(Z6 N).map .str⟩] (.ref 0)=some (gu N):=jy (dw (λ_=>rfl) _)
 have m8:∀h,cA h (.int (cell ns 1)) (.int 8)=some (.int (cell ns 1%8)):=λh=>fL (by decide)
 have f8:∀h,fM h (.int (cell ns 1)) (.int 8)=some (.int (cell ns 1/8)):=λh=>nh (by decide)
 have ad:∀h,cY h (.int 1) (.int (cell ns 1%8))=some (.int (z:Int)):=λh=>by show some (PV.int (1+cell ns 1%8))=_;rw[hz]
 have lw:run aJ (c+4) "_law_wide" [.int (z:Int)] []=some (.ok (xj z),[]):=BU (c+3) z;have i1:∀h,aI h (gu N) (.int 1)=some (.str (N 1)):=λh=>rfl
 have i2:∀h,aI h (gu N) (.int 2)=some (.str (N 2)):=λh=>rfl
 have l2:∀a b:PV,[a,b].length<=4000000:=λ_ _=>by simp
 have Vt:nV [.int 3]=some [.int 0,.int 1,.int 2]:=rfl;have Yt:Cy (.lst (cs.map .int)) (some 0) (some 3)=some (.lst (L0.map .int)):=Yt;have st1:Cy (.lst (cs.map .int)) (some 1) (some 3)=some (.lst (L1.map .int)):=st1;have dH:Cy (.lst (cs.map .int)) (some 2) (some 3)=some (.lst (L2'.map .int)):=dH;have e0:run aJ (c+4) "_law_rows" [gu N,.int (z:Int),kZ (aS N z) r1 r2,.int 0,.lst (L0.map .int),.int (cell ns 2)] []=some (.ok p0,g0):=e0;have e1:run aJ (c+4) "_law_rows" [gu N,.int (z:Int),kZ (aS N z) r1 r2,.int 1,.lst (L1.map .int),.int (cell ns 2)] []=some (.ok p1,g1):=e1;have e2:run aJ (c+4) "_law_rows" [gu N,.int (z:Int),kZ (aS N z) r1 r2,.int 2,.lst (L2'.map .int),.int (cell ns 2)] []=some (.ok p2,g2):=e2;have nr6:∀(L:List Int) (x y:Int),ai [gu N,.int (z:Int),kZ (aS N z) r1 r2,.int x,.lst (L.map .int),.int y]=true:=λL x y=>by
  simp[ai,Hz,BV,noRef,BW]
 have nrs:∀x:Int,ai [xI ns,.int x]=true:=λx=>by
  show(noRef (.lst (ns.map PV.int))&&_)=true;rw[mW (BW ns)];rfl
 have DA:ai [gu N,.int (z:Int),.int (cell ns 1/8)]=true:=rfl;have h0:∀h,aI h (kZ (aS N z) r1 r2) (.int 0)=some (xE (aS N z) 0 none):=λh=>rfl
 have h1:∀h,aI h (kZ (aS N z) r1 r2) (.int 1)=some (xE (aS N z) 1 r1):=λh=>rfl
 have h2:∀h,aI h (kZ (aS N z) r1 r2) (.int 2)=some (xE (aS N z) 2 r2):=λh=>rfl
 have s0:∀h a b,cY h (xE (aS N z) 0 none) (.aj [a,b])=some (.aj [.str ((aS N z).f 0),.aj [dA (aS N z) .a],.az,a,b]):=λh a b=>rfl
 have s1:∀h a b,cY h (xE (aS N z) 1 r1) (.aj [a,b])=some (.aj [.str ((aS N z).f 1),.aj [dA (aS N z) .a],qr (aS N z) r1,a,b]):=λh a b=>rfl
 have s2:∀h a b,cY h (xE (aS N z) 2 r2) (.aj [a,b])=some (.aj [.str ((aS N z).f 2),.aj [dA (aS N z) .a,dA (aS N z) .c],qr (aS N z) r2,a,b]):=λh a b=>rfl
 have Qb:∀h (a b:PV),xH h none (some 2) (.lst [a,b])=some (.lst [a,b]):=λh a b=>rfl
 have sl1:∀h (a b:PV),xH h none (some 1) (.lst [a,b])=some (.lst [a]):=λh a b=>rfl
 have tC:∀h l,wc h [.lst l]=some (.aj l):=λh l=>rfl
 have tR:∀l,wc [⟨.lst,l⟩] [.ref 0]=some (.aj l):=λl=>rfl
 have A0:∀ρ v,ie (fH iC) (.ref 0) [v] ⟨ρ,[⟨.lst,[]⟩]⟩=some (.ok .az,⟨ρ,[⟨.lst,[v]⟩]⟩):=λρ v=>qu (by simp)
 have A1:∀ρ a v,ie (fH iC) (.ref 0) [v] ⟨ρ,[⟨.lst,[a]⟩]⟩=some (.ok .az,⟨ρ,[⟨.lst,[a,v]⟩]⟩):=λρ a v=>qu (by simp)
 have A2:∀ρ a b v,ie (fH iC) (.ref 0) [v] ⟨ρ,[⟨.lst,[a,b]⟩]⟩=some (.ok .az,⟨ρ,[⟨.lst,[a,b,v]⟩]⟩):=λρ a b v=>qu (by simp)
 have hsf:∀h,ee h (kZ (aS N z) r1 r2)=some (kZ (aS N z) r1 r2):=λh=>ju (BV _ _ _)
 rw[u7];simp only[↓aW,c0,c1,c2,en,en2,m8,f8,ad,lw,i1,i2,l2,Vt,Yt,st1,dH,e0,e1,e2,f0,f1,f2,nr6,nrs,DA,h0,h1,h2,s0,s1,s2,sl1,Qb,tC,tR,A0,A1,A2,eh,esl,hsf,cq,bY];rfl
end bA
set_option maxHeartbeats 4000000
namespace bA
open PySem L2 L2.U
theorem HE(ns:List Int)(h:ns.length<=63):Vl (run aJ 30 "law" [xI ns] []):=by
 obtain⟨M,P,p,hp,K,W,A,⟨F0,hF0,hw⟩,ep,fp⟩:=Am 24 h;obtain⟨most,hm,acS⟩:∃most:Nat,cell ns 5%81=(most:Int)/\most<81:=⟨(cell ns 5%81).toNat,by lia,by lia⟩
 obtain⟨xO,hB,KO⟩:∃xO:Int,Bd xO/\xO=if(cell ns 4%3==0)=true then cell ns 3%vi%9 else cell ns 3%vi:=⟨_,by
  split
  ·exact⟨et _ (by decide),Int.lt_trans (ix _ (by decide)) (by decide +kernel)⟩
  ·exact m6 _,rfl⟩
 have pl:∀n:Nat,n<=4000->∃q hq,run aJ 29 "played" [.aj (P.map (fdP M)),.lst [.int xO],.int (n:Int)] []=some (.ok q,hq)/\ee hq q=some (Aj M P n xO):=λn hn=>Hs 13 K W A hF0 hw hB (by lia)
 have du:=fun(n:Nat) (hn:n<=4000)=>PU 25 K W hF0 hw hB hn
 have UG:∀n:Nat,n<=4000->run aJ 29 "_law_told" [Aj M P n xO,Aj M P n xO] []=some (.ok (.bl true),[]):=λn hn=>by
  obtain⟨_,_,_,_,hl⟩:=du n hn;exact KJ 27 _ (by lia) _
 obtain⟨q1,h1,e1,f1⟩:=pl most (by lia)
 obtain⟨q2,h2,e2,f2⟩:=pl 400 (by lia)
 obtain⟨d1,g1,x1,y1,_⟩:=du most (by lia)
 obtain⟨d2,g2,x2,y2,_⟩:=du 400 (by lia)
 have t1:=UG most (by lia)
 have t2:=UG 400 (by lia)
 have c3:run aJ 29 "_law_cell_at" [xI ns,.int 3] []=some (.ok (.int (cell ns 3)),[]):=nv 28 ns 3;have c4:run aJ 29 "_law_cell_at" [xI ns,.int 4] []=some (.ok (.int (cell ns 4)),[]):=nv 28 ns 4;have c5:run aJ 29 "_law_cell_at" [xI ns,.int 5] []=some (.ok (.int (cell ns 5)),[]):=nv 28 ns 5;have HA:=λh=>GZ (h:=h)
 have P0:=λh x=>xu (h:=h) (x:=x)
 have m3:∀h,cA h (.int (cell ns 4)) (.int 3)=some (.int (cell ns 4%3)):=λh=>fL (by decide)
 have m9:∀h,cA h (.int (cell ns 3%vi)) (.int 9)=some (.int (cell ns 3%vi%9)):=λh=>fL (by decide)
 have Vx:∀h,cA h (.int (cell ns 5)) (.int 81)=some (.int (most:Int)):=λh=>by rw[fL (by decide),hm]
 have Vy:∀h,fM h (.int (cell ns 5)) (.int 81)=some (.int (cell ns 5/81)):=λh=>nh (by decide)
 have m8:∀h,cA h (.int (cell ns 5/81)) (.int 8)=some (.int (cell ns 5/81%8)):=λh=>fL (by decide)
 have q0:∀h x,qO h (.int x) (.int 0)=some (.bl (x==0)):=λh x=>rfl
 have ql:∀h,qO h (.lst [.int xO]) (.lst [.int xO])=some (.bl true):=λh=>by
  show some (PV.bl (eqT (.lst [.int xO]) (.lst [.int xO])))=_;rw[jh]
 have l1:∀a:PV,[a].length<=4000000:=λ_=>by simp
 have e2:run aJ 29 "played" [.aj (P.map (fdP M)),.lst [.int xO],.int 400] []=some (.ok q2,h2):=e2;have x2:run aJ 29 "_law_due" [.aj (P.map (fdP M)),.int xO,.int 400] []=some (.ok d2,g2):=x2;have cd:∀ρ,qc 0 3 (run aJ 29 "played") [.int 400] [.aj (P.map (fdP M)),.lst [.int xO]] ⟨ρ,[]⟩=some (.ok (Aj M P 400 xO),⟨ρ,[]⟩):=λρ=>by
  show jY 0 3 (run aJ 29 "played") [.aj (P.map (fdP M)),.lst [.int xO],.int 400] ⟨ρ,[]⟩=_;exact OX rfl rfl e2 f2
 rw[show run aJ 30 "law"=_ from Kf 29]
 refine(λo (h:o=some (Rs.ok (PV.bl true),[]))=>(⟨[],h⟩:Vl o)) _ ?_
 cases b1:cell ns 4%3==0<;>cases b2:cell ns 5/81%8==0<;>rw[b1]at KO
 all_goals first | rw[if_pos rfl]at KO | rw[if_neg cQ]at KO
 all_goals rw[KO]at e1 x1 x2 t1 t2 f1 y1 y2 ql cd
 ·simp only[↓aW,ep,fp,c3,c4,c5,HA,P0,m3,m9,Vx,Vy,m8,q0,b1,b2,x1,y1,e1,f1,t1,ql,l1]
 ·simp only[↓aW,ep,fp,c3,c4,c5,HA,P0,m3,m9,Vx,Vy,m8,q0,b1,b2,x1,y1,e1,f1,t1,cd,x2,y2,t2,ql,l1]
 ·simp only[↓aW,ep,fp,c3,c4,c5,HA,P0,m3,m9,Vx,Vy,m8,q0,b1,b2,x1,y1,e1,f1,t1,ql,l1]
 ·simp only[↓aW,ep,fp,c3,c4,c5,HA,P0,m3,m9,Vx,Vy,m8,q0,b1,b2,x1,y1,e1,f1,t1,cd,x2,y2,t2,ql,l1]
end bA
noncomputable section
open PySem PySem.W PyProof.Rows PySem.Calls
theorem PySem.Challenge.cw_lendrule_k61_plain_calls_of_owners_holds : PySem.Challenge.rw_lendrule_k61_plain_calls_of_owners.Holds := by
 exact bA.hJ λd h1 h2=>L2.U.Gu (P:=bA.aJ) (N:=30) (st:=bA.T5) (x:="_law_script") (l:=PySem.Challenge.rw_lendrule_k61_plain_calls_of_owners) (by kernel_rfl) (by kernel_rfl) rfl h1 h2 ⟨rfl,by decide,by decide⟩ (by kernel_rfl) bA.YE rfl (λw h Y=>Y) bA.HE
end
