import PyProof.Rows.All
import Wide.All
import OpenK.AllK
import Wide.FinOn
import PySem.Challenge.RW_floorcurves_k72_ends_shaded
import Lean
import PyProof.EqAt
import PyProof.EqKinds
import PyProof.TupleCall
local macro_rules | `(command|def $n:declId $s:optDeclSig $v:declVal)=>`(command|noncomputable def $n:declId $s:optDeclSig $v:declVal)
local macro_rules | `(command|abbrev $n:declId $s:optDeclSig $v:declVal)=>`(command|noncomputable abbrev $n:declId $s:optDeclSig $v:declVal)
local macro_rules | `(tactic| and_intros) => `(tactic| exact ⟨rfl,rfl,rfl,by decide +kernel,rfl,by decide +kernel,by decide +kernel⟩)
local macro_rules | `(tactic| lia) => `(tactic| first | lia -verbose | omega)
local macro_rules | `(tactic| ac_nf) => `(tactic| decide +kernel)
local macro_rules | `(tactic| trivial) => `(tactic| first | exact Or.inl rfl | exact Or.inr rfl)
abbrev P3:=@PySem.Value
abbrev P4:=@PySem.Shared
abbrev P5:=@PySem.Addr
abbrev P6:=@PySem.Program
abbrev P7:=@PySem.FuncData
abbrev P8:=@PySem.World
abbrev P9:=@PySem.Around
abbrev P':=@List
abbrev Qa:=@PySem.Expr
abbrev Qb:=@PySem.Heap
abbrev Qc:=@Option
abbrev Qd:=@PySem.Stmt
abbrev A0:=@PySem.wpAny_bind
abbrev A1:=@List.length_map
abbrev A2:=@List.getElem?_eq_getElem
abbrev A3:=@PySem.wpAny_pure
abbrev A4:=@List.getD_eq_getElem?_getD
abbrev A5:=@PySem.Heap.get?_push_of_some
abbrev A6:=@if_neg
abbrev A7:=@Option.bind_eq_some_iff
abbrev A8:=@Nat.le_refl
abbrev A9:=@List.map_append
abbrev AA:=@Option.map_eq_some_iff
abbrev AB:=@if_pos
abbrev AC:=@List.length_append
abbrev AD:=@Bool.and_eq_true
abbrev AE:=@List.getElem?_map
abbrev AF:=@List.size_toArray
abbrev AG:=@List.getElem?_eq_some_iff
abbrev AH:=@PySem.PassesOwn.never
abbrev AI:=@PySem.Heap.get?_push_size
abbrev AJ:=@Nat.zero_le
abbrev AK:=@Bool.false_eq_true
abbrev AL:=@PySem.Heap.lt_size
abbrev AM:=@List.mem_cons
abbrev AN:=@List.mem_cons_of_mem
abbrev AO:=@Nat.ne_of_lt
abbrev AQ:=@List.take_length
abbrev AR:=@PyProof.Rows.wpS_bind
abbrev AS:=@List.mem_cons_self
abbrev AT:=@Nat.le_of_lt
abbrev AU:=@List.mem_of_getElem?
abbrev AV:=@Int.toNat_natCast
abbrev AW:=@List.map_cons
abbrev AX:=@Bool.false_ne_true
abbrev AY:=@List.take_add_one
abbrev AZ:=@List.length_cons
abbrev Aa:=@List.length_take
abbrev Ab:=@PySem.F.plainAttrs_list
abbrev Ac:=@Array.getElem?_eq_getElem
abbrev Ad:=@List.length_replicate
abbrev Ae:=@Option.some.inj
abbrev Af:=@decide_eq_true_eq
abbrev Ag:=@List.mem_range
abbrev Ah:=@PyProof.Rows.wpS_pure
abbrev Ai:=@Nat.lt_of_lt_of_le
abbrev Aj:=@PySem.wpAny_call_entry
abbrev Ak:=@Nat.lt_succ_of_lt
abbrev Al:=@Int.eq_ofNat_of_zero_le
abbrev Am:=@decide_eq_false
abbrev An:=@Array.length_toList
abbrev Ao:=@List.all_eq_true
abbrev Ap:=@List.replicate_succ
abbrev Aq:=@List.mem_singleton
abbrev Ar:=@of_decide_eq_true
abbrev As:=@Nat.le_trans
abbrev At:=@List.mem_map
abbrev Au:=@PySem.wpAny_newObj_type
abbrev Av:=@if_false
abbrev Aw:=@PySem.wpAny_holding
abbrev Ax:=@PySem.W.mg_none_of
abbrev Ay:=@List.flatMap_append
abbrev Az:=@List.range_succ
abbrev B0:=@List.append_assoc
abbrev B1:=@List.not_mem_nil
abbrev B2:=@List.mem_flatMap
abbrev B3:=@PySem.sizeLine_eq
abbrev B4:=@List.mem_append_right
abbrev B5:=@PySem.wpAny_callSpecial?_slot
abbrev B6:=@List.length_range
abbrev B7:=@PySem.Heap.size_push
abbrev B8:=@List.append_nil
abbrev B9:=@List.sum_cons
abbrev B':=@PySem.Heap.size_update
abbrev BA:=@decide_eq_true
abbrev BB:=@PySem.Heap.get?_push_ne
abbrev BC:=@PySem.F.type_list_append
abbrev BD:=@PySem.F.slot_list_append
abbrev BE:=@PySem.Heap.SameBut.update
abbrev BF:=@congrArg
abbrev BG:=@List.map_map
abbrev BH:=@List.map_congr_left
abbrev BI:=@List.flatMap_cons
abbrev BJ:=@Bool.not_true
abbrev BK:=@Array.getElem?_eq_none
abbrev BL:=@PySem.wpAny_Call_Name_kw
abbrev BM:=@List.take_succ_cons
abbrev BN:=@Array.getElem?_toList
abbrev BO:=@PyProof.Rows.callWith_type1
abbrev BP:=@List.foldl_append
abbrev BQ:=@List.length_eq_zero_iff
abbrev BR:=@PyProof.Rows.slot_tuple_getitem
abbrev BS:=@PySem.wpAny_setState_of
abbrev BU:=@Nat.lt_succ_self
abbrev BV:=@PySem.wpAny_mono
abbrev BW:=@PySem.F.slot_dict_valueiterator_next
abbrev BX:=@List.length_singleton
abbrev BY:=@PySem.W.kia_one
abbrev BZ:=@Nat.ne_of_gt
abbrev Ba:=@List.nodup_cons
abbrev Bb:=@List.find?_cons
abbrev Bc:=@PySem.wpAny_field
abbrev Bd:=@PySem.F.slot_dict_keyiterator_next
abbrev Be:=@PySem.Paired.length
abbrev Bf:=@Int.le_refl
abbrev Bg:=@List.getElem?_append_right
abbrev Bh:=@Int.zero_add
abbrev Bi:=@List.length_set
abbrev Bj:=@List.foldl_cons
abbrev Bk:=@List.drop_eq_getElem_cons
abbrev Bl:=@PySem.wpAny_truthy_bool
abbrev Bm:=@PySem.wpAny_seqItems
abbrev Bn:=@List.take_append_drop
abbrev Bo:=@List.filter_append
abbrev Bp:=@Nat.lt_or_ge
abbrev Bq:=@PyProof.Rows.size_push'
abbrev Br:=@PySem.Obj.data_mapFields
abbrev Bs:=@or_false
abbrev Bt:=@PySem.mem_of_lookup
abbrev Bu:=@PySem.Around.under_plainId
abbrev Bv:=@PySem.codeAny_builtin
abbrev Bw:=@List.map_replicate
abbrev Bx:=@Array.getElem?_eq_none_iff
abbrev By:=@PySem.wpAny_attempt
abbrev Bz:=@PySem.wpAny_isInstance
abbrev C0:=@PySem.wpAny_forIn_list
abbrev C1:=@List.mem_append
abbrev C2:=@List.length_nil
abbrev C3:=@PySem.wpAny_setField
abbrev C4:=@PySem.wpAny_rule
abbrev C5:=@if_true
abbrev C6:=@Nat.pow_le_pow_right
abbrev C7:=@Nat.mul_le_mul_right
abbrev C8:=@List.mem_iff_getElem
abbrev C9:=@List.getElem?_set_ne
abbrev CA:=@PySem.Calls.spliced_cons
abbrev CB:=@PySem.Heap.get?_update_self
abbrev CC:=@PySem.F.type_list_extend
abbrev CD:=@PySem.F.slot_list_extend
abbrev CF:=@Nat.lt_irrefl
abbrev CG:=@List.lookup_cons
abbrev CH:=@Nat.le_succ
abbrev CI:=@of_decide_eq_false
abbrev CJ:=@beq_iff_eq
abbrev CK:=@List.take_of_length_le
abbrev CL:=@List.pairwise_cons
abbrev CM:=@List.length_filter_le
abbrev CN:=@List.getElem?_eq_none
abbrev CO:=@PySem.wpAny_typeNameOfWhole_valiter
abbrev CP:=@PySem.wpAny_typeNameOfWhole_keyiter
abbrev CQ:=@List.flatten_cons
abbrev CS:=@PySem.wpAny_specialOf
abbrev CT:=@PySem.wpAny_passesOwn
abbrev CU:=@PySem.wpAny_loadPart'
abbrev CV:=@Bool.and_false
abbrev CW:=@Array.perm_iff_toList_perm
abbrev CY:=@Nat.succ_mul
abbrev CZ:=@List.length_drop
abbrev Ca:=@List.ext_getElem
abbrev Cb:=@List.cons_append
abbrev Cc:=@PySem.wpAny_dictEntries
abbrev Cd:=@List.getElem?_append_left
abbrev Ce:=@beq_eq_false_iff_ne
abbrev Cf:=@List.filterMap_cons
abbrev Cg:=@PySem.F.slot_tuple_iterator_next
abbrev Ch:=@PyProof.Rows.get?_update_seq
abbrev Ci:=@Option.map_some
abbrev Cj:=@Nat.min_eq_left
abbrev Ck:=@List.forIn_cons
abbrev Cm:=@List.cons.injEq
abbrev Cn:=@PyProof.Rows.listUpdate_at
abbrev Co:=@PySem.F.called_set
abbrev Cp:=@Array.forIn_toList
abbrev Cq:=@List.getElem?_replicate
abbrev Cr:=@PySem.Calls.call_function_entry
abbrev Cs:=@PySem.wpAny_typeNameOf_valiter
abbrev Ct:=@PySem.wpAny_typeNameOf_keyiter
abbrev Cu:=@PySem.wpAny_newList
abbrev Cv:=@bne_self_eq_false
abbrev Cw:=@Bool.not_false
abbrev Cy:=@PySem.wpAny_execs_nil
abbrev Cz:=@PySem.wpAny_dictEpoch
abbrev D0:=@PySem.wpAny_setField_rec
abbrev D1:=@PySem.wpAny_pyIter_tuple
abbrev D2:=@PyProof.Rows.callWith_builtin1
abbrev D3:=@List.flatMap_nil
abbrev D4:=@Ne.symm
abbrev D5:=@Nat.add_assoc
abbrev D6:=@PySem.wpAny_fieldsOf
abbrev D7:=@PySem.codeAny_mono
abbrev D8:=@PySem.boot_len
abbrev D9:=@List.replicate_succ'
abbrev D':=@List.mem_of_mem_take
abbrev DA:=@List.mem_of_mem_drop
abbrev DB:=@PySem.F.slot_tuple_hash
abbrev DC:=@PySem.Calls.callWith_builtin
abbrev DD:=@List.nil_append
abbrev DE:=@List.mem_filter
abbrev DF:=@Bool.or_eq_true
abbrev DH:=@PyProof.Rows.wpS_modify
abbrev DI:=@PySem.Obj.isFreed_of_fields
abbrev DJ:=@List.reverse_append
abbrev DK:=@List.length_pos_iff
abbrev DL:=@List.getD_cons_succ
abbrev DN:=@PySem.wpAny_askSetting
abbrev DO:=@Nat.sub_self
abbrev DP:=@List.map_nil
abbrev DQ:=@PySem.wpAny_standAt
abbrev DR:=@PySem.plainId_quiet
abbrev DS:=@PySem.wpAny_of_eq
abbrev DT:=@PySem.Heap.get?_update_ne
abbrev DU:=@PySem.wpAny_typeOf
abbrev DV:=@PySem.call_meets
abbrev DW:=@PyProof.Rows.boot_sum
abbrev DX:=@PyProof.Rows.entry_list_sort
abbrev DY:=@PyProof.Rows.boot_isinstance
abbrev DZ:=@PyProof.Rows.slot_list_sort
abbrev Da:=@PyProof.Rows.args_list_sort
set_option pp.maxSteps 400
set_option Elab.async false
set_option linter.all false
set_option maxRecDepth 100000
set_option maxHeartbeats 4000000
set_option Elab.async false
set_option linter.all false
set_option maxRecDepth 100000
namespace L2
open PySem PySem.Spec PyProof.Rows
variable {A:P9}{E Q:P3->P4->Prop}{K:W.Frag}{KC x:Str}{Ku:P' (P5×Obj)}{M:Model}{N ps:P' Str}{P:P6}{a b dx f it:P5}{base h:Qb}{body:P' Qd}{c e l tg:Qa}{ch fp:P' P5}{es:P' Qa}{fd:P7}{i j n:Nat}{lo:Int}{mA mg:Str->Qc P3}{o:Obj}{op:CmpOp}{s:P4}{scope:Scope}{u:P3}{us:P' P3}{w:P8}
abbrev Key:=Sum Int Str
def fy:Key->P3->Bool
 | .inl k,v=>Value.isInt k v
 | .inr x,v=>Value.isStrOf x v
def yf (w:P8):Key->Int
 | .inl k=>hashInt k
 | .inr x=>hashStr w x
theorem dO:∀{k:Key}{v:P3},fy k v=true->(∃i t,k=Sum.inl i/\v=Value.int i t)\/(∃x t,k=Sum.inr x/\v=Value.str x t)
 | .inl i,v,h=>by
  obtain⟨t,e⟩:=Value.isInt_shape (k:=i) (v:=v) h;exact .inl ⟨i,t,rfl,e⟩
 | .inr x,v,h=>by
  obtain⟨t,e⟩:=Value.isStrOf_shape (x:=x) (v:=v) h;exact .inr ⟨x,t,rfl,e⟩
theorem yg (i:Int) (t:Tok):fy (.inl i) (.int i t)=true:=by simp[fy,Value.isInt]
theorem yh (x:Str) (t:Tok):fy (.inr x) (.str x t)=true:=by simp[fy,Value.isStrOf]
theorem yi (a b:Int):decide ((Sum.inl a:Key)=Sum.inl b)=(a==b):=by
 by_cases e:a=b
 .subst e;simp
 .have h:¬(Sum.inl a:Key)=Sum.inl b:=λq=>e (Sum.inl.inj q);rw[Am h];exact(Ce.mpr e).symm
theorem yj (a b:Str):decide ((Sum.inr a:Key)=Sum.inr b)=decide (a=b):=by
 by_cases e:a=b
 .subst e;simp
 .have h:¬(Sum.inr a:Key)=Sum.inr b:=λq=>e (Sum.inr.inj q);rw[Am h,Am e]
def yk (a:Int) (b:Str):decide ((Sum.inl a:Key)=Sum.inr b)=false:=Am (λq=>nomatch q)
def yn (a:Str) (b:Int):decide ((Sum.inr a:Key)=Sum.inl b)=false:=Am (λq=>nomatch q)
def bU (prog:P6) (w:P8):PySem.KeyKind prog w Key where
 is:=fy
 hash:=yf w
 inj:=λv a b ha hb=>by
  rcases dO ha with⟨i,t,rfl,rfl⟩|⟨x,t,rfl,rfl⟩
  .rcases dO hb with⟨j,u,rfl,e⟩|⟨y,u,rfl,e⟩
   .injection e with e1 _;rw[e1]
   .exact nomatch e
  .rcases dO hb with⟨j,u,rfl,e⟩|⟨y,u,rfl,e⟩
   .exact nomatch e
   .injection e with e1 _;rw[e1]
 byValue:=λk v h=>by
  rcases dO h with⟨i,t,rfl,rfl⟩|⟨x,t,rfl,rfl⟩<;>rfl
 pyHash:=λhv h=>by
  rcases dO hv with⟨i,t,rfl,rfl⟩|⟨x,t,rfl,rfl⟩
  .exact wpAny_pyHash_int h
  .exact wpAny_pyHash_str h
 eqBool:=λhu hv h=>by
  rcases dO hu with⟨i,t,rfl,rfl⟩|⟨x,t,rfl,rfl⟩
  .rcases dO hv with⟨j,u,rfl,rfl⟩|⟨y,u,rfl,rfl⟩
   .rw [yi] at h;exact wpAny_eqBool_int h
   .rw [yk] at h;exact SeqAt.EqAt.int_str i t y u _ _ _ _ h
  .rcases dO hv with⟨j,u,rfl,rfl⟩|⟨y,u,rfl,rfl⟩
   .rw [yn] at h;exact SeqAt.EqAt.str_int x t j u _ _ _ _ h
   .rw [yj] at h;exact wpAny_eqBool_str h
 «strs»:=λk x t v h=>by
  rcases dO h with⟨i,u,rfl,e⟩|⟨y,u,rfl,e⟩
  .exact nomatch e
  .injection e with e1 _;subst e1;cases v<;>rfl
def yo (prog:P6) (w:P8) (i:Int) (t:Tok):(bU prog w).is (.inl i) (.int i t)=true:=yg i t
def yp (prog:P6) (w:P8) (x:Str) (t:Tok):(bU prog w).is (.inr x) (.str x t)=true:=yh x t
inductive V where
 |non|bl (b:Bool)|int (i:Int)|str (x:Str)|byt (b:Array UInt8)|flt (b:UInt64)|ref (a:Addr)|ty (n:String)
 deriving DecidableEq
variable {v:V}{vs xs:P' V}
def aw:V->P3->Prop
 | .non,u=>u=Value.none
 | .bl b,u=>u=Value.bool b
 | .int i,u=>∃t,u=Value.int i t
 | .str x,u=>∃t,u=Value.str x t
 | .byt b,u=>∃t,u=Value.bytes b t
 | .flt b,u=>∃t,u=Value.float b t
 | .ref a,u=>u=Value.ref a
 | .ty n,u=>u=Value.type n
abbrev ap:P' V->P' P3->Prop:=Paired aw
theorem ap.length {xs:P' V}{us:P' P3} (r:ap xs us):xs.length=us.length:=Be r
theorem ap.get:∀{xs:P' V}{us:P' P3}{i:Nat}{x:V},ap xs us->xs[i]? =some x->∃u,us[i]? =some u/\aw x u
 |_,_,_,_, .nil,e=>by simp at e
 |_,_,0,_, .cons r _,e=>by simp at e;subst e;exact⟨_,rfl,r⟩
 |_,_,i+1,x, .cons _ t,e=>by
  obtain⟨u,h1,h2⟩:=ap.get (i:=i) (x:=x) t (by simpa using e);exact⟨u,by simpa using h1,h2⟩
theorem ap.set {x:V}{u:P3} (r:aw x u):∀{xs:P' V}{us:P' P3} (i:Nat),ap xs us->ap (xs.set i x) (us.set i u)
 |_,_,_, .nil=> .nil
 |_,_,0, .cons _ t=> .cons r t
 |_,_,i+1, .cons q t=> .cons q (ap.set r i t)
theorem ap.append:∀{xs ys:P' V}{us ws:P' P3},ap xs us->ap ys ws->ap (xs++ys) (us++ws)
 |_,_,_,_, .nil,s=>s
 |_,_,_,_, .cons r t,s=> .cons r (ap.append t s)
theorem ap.take:∀{xs:P' V}{us:P' P3} (n:Nat),ap xs us->ap (xs.take n) (us.take n)
 |_,_,0,_=> .nil
 |_,_,_+1, .nil=> .nil
 |_,_,n+1, .cons r t=> .cons r (ap.take n t)
theorem ap.drop:∀{xs:P' V}{us:P' P3} (n:Nat),ap xs us->ap (xs.drop n) (us.drop n)
 |_,_,0,r=>r
 |_,_,_+1, .nil=> .nil
 |_,_,n+1, .cons _ t=>ap.drop n t
def cG:Qc V->Qc P3->Prop
 |some v,some u=>aw v u
 |none,none=>True
 |_,_=>False
def KV {κ:Type}:P' (κ×V)->P' (κ×P3)->Prop:=Paired fun(p:κ×V) (q:κ×P3)=>p.1=q.1/\aw p.2 q.2
def kV:Key->V
 | .inl i=> .int i
 | .inr x=> .str x
inductive HO where
  |lst (xs:List V)
  |tup (xs:List V)
  |dK (Kv:List (Key×V))|dT (Kv:List (List Key×V))
  |set (S:Int->Bool) (n:Nat)
  |ins (C dx:Addr) (fs:List (Str×V))
  |own (x:Addr)
  |xd (fs:List (Str×V))
  |met (f x:Addr)
  |rng (lo hi:Int)
  |frz (o:Obj) (u:HO)
  |tbl (ps:Array Value)
  |ext (φ:Heap->Prop)
abbrev Hp:=P5->Qc HO
variable {H:Hp}
def upd (H:Hp) (a:P5) (o:HO):Hp:=λb=>if b=a then some o else H b
theorem am {o:HO}:upd H a o a=some o:=by unfold upd;rw[AB rfl]
theorem au {o:HO} (h:b≠a):upd H a o b=H b:=by unfold upd;rw[A6 h]
theorem yq {o u:HO}:upd (upd H a o) a u=upd H a u:=by
 funext b;unfold upd;split<;>rfl
theorem jR {o u:HO} (h:H a=some o) (h':H b=some u) (d:o≠u):a≠b:=by
 intro e;subst e;rw[h] at h';exact d (Ae h')
theorem bF {o:HO} (h:H a=some o) (h':H b=none):a≠b:=by
 intro e;subst e;rw[h] at h';cases h'
section
variable (P:P6) (w:P8)
def aC (H:Hp) (h:Qb) (a:P5):HO->Prop
 | .lst xs=>xs.length<=sizeLine/\∃(Kx:P' P3) (n:Nat),ap xs Kx/\h.get? a=some {cls:= .type "list",data:= .seq Kx.toArray n}
 | .tup xs=>xs.length<=sizeLine/\∃Kx:P' P3,ap xs Kx/\IsTup h a Kx.toArray
 | .dK Kv=>Kv.length<=sizeLine/\(a==sysModules)=false/\∃vs,KV Kv vs/\h.DictOf (bU P w) a vs
 | .dT Kv=>Kv.length<=sizeLine/\(a==sysModules)=false/\∃xs:P' (P' Key×P5×P3),
   Paired (fun(p:P' Key×V) (q:P' Key×P5×P3)=>p.1=q.1/\H q.2.1=some (.tup (p.1.map kV))/\aw p.2 q.2.2) Kv xs/\
   ∃o es ep,h.get? a=some o/\o.ExactDict/\o.data= .dict es ep/\es.toList=xs.map (entryOfKey (tupleKind (bU P w)))/\(xs.map (·.1)).Nodup
 | .set S n=>h.SetOf (intKind P w) a S n
 | .ins C dx fs=>H dx=some (.own a)/\fs.length<=1000/\dx≠a/\h.get? a=some (W.instObj C dx)/\
   ∃mA,h.Ns1 dx mA/\(∀f,cG (fs.lookup f) (mA f))/\PySem.Within mA (fs.map (·.1))
 | .own _=>∃o,h.get? a=some o
 | .xd fs=>∃mA,h.Ns1 a mA/\∀f,cG (fs.lookup f) (mA f)
 | .rng lo hi=>∃t u v,h.get? a=some {cls:= .type "range",data:= .fields #[.int lo t, .int hi u, .int 1 v]}
 | .frz o u=>h.get? a=some o/\aC H h a u
 | .tbl ps=>h.get? a=some {cls:= .none,data:= .fields ps}
 | .met f x=>h.get? a=some (W.methodObj (.ref f) (.ref x))
 | .ext φ=>φ h/\(∃o,h.get? a=some o)/\∀h1 h2:Qb,φ h1->(∀o,h1.get? a=some o->h2.get? a=some o)->φ h2
def HOk (H:Hp) (h:Qb):Prop:=∀a o,H a=some o->aC P w H h a o
end
section
variable {P:P6}{w:P8}{H H':Hp}{h h':Qb}{a:P5}{o:HO}
theorem aC.lt (x:aC P w H h a o):a<h.objs.size:=by
 cases o with
 |lst xs=>obtain⟨_,_,_,_,e⟩:=x;exact AL e
 |tup xs=>obtain⟨_,_,_,p⟩:=x;exact p.lt
 |dK Kv=>obtain⟨_,_,_,_,o,_,_,e,_⟩:=x;exact AL e
 |dT Kv=>obtain⟨_,_,_,_,o,_,_,e,_⟩:=x;exact AL e
 |set S n=>obtain⟨o,_,_,_,e,_⟩:=x;exact AL e
 |ins C dx fs=>obtain⟨_,_,_,e,_⟩:=x;exact AL e
 |own y=>obtain⟨_,e⟩:=x;exact AL e
 |xd fs=>obtain⟨_,⟨_,_,_,e,_⟩,_⟩:=x;exact AL e
 |rng lo hi=>obtain⟨_,_,_,e⟩:=x;exact AL e
 |frz ob u=>obtain⟨e,_⟩:=x;exact AL e
 |tbl ps=>exact AL (show h.get? a=some _ from x)
 |met f y=>exact AL (show h.get? a=some _ from x)
 |ext φ=>obtain⟨_,⟨_,e⟩,_⟩:=x;exact AL e
theorem Paired.mapP {α β:Type}{F G:α->β->Prop}:∀{l₁:P' α}{l₂:P' β},Paired F l₁ l₂->(∀a b,F a b->G a b)->Paired G l₁ l₂
 |_,_, .nil,_=> .nil
 |_,_, .cons r t,f=> .cons (f _ _ r) (Paired.mapP t f)
theorem aC.stay (x:aC P w H h a o) (k:∀b u,(b=a\/H b=some (.own a))->h.get? b=some u->h'.get? b=some u)
  (ho:∀b,H b=some (.own a)->H' b=some (.own a)) (ht:∀b xs,H b=some (.tup xs)->H' b=some (.tup xs)):aC P w H' h' a o:=by
 induction o with
 |lst xs=>obtain⟨z,Kx,n,r,e⟩:=x;exact⟨z,Kx,n,r,k _ _ (.inl rfl) e⟩
 |tup xs=>obtain⟨z,Kx,r,ob,e,c⟩:=x;exact⟨z,Kx,r,ob,k _ _ (.inl rfl) e,c⟩
 |dK Kv=>obtain⟨z,y,vs,r,ob,es,ep,e,c⟩:=x;exact⟨z,y,vs,r,ob,es,ep,k _ _ (.inl rfl) e,c⟩
 |dT Kv=>
  obtain⟨z,y,xs,r,ob,es,ep,e,c⟩:=x;exact⟨z,y,xs,Paired.mapP r λp q z=>⟨z.1,ht _ _ z.2.1,z.2.2⟩,ob,es,ep,k _ _ (.inl rfl) e,c⟩
 |set S n=>obtain⟨ob,es,ep,t,e,c⟩:=x;exact⟨ob,es,ep,t,k _ _ (.inl rfl) e,c⟩
 |ins C dx fs=>
  obtain⟨d,z,ne,e,mA,⟨od,es,ep,e2,c⟩,r⟩:=x;exact⟨ho _ d,z,ne,k _ _ (.inl rfl) e,mA,⟨od,es,ep,k _ _ (.inr d) e2,c⟩,r⟩
 |own y=>obtain⟨ob,e⟩:=x;exact⟨ob,k _ _ (.inl rfl) e⟩
 |xd fs=>obtain⟨mA,⟨od,es,ep,e,c⟩,r⟩:=x;exact⟨mA,⟨od,es,ep,k _ _ (.inl rfl) e,c⟩,r⟩
 |rng lo hi=>obtain⟨t,u,v,e⟩:=x;exact⟨t,u,v,k _ _ (.inl rfl) e⟩
 |frz ob u ih=>obtain⟨e,q⟩:=x;exact⟨k _ _ (.inl rfl) e,ih q⟩
 |tbl ps=>
  have e:h.get? a=some {cls:= .none,data:= .fields ps}:=x;show h'.get? a=some {cls:= .none,data:= .fields ps};exact k a _ (.inl rfl) e
 |met f y=>
  have e:h.get? a=some (W.methodObj (.ref f) (.ref y)):=x;show h'.get? a=some (W.methodObj (.ref f) (.ref y));exact k a _ (.inl rfl) e
 |ext φ=>obtain⟨p,⟨o,e⟩,st⟩:=x;exact⟨st _ _ p λo q=>k _ _ (.inl rfl) q,⟨o,k _ _ (.inl rfl) e⟩,st⟩
theorem HOk.lt (x:HOk P w H h) (e:H a=some o):a<h.objs.size:=(x a o e).lt
theorem HOk.fresh (x:HOk P w H h) (e:h.objs.size<=a):H a=none:=by
 cases q:H a with
 |none=>rfl
 |some u=>exact absurd (Ai (x.lt q) e) (CF _)
def HOk.kept (x:HOk P w H h) (k:∀b u,h.get? b=some u->h'.get? b=some u):HOk P w H h':=λa o e=>
 (x a o e).stay (λb u _ q=>k b u q) (λ_ q=>q) λ_ _ q=>q
theorem HOk.laid (x:HOk P w H h) (k:∀b u,h.get? b=some u->h'.get? b=some u) (hp:h.objs.size<=a) (new:aC P w (upd H a o) h' a o):HOk P w (upd H a o) h':=λb u e=>by
 have hn:=x.fresh hp;by_cases hb:b=a
 .subst hb;rw[am] at e;cases e;exact new
 .rw [au hb] at e;exact(x b u e).stay (λc v _ q=>k c v q) (λc q=>by rw[au (bF q hn)];exact q) λc xs q=>by rw[au (bF q hn)];exact q
end
def Rd (H:Hp) (a:P5) (u:HO):Prop:=H a=some u\/∃o,H a=some (.frz o u)
theorem Rd.ok {u:HO} (r:Rd H a u) (x:HOk P w H h):aC P w H h a u:=by
 rcases r with r|⟨o,r⟩
 .exact x a u r
 .obtain⟨_,q⟩:=x a _ r;exact q
def Mut:Qc HO->Prop
 |some (.lst _)=>True
 |some (.dK _)=>True
 |some (.dT _)=>True
 |some (.set _ _)=>True
 |some (.ins _ _ _)=>True
 |some (.ext _)=>True
 |_=>False
section
variable {P:P6}{w:P8}{H:Hp}{h h':Qb}{x e:P5}{o':HO}
theorem HOk.write (ok:HOk P w H h) (mu:Mut (H x)) (he:e=x\/H e=some (.own x)) (k:∀b u,b≠e->h.get? b=some u->h'.get? b=some u) (heo:∃u,h'.get? e=some u)
  (new:aC P w (upd H x o') h' x o'):HOk P w (upd H x o') h':=λb u q=>by
 have nown:∀c y,H c=some (.own y)->c≠x:=λc y r z=>by subst z;rw[r] at mu;exact mu
 have ntup:∀c xs,H c=some (.tup xs)->c≠x:=λc xs r z=>by subst z;rw[r] at mu;exact mu
 by_cases hb:b=x
 .subst hb;rw[am] at q;cases q;exact new
 .rw [au hb] at q;by_cases OZ:b=e
  .have q':H b=some (.own x):=by
    rcases he with z|z
    .exact absurd (OZ.trans z) hb
    .rw [OZ];exact z
   rw[q] at q';cases q';obtain⟨v,hv⟩:=heo;exact⟨v,by rw[OZ];exact hv⟩
  .refine(ok b u q).stay (λc v hc r=>k c v ?_ r) (λc r=>by rw[au (nown c b r)];exact r) λc xs r=>by rw[au (ntup c xs r)];exact r
   rcases hc with rfl|hc
   .exact OZ
   .rintro rfl;rcases he with z|z
    .exact nown c b hc z
    .rw [hc] at z;cases z;exact hb rfl
end
structure Un (fs ex:P' P5) (H H':Hp) (h h':Qb):Prop where
 keep:∀b o,h.get? b=some o->H b=none->b∉fs->b∉ex->h'.get? b=some o
 slot:∀b o,h.get? b=some o->H b=none->b∈fs->b∉ex->∃sl,h'.get? b=some {o with slots:=sl}
 free:∀b o,h.get? b=some o->H b=none->b∉ex->H' b=none
 there:∀b o,h.get? b=some o->b∉ex->∃o',h'.get? b=some o'
 tups:∀b xs,H b=some (.tup xs)->H' b=some (.tup xs)
 frzs:∀b o u,H b=some (.frz o u)->H' b=some (.frz o u)
 tbls:∀b ps,H b=some (.tbl ps)->∃more,H' b=some (.tbl (ps++more))
section
variable {fs fs' ex ex':P' P5}{H H1 H2:Hp}{h h1 h2 h':Qb}{a x e:P5}{o:HO}
theorem Un.any (u:Un fs ex H H1 h h1) {ob:Obj} (q:h.get? b=some ob) (n:H b=none) (hx:b∉ex):∃sl,h1.get? b=some {ob with slots:=sl}:=by
 by_cases hb:b∈fs
 .exact u.slot b ob q n hb hx
 .exact⟨ob.slots,u.keep b ob q n hb hx⟩
theorem Un.kept (k:∀b u,h.get? b=some u->h'.get? b=some u):Un fs ex H H h h':=
 ⟨λb ob q _ _ _=>k b ob q,λb ob q _ _ _=>⟨ob.slots,k b ob q⟩,λ_ _ _ n _=>n,λb ob q _=>⟨ob,k b ob q⟩,λ_ _ q=>q,λ_ _ _ q=>q,λ_ ps q=>⟨#[],by rw[q];simp⟩⟩
def Un.refl:Un fs ex H H h h:=Un.kept λ_ _ q=>q
theorem Un.laid (k:∀b u,h.get? b=some u->h'.get? b=some u) (hp:h.objs.size<=a) (hn:H a=none):Un fs ex H (upd H a o) h h' where
 keep:=λb u q _ _ _=>k b u q
 slot:=λb u q _ _ _=>⟨u.slots,k b u q⟩
 free:=λb u q n _=>by rw[au (AO (Ai (AL q) hp))];exact n
 there:=λb u q _=>⟨u,k b u q⟩
 tups:=λb xs q=>by rw[au (bF q hn)];exact q
 frzs:=λb u xs q=>by rw[au (bF q hn)];exact q
 tbls:=λb ps q=>⟨#[],by rw[au (bF q hn),q];simp⟩
theorem Un.write (mu:Mut (H x)) (he:e=x\/H e=some (.own x)) (k:∀b u,b≠e->h.get? b=some u->h'.get? b=some u) (heo:∃u,h'.get? e=some u):Un fs ex H (upd H x o) h h':=by
 have hx:∀b,H b=none->b≠x:=λb n z=>by subst z;rw[n] at mu;exact mu
 have hb:∀b,H b=none->b≠e:=λb n z=>by
  subst z;rcases he with r|r
  .exact hx b n r
  .rw [n] at r;cases r
 have hm:∀b u,H b=some u->¬Mut (some u)->b≠x:=λb u q nm z=>by subst z;rw[q] at mu;exact nm mu
 refine⟨λb u q n _ _=>k b u (hb b n) q,λb u q n _ _=>⟨u.slots,k b u (hb b n) q⟩,λb u q n _=>by rw[au (hx b n)];exact n,λb u q _=> ?_,
  λb xs q=>by rw[au (hm b _ q λz=>z)];exact q,λb u xs q=>by rw[au (hm b _ q λz=>z)];exact q,λb ps q=>⟨#[],by rw[au (hm b _ q λz=>z),q];simp⟩⟩
 by_cases OZ:b=e
 .subst OZ;exact heo
 .exact⟨u,k b u OZ q⟩
end
def trk (h:Qb) (H:Hp):P' P5:=(List.range h.objs.size).filter λa=>(H a).isSome
def eQ (h:Qb) (H:Hp):Qb:=W.hideAll h (trk h H)
def yr (h:Qb) (H:Hp):(eQ h H).objs.size=h.objs.size:=W.hideAll_size _ _
theorem yt (e:h.get? b=some o) (n:H b=none):(eQ h H).get? b=some o:=
 W.hideAll_get _ e λhm=>by
  have q:(H b).isSome=true:=(DE.mp hm).2;rw[n] at q;simp at q
theorem yu (e:(eQ h H).get? b=some o):h.get? b=some o/\H b=none:=by
 have e':h.get? b=some o:=W.of_hideAll (trk h H) e;refine⟨e', ?_⟩;cases q:H b with
 |none=>rfl
 |some x=>
  have hm:b∈trk h H:=DE.mpr ⟨Ag.mpr (AL e'),by simp[q]⟩;have z:(eQ h H).get? b=none:=W.hideAll_none (trk h H) hm;rw[z] at e;cases e
def yw (g h:Qb) (L:P5):P' (P5×Obj):=(List.range h.objs.size).filterMap λa=>if a=L\/(g.get? a).isSome=true then none else(h.get? a).map λo=>(a,o)
def aN (g h:Qb) (L d:P5):P' (P5×Obj):=(yw g h L).filter λp=>decide (p.1≠d)
structure Mod (K:W.Frag) (mg:Str->Qc P3) (base:Qb):Prop where
 kin:K.In base
 glob:base.Ns mainGlobals mg
 blt:∃mb,base.Ns builtinsNs mb/\∀x:Str,x≠"__name__"->mb x=bootBuiltins x
 nolimit:base.NoLimit
structure Cx where
 prog:Program
 w:World
 K:W.Frag
 mg:Str->Option Value
 base:Heap
 A:Around
 N:List Str
 s₀:Shared
 H₀:Hp
 env:Env
 outer:List Env
 stack:List Env
 ex:List Addr
 fn:Str->Bool
 calm:Bool
 pn:List (Addr×Obj)
 xe:Value->Shared->Prop
variable {X:Cx}
def frs (l:P' Env):P' P5:=l.filterMap (·.frame)
abbrev Cx.fs (X:Cx):P' P5:=frs X.outer
def Vis (sc:Scope) (x:Str):Prop:=sc.names.lookup x=some .local\/sc.names.lookup x=some .cell\/sc.names.lookup x=some .free
def Loc (sc:Scope) (x:Str):Prop:=sc.names.lookup x=some .local\/sc.names.lookup x=some .cell
def qE (env:Env) (h:Qb) (m:Str->Qc P3) (x:Str) (u:P3):Prop:=
 (env.kindOf x=some .local/\m x=some u)\/((env.kindOf x=some .cell\/env.kindOf x=some .free)/\∃c,env.cells.lookup x=some c/\h.IsCell c (some u))
structure Cx.Ok (X:Cx):Prop where
 mod:Mod X.K X.mg X.base
 kind:X.env.scope.kind= .function
 glob:X.env.globals=mainGlobals
 blt:X.env.builtins=builtinsNs
 above:X.s₀.heap.objs.size<=X.env.locals
 inj:∀x y c,X.env.cells.lookup x=some c->X.env.cells.lookup y=some c->x=y
 has:∀x,(X.env.kindOf x=some .cell\/X.env.kindOf x=some .free)->∃c,X.env.cells.lookup x=some c
 cab:∀x c,X.fn x=true->X.env.cells.lookup x=some c->X.s₀.heap.objs.size<=c
 hd:X.calm=true->X.A.handled=none
 frames:X.A.frames=some X.stack
 stk:X.stack=X.outer\/(X.stack=X.env::X.outer/\X.env.frame=some X.env.locals)
 exf:∀b∈X.ex,b≠X.env.locals/\∀x c,X.env.cells.lookup x=some c->c≠b
 bs:∀b o,X.base.get? b=some o->X.s₀.heap.get? b=some o/\X.H₀ b=none
 bsz:X.base.objs.size<=X.s₀.heap.objs.size
 noex:∀b o,X.base.get? b=some o->b∉X.ex
 exfs:∀b∈X.ex,b∉X.fs
 funs:X.s₀.heap.FunFrames X.base X.outer
 frf:∀b∈X.fs,X.H₀ b=none
structure Inv (X:Cx) (Ku:P' (P5×Obj)) (σ:P' (Qc V)) (H:Hp) (s:P4):Prop where
 ok:X.Ok
 os:s.os=X.s₀.os
 bare:AllBare s.gens
 base:Un X.fs X.ex X.H₀ H X.s₀.heap s.heap
 loc:∃m,s.heap.Ns X.env.locals m/\∀(i:Nat) (x:Str) (v:V),X.N[i]? =some x->σ[i]? =some (some v)->Vis X.env.scope x->∃u,aw v u/\qE X.env s.heap m x u
 cell:∀x c,X.env.cells.lookup x=some c->∃v,s.heap.IsCell c v
 free:H X.env.locals=none
 freeC:∀x c,X.env.cells.lookup x=some c->H c=none
 pin:∀p∈X.pn++Ku,s.heap.get? p.1=some p.2/\H p.1=none/\p.1≠X.env.locals/\p.1∉X.fs/\∀v,p.2.data≠ .cell v
 hok:HOk X.prog X.w H s.heap
 len:σ.length=X.N.length
section
variable {X:Cx}{Ku:P' (P5×Obj)}{σ:P' (Qc V)}{H H':Hp}{s:P4}{h':Qb}
theorem Cx.Ok.nofr (ok:X.Ok) (e:X.base.get? b=some o):b∉X.fs:=λhb=>by
 have:=(ok.funs.mem hb).1;rw[e] at this;cases this
theorem Inv.bs (I:Inv X Ku σ H s):∀b o,X.base.get? b=some o->s.heap.get? b=some o/\H b=none:=λb o e=>
 ⟨I.base.keep b o (I.ok.bs b o e).1 (I.ok.bs b o e).2 (I.ok.nofr e) (I.ok.noex b o e),I.base.free b o (I.ok.bs b o e).1 (I.ok.bs b o e).2 (I.ok.noex b o e)⟩
def Inv.bk (I:Inv X Ku σ H s):∀b o,X.base.get? b=some o->s.heap.get? b=some o:=λb o e=>(I.bs b o e).1
theorem Inv.mod (I:Inv X Ku σ H s):Mod X.K X.mg X.base:=I.ok.mod
def Inv.kIn (I:Inv X Ku σ H s):X.K.In s.heap:=I.ok.mod.kin.keeps I.bk
theorem Inv.lt (I:Inv X Ku σ H s):X.env.locals<s.heap.objs.size:=let ⟨_,hn,_⟩:=I.loc;hn.lt
def Inv.sz (I:Inv X Ku σ H s):X.s₀.heap.objs.size<=s.heap.objs.size:=As I.ok.above (AT I.lt)
theorem Inv.nofs (I:Inv X Ku σ H s) (h:s.heap.objs.size<=a):a∉X.fs:=λhb=>by
 obtain⟨_,o,ho,_⟩:=I.ok.funs.mem hb;exact absurd (Ai (AL ho) (As I.sz h)) (CF _)
theorem Inv.cne (I:Inv X Ku σ H s):∀x c,X.env.cells.lookup x=some c->c≠X.env.locals:=λx c e z=>by
 obtain⟨v,o,ho,hd⟩:=I.cell x c e;obtain⟨m,⟨o',es,ep,LN,M5,_⟩,_⟩:=I.loc;rw[z,LN] at ho;cases ho;rw[M5] at hd;cases hd
theorem Inv.funs (I:Inv X Ku σ H s):s.heap.FunFrames X.base X.outer:=by
 have all:∀(l:P' Env),(∀b∈frs l,b∈X.fs)->X.s₀.heap.FunFrames X.base l->s.heap.FunFrames X.base l:=by
  intro l;induction l with
  |nil=>intro _ _;trivial
  |cons env r ih=>
   intro hs hl;obtain⟨hk,⟨L,o,hf,hn,ho,hd⟩,hr⟩:=hl;have hL:L∈X.fs:=hs L (by unfold frs;rw[Cf,hf];exact AS);obtain⟨sl,e⟩:=I.base.slot L o ho (I.ok.frf L hL) hL λz=>I.ok.exfs L z hL;exact⟨hk,⟨L,_,hf,hn,e,hd⟩,ih (λb hb=>hs b (by unfold frs;rw[Cf,hf];exact AN _ hb)) hr⟩
 exact all X.outer (λ_ hb=>hb) I.ok.funs
theorem Inv.stack (I:Inv X Ku σ H s):s.heap.FunFrames X.base X.stack:=by
 rcases I.ok.stk with e|⟨e,hf⟩
 .rw [e];exact I.funs
 .rw [e];obtain⟨m,hn,_⟩:=I.loc;refine .cons (by rw[I.ok.kind];decide) hf hn ?_ I.funs;exact Heap.get?_none_of_le (As I.ok.bsz I.ok.above)
theorem Inv.stkSub (I:Inv X Ku σ H s):∀b∈frs X.stack,b∈X.env.locals::X.fs:=λb hb=>by
 rcases I.ok.stk with e|⟨e,hf⟩
 .rw [e] at hb;exact AN _ hb
 .rw [e] at hb;unfold frs at hb;rw[Cf,hf] at hb;exact hb
theorem Inv.stkFree (I:Inv X Ku σ H s):∀b∈frs X.stack,H b=none:=λb hb=>by
 rcases AM.mp (I.stkSub b hb) with e|hb
 .rw [e];exact I.free
 .obtain⟨_,o,ho,_⟩:=I.ok.funs.mem hb;exact I.base.free b o ho (I.ok.frf b hb) λz=>I.ok.exfs b z hb
theorem Inv.step {g':Array GenState}{t':Nat}{d':Drawn}(I:Inv X Ku σ H s)
  (Ml:∀b∈ch,(b∈X.ex\/X.s₀.heap.objs.size<=b)/\b≠X.env.locals/\(∀x c,X.env.cells.lookup x=some c->c≠b)/\∀p∈X.pn++Ku,p.1≠b)
  (keep:∀b o,b≠X.env.locals->b∉X.fs->b∉ch->s.heap.get? b=some o->H b=none->h'.get? b=some o)
  (slot:∀b o,b≠X.env.locals->b∈X.fs->b∉ch->s.heap.get? b=some o->H b=none->∃sl,h'.get? b=some {o with slots:=sl}) (free:∀b o,b∉ch->s.heap.get? b=some o->H b=none->H' b=none)
  (there:∀b o,b∉ch->s.heap.get? b=some o->∃o',h'.get? b=some o')
  (tups:∀b xs,H b=some (.tup xs)->H' b=some (.tup xs)) (frzs:∀b o u,H b=some (.frz o u)->H' b=some (.frz o u)) (tbls:∀b ps,H b=some (.tbl ps)->∃more,H' b=some (.tbl (ps++more)))
  (ns:∀m,s.heap.Ns X.env.locals m->h'.Ns X.env.locals m) (hok:HOk X.prog X.w H' h') (hg:AllBare g'):
  Inv X Ku σ H' {s with heap:=h',gens:=g',drawn:=d',toks:=t'}:=by
 have neL:∀b o,X.s₀.heap.get? b=some o->b≠X.env.locals:=λb o e=>AO (Ai (AL e) I.ok.above);have neC:∀b o,X.s₀.heap.get? b=some o->b∉X.ex->b∉ch:=λb o e hx hb=>by
  rcases(Ml b hb).1 with z|z
  .exact hx z
  .exact absurd (Ai (AL e) z) (CF _)
 have Ox:∀x c,X.env.cells.lookup x=some c->∀v,s.heap.IsCell c v->h'.IsCell c v:=λx c e v ⟨o,ho,hd⟩=>by
  have nch:c∉ch:=λz=>(Ml c z).2.2.1 x c e rfl;by_cases hc:c∈X.fs
  .obtain⟨sl,q⟩:=slot c o (I.cne x c e) hc nch ho (I.freeC x c e);exact⟨_,q,hd⟩
  .exact⟨o,keep c o (I.cne x c e) hc nch ho (I.freeC x c e),hd⟩
 refine⟨I.ok,I.os,hg,⟨λb o e n hb hx=> ?_,λb o e n hb hx=> ?_,λb o e n hx=> ?_,λb o e hx=> ?_,λb xs e=>tups b xs (I.base.tups b xs e),λb o xs e=>frzs b o xs (I.base.frzs b o xs e),λb ps e=> ?_⟩, ?_,λx c e=> ?_, ?_,λx c e=> ?_,λp hp=> ?_,hok,I.len⟩
 .exact keep b o (neL b o e) hb (neC b o e hx) (I.base.keep b o e n hb hx) (I.base.free b o e n hx)
 .obtain⟨sl,e1⟩:=I.base.slot b o e n hb hx;obtain⟨sl',e2⟩:=slot b _ (neL b o e) hb (neC b o e hx) e1 (I.base.free b o e n hx);exact⟨sl',e2⟩
 .obtain⟨o',e1⟩:=I.base.there b o e hx;exact free b o' (neC b o e hx) e1 (I.base.free b o e n hx)
 .obtain⟨o',e1⟩:=I.base.there b o e hx;exact there b o' (neC b o e hx) e1
 .obtain⟨m1,e1⟩:=I.base.tbls b ps e;obtain⟨m2,e2⟩:=tbls b _ e1;exact⟨m1++m2,by rw[e2,Array.append_assoc]⟩
 .obtain⟨m,hn,hl⟩:=I.loc;refine⟨m,ns m hn,λi x v e1 e2 e3=> ?_⟩;obtain⟨u,r,l⟩:=hl i x v e1 e2 e3;refine⟨u,r, ?_⟩;rcases l with l|⟨k,c,e,z⟩
  .exact .inl l
  .exact .inr ⟨k,c,e,Ox x c e _ z⟩
 .obtain⟨v,z⟩:=I.cell x c e;exact⟨v,Ox x c e v z⟩
 .obtain⟨m,⟨o,_,_,ho,_⟩,_⟩:=I.loc;exact free _ o (λz=>(Ml _ z).2.1 rfl) ho I.free
 .obtain⟨v,o,ho,hd⟩:=I.cell x c e;exact free c o (λz=>(Ml c z).2.2.1 x c e rfl) ho (I.freeC x c e)
 .obtain⟨e,n,ne,nf,d⟩:=I.pin p hp;have nch:p.1∉ch:=λz=>(Ml p.1 z).2.2.2 p hp rfl;exact⟨keep p.1 p.2 ne nf nch e n,free p.1 p.2 nch e n,ne,nf,d⟩
theorem Inv.un {t':Nat} (I:Inv X Ku σ H s) (u:Un X.fs [] H H' s.heap h') (hok:HOk X.prog X.w H' h'):Inv X Ku σ H' {s with heap:=h',toks:=t'}:=by
 obtain⟨m,⟨o,es,ep,ho,r⟩,_⟩:=id I.loc;obtain⟨sl,hL⟩:=u.any ho I.free (by simp);exact I.step (g':=s.gens) (d':=s.drawn) (ch:=[]) (λ_ z=>nomatch z) (λb o _ hb _ e n=>u.keep b o e n hb (by simp)) (λb o _ hb _ e n=>u.slot b o e n hb (by simp)) (λb o _ e n=>u.free b o e n (by simp)) (λb o _ e=>u.there b o e (by simp)) u.tups u.frzs u.tbls (λm' hm=>by
  obtain⟨o',Lb,L',LN,r'⟩:=hm;rw[ho] at LN;cases LN;exact⟨_,Lb,L',hL,r'⟩) hok I.bare
theorem Inv.call {g':Array GenState}{t':Nat}{d':Drawn}(I:Inv X Ku σ H s) (u:Un (frs X.stack) ch H H' s.heap h') (hok:HOk X.prog X.w H' h') (hg:AllBare g')
  (Ml:∀b∈ch,(b∈X.ex\/X.s₀.heap.objs.size<=b)/\b≠X.env.locals/\(∀x c,X.env.cells.lookup x=some c->c≠b)/\∀p∈X.pn++Ku,p.1≠b):
  Inv X Ku σ H' {s with heap:=h',gens:=g',drawn:=d',toks:=t'}:=by
 obtain⟨m,⟨o,es,ep,ho,r⟩,_⟩:=id I.loc;obtain⟨sl,hL⟩:=u.any ho I.free λz=>(Ml _ z).2.1 rfl;exact I.step (ch:=ch) Ml (λb o hL hb hc e n=>u.keep b o e n (λz=>(AM.mp (I.stkSub b z)).elim hL hb) hc) (λb o _ _ hc e n=>u.any e n hc) (λb o hc e n=>u.free b o e n hc) (λb o hc e=>u.there b o e hc) u.tups u.frzs u.tbls (λm' hm=>by
  obtain⟨o',Lb,L',LN,r'⟩:=hm;rw[ho] at LN;cases LN;exact⟨_,Lb,L',hL,r'⟩) hok hg
theorem Inv.turned {t':Nat}(I:Inv X Ku σ H s) (k:∀b o,b≠it->s.heap.get? b=some o->h'.get? b=some o) (hn:H it=none) (hL:it≠X.env.locals)
  (h1:it∈X.ex\/X.s₀.heap.objs.size<=it) (h2:∀x c,X.env.cells.lookup x=some c->c≠it) (h3:∀p∈X.pn++Ku,p.1≠it):Inv X Ku σ H {s with heap:=h',toks:=t'}:=by
 have nit:∀b u,H b=some u->b≠it:=λb u e z=>by rw[z,hn] at e;cases e
 refine I.step (g':=s.gens) (d':=s.drawn) (ch:=[it]) (λb hb=> ?_) (λb o _ _ hc e _=>k b o (λz=>hc (by simp[z])) e) (λb o _ _ hc e _=>⟨o.slots,k b o (λz=>hc (by simp[z])) e⟩) (λ_ _ _ _ n=>n)
  (λb o hc e=>⟨o,k b o (λz=>hc (by simp[z])) e⟩) (λ_ _ e=>e) (λ_ _ _ e=>e) (λb ps e=>⟨#[],by rw[e];simp⟩) (λm hm=> ?_) (λb u e=> ?_) I.bare
 .have e:b=it:=by simpa using hb
  subst e;exact⟨h1,hL,h2,h3⟩
 .obtain⟨o,es,ep,ho,r⟩:=hm;exact⟨o,es,ep,k _ o (D4 hL) ho,r⟩
 .refine(I.hok b u e).stay (λc v hc q=>k c v ?_ q) (λ_ q=>q) λ_ _ q=>q;rcases hc with z|z
  .rw [z];exact nit b u e
  .exact nit c _ z
def Inv.tok (I:Inv X Ku σ H s) (t:Nat):Inv X Ku σ H {s with toks:=t}:=I.un (h':=s.heap) (t':=t) Un.refl I.hok
theorem Inv.kept {t':Nat} (I:Inv X Ku σ H s) (k:∀b u,s.heap.get? b=some u->h'.get? b=some u):Inv X Ku σ H {s with heap:=h',toks:=t'}:=I.un (Un.kept k) (I.hok.kept k)
theorem Inv.laid {a:P5}{o:HO}{t':Nat} (I:Inv X Ku σ H s) (k:∀b u,s.heap.get? b=some u->h'.get? b=some u) (hp:s.heap.objs.size<=a) (new:aC X.prog X.w (upd H a o) h' a o):
  Inv X Ku σ (upd H a o) {s with heap:=h',toks:=t'}:=I.un (Un.laid k hp (I.hok.fresh hp)) (I.hok.laid k hp new)
theorem Inv.write {x e:P5}{o:HO}{t':Nat} (I:Inv X Ku σ H s) (mu:Mut (H x)) (he:e=x\/H e=some (.own x)) (k:∀b u,b≠e->s.heap.get? b=some u->h'.get? b=some u) (heo:∃u,h'.get? e=some u)
  (new:aC X.prog X.w (upd H x o) h' x o):Inv X Ku σ (upd H x o) {s with heap:=h',toks:=t'}:=I.un (Un.write mu he k heo) (I.hok.write mu he k heo new)
def Inv.weak {σ':P' (Qc V)} (I:Inv X Ku σ H s) (hl:σ'.length=σ.length) (w:∀(i:Nat) v,σ'[i]? =some (some v)->σ[i]? =some (some v)):Inv X Ku σ' H s:=
 ⟨I.ok,I.os,I.bare,I.base,let ⟨m,hn,Ln⟩:=I.loc;⟨m,hn,λi x v e1 e2 e3=>Ln i x v e1 (w i v e2) e3⟩,I.cell,I.free,I.freeC,I.pin,I.hok,hl.trans I.len⟩
def Inv.pins_of {MJ:P' (P5×Obj)} (I:Inv X Ku σ H s) (h:∀p∈MJ,s.heap.get? p.1=some p.2/\H p.1=none/\p.1≠X.env.locals/\p.1∉X.fs/\∀v,p.2.data≠ .cell v):Inv X MJ σ H s:=
 ⟨I.ok,I.os,I.bare,I.base,I.loc,I.cell,I.free,I.freeC,λp hp=>(C1.mp hp).elim (λz=>I.pin p (List.mem_append_left _ z)) (h p),I.hok,I.len⟩
theorem l6 (hN:N.Nodup) (a:N[i]? =some x) (b:N[j]? =some x):i=j:=by
 obtain⟨h1,e1⟩:=AG.mp a;obtain⟨h2,e2⟩:=AG.mp b;exact(List.getElem_inj hN).mp (e1.trans e2.symm)
theorem yy {M:Model}{A:P9}{E:P3->P4->Prop}{Q:Unit->P4->Prop} (I:Inv X Ku σ H s) (hN:X.N.Nodup) (hi:X.N[i]? =some x) (hx:Loc X.env.scope x) (r:aw v u)
  (h:∀s',Inv X Ku (σ.set i (some v)) H s'->(∃a,Heap.SameBut a s.heap s'.heap/\(a=X.env.locals\/X.env.cells.lookup x=some a))->Q () s') (hf:X.fn x=true\/X.env.scope.names.lookup x=some .local:=by first|exact .inl rfl|exact .inr rfl|assumption):wpAny M A (storeName X.env x u) Q E s:=by
 obtain⟨m,hn,hl⟩:=id I.loc;have hcls:(X.env.scope.kind== .class||(X.env.scope.kind== .module&&X.env.locals !=X.env.globals))=false:=by rw[I.ok.kind];rfl
 have hiσ:i<σ.length:=by rw[I.len];exact(AG.mp hi).1
 have cne:=I.cne;have MK:∀{a:P5}{h':Qb},(∃o,s.heap.get? a=some o/\H a=none)->Heap.SameBut a s.heap h'->HOk X.prog X.w H h':=fun{a h'} ha hs b ob e=>by
  obtain⟨_,_,Lu⟩:=ha;refine(I.hok b ob e).stay (λc w' hc q=>(hs.2 c ?_).trans q) (λ_ q=>q) λ_ _ q=>q;rintro rfl;rcases hc with rfl|hc
  .rw [Lu] at e;cases e
  .rw [Lu] at hc;cases hc
 rcases hx with hk|hk
 .refine wpAny_storeName_local hk hn (λh' Oy hs=> ?_) hcls;obtain⟨oL,_,_,NM,_⟩:=id hn;refine h _ ⟨I.ok,I.os,I.bare,⟨λb o e n hb hx=> ?_,λb o e n hb hx=> ?_,I.base.free,λb o e hx=> ?_,I.base.tups,I.base.frzs,I.base.tbls⟩,⟨_,Oy,λj y v' e1 e2 e3=> ?_⟩,λy c e=> ?_,I.free,I.freeC,λp hp=> ?_,MK ⟨oL,NM,I.free⟩ hs,by simpa using I.len⟩ ⟨_,hs, .inl rfl⟩
  .exact(hs.2 b (AO (Ai (AL e) I.ok.above))).trans (I.base.keep b o e n hb hx)
  .obtain⟨sl,e1⟩:=I.base.slot b o e n hb hx;exact⟨sl,(hs.2 b (AO (Ai (AL e) I.ok.above))).trans e1⟩
  .obtain⟨o',e1⟩:=I.base.there b o e hx;exact⟨o',(hs.2 b (AO (Ai (AL e) I.ok.above))).trans e1⟩
  .by_cases hj:j=i
   .subst hj;rw[hi] at e1;cases e1;rw[List.getElem?_set_self hiσ] at e2;cases e2;exact⟨u,r, .inl ⟨hk,by simp⟩⟩
   .rw [C9 (D4 hj)] at e2;obtain⟨u',r',q⟩:=hl j y v' e1 e2 e3;refine⟨u',r', ?_⟩;rcases q with⟨k,e⟩|⟨k,c,e,z⟩
    .refine .inl ⟨k, ?_⟩;have:y≠x:=λe=>hj (l6 hN e1 (e▸hi));simp[this,e]
    .exact .inr ⟨k,c,e,z.sameBut hs (cne y c e)⟩
  .obtain⟨w',z⟩:=I.cell y c e;exact⟨w',z.sameBut hs (cne y c e)⟩
  .obtain⟨e,n,ne,nf,d⟩:=I.pin p hp;exact⟨(hs.2 p.1 ne).trans e,n,ne,nf,d⟩
 .have hfn:X.fn x=true:=by
   rcases hf with z|z
   .exact z
   .rw [z] at hk;cases hk
  obtain⟨c,hc⟩:=I.ok.has x (.inl hk);obtain⟨w',z⟩:=I.cell x c hc;refine wpAny_storeName_cell I.ok.kind hk hc z (λh' hc' hs=> ?_);obtain⟨oc,hoc,hocd⟩:=id z;refine h {s with heap:=h'} ⟨I.ok,I.os,I.bare,⟨λb o e n hb hx=> ?_,λb o e n hb hx=> ?_,I.base.free,λb o e hx=> ?_,I.base.tups,I.base.frzs,I.base.tbls⟩,⟨m,hn.sameBut hs (D4 (cne x c hc)),λj y v' e1 e2 e3=> ?_⟩,λy c' e=> ?_,I.free,I.freeC,λp hp=> ?_,MK ⟨oc,hoc,I.freeC x c hc⟩ hs,by simpa using I.len⟩ ⟨c,hs, .inr hc⟩
  .exact(hs.2 b (AO (Ai (AL e) (I.ok.cab x c hfn hc)))).trans (I.base.keep b o e n hb hx)
  .obtain⟨sl,e1⟩:=I.base.slot b o e n hb hx;exact⟨sl,(hs.2 b (AO (Ai (AL e) (I.ok.cab x c hfn hc)))).trans e1⟩
  .obtain⟨o',e1⟩:=I.base.there b o e hx;exact⟨o',(hs.2 b (AO (Ai (AL e) (I.ok.cab x c hfn hc)))).trans e1⟩
  .by_cases hj:j=i
   .subst hj;rw[hi] at e1;cases e1;rw[List.getElem?_set_self hiσ] at e2;cases e2;exact⟨u,r, .inr ⟨.inl hk,c,hc,hc'⟩⟩
   .rw [C9 (D4 hj)] at e2;obtain⟨u',r',q⟩:=hl j y v' e1 e2 e3;refine⟨u',r', ?_⟩;rcases q with q|⟨k,c',e,z'⟩
    .exact .inl q
    .refine .inr ⟨k,c',e,z'.sameBut hs ?_⟩;rintro rfl;exact hj (l6 hN e1 (I.ok.inj _ _ _ e hc▸hi))
  .by_cases hcc:c'=c
   .subst hcc;exact⟨_,hc'⟩
   .obtain⟨w2,z2⟩:=I.cell y c' e;exact⟨w2,z2.sameBut hs hcc⟩
  .obtain⟨e,n,ne,nf,d⟩:=I.pin p hp;refine⟨(hs.2 p.1 ?_).trans e,n,ne,nf,d⟩;intro q;rw[q,hoc] at e;have q':oc=p.2:=Ae e;exact d w' (by rw[<-q'];exact hocd)
theorem fZ {M:Model}{A:P9}{E:P3->P4->Prop}{Q:Unit->P4->Prop} (I:Inv X Ku σ H s) (hN:X.N.Nodup) (hi:X.N[i]? =some x) (hx:Loc X.env.scope x) (r:aw v u)
  (h:∀s',Inv X Ku (σ.set i (some v)) H s'->Q () s') (hf:X.fn x=true\/X.env.scope.names.lookup x=some .local:=by first|exact .inl rfl|exact .inr rfl|assumption):wpAny M A (storeName X.env x u) Q E s:=
 yy I hN hi hx r (λs' I' _=>h s' I') hf
theorem Inv.call' {s':P4}(I:Inv X Ku σ H s) (ho:s'.os=s.os) (u:Un (frs X.stack) ch H H' s.heap s'.heap) (hok:HOk X.prog X.w H' s'.heap) (hg:AllBare s'.gens)
  (Ml:∀b∈ch,(b∈X.ex\/X.s₀.heap.objs.size<=b)/\b≠X.env.locals/\(∀x c,X.env.cells.lookup x=some c->c≠b)/\∀p∈X.pn++Ku,p.1≠b):Inv X Ku σ H' s':=by
 obtain⟨h',g',d',t',o'⟩:=s';have e:o'=s.os:=ho;subst e;exact I.call (g':=g') (t':=t') (d':=d') u hok hg Ml
end
abbrev XK:=P3->Qc P5->Hp->Prop
abbrev St:=P' (Qc V)
abbrev VK:=V->Hp->Prop
abbrev TE:=St->Hp->VK->Prop
variable {te tl to:TE}
abbrev TT:=St->Hp->(Bool->Hp->Prop)->Prop
variable {tc:TT}
abbrev TA:=St->Hp->(P' V->Hp->Prop)->Prop
variable {ta:TA}
structure Ends where
 nx:St->Hp->Prop
 rt:VK
 bk:St->Hp->Prop:=λ_ _=>False
 ct:St->Hp->Prop:=λ_ _=>False
abbrev TS:=Ends->St->Hp->Prop
variable {tb:TS}
abbrev eTo (D:Ends) (n:St->Hp->Prop):Ends:=⟨n,D.rt,D.bk,D.ct⟩
abbrev eLp (D:Ends) (n:St->Hp->Prop):Ends:=⟨n,D.rt,D.nx,n⟩
inductive qF (X:Cx) (Ku:List (Addr×Obj)) (σ:St) (Q:VK) (u:Value) (s':Shared):Prop
 |mk v H':Inv X Ku σ H' s'->aw v u->Q v H'->qF X Ku σ Q u s'
def EP (X:Cx) (Ku:P' (P5×Obj)) (σ:St) (Q:VK) (u:P3) (s':P4):Prop:=qF X Ku σ Q u s'
inductive qG (X:Cx) (Ku:List (Addr×Obj)) (σ:St) (Q:Bool->Hp->Prop) (b:Bool) (s':Shared):Prop
 |mk H':Inv X Ku σ H' s'->Q b H'->qG X Ku σ Q b s'
def TP (X:Cx) (Ku:P' (P5×Obj)) (σ:St) (Q:Bool->Hp->Prop) (b:Bool) (s':P4):Prop:=qG X Ku σ Q b s'
inductive qH (X:Cx) (Ku:List (Addr×Obj)) (σ:St) (Q:List V->Hp->Prop) (us:List Value) (s':Shared):Prop
 |mk vs H':Inv X Ku σ H' s'->ap vs us->Q vs H'->qH X Ku σ Q us s'
def AP (X:Cx) (Ku:P' (P5×Obj)) (σ:St) (Q:P' V->Hp->Prop) (us:P' P3) (s':P4):Prop:=qH X Ku σ Q us s'
def SP (X:Cx) (Ku:P' (P5×Obj)) (D:Ends) (f:Flow) (s':P4):Prop:=
 match f with
 | .next=>∃σ' H',Inv X Ku σ' H' s'/\D.nx σ' H'
 | .brk=>∃σ' H',Inv X Ku σ' H' s'/\D.bk σ' H'
 | .cont=>∃σ' H',Inv X Ku σ' H' s'/\D.ct σ' H'
 | .ret u=>∃v σ' H',Inv X Ku σ' H' s'/\aw v u/\D.rt v H'
def PE (X:Cx) (e:Qa) (t:TE):Prop:=
 ∀(Ku:P' (P5×Obj)) (s:P4) (σ:St) (H:Hp) (Q:VK),Inv X Ku σ H s->t σ H Q->wpAny (model X.prog X.w) X.A (eval e X.env) (EP X Ku σ Q) X.xe s
def PT (X:Cx) (e:Qa) (t:TT):Prop:=
 ∀(Ku:P' (P5×Obj)) (s:P4) (σ:St) (H:Hp) (Q:Bool->Hp->Prop),Inv X Ku σ H s->t σ H Q->wpAny (model X.prog X.w) X.A (isTrue e X.env (eval e X.env)) (TP X Ku σ Q) X.xe s
def PW (X:Cx) (e:Qa) (t:TT):Prop:=
 ∀(LC:Sem P3) (Ku:P' (P5×Obj)) (s:P4) (σ:St) (H:Hp) (Q:Bool->Hp->Prop),Inv X Ku σ H s->t σ H Q->wpAny (model X.prog X.w) X.A (isTrue e X.env LC) (TP X Ku σ Q) X.xe s
def PW.pt {t:TT} (h:PW X e t):PT X e t:=h _
def PA (X:Cx) (es:P' Qa) (t:TA):Prop:=
 ∀(pos:Pos) (Ku:P' (P5×Obj)) (s:P4) (σ:St) (H:Hp) (Q:P' V->Hp->Prop),Inv X Ku σ H s->t σ H Q->wpAny (model X.prog X.w) X.A (spliced (backTo pos (starEach es X.env))) (AP X Ku σ Q) X.xe s
def PS (X:Cx) (st:Qd) (t:TS):Prop:=
 ∀(Ku:P' (P5×Obj)) (s:P4) (σ:St) (H:Hp) (D:Ends),Inv X Ku σ H s->t D σ H->wpAny (model X.prog X.w) X.A (exec st X.env) (SP X Ku D) X.xe s
def PSs (X:Cx) (st:P' Qd) (t:TS):Prop:=
 ∀(Ku:P' (P5×Obj)) (s:P4) (σ:St) (H:Hp) (D:Ends),Inv X Ku σ H s->t D σ H->wpAny (model X.prog X.w) X.A (execs st X.env) (SP X Ku D) X.xe s
def thn {α:Type}{t:Sem α}{Q Q':α->P4->Prop}(h:wpAny M A t Q E s) (hQ:∀a s,Q a s->Q' a s):wpAny M A t Q' E s:=BV h hQ λ_ _ x=>x
section
variable {X:Cx}
inductive tVar (i:Nat) (σ:St) (H:Hp) (Q:VK):Prop
 |mk v:σ[i]? =some (some v)->Q v H->tVar i σ H Q
def tC (v:V):TE:=λ_ H Q=>Q v H
theorem yz {pos:Pos} (hN:X.N[i]? =some x) (hv:Vis X.env.scope x) (hd:(x==("__debug__":Str))=false:=by decide) (MQ:(x==("__classdict__":Str))=false:=by decide):PE X (.Name x pos) (tVar i):=by
 intro Ku s σ H Q I h;obtain⟨v,e,h⟩:=h;obtain⟨m,hn,hl⟩:=I.loc;obtain⟨u,r,l⟩:=hl i x v hN e hv;have fin:EP X Ku σ Q u s:=⟨v,H,I,r,h⟩;rcases l with⟨hk,hm⟩|⟨hk,c,hc,KY⟩
 .exact wpAny_Name (wpAny_loadName_local I.ok.kind hk hn hm fin) hd
 .rcases hk with hk|hk
  .exact wpAny_Name (wpAny_loadName_cell I.ok.kind hk hc KY fin) hd
  .exact wpAny_Name (wpAny_loadName_free I.ok.kind hk hc KY fin MQ) hd
def ah {i j pos}:PE X (.Constant (.int i) j pos) (tC (.int i)):=λ_ _ _ H _ I h=>wpAny_Constant_int ⟨.int i,H,I.tok _,⟨_,rfl⟩,h⟩
def dh {b j pos}:PE X (.Constant (.bool b) j pos) (tC (.bl b)):=λ_ _ _ H _ I h=>Constant_bool ⟨.bl b,H,I,rfl,h⟩
def qI {j pos}:PE X (.Constant .none j pos) (tC .non):=λ_ _ _ H _ I h=>Constant_none ⟨.non,H,I,rfl,h⟩
def iL {x j pos}:PE X (.Constant (.str x) j pos) (tC (.str x)):=λ_ _ _ H _ I h=>Calls.Constant_str ⟨.str x,H,I.tok _,⟨_,rfl⟩,h⟩
def Gl (X:Cx) (x:Str):Prop:=X.env.kindOf x=some .globalImplicit
theorem f' {E:P3->P4->Prop}{σ:St}{pos:Pos}(I:Inv X Ku σ H s) (hg:Gl X x) (hm:X.mg x=some u) (h:Q u s)
  (hd:(x==("__debug__":Str))=false:=by decide):wpAny (model X.prog X.w) X.A (eval (.Name x pos) X.env) Q E s:=
 Calls.Name_function_global I.ok.kind hg (Calls.loadGlobal_global (by rw[I.ok.glob];exact I.mod.glob.keeps I.bk) hm h) hd
theorem dy {E:P3->P4->Prop}{σ:St}{pos:Pos}(I:Inv X Ku σ H s) (hg:Gl X x) (hm:X.mg x=none) (hv:bootBuiltins x=some u) (h:Q u s)
  (hn:x≠"__name__":=by decide) (hd:(x==("__debug__":Str))=false:=by decide):wpAny (model X.prog X.w) X.A (eval (.Name x pos) X.env) Q E s:=by
 obtain⟨mb,h1,h2⟩:=I.mod.blt;exact Calls.Name_function_global I.ok.kind hg (Calls.loadGlobal_builtin (by rw[I.ok.glob];exact I.mod.glob.keeps I.bk) hm (by rw[I.ok.blt];exact h1.keeps I.bk) ((h2 x hn).trans hv) h) hd
theorem qJ {pos:Pos} (hg:Gl X x) (hm:X.mg x=some u) (r:aw v u) (hd:(x==("__debug__":Str))=false:=by decide):PE X (.Name x pos) (tC v):=
 λ_ _ _ H _ I h=>f' I hg hm ⟨v,H,I,r,h⟩ hd
theorem jS {pos:Pos} (hg:Gl X x) (hm:X.mg x=none) (hv:bootBuiltins x=some u) (r:aw v u) (hn:x≠"__name__":=by decide) (hd:(x==("__debug__":Str))=false:=by decide):PE X (.Name x pos) (tC v):=
 λ_ _ _ H _ I h=>dy I hg hm hv ⟨v,H,I,r,h⟩ hn hd
variable {a b:Qa}{ta tb:TE}{pos:Pos}
def PC (X:Cx) (op:CmpOp) (a b:Qa) (t:TE):Prop:=
 ∀(Ku:P' (P5×Obj)) (s:P4) (σ:St) (H:Hp) (Q:VK),Inv X Ku σ H s->t σ H Q->
  wpAny (model X.prog X.w) X.A (eval a X.env) (λv s₁=>wpAny (model X.prog X.w) X.A (eval b X.env) (λu s₂=>wpAny (model X.prog X.w) X.A (compareOp op v u) (EP X Ku σ Q) X.xe s₂) X.xe s₁) X.xe s
theorem yA (b:Qa) (h:op≠ .In) (h2:op≠ .NotIn):behindInMarks op b=false:=by
 have e1:(op==CmpOp.In)=false:=by cases op<;>first|rfl|exact absurd rfl h
 have e2:(op==CmpOp.NotIn)=false:=by cases op<;>first|rfl|exact absurd rfl h2
 cases b<;>first|rfl|(show(_&&(op==CmpOp.In||op==CmpOp.NotIn)&&_)=false;rw[e1,e2,Bool.or_self,CV,Bool.false_and])
inductive qK (Q:(Bool->Hp->Prop)) (x:V) (H1:Hp):Prop
 |mk c:x= .bl c->Q c H1->qK Q x H1
def tB (t:TE):TT:=λσ H Q=>t σ H λx H1=>qK Q x H1
theorem yB {t:TE} (h:PC X op a b t) (h1:behindInMarks op b=false:=by first|exact yA _ (by decide) (by decide)|rfl):PT X (.Compare a [op] [b] pos) (tB t):=by
 intro Ku s σ H Q I hw;refine wpAny_isTrue_Compare1 (thn (h Ku s σ H _ I hw) λv s1 h1=>thn h1 λu s2 h2=>thn h2 λc s3 zu0=> ?_) h1;obtain⟨x,H1,I1,r1,q1⟩:=zu0;obtain⟨d,rfl,q⟩:=q1;cases r1;exact Bl ⟨H1,I1,q⟩
theorem eR {e:Expr}{t:TE} (h:PE X e t) (he:∀LC,isTrue e X.env LC=(do let v<-LC;standAt e.pos;holding [v] (truthy v)):=by intro _;rfl):PT X e (tB t):=by
 intro Ku s σ H Q I hw;refine isTrue_plain (thn (h Ku s σ H _ I hw) λv s1 zu1=> ?_) (he _);obtain⟨x,H1,I1,r1,q1⟩:=zu1;obtain⟨d,rfl,q⟩:=q1;cases r1;exact Bl ⟨H1,I1,q⟩
variable {tA tB':TT}{aN:P' Qa}
def yC (t u:TT):TT:=λσ H Q=>t σ H λc H1=>if c=true then u σ H1 Q else Q false H1
def tOr (t u:TT):TT:=λσ H Q=>t σ H λc H1=>if c=true then Q true H1 else u σ H1 Q
def yD (t:TT):TT:=λσ H Q=>t σ H λc H1=>Q (!c) H1
theorem l9 (ha:PT X a tA):PW X (.BoolOp .And [a] pos) tA:=by
 intro wh Ku s σ H Q I h;refine isTrue_and (thn (ha Ku s σ H Q I h) λc s1 e=> ?_);cases c with
 |true=>exact isTrue_and_nil e
 |false=>exact e
theorem fz (ha:PT X a tA):PW X (.BoolOp .Or [a] pos) tA:=by
 intro wh Ku s σ H Q I h;refine isTrue_or (thn (ha Ku s σ H Q I h) λc s1 e=> ?_);cases c with
 |false=>exact isTrue_or_nil e
 |true=>exact e
theorem ma (ha:PT X a tA) (hb:PW X (.BoolOp .And (b::aN) pos) tB'):PW X (.BoolOp .And (a::b::aN) pos) (yC tA tB'):=by
 intro wh Ku s σ H Q I h;refine isTrue_and (thn (ha Ku s σ H _ I h) λc s1 zu2=> ?_);obtain⟨H1,I1,q1⟩:=zu2;cases c with
 |true=>exact hb wh Ku s1 σ H1 Q I1 q1
 |false=>exact⟨H1,I1,q1⟩
theorem eS (ha:PT X a tA) (hb:PW X (.BoolOp .Or (b::aN) pos) tB'):PW X (.BoolOp .Or (a::b::aN) pos) (tOr tA tB'):=by
 intro wh Ku s σ H Q I h;refine isTrue_or (thn (ha Ku s σ H _ I h) λc s1 zu3=> ?_);obtain⟨H1,I1,q1⟩:=zu3;cases c with
 |true=>exact⟨H1,I1,q1⟩
 |false=>exact hb wh Ku s1 σ H1 Q I1 q1
theorem di (ha:PT X a tA):PT X (.UnaryOp .Not a pos) (yD tA):=by
 intro Ku s σ H Q I h;exact isTrue_not (thn (ha Ku s σ H _ I h) λc s1 KJ=>by obtain⟨H1,I1,q⟩:=KJ;exact⟨H1,I1,q⟩)
inductive tAndV_ (tb:TE) (σ:St) (Q:VK) (x:V) (H1:Hp):Prop
 |mk c:x= .bl c->(if c=true then tb σ H1 Q else Q (.bl false) H1)->tAndV_ tb σ Q x H1
def yE (ta tb:TE):TE:=λσ H Q=>ta σ H λx H1=>tAndV_ tb σ Q x H1
inductive tOrV_ (tb:TE) (σ:St) (Q:VK) (x:V) (H1:Hp):Prop
 |mk c:x= .bl c->(if c=true then Q (.bl true) H1 else tb σ H1 Q)->tOrV_ tb σ Q x H1
def yF (ta tb:TE):TE:=λσ H Q=>ta σ H λx H1=>tOrV_ tb σ Q x H1
inductive tNotV_ (Q:VK) (x:V) (H1:Hp):Prop
 |mk c:x= .bl c->Q (.bl (!c)) H1->tNotV_ Q x H1
def yG (ta:TE):TE:=λσ H Q=>ta σ H λx H1=>tNotV_ Q x H1
def jT {op}{t:TE} (h:PE X a t):PE X (.BoolOp op [a] pos) t:=λKu s σ H Q I hw=>BoolOp_one (h Ku s σ H Q I hw)
theorem me (ha:PE X a ta) (hb:PE X (.BoolOp .And (b::aN) pos) tb):PE X (.BoolOp .And (a::b::aN) pos) (yE ta tb):=by
 intro Ku s σ H Q I h;refine BoolOp_and (thn (ha Ku s σ H _ I h) λv s1 zu4=> ?_);obtain⟨x,H1,I1,r1,q1⟩:=zu4;obtain⟨c,rfl,q1⟩:=q1;cases r1;refine Bl ?_;cases c with
 |true=>exact hb Ku s1 σ H1 Q I1 q1
 |false=>exact⟨.bl false,H1,I1,rfl,q1⟩
theorem yH (ha:PE X a ta) (hb:PE X (.BoolOp .Or (b::aN) pos) tb):PE X (.BoolOp .Or (a::b::aN) pos) (yF ta tb):=by
 intro Ku s σ H Q I h;refine BoolOp_or (thn (ha Ku s σ H _ I h) λv s1 zu5=> ?_);obtain⟨x,H1,I1,r1,q1⟩:=zu5;obtain⟨c,rfl,q1⟩:=q1;cases r1;refine Bl ?_;cases c with
 |false=>exact hb Ku s1 σ H1 Q I1 q1
 |true=>exact⟨.bl true,H1,I1,rfl,q1⟩
theorem yI (ha:PE X a ta):PE X (.UnaryOp .Not a pos) (yG ta):=by
 intro Ku s σ H Q I h;refine UnaryOp_ (thn (ha Ku s σ H _ I h) λv s1 zu6=> ?_);obtain⟨x,H1,I1,r1,q1⟩:=zu6;obtain⟨c,rfl,q1⟩:=q1;cases r1;exact not_of (Bl ⟨.bl (!c),H1,I1,rfl,q1⟩)
def tIf (t:TT) (ta tb:TE):TE:=λσ H Q=>t σ H λc H1=>if c=true then ta σ H1 Q else tb σ H1 Q
theorem yJ (hc:PT X c tA) (ha:PE X a ta) (hb:PE X b tb):PE X (.IfExp c a b pos) (tIf tA ta tb):=by
 intro Ku s σ H Q I h;refine wpAny_IfExp (thn (hc Ku s σ H _ I h) λd s1 zu7=> ?_);obtain⟨H1,I1,q1⟩:=zu7;cases d with
 |true=>exact ha Ku s1 σ H1 Q I1 q1
 |false=>exact hb Ku s1 σ H1 Q I1 q1
end
def SqL (K:W.Frag) (H:Hp) (a:P5) (xs:P' V):Prop:=
 Rd H a (.lst xs)\/
  ∃(o:Obj) (Kx:Array P3) (n:Nat),K.lookup a=some o/\o.cls= .type "list"/\o.dict=none/\o.data= .seq Kx n/\Kx.size<=sizeLine/\ap xs Kx.toList
def SqT (K:W.Frag) (H:Hp) (a:P5) (xs:P' V):Prop:=
 Rd H a (.tup xs)\/
  ∃(o:Obj) (Kx:Array P3) (n:Nat),K.lookup a=some o/\o.cls= .type "tuple"/\o.data= .seq Kx n/\Kx.size<=sizeLine/\ap xs Kx.toList
def yK:P3->Qc V
 | .none=>some .non
 | .bool b=>some (.bl b)
 | .int i _=>some (.int i)
 | .str x _=>some (.str x)
 | .bytes b _=>some (.byt b)
 | .float b _=>some (.flt b)
 | .ref a=>some (.ref a)
 | .type n=>some (.ty n)
 |_=>none
theorem aw.abs {x:V}(r:aw x u):yK u=some x:=by
 cases x with
 |non=>cases r;rfl
 |bl _=>cases r;rfl
 |int _=>obtain⟨t,rfl⟩:=r;rfl
 |str _=>obtain⟨t,rfl⟩:=r;rfl
 |byt _=>obtain⟨t,rfl⟩:=r;rfl
 |flt _=>obtain⟨t,rfl⟩:=r;rfl
 |ref _=>cases r;rfl
 |ty _=>cases r;rfl
def aw.inj {x y:V}{u:P3} (r:aw x u) (q:aw y u):x=y:=Ae (r.abs.symm.trans q.abs)
theorem ap.inj:∀{xs ys:P' V}{us:P' P3},ap xs us->ap ys us->xs=ys
 |_,_,_, .nil, .nil=>rfl
 |_,_,_, .cons r t, .cons r' t'=>by rw[r.inj r',ap.inj t t']
section
variable {X:Cx}{Ku:P' (P5×Obj)}{σ:St}{H:Hp}{s:P4}{a:P5}{xs ys:P' V}
def SqL.of (h:H a=some (.lst xs)):SqL K H a xs:= .inl (.inl h)
def SqT.of (h:H a=some (.tup xs)):SqT K H a xs:= .inl (.inl h)
theorem Inv.list (I:Inv X Ku σ H s) (h:SqL X.K H a xs):∃Kx:P' P3,ap xs Kx/\PlainL s.heap a Kx.toArray/\xs.length<=sizeLine:=by
 rcases h with h|⟨o,Kx,n,hk,hc,hd,hs,hz,r⟩
 .obtain⟨z,Kx,n,r,e⟩:=h.ok I.hok;exact⟨Kx,r,⟨_,n,e,rfl,rfl,rfl⟩,z⟩
 .refine⟨Kx.toList,r,⟨o,n,I.kIn a o hk,hc,hd,by simpa using hs⟩, ?_⟩;have e:=r.length;simp only[An] at e;lia
theorem Inv.tuple (I:Inv X Ku σ H s) (h:SqT X.K H a xs):∃Kx:P' P3,ap xs Kx/\IsTup s.heap a Kx.toArray/\xs.length<=sizeLine:=by
 rcases h with h|⟨o,Kx,n,hk,hc,hs,hz,r⟩
 .obtain⟨z,Kx,r,p⟩:=h.ok I.hok;exact⟨Kx,r,p,z⟩
 .refine⟨Kx.toList,r,⟨o,I.kIn a o hk,hc,n,by simpa using hs⟩, ?_⟩;have e:=r.length;simp only[An] at e;lia
theorem Inv.list_inj (I:Inv X Ku σ H s) (h:SqL X.K H a xs) (h':SqL X.K H a ys):xs=ys:=by
 obtain⟨Kx,r,⟨o,n,e,_,_,d⟩,_⟩:=I.list h;obtain⟨its',r',⟨o',n',e',_,_,d'⟩,_⟩:=I.list h';rw[e] at e';cases e';rw[d] at d';injection d' with d1 _;have:Kx=its':=by simpa using congrArg Array.toList d1
 subst this;exact r.inj r'
theorem Inv.tuple_inj (I:Inv X Ku σ H s) (h:SqT X.K H a xs) (h':SqT X.K H a ys):xs=ys:=by
 obtain⟨Kx,r,⟨o,e,_,n,d⟩,_⟩:=I.tuple h;obtain⟨its',r',⟨o',e',_,n',d'⟩,_⟩:=I.tuple h';rw[e] at e';cases e';rw[d] at d';injection d' with d1 _;have:Kx=its':=by simpa using congrArg Array.toList d1
 subst this;exact r.inj r'
end
abbrev Cx.wish (X:Cx) (E:P3->P4->Prop):Cx:={X with xe:=E}
abbrev Cx.nox (X:Cx):Cx:=X.wish λ_ _=>False
theorem Cx.Ok.wish {X:Cx} (ok:X.Ok) (E:P3->P4->Prop):(X.wish E).Ok:=
 ⟨ok.mod,ok.kind,ok.glob,ok.blt,ok.above,ok.inj,ok.has,ok.cab,ok.hd,ok.frames,ok.stk,ok.exf,ok.bs,ok.bsz,ok.noex,ok.exfs,ok.funs,ok.frf⟩
def Cx.Ok.unwish (ok:(X.wish E).Ok):X.Ok:=
 ⟨ok.mod,ok.kind,ok.glob,ok.blt,ok.above,ok.inj,ok.has,ok.cab,ok.hd,ok.frames,ok.stk,ok.exf,ok.bs,ok.bsz,ok.noex,ok.exfs,ok.funs,ok.frf⟩
section
variable {X:Cx}{Ku:P' (P5×Obj)}{σ:St}{H:Hp}{s:P4}{E:P3->P4->Prop}
theorem Inv.wish (I:Inv X Ku σ H s) (E:P3->P4->Prop):Inv (X.wish E) Ku σ H s:=⟨I.ok.wish E,I.os,I.bare,I.base,I.loc,I.cell,I.free,I.freeC,I.pin,I.hok,I.len⟩
theorem Inv.unwish (I:Inv (X.wish E) Ku σ H s):Inv X Ku σ H s:=⟨I.ok.unwish,I.os,I.bare,I.base,I.loc,I.cell,I.free,I.freeC,I.pin,I.hok,I.len⟩
theorem SP.unwish {D:Ends}{f:Flow}{s':P4} (h:SP (X.wish E) Ku D f s'):SP X Ku D f s':=by
 cases f with
 |next=>obtain⟨σ',H',I,q⟩:=h;exact⟨σ',H',I.unwish,q⟩
 |brk=>obtain⟨σ',H',I,q⟩:=h;exact⟨σ',H',I.unwish,q⟩
 |cont=>obtain⟨σ',H',I,q⟩:=h;exact⟨σ',H',I.unwish,q⟩
 |ret u=>obtain⟨v,σ',H',I,r,q⟩:=h;exact⟨v,σ',H',I.unwish,r,q⟩
theorem PSs.nox {st:P' Qd}{t:TS} (h:PSs X.nox st t):PSs X st t:=λKu s σ H D I hw=>
 BV (h Ku s σ H D (I.wish _) hw) (λ_ _ q=>q.unwish) λ_ _ z=>False.elim z
end
section
variable {X:Cx}{st:Qd}{aN:P' Qd}{t u:TS}{e:Qa}{te:TE}{pos:Pos}
def yL:TS:=λD σ H=>D.nx σ H
def yM (t u:TS):TS:=λD σ H=>t (eTo D (u D)) σ H
def aY:PSs X [] yL:=λ_ _ σ H _ I h=>Cy ⟨σ,H,I,h⟩
theorem aj (h1:PS X st t) (h2:PSs X aN u):PSs X (st::aN) (yM t u):=by
 intro Ku s σ H D I h;refine wpAny_execs_cons (thn (h1 Ku s σ H (eTo D (u D)) I h) λf s1 q=> ?_);cases f with
 |next=>
  obtain⟨σ',H',I',q⟩:=q;exact h2 Ku s1 σ' H' D I' q
 |ret v=>exact q
 |brk=>exact q
 |cont=>exact q
theorem ak (h1:PS X st t):PSs X [st] t:=by
 intro Ku s σ H D I h;refine wpAny_execs_cons (thn (h1 Ku s σ H D I h) λf s1 q=> ?_);cases f with
 |next=>exact Cy q
 |ret v=>exact q
 |brk=>exact q
 |cont=>exact q
def yN:TS:=λD σ H=>D.ct σ H
def yO:PS X (.Continue pos) yN:=λ_ _ σ H _ I h=>wpAny_Continue ⟨σ,H,I,h⟩
theorem Inv.quiet {σ:St}(I:Inv X Ku σ H s):interactive X.env=false:=by simp[interactive,I.ok.kind]
def qL (te:TE):TS:=λD σ H=>te σ H λ_ H1=>D.nx σ H1
theorem aZ (he:PE X e te) (hs:swapsWith e none pos.line X.env=pure false:=by rfl):PS X (.Expr e pos) (qL te):=by
 intro Ku s σ H D I h;exact wpAny_Expr_any (thn (he Ku s σ H _ I h) λv s1 KJ=>by obtain⟨x,H1,I1,r1,q1⟩:=KJ;exact⟨σ,H1,I1,q1⟩) I.quiet hs
def yP (te:TE):TS:=λD σ H=>te σ H D.rt
theorem ay (he:PE X e te):PS X (.Return (some e) pos) (yP te):=by
 intro Ku s σ H D I h;exact wpAny_Return_some (thn (he Ku s σ H _ I h) λv s1 KJ=>by obtain⟨x,H1,I1,r1,q1⟩:=KJ;exact⟨x,σ,H1,I1,r1,q1⟩)
def yQ (c:TT) (t u:TS):TS:=λD σ H=>c σ H λb H1=>if b=true then t D σ H1 else u D σ H1
theorem bc {a b:P' Qd}(hc:PT X c tc) (ha:PSs X a t) (hb:PSs X b u):PS X (.If c a b pos) (yQ tc t u):=by
 intro Ku s σ H D I h;refine wpAny_If (thn (hc Ku s σ H _ I h) λd s1 zu8=> ?_);obtain⟨H1,I1,q1⟩:=zu8;cases d with
 |true=>exact ha Ku s1 σ H1 D I1 q1
 |false=>exact hb Ku s1 σ H1 D I1 q1
def yR:TS:=λ_ _ _=>False
def yS:PS X st yR:=λ_ _ _ _ _ _ h=>h.elim
end
abbrev TG:=V->St->Hp->(St->Hp->Prop)->Prop
variable {g:TG}
abbrev TGs:=P' V->St->Hp->(St->Hp->Prop)->Prop
def PG (X:Cx) (Lq:Qa) (t:TG):Prop:=
 ∀(Ku:P' (P5×Obj)) (s:P4) (σ:St) (H:Hp) (v:V) (u:P3) (Q:St->Hp->Prop),Inv X Ku σ H s->aw v u->t v σ H Q->
  wpAny (model X.prog X.w) X.A (assign Lq X.env u) (λ_ s'=>∃σ' H',Inv X Ku σ' H' s'/\Q σ' H') X.xe s
def PGs (X:Cx) (ts:P' Qa) (t:TGs):Prop:=
 ∀(Ku:P' (P5×Obj)) (s:P4) (σ:St) (H:Hp) (vs:P' V) (us:P' P3) (Q:St->Hp->Prop),Inv X Ku σ H s->ap vs us->t vs σ H Q->
  wpAny (model X.prog X.w) X.A (assignInOrder ((assignEach ts X.env).map (·.2)) us) (λ_ s'=>∃σ' H',Inv X Ku σ' H' s'/\Q σ' H') X.xe s
abbrev iM:=V->V->V->Hp->(Hp->Prop)->Prop
def mf (X:Cx) (t:iM):Prop:=
 ∀(Ku:P' (P5×Obj)) (s:P4) (σ:St) (H:Hp) (o i v:V) (ov iv u:P3) (Q:Hp->Prop),Inv X Ku σ H s->aw o ov->aw i iv->aw v u->t o i v H Q->
  wpAny (model X.prog X.w) X.A (setItem ov iv u) (λ_ s'=>∃H',Inv X Ku σ H' s'/\Q H') X.xe s
abbrev TIp:=V->V->Hp->VK->Prop
def PIp (X:Cx) (op:Operator) (t:TIp):Prop:=
 ∀(Ku:P' (P5×Obj)) (s:P4) (σ:St) (H:Hp) (x y:V) (v u:P3) (Q:VK),Inv X Ku σ H s->aw x v->aw y u->t x y H Q->
  wpAny (model X.prog X.w) X.A (inplaceOp op v u) (EP X Ku σ Q) X.xe s
section
variable {X:Cx}{pos:Pos}
def cn (i:Nat):TG:=λv σ H Q=>Q (σ.set i (some v)) H
theorem cg (hN:X.N.Nodup) (hi:X.N[i]? =some x) (hx:Loc X.env.scope x) (hf:X.fn x=true\/X.env.scope.names.lookup x=some .local:=by first|exact .inl rfl|exact .inr rfl|assumption):PG X (.Name x pos) (cn i):=by
 intro Ku s σ H v u Q I r h;exact wpAny_assign_Name (fZ I hN hi hx r (λs' I'=>⟨_,H,I',h⟩) hf)
def jU:TGs:=λvs σ H Q=>vs=[]/\Q σ H
inductive gCons (t:TG) (u:TGs) (vs:List V) (σ:St) (H:Hp) (Q:(St->Hp->Prop)):Prop
 |mk v r:vs=v::r->(t v σ H λσ' H'=>u r σ' H' Q)->gCons t u vs σ H Q
theorem bV:PGs X [] jU:=by
 intro Ku s σ H vs us Q I r h;obtain⟨e,h⟩:=h;subst e;cases r;exact assignInOrder_nil ⟨σ,H,I,h⟩
theorem aK {t:TG}{u:TGs} (h1:PG X e t) (h2:PGs X es u)
  (hs:(assignEach (e::es) X.env).map (·.2)=assign e X.env::(assignEach es X.env).map (·.2):=by rfl):PGs X (e::es) (gCons t u):=by
 intro Ku s σ H vs us Q I r h;obtain⟨v,vr,e1,h⟩:=h;subst e1;cases r with
 |cons r rr=>
  rw[hs];refine assignInOrder_cons (thn (h1 Ku s σ H _ _ _ I r h) λ_ s1 zu9=> ?_);obtain⟨σ1,H1,I1,q1⟩:=zu9;exact h2 Ku s1 σ1 H1 _ _ Q I1 rr q1
inductive gTup (K:W.Frag) (n:Nat) (t:TGs) (v:V) (σ:St) (H:Hp) (Q:(St->Hp->Prop)):Prop
 |mk a xs:v= .ref a->SqT K H a xs->xs.length=n->t xs σ H Q->gTup K n t v σ H Q
theorem cp {k:Nat}{t:TGs}(hc:X.calm=true) (h:PGs X es t)
  (hn:(assignEach es X.env).length=n:=by rfl) (LO:(assignEach es X.env).findIdx? (·.1)=none:=by rfl):PG X (.Tuple es k pos) (gTup X.K n t):=by
 intro Ku s σ H v u Q I r hw;obtain⟨a,xs,e1,hq,hl,hw⟩:=hw;subst e1;cases r;obtain⟨Kx,rv,ht,hz⟩:=I.tuple hq;refine assign_Tuple_tuple (I.ok.hd hc) ht (by simp[hn,<-hl,rv.length]) LO λh' hx=> ?_;have I1:Inv X Ku σ H {s with heap:=h'}:=I.kept (t':=s.toks) λb o e=>hx b o (AO (AL e)) e;exact h Ku _ σ H xs _ Q I1 (by simpa using rv) hw
def yT (to ti:TE) (t:iM):TG:=λv σ H Q=>to σ H λo H1=>ti σ H1 λi H2=>t o i v H2 λH3=>Q σ H3
theorem yU {o i:Expr}{ti:TE}{t:iM} (ho:PE X o to) (hi:PE X i ti) (hs:mf X t)
  (ha:∀v,assign (.Subscript o i pos) X.env v=(do
   let ov<-holding [v] (eval o X.env)
   let iv<-holding [v,ov] (eval i X.env)
   standAt pos
   holding [v,ov,iv] (setItem ov iv v)
   release [v,ov,iv] []):=by intro _;rfl):PG X (.Subscript o i pos) (yT to ti t):=by
 intro Ku s σ H v u Q I r h;rw[ha];refine A0 (Aw (thn (ho Ku s σ H _ I h) λov s1 zu10=> ?_));obtain⟨x,H1,I1,r1,q1⟩:=zu10;refine A0 (Aw (thn (hi Ku s1 σ H1 _ I1 q1) λiv s2 zu11=> ?_));obtain⟨y,H2,I2,r2,q2⟩:=zu11;refine A0 (DQ (A0 (Aw (thn (hs Ku s2 σ H2 x y v ov iv u _ I2 r1 r2 r q2) λ_ s3 zu12=> ?_))));obtain⟨H3,I3,q3⟩:=zu12;exact wpAny_release ⟨σ,H3,I3,q3⟩
def iN (te:TE) (g:TG):TS:=λD σ H=>te σ H λx H1=>g x σ H1 D.nx
theorem mh (he:PE X e te) (hg:PG X tg g) (hs:swapsWithSole [tg] e pos.line X.env=pure false:=by rfl) (hw:swappedStores [tg] e X.env=pure none:=by rfl)
  (h1:(assignEach [tg] X.env).map (·.2)=[assign tg X.env]:=by rfl):PS X (.Assign [tg] e pos) (iN te g):=by
 intro Ku s σ H D I h;refine wpAny_Assign_stores (thn (he Ku s σ H _ I h) λv s1 zu13=> ?_) hs hw;obtain⟨x,H1,I1,r1,q1⟩:=zu13;rw[h1];exact thn (hg Ku s1 σ H1 x v _ I1 r1 q1) λ_ s2 q=>q
theorem yV {KP:Pos} (hN:X.N.Nodup) (hi:X.N[i]? =some x) (hx:Loc X.env.scope x) (he:PE X e te) (hs:swapsWith e (some (.Name x KP)) pos.line X.env=pure false:=by rfl) (hf:X.fn x=true\/X.env.scope.names.lookup x=some .local:=by first|exact .inl rfl|exact .inr rfl|assumption):
  PS X (.Assign [.Name x KP] e pos) (iN te (cn i)):=by
 intro Ku s σ H D I h;refine wpAny_Assign_Name (thn (he Ku s σ H _ I h) λv s1 zu14=> ?_) hs;obtain⟨y,H1,I1,r1,q1⟩:=zu14;exact fZ I1 hN hi hx r1 (λs2 I2=>⟨_,H1,I2,q1⟩) hf
inductive tPar_ (i:Nat) (j:Nat) (D:Ends) (σ:St) (vs:List V) (H1:Hp):Prop
 |mk v w:vs=[v,w]->D.nx ((σ.set i (some v)).set j (some w)) H1->tPar_ i j D σ vs H1
def yW (i j:Nat) (ta:TA):TS:=λD σ H=>ta σ H λvs H1=>tPar_ i j D σ vs H1
theorem yX {y:Str}{a b:Expr}{px py pt:Pos}{kt k2 pt2} (hc:X.calm=true) (hN:X.N.Nodup) (hi:X.N[i]? =some x) (hj:X.N[j]? =some y) (LS:i≠j)
  (hx:X.env.scope.names.lookup x=some .local) (hy:X.env.scope.names.lookup y=some .local) (ha:PA X [a,b] ta)
  (hw:swappedStores [.Tuple [.Name x px, .Name y py] kt pt] (.Tuple [a,b] k2 pt2) X.env=pure (some [x,y]))
  (hs:swapsWithSole [.Tuple [.Name x px, .Name y py] kt pt] (.Tuple [a,b] k2 pt2) pos.line X.env=pure false:=by rfl):
  PS X (.Assign [.Tuple [.Name x px, .Name y py] kt pt] (.Tuple [a,b] k2 pt2) pos) (yW i j ta):=by
 intro Ku s σ H D I h;rw[exec_Assign_arm];refine A0 (DQ ?_);rw[hs];refine A0 (A3 ?_);rw[A6 (by decide)];refine A0 (Tuple_ (thn (ha _ Ku s σ H _ I h) λus s1 zu15=> ?_));obtain⟨vs,H1,I1,r1,q1⟩:=zu15;obtain⟨v,w,e1,q1⟩:=q1;subst e1;obtain⟨u1,u2,rfl,rv,LD⟩:∃u1 u2,us=[u1,u2]/\aw v u1/\aw w u2:=by
  cases r1 with
  |cons p q=>
   cases q with
   |cons p' q'=>
    cases q';exact⟨_,_,rfl,p,p'⟩
 refine Au ?_ (by show 2<=sizeLine;decide);have I2:Inv X Ku σ H1 {s1 with heap:=s1.heap.push {cls:= .type "tuple",data:= .seq [u1,u2].toArray}}:=I1.kept (t':=s1.toks) λb o e=>A5 _ e;rw[hw];refine A0 (A3 ?_);show wpAny (model X.prog X.w) X.A (do rule "assign.swapped-stores";let items<-unpackItems (.ref s1.heap.objs.size) 2 none;assignInOrder [λv=>bindName X.env y v,λv=>bindName X.env x v] items.reverse;pure Flow.next) _ _ _;refine A0 (C4 (A0 (unpackItems_tuple (items:= #[u1,u2]) (I.ok.hd hc) (IsTup.new s1.heap _) λh' KW=> ?_)));have I3:=I2.kept (h':=h') (t':=s1.toks) λb o e=>KW b o (AO (AL e)) e;show wpAny _ _ (assignInOrder [λv=>bindName X.env y v,λv=>bindName X.env x v] [u2,u1]>>=λ_=>pure Flow.next) _ _ _;refine A0 (assignInOrder_cons (wpAny_bindName (fZ I3 hN hj (.inl hy) LD (λs2 I4=> ?_) (.inr hy))));refine assignInOrder_cons (wpAny_bindName (fZ I4 hN hi (.inl hx) rv (λs3 I5=>assignInOrder_nil (A3 ?_)) (.inr hx)));rw[List.set_comm _ _ (D4 LS)] at I5;exact⟨_,H1,I5,q1⟩
inductive tAug (i:Nat) (te:TE) (ti:TIp) (D:Ends) (σ:St) (H:Hp):Prop
 |mk x:σ[i]? =some (some x)->(te σ H λy H1=>ti x y H1 λz H2=>D.nx (σ.set i (some z)) H2)->tAug i te ti D σ H
theorem qM {op:Operator}{ti:TIp}{KP:Pos} (hN:X.N.Nodup) (hi:X.N[i]? =some x) (hx:Loc X.env.scope x) (he:PE X e te) (ho:PIp X op ti) (hf:X.fn x=true\/X.env.scope.names.lookup x=some .local:=by first|exact .inl rfl|exact .inr rfl|assumption):
  PS X (.AugAssign (.Name x KP) op e pos) (tAug i te ti):=by
 intro Ku s σ H D I h;obtain⟨v,e1,h⟩:=h;obtain⟨m,hn,hl⟩:=I.loc;have vis:Vis X.env.scope x:=by rcases hx with k|k;exact .inl k;exact .inr (.inl k)
 obtain⟨u,r,l⟩:=hl i x v hi e1 vis;refine wpAny_AugAssign_Name ?_;have go:wpAny (model X.prog X.w) X.A (eval e X.env) (λw s₂=>wpAny (model X.prog X.w) X.A (inplaceOp op u w) (λr s₃=>wpAny (model X.prog X.w) X.A (storeName X.env x r) (λ_=>SP X Ku D .next) X.xe s₃) X.xe s₂) X.xe s:=by
  refine thn (he Ku s σ H _ I h) λw s1 zu16=> ?_;obtain⟨y,H1,I1,r1,q1⟩:=zu16;refine thn (ho Ku s1 σ H1 v y u w _ I1 r r1 q1) λz s2 zu17=> ?_;obtain⟨zv,H2,I2,r2,q2⟩:=zu17;exact fZ I2 hN hi hx r2 (λs3 I3=>⟨_,H2,I3,q2⟩) hf
 rcases l with⟨hk,hm⟩|⟨hk,c,hc,KY⟩
 .exact wpAny_loadName_local I.ok.kind hk hn hm go
 .rcases hk with hk|hk
  .exact wpAny_loadName_cell I.ok.kind hk hc KY go
  .rcases hx with k|k
   .have:X.env.scope.names.lookup x=some .free:=hk;rw[k] at this;cases this
   .have:X.env.scope.names.lookup x=some .free:=hk;rw[k] at this;cases this
def yY (to ti te:TE) (NX:V->V->Hp->VK->Prop) (tip:TIp) (NY:iM):TS:=λD σ H=>to σ H λo H1=>ti σ H1 λi H2=>NX o i H2 λx H3=>te σ H3 λy H4=>tip x y H4 λz H5=>NY o i z H5 λH6=>D.nx σ H6
def qN (X:Cx) (t:V->V->Hp->VK->Prop):Prop:=
 ∀(Ku:P' (P5×Obj)) (s:P4) (σ:St) (H:Hp) (o i:V) (ov iv:P3) (Q:VK),Inv X Ku σ H s->aw o ov->aw i iv->t o i H Q->
  wpAny (model X.prog X.w) X.A (getItem ov iv) (EP X Ku σ Q) X.xe s
theorem jV {o i:Qa}{ti:TE}{NX:V->V->Hp->VK->Prop}{tip:TIp}{NY:iM}{op:Operator}{Lv:Pos} (ho:PE X o to) (hi:PE X i ti) (hg:qN X NX) (he:PE X e te) (hp:PIp X op tip) (hs:mf X NY)
  (ha:∀ov iv new,augStore i ov iv new=(do holding [new,ov,iv] (setItem ov iv new);release [new,ov,iv] [];pure .next):=by intros;rfl):PS X (.AugAssign (.Subscript o i Lv) op e pos) (yY to ti te NX tip NY):=by
 intro Ku s σ H D I h;refine wpAny_AugAssign_SubscriptAny (thn (ho Ku s σ H _ I h) λov s1 zu18=> ?_) ha;obtain⟨x1,H1,I1,r1,q1⟩:=zu18;refine thn (hi Ku s1 σ H1 _ I1 q1) λiv s2 zu19=> ?_;obtain⟨x2,H2,I2,r2,q2⟩:=zu19;refine thn (hg Ku s2 σ H2 x1 x2 ov iv _ I2 r1 r2 q2) λMm s3 zu20=> ?_;obtain⟨x3,H3,I3,r3,q3⟩:=zu20;refine thn (he Ku s3 σ H3 _ I3 q3) λv s4 zu21=> ?_;obtain⟨x4,H4,I4,r4,q4⟩:=zu21;refine thn (hp Ku s4 σ H4 x3 x4 Mm v _ I4 r3 r4 q4) λnew s5 zu22=> ?_;obtain⟨x5,H5,I5,r5,q5⟩:=zu22;exact thn (hs Ku s5 σ H5 x1 x2 x5 ov iv new _ I5 r1 r2 r5 q5) λ_ s6 KJ=>by obtain⟨H6,I6,q6⟩:=KJ;exact⟨σ,H6,I6,q6⟩
inductive ipI (f:Int->Int->Int) (x:V) (y:V) (H:Hp) (Q:VK):Prop
 |mk i j:x= .int i->y= .int j->Q (.int (f i j)) H->ipI f x y H Q
theorem jW:PIp X .Add (ipI λi j=>i+j):=by
 intro Ku s σ H x y v u Q I r1 r2 h;obtain⟨i,j,e1,e2,q⟩:=h;subst e1;subst e2;obtain⟨t,rfl⟩:=r1;obtain⟨t',rfl⟩:=r2;exact iadd_int ⟨.int _,H,I.tok _,⟨_,rfl⟩,q⟩
theorem yZ:PIp X .Sub (ipI λi j=>i-j):=by
 intro Ku s σ H x y v u Q I r1 r2 h;obtain⟨i,j,e1,e2,q⟩:=h;subst e1;subst e2;obtain⟨t,rfl⟩:=r1;obtain⟨t',rfl⟩:=r2;exact isub_int ⟨.int _,H,I.tok _,⟨_,rfl⟩,q⟩
end
section
variable {X:Cx}{pos:Pos}
def qO (c:TT) (tb:TS):TS:=λD σ H=>∃Wq:Nat->St->Hp->Prop,(∃m,Wq m σ H)/\∀m σ H,Wq m σ H->
 c σ H λb H1=>if b=true then∃N:St->Hp->Prop,(∀σ' H',N σ' H'->∃m',m'<m/\Wq m' σ' H')/\tb (eLp D (N)) σ H1 else D.nx σ H1
theorem jX (hp:PassesOwn (model X.prog X.w) X.A X.env X.xe) (hc:PT X c tc) (hb:PSs X body tb):PS X (.While c body [] pos) (qO tc tb):=by
 intro Ku s σ H D I h;obtain⟨Wq,⟨m0,w0⟩,turn⟩:=h;refine wpAny_While (codeAny_whileLoop (λn s'=>∃σ' H',Inv X Ku σ' H' s'/\Wq n σ' H') ?_ m0 ⟨σ,H,I,w0⟩);rintro n s1 ⟨σ1,H1,I1,w1⟩;refine CT hp (thn (hc Ku s1 σ1 H1 _ I1 (turn n σ1 H1 w1)) λb s2 zu23=> ?_);obtain⟨H2,I2,q2⟩:=zu23;cases b with
 |true=>
  obtain⟨N,hN,q2⟩:=q2;rw[AB rfl];refine CT hp (thn (hb Ku s2 σ1 H2 _ I2 q2) λf s3 q3=> ?_);cases f with
  |next=>
   obtain⟨σ3,H3,I3,n3⟩:=q3;obtain⟨m',hm,w3⟩:=hN σ3 H3 n3;exact⟨m',hm,σ3,H3,I3,w3⟩
  |cont=>
   obtain⟨σ3,H3,I3,n3⟩:=q3;obtain⟨m',hm,w3⟩:=hN σ3 H3 n3;exact⟨m',hm,σ3,H3,I3,w3⟩
  |brk=>exact q3
  |ret v=>exact q3
 |false=>
  rw[A6 AX];exact Cy ⟨σ1,H2,I2,q2⟩
end
structure It where
 go:Nat->Hp->Prop
 yld:Nat->Hp->V->Hp->Prop
 stop:Nat->Hp->Prop
def cq (X:Cx) (Ku:P' (P5×Obj)) (H:Hp) (b:P5):Prop:=
 H b=none/\b≠X.env.locals/\b∉X.fs/\(b∈X.ex\/X.s₀.heap.objs.size<=b)/\(∀x c,X.env.cells.lookup x=some c->c≠b)/\∀p∈X.pn++Ku,p.1≠b
theorem Inv.fpOk {σ:St}{H':Hp}(I:Inv X Ku σ H s) (hb:s.heap.objs.size<=b) (hn:H' b=none):cq X Ku H' b:=by
 refine⟨hn,BZ (Ai I.lt hb),I.nofs hb, .inr (As I.sz hb),λx c e z=> ?_,λp hp z=> ?_⟩
 .obtain⟨v,q⟩:=I.cell x c e;exact absurd (Ai q.lt (by rw[z];exact hb)) (CF _)
 .exact absurd (Ai (AL (I.pin p hp).1) (by rw[z];exact hb)) (CF _)
structure Turn (P:P6) (w:P8) (K:W.Frag) (tg:Qa) (J:It) (fp:P' P5) (it:P5) (tn:Nat->Qb->Prop):Prop where
 mem:it∈fp
 obj:∀i h,tn i h->∀b∈fp,∃o,h.get? b=some o/\∀v,o.data≠ .cell v
 keep:∀i h h',tn i h->(∀b∈fp,∀o,h.get? b=some o->h'.get? b=some o)->tn i h'
 item:∀(X:Cx),X.prog=P->X.w=w->X.K=K->X.calm=true->∀(i:Nat) (Ku:List (Addr×Obj)) (s:Shared) (σ:St) (H:Hp) (E:Value->Shared->Prop),Inv X Ku σ H s->(∀b∈fp,cq X Ku H b)->tn i s.heap->J.go i H->
  wpAny (model P w) X.A (pyNext (.ref it)) (λr s1=>∃u,r=some u/\
   wpAny (model P w) X.A (letOwnedTupleGo tg (.ref it) u) (λ_ s2=>∃x H',Inv X Ku σ H' s2/\aw x u/\J.yld i H x H'/\tn (i+1) s2.heap/\∀b∈fp,H' b=none) E s1) E s
 done:∀(X:Cx),X.prog=P->X.w=w->X.K=K->X.calm=true->∀(i:Nat) (Ku:List (Addr×Obj)) (s:Shared) (σ:St) (H:Hp) (E:Value->Shared->Prop),Inv X Ku σ H s->(∀b∈fp,cq X Ku H b)->tn i s.heap->J.stop i H->
  wpAny (model P w) X.A (pyNext (.ref it)) (λr s1=>r=none/\Inv X Ku σ H s1) E s
 self:∀(A:Around) (i:Nat) (s:Shared) (Q:Value->Shared->Prop) (E:Value->Shared->Prop),tn i s.heap->Q (.ref it) s->wpAny (model P w) A (pyIter (.ref it)) Q E s
abbrev TI:=St->Hp->(It->Hp->Prop)->Prop
def PIE (X:Cx) (Ku:P' (P5×Obj)) (σ:St) (tg:Qa) (R:It->Hp->Prop) (itv:P3) (s2:P4):Prop:=
 ∃(it:P5) (fp:P' P5) (tn:Nat->Qb->Prop) (J:It) (H':Hp),itv= .ref it/\Inv X Ku σ H' s2/\Turn X.prog X.w X.K tg J fp it tn/\tn 0 s2.heap/\(∀b∈fp,cq X Ku H' b)/\R J H'
def PI (X:Cx) (tg aG:Qa) (wi:TI):Prop:=
 ∀(Ku:P' (P5×Obj)) (s:P4) (σ:St) (H:Hp) (R:It->Hp->Prop),Inv X Ku σ H s->wi σ H R->
  wpAny (model X.prog X.w) X.A (eval aG X.env) (λv s1=>wpAny (model X.prog X.w) X.A (pyIter v) (PIE X Ku σ tg R) X.xe s1) X.xe s
theorem go_of {E : P3 -> P4 -> Prop} {n : String} {vs : Array P3} {Q : Unit -> P4 -> Prop} (ho : s.heap.get? it = some o) (hc : o.cls = .type n) (hd : o.data = .fields vs)
    (hn : ["enumerate", "zip", "dict_itemiterator", "dict_reverseitemiterator", "odict_iterator", "itertools.zip_longest", "itertools.pairwise"].contains n = false) (hQ : Q () s) : wpAny M A (letOwnedTupleGo tg (.ref it) u) Q E s := by
  unfold letOwnedTupleGo;cases tg <;> first
    | exact A3 hQ
    | (cases u <;> first
        | exact A3 hQ
        | (refine A0 (wpAny_load ho ?_)
           rw[hc, hd];show wpAny M A (if (["enumerate", "zip", "dict_itemiterator", "dict_reverseitemiterator", "odict_iterator", "itertools.zip_longest", "itertools.pairwise"].contains n && vs[0]? == some (rawInt _)) = true then _ else _) Q E s;rw[A6 (by intro h; rw[hn, Bool.false_and] at h; cases h)];exact A3 hQ))
def Itl (K:W.Frag) (a:P5):It:=
 ⟨λi H=>∃xs x,SqL K H a xs/\xs[i]? =some x,λi H x H'=>H'=H/\∀xs,SqL K H a xs->xs[i]? =some x,λi H=>∃xs,SqL K H a xs/\xs.length<=i⟩
def Itt (K:W.Frag) (a:P5):It:=
 ⟨λi H=>∃xs x,SqT K H a xs/\xs[i]? =some x,λi H x H'=>H'=H/\∀xs,SqT K H a xs->xs[i]? =some x,λi H=>∃xs,SqT K H a xs/\xs.length<=i⟩
def Itr (lo:Int) (n:Nat):It:=⟨λi _=>i<n,λi H x H'=>H'=H/\x= .int (lo+i),λi _=>n<=i⟩
theorem y6 (a it:P5):Turn P w K tg (Itl K a) [it] it (λi h=>h.IsListIter it a i) where
 mem:=by simp
 obj:=λi h st b hb=>by
  have e:b=it:=by simpa using hb
  subst e;obtain⟨o,e,c,d⟩:=st;exact⟨o,e,λv z=>by rw[d] at z;cases z⟩
 keep:=λi h h' st k=>st.at λo e=>k it (by simp) o e
 item:=by
  intro X hP hw hK hc i Ku s σ H E I hf st hg;subst hP hw hK;obtain⟨xs,x,hq,hx⟩:=hg;obtain⟨Kx,rv,p,hz⟩:=I.list hq;obtain⟨u,hu,ru⟩:=rv.get hx;obtain⟨f0,f1,f2,f3,f4,f5⟩:=hf it (by simp);refine wpAny_pyNext_list_item st p.isList (x:=u) (by simpa using hu) λh' K' sb=> ?_;have I1:Inv X Ku σ H {s with heap:=h'}:=I.turned (t':=s.toks) (λb o hb e=>(sb.2 b hb).trans e) f0 f1 f3 f4 f5;obtain⟨o,e,c,d⟩:=id K';exact⟨u,rfl,go_of (s:={s with heap:=h'}) e c d (by decide) ⟨x,H,I1,ru,⟨rfl,λys hy=>by rw[I.list_inj hy hq];exact hx⟩,K',λb hb=>(hf b hb).1⟩⟩
 done:=by
  intro X hP hw hK hc i Ku s σ H E I hf st hg;subst hP hw hK;obtain⟨xs,hq,hx⟩:=hg;obtain⟨Kx,rv,p,hz⟩:=I.list hq;obtain⟨f0,f1,f2,f3,f4,f5⟩:=hf it (by simp);have hl:=rv.length;exact wpAny_pyNext_list_end (I.ok.hd hc) st p.isList (by simp;lia) λh' eb=>⟨rfl,I.turned (t':=s.toks) (λb o hb e=>eb b o hb e) f0 f1 f3 f4 f5⟩
 self:=λ_ _ _ _ _ st h=>wpAny_pyIter_listiter st h
theorem y7 (a it:P5):Turn P w K tg (Itt K a) [it] it (λi h=>h.IsTupleIter it a i) where
 mem:=by simp
 obj:=λi h st b hb=>by
  have e:b=it:=by simpa using hb
  subst e;obtain⟨o,e,c,d⟩:=st;exact⟨o,e,λv z=>by rw[d] at z;cases z⟩
 keep:=λi h h' st k=>st.at λo e=>k it (by simp) o e
 item:=by
  intro X hP hw hK hc i Ku s σ H E I hf st hg;subst hP hw hK;obtain⟨xs,x,hq,hx⟩:=hg;obtain⟨Kx,rv,p,hz⟩:=I.tuple hq;obtain⟨u,hu,ru⟩:=rv.get hx;obtain⟨f0,f1,f2,f3,f4,f5⟩:=hf it (by simp);refine wpAny_pyNext_tuple_item st (show s.heap.IsTuple a Kx.toArray from p) (x:=u) (by simpa using hu) λh' K' sb=> ?_;have I1:Inv X Ku σ H {s with heap:=h'}:=I.turned (t':=s.toks) (λb o hb e=>(sb.2 b hb).trans e) f0 f1 f3 f4 f5;obtain⟨o,e,c,d⟩:=id K';exact⟨u,rfl,go_of (s:={s with heap:=h'}) e c d (by decide) ⟨x,H,I1,ru,⟨rfl,λys hy=>by rw[I.tuple_inj hy hq];exact hx⟩,K',λb hb=>(hf b hb).1⟩⟩
 done:=by
  intro X hP hw hK hc i Ku s σ H E I hf st hg;subst hP hw hK;obtain⟨xs,hq,hx⟩:=hg;obtain⟨Kx,rv,p,hz⟩:=I.tuple hq;obtain⟨f0,f1,f2,f3,f4,f5⟩:=hf it (by simp);have hl:=rv.length;exact wpAny_pyNext_tuple_end (I.ok.hd hc) st (show s.heap.IsTuple a Kx.toArray from p) (by simp;lia) λh' eb=>⟨rfl,I.turned (t':=s.toks) (λb o hb e=>eb b o hb e) f0 f1 f3 f4 f5⟩
 self:=λ_ _ _ _ _ st h=>wpAny_pyIter_tupleiter st h
theorem y8 (it:P5) (lo:Int) (n:Nat):Turn P w K tg (Itr lo n) [it] it (λi h=>IsRangeIter h it (lo+(i:Nat)*1) ((n:Int)-(i:Nat)) 1) where
 mem:=by simp
 obj:=λi h st b hb=>by
  have e:b=it:=by simpa using hb
  subst e;exact⟨_,st,λv z=>by
   have z':Data.fields _=Data.cell v:=z;cases z'⟩
 keep:=λi h h' st k=>k it (by simp) _ st
 item:=by
  intro X hP hw hK hc i Ku s σ H E I hf st hg;subst hP hw hK;obtain⟨f0,f1,f2,f3,f4,f5⟩:=hf it (by simp);have Wq:=Walks.range (prog:=X.prog) (w:=X.w) (I.ok.hd hc) it lo 1 n;refine Wq.item i s _ _ hg st λv h' tk hv K' kk=> ?_;obtain⟨t,rfl⟩:=hv;have I1:Inv X Ku σ H {s with heap:=h',toks:=tk}:=I.turned (λb o hb e=>kk b o (by simpa using hb) e) f0 f1 f3 f4 f5;refine⟨_,rfl,go_of (s:={s with heap:=h',toks:=tk}) (n:="range_iterator") K' rfl rfl (by decide) ⟨.int (lo+i),H,I1,⟨t, ?_⟩,⟨rfl,rfl⟩,K',λb hb=>(hf b hb).1⟩⟩;rw[Int.mul_one]
 done:=by
  intro X hP hw hK hc i Ku s σ H E I hf st hg;subst hP hw hK;obtain⟨f0,f1,f2,f3,f4,f5⟩:=hf it (by simp);exact wpAny_pyNext_range_end (I.ok.hd hc) st (by have:n<=i:=hg;lia) λh' eb=>⟨rfl,I.turned (t':=s.toks) (λb o hb e=>eb b o hb e) f0 f1 f3 f4 f5⟩
 self:=λ_ _ _ _ _ st h=>wpAny_pyIter_rangeiter st h
section
variable {X:Cx}{tg:Qa}
inductive iList_ (K:W.Frag) (R:(It->Hp->Prop)) (x:V) (H1:Hp):Prop
 |mk a:x= .ref a->((∃xs,SqL K H1 a xs))->R (Itl K a) H1->iList_ K R x H1
def y9 (K:W.Frag) (tl:TE):TI:=λσ H R=>tl σ H λx H1=>iList_ K R x H1
inductive iTup_ (K:W.Frag) (R:(It->Hp->Prop)) (x:V) (H1:Hp):Prop
 |mk a:x= .ref a->((∃xs,SqT K H1 a xs))->R (Itt K a) H1->iTup_ K R x H1
def zc (K:W.Frag) (tl:TE):TI:=λσ H R=>tl σ H λx H1=>iTup_ K R x H1
theorem bv (hl:PE X l tl):PI X tg l (y9 X.K tl):=by
 intro Ku s σ H R I h;refine thn (hl Ku s σ H _ I h) λv s1 zu24=> ?_;obtain⟨x,H1,I1,r1,q1⟩:=zu24;obtain⟨a,e,⟨xs,hq⟩,q⟩:=q1;subst e;cases r1;obtain⟨Kx,rv,p,hz⟩:=I1.list hq;refine wpAny_pyIter_list p.isList ?_;refine⟨s1.heap.objs.size,[s1.heap.objs.size],_,_,H1,rfl,I1.kept (t':=s1.toks) λb o e=>A5 _ e,y6 a _,⟨_,AI _ rfl,rfl,rfl⟩,λb hb=> ?_,q⟩;have e:b=s1.heap.objs.size:=by simpa using hb
 subst e;exact I1.fpOk (A8 _) (I1.hok.fresh (A8 _))
theorem qP (hl:PE X l tl):PI X tg l (zc X.K tl):=by
 intro Ku s σ H R I h;refine thn (hl Ku s σ H _ I h) λv s1 zu25=> ?_;obtain⟨x,H1,I1,r1,q1⟩:=zu25;obtain⟨a,e,⟨xs,hq⟩,q⟩:=q1;subst e;cases r1;obtain⟨Kx,rv,p,hz⟩:=I1.tuple hq;refine D1 (show s1.heap.IsTuple a Kx.toArray from p) ?_;refine⟨s1.heap.objs.size,[s1.heap.objs.size],_,_,H1,rfl,I1.kept (t':=s1.toks) λb o e=>A5 _ e,y7 a _,⟨_,AI _ rfl,rfl,rfl⟩,λb hb=> ?_,q⟩;have e:b=s1.heap.objs.size:=by simpa using hb
 subst e;exact I1.fpOk (A8 _) (I1.hok.fresh (A8 _))
theorem qQ {σ:St}{R:It->Hp->Prop}{hi:Int}{t u v:Tok}{tk:Nat} (I:Inv X Ku σ H s) (h1: -(2^62)<=lo) (h2:lo<2^62) (h3: -(2^62)<=hi) (h4:hi<2^62)
  (q:R (Itr lo (hi-lo).toNat) H):wpAny (model X.prog X.w) X.A (pyIter (.ref s.heap.objs.size)) (PIE X Ku σ tg R) E {s with heap:=s.heap.push {cls:= .type "range",data:= .fields #[.int lo t, .int hi u, .int 1 v]},toks:=tk}:=by
 refine wpAny_pyIter_range (IsRange.new ..) (small_one h1 h2 h3 h4) ?_;have I1:Inv X Ku σ H {s with heap:=s.heap.push {cls:= .type "range",data:= .fields #[.int lo t, .int hi u, .int 1 v]},toks:=tk}:=I.kept λb o e=>A5 _ e;refine⟨(s.heap.push {cls:= .type "range",data:= .fields #[.int lo t, .int hi u, .int 1 v]}).objs.size,[(s.heap.push {cls:= .type "range",data:= .fields #[.int lo t, .int hi u, .int 1 v]}).objs.size],_,_,H,rfl,
  I1.kept (t':=tk) λb o e=>A5 _ e,y8 _ lo (hi-lo).toNat, ?_,λb hb=> ?_,q⟩
 .have e1:lo+((0:Nat):Int)*1=lo:=by simp
  have e2:(((hi-lo).toNat:Nat):Int)-((0:Nat):Int)=Builtin.Range.rangeSize lo hi 1:=by rw[rangeSize_one];split<;>lia
  show IsRangeIter _ _ (lo+((0:Nat):Int)*1) ((((hi-lo).toNat:Nat):Int)-((0:Nat):Int)) 1;rw[e1,e2];exact AI _ rfl
 .have e:b=(s.heap.push {cls:= .type "range",data:= .fields #[.int lo t, .int hi u, .int 1 v]}).objs.size:=by simpa using hb
  subst e;exact I1.fpOk (A8 _) (I1.hok.fresh (A8 _))
inductive iRng1_ (R:(It->Hp->Prop)) (vs:List V) (H1:Hp):Prop
 |mk (j:Int):vs=[.int j]->-(2^62)<=j->j<2^62->R (Itr 0 j.toNat) H1->iRng1_ R vs H1
def zd (ta:TA):TI:=λσ H R=>ta σ H λvs H1=>iRng1_ R vs H1
inductive iRng2_ (R:(It->Hp->Prop)) (vs:List V) (H1:Hp):Prop
 |mk (i j:Int):vs=[.int i, .int j]->(-(2^62)<=i/\i<2^62/\-(2^62)<=j/\j<2^62)->R (Itr i (j-i).toNat) H1->iRng2_ R vs H1
def ze (ta:TA):TI:=λσ H R=>ta σ H λvs H1=>iRng2_ R vs H1
theorem cH {a:Qa}{p pos:Pos} (hg:Gl X "range") (hm:X.mg "range"=none) (ha:PA X [a] ta) (hs:starEach [a] X.env=[(false,eval a X.env)]:=by rfl):PI X tg (.Call (.Name "range" p) [a] [] pos) (zd ta):=by
 intro Ku s σ H R I h;refine Call_ (dy I hg hm boot_range (BO (thn (ha pos Ku s σ H _ I h) λus s1 zu26=> ?_) hs rfl));obtain⟨vs,H1,I1,r1,q1⟩:=zu26;obtain⟨j,e,q1,q2,q⟩:=q1;subst e;cases r1 with
 |cons r rr=>
  cases rr;obtain⟨t,rfl⟩:=r;exact call_range_1 (qQ I1 (by lia) (by lia) q1 q2 (by simpa using q))
theorem gI {a b:Qa}{p pos:Pos} (hg:Gl X "range") (hm:X.mg "range"=none) (ha:PA X [a,b] ta) (hs:starEach [a,b] X.env=[(false,eval a X.env),(false,eval b X.env)]:=by rfl) (hs2:starEach [b] X.env=[(false,eval b X.env)]:=by rfl):
  PI X tg (.Call (.Name "range" p) [a,b] [] pos) (ze ta):=by
 intro Ku s σ H R I h;refine Call_ (dy I hg hm boot_range (BO (thn (ha pos Ku s σ H _ I h) λus s1 ⟨vs,H1,I1,r1,q1⟩=> ?_) (by rw[hs,hs2]) (by rw[hs2];rfl)));obtain⟨i,j,e,⟨q1,q2,q3,q4⟩,q⟩:=q1;subst e;cases r1 with
 |cons r rr=>
  cases rr with
  |cons r' rr=>
   cases rr;obtain⟨t,rfl⟩:=r;obtain⟨t',rfl⟩:=r';exact call_range_2 (qQ I1 q1 q2 q3 q4 q)
def zf (wi:TI) (g:TG) (tb:TS):TS:=λD σ H=>wi σ H λJ H1=>∃Wq:Nat->Nat->St->Hp->Prop,(∃m,Wq 0 m σ H1)/\∀i m σ H,Wq i m σ H->
 (J.stop i H/\D.nx σ H)\/(J.go i H/\∃N:St->Hp->Prop,(∀σ' H',N σ' H'->∃m',m'<m/\Wq (i+1) m' σ' H')/\∀x H',J.yld i H x H'->g x σ H' λσ2 H2=>tb (eLp D (N)) σ2 H2)
def iO (fp:P' P5) (h:Qb):P' (P5×Obj):=fp.filterMap λb=>(h.get? b).map λo=>(b,o)
theorem jY (hb:b∈fp) (e:h.get? b=some o):(b,o)∈iO fp h:=List.mem_filterMap.mpr ⟨b,hb,by rw[e];rfl⟩
theorem zg {p:P5×Obj} (hp:p∈iO fp h):p.1∈fp/\h.get? p.1=some p.2:=by
 obtain⟨b,hb,e⟩:=List.mem_filterMap.mp hp;cases q:h.get? b with
 |none=>rw[q] at e;cases e
 |some o=>
  rw[q] at e;have e':(b,o)=p:=Ae e;subst e';exact⟨hb,q⟩
theorem Inv.pinned {σ:St}(I:Inv X Ku σ H s) (hf:∀b∈fp,cq X Ku H b) (ho:∀b∈fp,∃o,s.heap.get? b=some o/\∀v,o.data≠ .cell v):Inv X (Ku++iO fp s.heap) σ H s:=
 I.pins_of λp hp=>(C1.mp hp).elim (λz=>I.pin p (B4 _ z)) λz=>by
  obtain⟨hb,e⟩:=zg z;obtain⟨f0,f1,f2,_⟩:=hf p.1 hb;obtain⟨o,e',d⟩:=ho p.1 hb;rw[e] at e';cases e';exact⟨e,f0,f1,f2,d⟩
def Inv.unpinned {pl:P' (P5×Obj)}{σ:St}(I:Inv X (Ku++pl) σ H s):Inv X Ku σ H s:=I.pins_of λp hp=>I.pin p (B4 _ (List.mem_append_left _ hp))
theorem aE {aG:Qa}{wi:TI}{pos:Pos} (hp:PassesOwn (model X.prog X.w) X.A X.env X.xe) (hc:X.calm=true) (hi:PI X tg aG wi) (hg:PG X tg g) (hb:PSs X body tb)
  (hs:∀x,foldedSetIterable aG X.env x=pure x:=by intro _;rfl):PS X (.For tg aG body [] pos) (zf wi g tb):=by
 intro Ku s σ H D I h;refine wpAny_For (thn (hi Ku s σ H _ I h) λv s1 h1=>thn h1 λitv s2 h2=> ?_) hs;obtain⟨it,fp,tn,J,H2,e,I2,T,MR,f2,Wq,⟨m0,w0⟩,turn⟩:=h2;subst e;have MA:∀{H':Hp},(∀b∈fp,H' b=none)->∀b∈fp,cq X Ku H' b:=λhn b hb=>⟨hn b hb,(f2 b hb).2⟩;refine codeAny_forLoop_any (λn s'=>∃i σ' H',Inv X Ku σ' H' s'/\tn i s'.heap/\(∀b∈fp,H' b=none)/\Wq i n σ' H') ?_ m0 ⟨0,σ,H2,I2,MR,λb hb=>(f2 b hb).1,w0⟩;rintro n s3 ⟨i,σ3,H3,I3,st3,fr3,w3⟩;rcases turn i n σ3 H3 w3 with⟨stop,qn⟩|⟨go,N,hN,step⟩
 .refine CT hp (thn (T.done X rfl rfl rfl hc i Ku s3 σ3 H3 X.xe I3 (MA fr3) st3 stop) λr s4 zu27=> ?_);obtain⟨hr,I4⟩:=zu27;subst hr;exact Cy ⟨σ3,H3,I4,qn⟩
 .refine CT hp (thn (T.item X rfl rfl rfl hc i Ku s3 σ3 H3 X.xe I3 (MA fr3) st3 go) λr s4 zu28=> ?_);obtain⟨u,hr,h4⟩:=zu28;subst hr;refine CT hp (thn h4 λ_ s5 zu29=> ?_);obtain⟨x,H5,I5,r5,y5,st5,fr5⟩:=zu29;have I5':=I5.pinned (MA fr5) (T.obj _ _ st5);refine CT hp (thn (hg _ s5 σ3 H5 x u _ I5' r5 (step x H5 y5)) λ_ s6 zu30=> ?_);obtain⟨σ6,H6,I6,q6⟩:=zu30;refine CT hp (thn (hb _ s6 σ6 H6 _ I6 q6) λf s7 q7=> ?_);have again:∀{σ7:St}{H7:Hp},Inv X (Ku++iO fp s5.heap) σ7 H7 s7->N σ7 H7->∃m,m<n/\∃i σ' H',Inv X Ku σ' H' s7/\tn i s7.heap/\(∀b∈fp,H' b=none)/\Wq i m σ' H':=fun{σ7 H7} I7 n7=>by
   obtain⟨m',hm,w7⟩:=hN σ7 H7 n7;refine⟨m',hm,i+1,σ7,H7,I7.unpinned,T.keep _ _ _ st5 λb hb o e=>(I7.pin (b,o) (B4 _ (B4 _ (jY hb e)))).1,λb hb=> ?_,w7⟩;obtain⟨o,e,d⟩:=T.obj _ _ st5 b hb;exact(I7.pin (b,o) (B4 _ (B4 _ (jY hb e)))).2.1
  cases f with
  |next=>obtain⟨σ7,H7,I7,n7⟩:=q7;exact again I7 n7
  |cont=>obtain⟨σ7,H7,I7,n7⟩:=q7;exact again I7 n7
  |brk=>obtain⟨σ7,H7,I7,q7⟩:=q7;exact⟨σ7,H7,I7.unpinned,q7⟩
  |ret v=>obtain⟨x7,σ7,H7,I7,r7,q7⟩:=q7;exact⟨x7,σ7,H7,I7.unpinned,r7,q7⟩
end
theorem bM {D:Ends}{σ:St}(Pv:Nat->St->Hp->Prop) (h0:Pv 0 σ H) (hl:∀i σ H,i<=xs.length->Pv i σ H->SqL K H a xs)
  (hs:∀i x σ H,xs[i]? =some x->Pv i σ H->g x σ H λσ2 H2=>tb (eLp D (Pv (i+1))) σ2 H2) (hd:∀σ H,Pv xs.length σ H->D.nx σ H):
  ∃Wq:Nat->Nat->St->Hp->Prop,(∃m,Wq 0 m σ H)/\∀i m σ H,Wq i m σ H->
   ((Itl K a).stop i H/\D.nx σ H)\/((Itl K a).go i H/\∃N:St->Hp->Prop,(∀σ' H',N σ' H'->∃m',m'<m/\Wq (i+1) m' σ' H')/\∀x H',(Itl K a).yld i H x H'->g x σ H' λσ2 H2=>tb (eLp D (N)) σ2 H2):=by
 refine⟨λi m σ H=>m=xs.length-i/\i<=xs.length/\Pv i σ H,⟨xs.length,by simp,AJ _,h0⟩, ?_⟩;rintro i m σ H ⟨rfl,hi,p⟩;have q:=hl i σ H hi p;by_cases KD:i<xs.length
 .refine .inr ⟨⟨xs,xs[i],q,by simp[KD]⟩,Pv (i+1),λσ' H' p'=>⟨xs.length-(i+1),by lia,rfl,KD,p'⟩,λx H' y=> ?_⟩;obtain⟨e,y⟩:=y;subst e;exact hs i x σ _ (y xs q) p
 .have e:i=xs.length:=by lia
  subst e;exact .inl ⟨⟨xs,q,A8 _⟩,hd σ H p⟩
theorem qR {D:Ends}{σ:St}(Pv:Nat->St->Hp->Prop) (h0:Pv 0 σ H) (hl:∀i σ H,i<=xs.length->Pv i σ H->SqT K H a xs)
  (hs:∀i x σ H,xs[i]? =some x->Pv i σ H->g x σ H λσ2 H2=>tb (eLp D (Pv (i+1))) σ2 H2) (hd:∀σ H,Pv xs.length σ H->D.nx σ H):
  ∃Wq:Nat->Nat->St->Hp->Prop,(∃m,Wq 0 m σ H)/\∀i m σ H,Wq i m σ H->
   ((Itt K a).stop i H/\D.nx σ H)\/((Itt K a).go i H/\∃N:St->Hp->Prop,(∀σ' H',N σ' H'->∃m',m'<m/\Wq (i+1) m' σ' H')/\∀x H',(Itt K a).yld i H x H'->g x σ H' λσ2 H2=>tb (eLp D (N)) σ2 H2):=by
 refine⟨λi m σ H=>m=xs.length-i/\i<=xs.length/\Pv i σ H,⟨xs.length,by simp,AJ _,h0⟩, ?_⟩;rintro i m σ H ⟨rfl,hi,p⟩;have q:=hl i σ H hi p;by_cases KD:i<xs.length
 .refine .inr ⟨⟨xs,xs[i],q,by simp[KD]⟩,Pv (i+1),λσ' H' p'=>⟨xs.length-(i+1),by lia,rfl,KD,p'⟩,λx H' y=> ?_⟩;obtain⟨e,y⟩:=y;subst e;exact hs i x σ _ (y xs q) p
 .have e:i=xs.length:=by lia
  subst e;exact .inl ⟨⟨xs,q,A8 _⟩,hd σ H p⟩
theorem ci {D:Ends}{σ:St}(Pv:Nat->St->Hp->Prop) (h0:Pv 0 σ H)
  (hs:∀i σ H,i<n->Pv i σ H->g (.int (lo+i)) σ H λσ2 H2=>tb (eLp D (Pv (i+1))) σ2 H2) (hd:∀σ H,Pv n σ H->D.nx σ H):
  ∃Wq:Nat->Nat->St->Hp->Prop,(∃m,Wq 0 m σ H)/\∀i m σ H,Wq i m σ H->
   ((Itr lo n).stop i H/\D.nx σ H)\/((Itr lo n).go i H/\∃N:St->Hp->Prop,(∀σ' H',N σ' H'->∃m',m'<m/\Wq (i+1) m' σ' H')/\∀x H',(Itr lo n).yld i H x H'->g x σ H' λσ2 H2=>tb (eLp D (N)) σ2 H2):=by
 refine⟨λi m σ H=>m=n-i/\i<=n/\Pv i σ H,⟨n,by simp,AJ _,h0⟩, ?_⟩;rintro i m σ H ⟨rfl,hi,p⟩;by_cases KD:i<n
 .refine .inr ⟨KD,Pv (i+1),λσ' H' p'=>⟨n-(i+1),by lia,rfl,KD,p'⟩,λx H' y=> ?_⟩;obtain⟨e,y⟩:=y;subst e y;exact hs i σ _ KD p
 .have e:i=n:=by lia
  subst e;exact .inl ⟨A8 _,hd σ H p⟩
theorem jZ {c:TT}{D:Ends}{σ:St}(Pv:St->Hp->Prop) (μ:St->Hp->Nat) (h0:Pv σ H)
  (hs:∀σ H,Pv σ H->c σ H λb H1=>if b=true then tb {D with nx:=λσ' H'=>Pv σ' H'/\μ σ' H'<μ σ H,ct:=λσ' H'=>Pv σ' H'/\μ σ' H'<μ σ H,bk:=D.nx} σ H1 else D.nx σ H1)
  (mono:∀σ H Q Q',(∀b H1,Q b H1->Q' b H1)->c σ H Q->c σ H Q'):qO c tb D σ H:=by
 refine⟨λm σ H=>m=μ σ H/\Pv σ H,⟨_,rfl,h0⟩, ?_⟩;rintro m σ H ⟨rfl,p⟩;refine mono σ H _ _ (λb H1 q=> ?_) (hs σ H p);cases b with
 |true=>exact⟨_,(λσ' H' KJ=>by obtain⟨p',l⟩:=KJ;exact⟨_,l,rfl,p'⟩),q⟩
 |false=>exact q
abbrev R2:=V->V->Hp->VK->Prop
variable {r:R2}
def OpR (X:Cx) (f:P3->P3->Sem P3) (r:R2):Prop:=
 ∀(Ku:P' (P5×Obj)) (s:P4) (σ:St) (H:Hp) (x y:V) (v u:P3) (Q:VK),Inv X Ku σ H s->aw x v->aw y u->r x y H Q->
  wpAny (model X.prog X.w) X.A (f v u) (EP X Ku σ Q) X.xe s
def UnR (X:Cx) (f:P3->Sem P3) (r:V->Hp->VK->Prop):Prop:=
 ∀(Ku:P' (P5×Obj)) (s:P4) (σ:St) (H:Hp) (x:V) (v:P3) (Q:VK),Inv X Ku σ H s->aw x v->r x H Q->
  wpAny (model X.prog X.w) X.A (f v) (EP X Ku σ Q) X.xe s
def bz (X:Cx) (f:P3) (r:P' V->Hp->VK->Prop):Prop:=
 ∀(Ku:P' (P5×Obj)) (s:P4) (σ:St) (H:Hp) (xs:P' V) (us:P' P3) (Q:VK),Inv X Ku σ H s->ap xs us->r xs H Q->
  wpAny (model X.prog X.w) X.A (call f us) (EP X Ku σ Q) X.xe s
def zh (X:Cx) (r:V->Hp->(Bool->Hp->Prop)->Prop):Prop:=
 ∀(Ku:P' (P5×Obj)) (s:P4) (σ:St) (H:Hp) (x:V) (v:P3) (Q:Bool->Hp->Prop),Inv X Ku σ H s->aw x v->r x H Q->
  wpAny (model X.prog X.w) X.A (truthy v) (TP X Ku σ Q) X.xe s
def tOp (r:R2) (ta tb:TE):TE:=λσ H Q=>ta σ H λx H1=>tb σ H1 λy H2=>r x y H2 Q
def tUn (r:V->Hp->VK->Prop) (ta:TE):TE:=λσ H Q=>ta σ H λx H1=>r x H1 Q
inductive rI (C:Int->Int->Prop) (g:Int->Int->V) (x:V) (y:V) (H:Hp) (Q:VK):Prop
 |mk i j:x= .int i->y= .int j->C i j->Q (g i j) H->rI C g x y H Q
inductive rI0 (g:Int->Int->V) (x:V) (y:V) (H:Hp) (Q:VK):Prop
 |mk i j:x= .int i->y= .int j->Q (g i j) H->rI0 g x y H Q
inductive rU (g:Int->V) (x:V) (H:Hp) (Q:VK):Prop
 |mk i:x= .int i->Q (g i) H->rU g x H Q
section
variable {X:Cx}{a b c:Qa}{ta tb tc:TE}{pos:Pos}
theorem mi (ha:PE X a ta) (hb:PE X b tb) {σ:St}{R:V->V->Hp->Prop} (I:Inv X Ku σ H s)
  (h:ta σ H λx H1=>tb σ H1 λy H2=>R x y H2) {f:P3->P3->Sem P3}
  (hf:∀v u s2 x y H2,Inv X Ku σ H2 s2->aw x v->aw y u->R x y H2->wpAny (model X.prog X.w) X.A (f v u) Q X.xe s2):
  wpAny (model X.prog X.w) X.A (eval a X.env) (λv s₁=>wpAny (model X.prog X.w) X.A (eval b X.env) (λu s₂=>wpAny (model X.prog X.w) X.A (f v u) Q X.xe s₂) X.xe s₁) X.xe s:=by
 refine thn (ha Ku s σ H _ I h) λv s1 zu31=> ?_;obtain⟨x,H1,I1,r1,q1⟩:=zu31;refine thn (hb Ku s1 σ H1 _ I1 q1) λu s2 zu32=> ?_;obtain⟨y,H2,I2,r2,q2⟩:=zu32;exact hf v u s2 x y H2 I2 r1 r2 q2
theorem ai {op:Operator}(ho:OpR X (binaryOp op) r) (ha:PE X a ta) (hb:PE X b tb):PE X (.BinOp a op b pos) (tOp r ta tb):=by
 intro Ku s σ H Q I h;exact wpAny_BinOp (mi ha hb I h λv u s2 x y H2 I2 rx ry q=>ho Ku s2 σ H2 x y v u Q I2 rx ry q)
theorem gJ {op:UnaryOp}{r:V->Hp->VK->Prop} (ho:UnR X (unaryOp op) r) (ha:PE X a ta):PE X (.UnaryOp op a pos) (tUn r ta):=by
 intro Ku s σ H Q I h;exact UnaryOp_ (thn (ha Ku s σ H _ I h) λv s1 KJ=>by obtain⟨x,H1,I1,r1,q1⟩:=KJ;exact ho Ku s1 σ H1 x v Q I1 r1 q1)
theorem opI {f:P3->P3->Sem P3}{C:Int->Int->Prop}{g:Int->Int->Int}
  (rule:∀(i j:Int) (t u:Tok) (s:P4) (Q:P3->P4->Prop) (E:P3->P4->Prop),C i j->Q (.int (g i j) s.toks) {s with toks:=s.toks+1}->wpAny (model X.prog X.w) X.A (f (.int i t) (.int j u)) Q E s):
  OpR X f (rI C λi j=> .int (g i j)):=by
 intro Ku s σ H x y v u Q I rx ry h;obtain⟨i,j,rfl,rfl,hc,q⟩:=h;obtain⟨t,rfl⟩:=rx;obtain⟨t',rfl⟩:=ry;exact rule i j t t' s _ _ hc ⟨.int (g i j),H,I.tok _,⟨_,rfl⟩,q⟩
theorem qS {f:P3->P3->Sem P3}{g:Int->Int->Int}
  (rule:∀(i j:Int) (t u:Tok) (s:P4) (Q:P3->P4->Prop) (E:P3->P4->Prop),Q (.int (g i j) s.toks) {s with toks:=s.toks+1}->wpAny (model X.prog X.w) X.A (f (.int i t) (.int j u)) Q E s):
  OpR X f (rI0 λi j=> .int (g i j)):=by
 intro Ku s σ H x y v u Q I rx ry h;obtain⟨i,j,rfl,rfl,q⟩:=h;obtain⟨t,rfl⟩:=rx;obtain⟨t',rfl⟩:=ry;exact rule i j t t' s _ _ ⟨.int (g i j),H,I.tok _,⟨_,rfl⟩,q⟩
theorem j0 {f:P3->P3->Sem P3}{g:Int->Int->Bool}
  (rule:∀(i j:Int) (t u:Tok) (s:P4) (Q:P3->P4->Prop) (E:P3->P4->Prop),Q (.bool (g i j)) s->wpAny (model X.prog X.w) X.A (f (.int i t) (.int j u)) Q E s):
  OpR X f (rI0 λi j=> .bl (g i j)):=by
 intro Ku s σ H x y v u Q I rx ry h;obtain⟨i,j,rfl,rfl,q⟩:=h;obtain⟨t,rfl⟩:=rx;obtain⟨t',rfl⟩:=ry;exact rule i j t t' s _ _ ⟨.bl (g i j),H,I,rfl,q⟩
def zi (i j:Int):Prop:=0<j/\j<1073741824
def zj (i j:Int):Prop:=0<=j/\j<=1000000/\i.natAbs<2^64
def j4 (i j:Int):Prop:=(-(2^64)<i/\i<2^64)\/(-(2^64)<j/\j<2^64)
theorem j4.ok {i j:Int} (h:j4 i j):IntMulOk i j:=by
 rcases h with⟨h1,h2⟩|⟨h1,h2⟩
 .exact .of_left (intBits_le_64 h1 h2)
 .exact .of_right (intBits_le_64 h1 h2)
def aB:OpR X (binaryOp .Add) (rI0 λi j=> .int (i+j)):=qS λ_ _ _ _ _ _ _ q=>add_int q
def aJ:OpR X (binaryOp .Sub) (rI0 λi j=> .int (i-j)):=qS λ_ _ _ _ _ _ _ q=>sub_int q
def bt:OpR X (binaryOp .Mult) (rI j4 λi j=> .int (i*j)):=opI λ_ _ _ _ _ _ _ hc q=>mul_int q hc.ok
theorem mj:OpR X (binaryOp .FloorDiv) (rI zi λi j=> .int (i/j)):=opI λi j _ _ _ _ _ hc q=>by
 have h1:(0:Int)<j:=hc.1;have h2:j<1073741824:=hc.2;exact floordiv_int (by lia) (by rw[Int.fdiv_eq_ediv_of_nonneg i (by lia)];exact q) (.inl (PyProof.noPylong_small (by lia)))
theorem dz:OpR X (binaryOp .Mod) (rI (λ_ j=>0<j) λi j=> .int (i%j)):=opI λi j _ _ _ _ _ hc q=>by
 have h1:(0:Int)<j:=hc;exact mod_int' (by lia) (by rw[Int.fmod_eq_emod_of_nonneg i (by lia)];exact q)
def ml:OpR X (binaryOp .Pow) (rI zj λi j=> .int (i^j.toNat)):=opI λ_ _ _ _ _ _ _ hc q=>pow_int_small hc.1 hc.2.1 hc.2.2 q
theorem unI {f:P3->Sem P3}{g:Int->Int}
  (rule:∀(i:Int) (t:Tok) (s:P4) (Q:P3->P4->Prop) (E:P3->P4->Prop),Q (.int (g i) s.toks) {s with toks:=s.toks+1}->wpAny (model X.prog X.w) X.A (f (.int i t)) Q E s):
  UnR X f (rU λi=> .int (g i)):=by
 intro Ku s σ H x v Q I rx h;obtain⟨i,rfl,q⟩:=h;obtain⟨t,rfl⟩:=rx;exact rule i t s _ _ ⟨.int (g i),H,I.tok _,⟨_,rfl⟩,q⟩
def gK:UnR X (unaryOp .USub) (rU λi=> .int (-i)):=unI λ_ _ _ _ _ q=>neg_int q
end
def qT:V->V->Bool
 | .non, .non=>true| .non, .int _=>true| .int _, .non=>true| .non, .bl _=>true| .bl _, .non=>true| .non, .str _=>true| .str _, .non=>true
 | .int _, .int _=>true| .bl _, .bl _=>true| .str _, .str _=>true| .byt _, .byt _=>true
 | .int _, .str _=>true| .str _, .int _=>true| .bl _, .str _=>true| .str _, .bl _=>true
 |_,_=>false
def rEq:R2:=λx y H Q=>qT x y=true/\Q (.bl (decide (x=y))) H
def rNe:R2:=λx y H Q=>qT x y=true/\Q (.bl (!decide (x=y))) H
theorem qU {i j:Int}:decide (V.int i=V.int j)=(i==j):=by
 rw[Bool.eq_iff_iff];simp
theorem qV {i j:Bool}:decide (V.bl i=V.bl j)=(i==j):=by
 rw[Bool.eq_iff_iff];simp
theorem qW {i j:Str}:decide (V.str i=V.str j)=(i==j):=by
 rw[Bool.eq_iff_iff];simp
theorem qX {i j:Array UInt8}:decide (V.byt i=V.byt j)=(i.toList==j.toList):=by
 rw[Bool.eq_iff_iff];cases i;cases j;simp
section
variable {X:Cx}{a b c:Qa}{ta tb tc:TE}{pos:Pos}
theorem bf {σ:St}{Q:VK}{k k':Bool} (I:Inv X Ku σ H s) (q:Q (.bl k) H) (e:k=k'):EP X Ku σ Q (.bool k') s:=by
 subst e;exact⟨.bl k,H,I,rfl,q⟩
theorem dj:OpR X (compareOp .Eq) rEq:=by
 intro Ku s σ H x y v u Q I rx ry h;obtain⟨hs,q⟩:=h;cases x with
 |non=>
  cases rx;cases y with
  |non=>cases ry;exact PySem.EqNone.eq_none_none (bf I q (by simp))
  |bl j=>cases ry;exact PySem.EqNone.eq_none_bool (bf I q (by simp))
  |int j=>obtain⟨t',rfl⟩:=ry;exact PySem.EqNone.eq_none_int (bf I q (by simp))
  |str j=>obtain⟨t',rfl⟩:=ry;exact PySem.EqNone.eq_none_str (bf I q (by simp))
  |_=>exact absurd (show false=true from hs) AX
 |bl i=>
  cases rx;cases y with
  |non=>cases ry;exact PySem.EqNone.eq_bool_none (bf I q (by simp))
  |bl j=>cases ry;exact eq_bool (bf I q qV)
  |str j=>obtain⟨t',rfl⟩:=ry;exact PySem.EqMixed.eq_bool_str (bf I q (by simp))
  |_=>exact absurd (show false=true from hs) AX
 |int i=>
  obtain⟨t,rfl⟩:=rx;cases y with
  |non=>cases ry;exact PySem.EqNone.eq_int_none (bf I q (by simp))
  |int j=>obtain⟨t',rfl⟩:=ry;exact eq_int (bf I q qU)
  |str j=>obtain⟨t',rfl⟩:=ry;exact PySem.EqMixed.eq_int_str (bf I q (by simp))
  |_=>exact absurd (show false=true from hs) AX
 |str i=>
  obtain⟨t,rfl⟩:=rx;cases y with
  |non=>cases ry;exact PySem.EqNone.eq_str_none (bf I q (by simp))
  |bl j=>cases ry;exact PySem.EqMixed.eq_str_bool (bf I q (by simp))
  |int j=>obtain⟨t',rfl⟩:=ry;exact PySem.EqMixed.eq_str_int (bf I q (by simp))
  |str j=>obtain⟨t',rfl⟩:=ry;exact eq_str (bf I q qW)
  |_=>exact absurd (show false=true from hs) AX
 |byt i=>
  obtain⟨t,rfl⟩:=rx;cases y with
  |byt j=>obtain⟨t',rfl⟩:=ry;exact W.eq_bytes (bf I q qX)
  |_=>exact absurd (show false=true from hs) AX
 |_=>cases y<;>exact absurd (show false=true from hs) AX
theorem qY:OpR X (compareOp .NotEq) rNe:=by
 intro Ku s σ H x y v u Q I rx ry h;obtain⟨hs,q⟩:=h;cases x with
 |non=>
  cases rx;cases y with
  |non=>cases ry;exact PySem.EqNone.ne_none_none (bf I q (by simp))
  |bl j=>cases ry;exact PySem.EqNone.ne_none_bool (bf I q (by simp))
  |int j=>obtain⟨t',rfl⟩:=ry;exact PySem.EqNone.ne_none_int (bf I q (by simp))
  |str j=>obtain⟨t',rfl⟩:=ry;exact PySem.EqNone.ne_none_str (bf I q (by simp))
  |_=>exact absurd (show false=true from hs) AX
 |bl i=>
  cases rx;cases y with
  |non=>cases ry;exact PySem.EqNone.ne_bool_none (bf I q (by simp))
  |bl j=>cases ry;exact ne_bool (bf I q (BF not qV))
  |str j=>obtain⟨t',rfl⟩:=ry;exact PySem.EqMixed.ne_bool_str (bf I q (by simp))
  |_=>exact absurd (show false=true from hs) AX
 |int i=>
  obtain⟨t,rfl⟩:=rx;cases y with
  |non=>cases ry;exact PySem.EqNone.ne_int_none (bf I q (by simp))
  |int j=>obtain⟨t',rfl⟩:=ry;exact ne_int (bf I q (BF not qU))
  |str j=>obtain⟨t',rfl⟩:=ry;exact PySem.EqMixed.ne_int_str (bf I q (by simp))
  |_=>exact absurd (show false=true from hs) AX
 |str i=>
  obtain⟨t,rfl⟩:=rx;cases y with
  |non=>cases ry;exact PySem.EqNone.ne_str_none (bf I q (by simp))
  |bl j=>cases ry;exact PySem.EqMixed.ne_str_bool (bf I q (by simp))
  |int j=>obtain⟨t',rfl⟩:=ry;exact PySem.EqMixed.ne_str_int (bf I q (by simp))
  |str j=>obtain⟨t',rfl⟩:=ry;exact ne_str (bf I q (BF not qW))
  |_=>exact absurd (show false=true from hs) AX
 |byt i=>
  obtain⟨t,rfl⟩:=rx;cases y with
  |byt j=>obtain⟨t',rfl⟩:=ry;exact W.ne_bytes (bf I q (BF not qX))
  |_=>exact absurd (show false=true from hs) AX
 |_=>cases y<;>exact absurd (show false=true from hs) AX
def fA:OpR X (compareOp .Lt) (rI0 λi j=> .bl (decide (i<j))):=j0 λ_ _ _ _ _ _ _ q=>lt_int q
def mn:OpR X (compareOp .LtE) (rI0 λi j=> .bl (decide (i<=j))):=j0 λ_ _ _ _ _ _ _ q=>le_int q
def gb:OpR X (compareOp .Gt) (rI0 λi j=> .bl (decide (j<i))):=j0 λ_ _ _ _ _ _ _ q=>gt_int q
def j5:OpR X (compareOp .GtE) (rI0 λi j=> .bl (decide (j<=i))):=j0 λ_ _ _ _ _ _ _ q=>ge_int q
theorem aL (b:Qa) (h:op≠ .In:=by decide) (h2:op≠ .NotIn:=by decide):behindInMarks op b=false:=by
 have e1:(op==CmpOp.In)=false:=by cases op<;>first|rfl|exact absurd rfl h
 have e2:(op==CmpOp.NotIn)=false:=by cases op<;>first|rfl|exact absurd rfl h2
 cases b<;>first|rfl|(show(_&&(op==CmpOp.In||op==CmpOp.NotIn)&&_)=false;rw[e1,e2,Bool.or_self,CV,Bool.false_and])
theorem iP (ho:OpR X (compareOp op) r) (ha:PE X a ta) (hb:PE X b tb) (hm:behindInMarks op b=false):PE X (.Compare a [op] [b] pos) (tOp r ta tb):=by
 intro Ku s σ H Q I h;exact wpAny_Compare1 (mi ha hb I h λv u s2 x y H2 I2 rx ry q=>ho Ku s2 σ H2 x y v u Q I2 rx ry q) hm
inductive tTest_ (Q:(Bool->Hp->Prop)) (x:V) (H':Hp):Prop
 |mk k:x= .bl k->Q k H'->tTest_ Q x H'
def zn (t:TE):TT:=λσ H Q=>t σ H λx H'=>tTest_ Q x H'
theorem aO (ho:OpR X (compareOp op) r) (ha:PE X a ta) (hb:PE X b tb) (hm:behindInMarks op b=false):PT X (.Compare a [op] [b] pos) (zn (tOp r ta tb)):=by
 intro Ku s σ H Q I h;refine wpAny_isTrue_Compare1 (thn (ha Ku s σ H _ I h) λv s1 ⟨x,H1,I1,r1,q1⟩=>thn (hb Ku s1 σ H1 _ I1 q1) λu s2 ⟨y,H2,I2,r2,q2⟩=>
  thn (ho Ku s2 σ H2 x y v u _ I2 r1 r2 q2) λc s3 ⟨z,H3,I3,r3,k,e,q3⟩=> ?_) hm
 subst e;cases r3;exact Bl ⟨H3,I3,q3⟩
def qZ (K:W.Frag) (x:V) (H:Hp) (k:Bool):Prop:=
 match x with
 | .non=>k=false
 | .bl b=>k=b
 | .int i=>k=(i !=0)
 | .str y=>y.length<=sizeLine/\k=((y.length:Int) !=0)
 | .byt y=>y.size<=sizeLine/\k=((y.size:Int) !=0)
 | .ref p=>(∃xs,SqL K H p xs/\k= !xs.isEmpty)\/(∃xs,SqT K H p xs/\k= !xs.isEmpty)\/∃Kv,H p=some (.dK Kv)/\k= !Kv.isEmpty
 |_=>False
theorem zo {κ:Type}{Kv:P' (κ×V)}{vs:P' (κ×P3)} (r:KV Kv vs):(!vs.isEmpty)= !Kv.isEmpty:=by
 cases r<;>rfl
theorem mo {Kx:P' P3} (r:ap xs Kx):(!Kx.toArray.isEmpty)= !xs.isEmpty:=by
 cases r<;>simp
theorem gc:(sizeLine:Nat)<2^63:=by rw[B3];decide
theorem zp:zh X (λx H Q=>∃k,qZ X.K x H k/\Q k H):=by
 intro Ku s σ H x v Q I rx h;obtain⟨k,e,q⟩:=h;have hl:=gc;have hs:sizeLine=16777216:=B3;cases x with
 |non=>
  cases rx;have e':k=false:=e;subst e';exact truthy_none ⟨H,I,q⟩
 |bl b=>
  cases rx;have e':k=b:=e;subst e';exact Bl ⟨H,I,q⟩
 |int i=>
  obtain⟨t,rfl⟩:=rx;have e':k=(i !=0):=e;subst e';exact PySem.P.truthy_int ⟨H,I,q⟩
 |str y=>
  obtain⟨t,rfl⟩:=rx;obtain⟨hy,e'⟩:y.length<=sizeLine/\k=((y.length:Int) !=0):=e;subst e';exact PySem.P.truthy_str (by lia) ⟨H,I.tok _,q⟩
 |byt y=>
  obtain⟨t,rfl⟩:=rx;obtain⟨hy,e'⟩:y.size<=sizeLine/\k=((y.size:Int) !=0):=e;subst e';exact W.truthy_bytes (by lia) ⟨H,I.tok _,q⟩
 |ref p=>
  cases rx;have e':(∃xs,SqL X.K H p xs/\k= !xs.isEmpty)\/(∃xs,SqT X.K H p xs/\k= !xs.isEmpty)\/∃Kv,H p=some (.dK Kv)/\k= !Kv.isEmpty:=e;rcases e' with⟨xs,hx,e'⟩|⟨xs,hx,e'⟩|⟨Kv,hx,e'⟩
  .subst e';obtain⟨Kx,r,pl,hz⟩:=I.list hx;have Kz:=r.length;exact wpAny_truthy_list pl.isList (by simp only[AF];lia) ⟨H,I.tok _,by rw[mo r];exact q⟩
  .subst e';obtain⟨Kx,r,pl,hz⟩:=I.tuple hx;have Kz:=r.length;exact truthy_tuple pl (by simp only[AF];lia) ⟨H,I.tok _,by rw[mo r];exact q⟩
  .subst e';obtain⟨hz,hS,vs,r,m⟩:Kv.length<=sizeLine/\(p==sysModules)=false/\∃vs,KV Kv vs/\s.heap.DictOf (bU X.prog X.w) p vs:=I.hok p _ hx;have Kz:Kv.length=vs.length:=Be r;exact wpAny_truthy_dict hS m (by lia) ⟨H,I.tok _,by rw[zo r];exact q⟩
 |_=>exact(show False from e).elim
theorem j6 (ha:PE X a ta) (he:∀LC,isTrue a X.env LC=(do let v<-LC;standAt a.pos;holding [v] (truthy v))):
  PT X a (λσ H Q=>ta σ H λx H'=>∃k,qZ X.K x H' k/\Q k H'):=by
 intro Ku s σ H Q I h;exact isTrue_plain (thn (ha Ku s σ H _ I h) λv s1 KJ=>by obtain⟨x,H1,I1,r1,q1⟩:=KJ;exact zp Ku s1 σ H1 x v Q I1 r1 q1) (he _)
theorem cO {x:V}(r:ap [x] us):∃u,us=[u]/\aw x u:=by
 cases r with
 |cons r1 r2=>cases r2;exact⟨_,rfl,r1⟩
theorem iQ {x y:V}(r:ap [x,y] us):∃u w',us=[u,w']/\aw x u/\aw y w':=by
 cases r with
 |cons r1 r2=>
  cases r2 with
  |cons r3 r4=>cases r4;exact⟨_,_,rfl,r1,r3⟩
theorem rc:bz X (.builtin "abs") (λxs H Q=>∃i,xs=[.int i]/\Q (.int (if i<0 then -i else i)) H):=by
 intro Ku s σ H xs us Q I r h;obtain⟨i,rfl,q⟩:=h;obtain⟨u,rfl,t,rfl⟩:=cO r;exact call_abs_int λu tk=>⟨.int (if i<0 then -i else i),H,I.tok _,⟨_,rfl⟩,q⟩
theorem zq (hc:X.calm=true):bz X (.builtin "max") (λxs H Q=>∃i j,xs=[.int i, .int j]/\Q (.int (if j>i then j else i)) H):=by
 intro Ku s σ H xs us Q I r h;obtain⟨i,j,rfl,q⟩:=h;obtain⟨u,w',rfl,⟨t,rfl⟩,⟨t',rfl⟩⟩:=iQ r;refine max_two_ints (I.ok.hd hc) λh' tk k=>⟨_,H,I.kept k, ?_,q⟩;by_cases hj:j>i
 .rw [AB hj,AB hj];exact⟨_,rfl⟩
 .rw [A6 hj,A6 hj];exact⟨_,rfl⟩
theorem rg (hc:X.calm=true):bz X (.builtin "min") (λxs H Q=>∃i j,xs=[.int i, .int j]/\Q (.int (if j<i then j else i)) H):=by
 intro Ku s σ H xs us Q I r h;obtain⟨i,j,rfl,q⟩:=h;obtain⟨u,w',rfl,⟨t,rfl⟩,⟨t',rfl⟩⟩:=iQ r;refine min_two_ints (I.ok.hd hc) λh' tk k=>⟨_,H,I.kept k, ?_,q⟩;by_cases hj:j<i
 .rw [AB hj,AB hj];exact⟨_,rfl⟩
 .rw [A6 hj,A6 hj];exact⟨_,rfl⟩
theorem zr:bz X (.type "str") (λxs H Q=>∃i,xs=[.int i]/\i.natAbs.log2<1920/\Q (.str (toString i)) H):=by
 intro Ku s σ H xs us Q I r h;obtain⟨i,rfl,hz,q⟩:=h;obtain⟨u,rfl,t,rfl⟩:=cO r;exact PySem.P.str_of_int hz ⟨.str _,H,I.tok _,⟨_,rfl⟩,q⟩
end
structure ObjM (h:Qb) (x dx C:P5) (mA:Str->Qc P3):Prop where
 obj:h.get? x=some (W.instObj C dx)
 ns:h.Ns1 dx mA
 ne:dx≠x
theorem zt (n:h.Ns1 dx mA):∃od,h.get? dx=some od/\∀name,W.lookIn name od=some (mA name):=by
 obtain⟨o,es,ep,ho,hd,hk,_,hm⟩:=n;refine⟨o,ho,λname=> ?_⟩;have e:=hm name;unfold nsFind findBy at e;rw[<-Array.find?_toList] at e;unfold W.lookIn;rw[hd];dsimp only;split
 .rename_i y q;rw[q] at e;exact BF some e
 .rename_i q;rw[q] at e;have a:es.toList.any (·.refKey)=false:=by
   rw[List.any_eq_false];intro y hy;obtain⟨z,t,NZ⟩:=hk y (Array.mem_toList_iff.mp hy);simp[DictEntry.refKey,NZ]
  have a':¬es.toList.any (·.refKey)=true:=by rw[a];exact AX
  rw[A6 a'];exact BF some e
def ObjM.look {x C:P5}(I:ObjM h x dx C mA):∃od,W.InstAt h x (W.instObj C dx) C (some od)/\∀name,W.lookIn name od=some (mA name):=
 let ⟨od,ho,hl⟩:=zt I.ns
 ⟨od,⟨I.obj,rfl,rfl,ho⟩,hl⟩
theorem cG.some_of {o:Qc P3} (r:cG (some v) o):∃u,o=some u/\aw v u:=by
 cases o with
 |none=>exact(show False from r).elim
 |some u=>exact⟨u,rfl,r⟩
section
variable {P:P6}{w:P8}{H H':Hp}{h h':Qb}{a C dx:P5}{fs fs':P' (Str×V)}
theorem zu (hok:HOk P w H h) (e:H a=some (.ins C dx fs)):∃mA,ObjM h a dx C mA/\(∀f,cG (fs.lookup f) (mA f))/\PySem.Within mA (fs.map (·.1))/\fs.length<=1000/\H dx=some (.own a):=by
 obtain⟨d,z,ne,ob,mA,n,r,q⟩:=(show aC P w H h a (.ins C dx fs) from hok a _ e);exact⟨mA,⟨ob,n,ne⟩,r,q,z,d⟩
end
structure Cls (K:W.Frag) (C:P5):Prop where
 pg:W.plainGet K C Str.empty=true
 hd:W.hasDictIn K C=true
 po:W.plainOver K C=true
 sa:W.findIn K (.ref C) "__setattr__"=some (some (.builtin "object.__setattr__"))
def Cls.get {K:W.Frag}{C:P5} (c:Cls K C) (f:Str):W.plainGet K C f=true:=c.pg
section
variable {X:Cx}{Ku:P' (P5×Obj)}{σ:St}{H:Hp}{s:P4}{A:P9}{E:P3->P4->Prop}{Q:P3->P4->Prop}{c:P3}{b:Bool}
inductive TyOf (K:W.Frag) (H:Hp):V->Value->Prop where
 |non:TyOf K H .non (.type "NoneType")
 |bl (x:Bool):TyOf K H (.bl x) (.type "bool")
 |int (i:Int):TyOf K H (.int i) (.type "int")
 |str (x:Str):TyOf K H (.str x) (.type "str")
 |flt (x:UInt64):TyOf K H (.flt x) (.type "float")
 |lst {a:Addr}{xs:List V} (e:H a=some (.lst xs)):TyOf K H (.ref a) (.type "list")
 |frz {a:Addr}{o:Obj}{xs:List V} (e:H a=some (.frz o (.lst xs))):TyOf K H (.ref a) (.type "list")
 |tup {a:Addr}{xs:List V} (e:H a=some (.tup xs)):TyOf K H (.ref a) (.type "tuple")
 |dK {a:Addr}{Kv:List (Key×V)} (e:H a=some (.dK Kv)):TyOf K H (.ref a) (.type "dict")
 |dT {a:Addr}{Kv:List (List Key×V)} (e:H a=some (.dT Kv)):TyOf K H (.ref a) (.type "dict")
 |ins {a C dx:Addr}{fs:List (Str×V)} (e:H a=some (.ins C dx fs)) (cl:Cls K C) (ha:W.findIn K (.ref C) "__class__"=some (some (.builtin "object.__class__")))
   (hn:W.specialIn K (.builtin "object.__class__") "__get__"=some (some (.builtin "getset_descriptor.__get__"))) (htk:W.takesIn K (.builtin "object.__class__")=some true)
   (hm:W.mroIn K C (.type "object")=some true):TyOf K H (.ref a) (.ref C)
theorem zw {x:V}{t:P3} (I:Inv X Ku σ H s) (rx:aw x u) (ty:TyOf X.K H x t) (e:W.kitOne X.K t c=some b) (h:∀tk,Q (.bool b) {s with toks:=tk}):
  wpAny (model X.prog X.w) A (call (.builtin "isinstance") [u,c]) Q E s:=by
 cases ty with
 |non=>cases (show u=Value.none from rx);exact BY W.kitx_none I.kIn True.intro e (λz=>nomatch z) h
 |bl y=>cases (show u=Value.bool y from rx);exact BY W.kitx_bool I.kIn True.intro e (λz=>nomatch z) h
 |int i=>obtain⟨t,q⟩:=(show∃t,u=Value.int i t from rx);cases q;exact BY W.kitx_int I.kIn True.intro e (λz=>nomatch z) h
 |str y=>obtain⟨t,q⟩:=(show∃t,u=Value.str y t from rx);cases q;exact BY W.kitx_str I.kIn True.intro e (λz=>nomatch z) h
 |flt y=>obtain⟨t,q⟩:=(show∃t,u=Value.float y t from rx);cases q;exact BY W.kitx_float I.kIn True.intro e (λz=>nomatch z) h
 | @lst a xs ea=>
  cases (show u=Value.ref a from rx);obtain⟨_,_,n,_,h1⟩:=(show aC X.prog X.w H s.heap a (.lst xs) from I.hok a _ ea);exact BY W.kitx_list I.kIn ⟨_,h1,rfl⟩ e (λz=>nomatch z) h
 | @frz a ob xs ea=>
  cases (show u=Value.ref a from rx);obtain⟨_,_,_,n,_,h1⟩:=(show aC X.prog X.w H s.heap a (.frz ob (.lst xs)) from I.hok a _ ea);exact BY W.kitx_list I.kIn ⟨_,h1,rfl⟩ e (λz=>nomatch z) h
 | @tup a xs ea=>
  cases (show u=Value.ref a from rx);obtain⟨_,_,_,p⟩:=(show aC X.prog X.w H s.heap a (.tup xs) from I.hok a _ ea);obtain⟨o,h1,h2,_⟩:=p;exact BY W.kitx_tuple I.kIn ⟨o,h1,h2⟩ e (λz=>nomatch z) h
 | @dK a Kv ea=>
  cases (show u=Value.ref a from rx);obtain⟨_,_,vs,_,p⟩:=(show aC X.prog X.w H s.heap a (.dK Kv) from I.hok a _ ea);obtain⟨o,es,ep,h1,h2,_⟩:=p;exact BY W.kitx_dict I.kIn ⟨o,h1,h2.1⟩ e (λz=>nomatch z) h
 | @dT a Kv ea=>
  cases (show u=Value.ref a from rx);obtain⟨_,_,xs,_,o,es,ep,h1,h2,_⟩:=(show aC X.prog X.w H s.heap a (.dT Kv) from I.hok a _ ea);exact BY W.kitx_dict I.kIn ⟨o,h1,h2.1⟩ e (λz=>nomatch z) h
 | @ins a C dx fs ea cl ha hn htk hm=>
  cases (show u=Value.ref a from rx);obtain⟨mA,O,_⟩:=zu I.hok ea;obtain⟨od,J,_⟩:=O.look;exact BY (W.kitx_own (cl.get _) cl.hd ha hn htk hm) I.kIn J e (λz=>nomatch z) h
end
structure Room (k:Nat) (A:P9):Prop where
 hd:A.handled=none
 dp:A.depth+3*k+5<recursionLimit
 un:A.units+16*k+200<cLine
theorem Room.mono {k:Nat}(r:Room k A) (h:j<=k):Room j A:=⟨r.hd,by have:=r.dp;lia,by have:=r.un;lia⟩
theorem Room.deeper {k:Nat}{A:P9} (r:Room (k+1) A) (env:Env):Room k (A.deeper env):=
 ⟨r.hd,by have:=r.dp;show A.depth+1+3*k+5<_;lia,by have:=r.un;show A.units+3+16*k+200<_;lia⟩
theorem Room.depth {k:Nat}{A:P9} (r:Room k A):A.depth<recursionLimit:=by have:=r.dp;lia
theorem Room.units {k:Nat}{A:P9} (r:Room k A):A.units+64<cLine:=by have:=r.un;lia
def mq:TA:=λ_ H Q=>Q [] H
def rh (ta:TE) (tr:TA):TA:=λσ H Q=>ta σ H λx H1=>tr σ H1 λxs H2=>Q (x::xs) H2
section
variable {X:Cx}{e:Qa}{es:P' Qa}{te:TE}{t:TA}{pos:Pos}
def af:PA X [] mq:=λ_ _ _ _ H Q I h=>Calls.spliced_nil ⟨[],H,I, .nil,h⟩
theorem ae (ha:PE X e te) (hr:PA X es t) (hs:starEach (e::es) X.env=(false,eval e X.env)::starEach es X.env:=by rfl):PA X (e::es) (rh te t):=by
 intro pos Ku s σ H Q I h;rw[hs];show wpAny _ _ (spliced ((false,eval e X.env)::backTo pos (starEach es X.env))) _ _ s;refine CA (thn (ha Ku s σ H _ I h) λu s1 zu33=> ?_);obtain⟨x,H1,I1,r1,q1⟩:=zu33;exact thn (hr pos Ku s1 σ H1 _ I1 q1) λus s2 KJ=>by obtain⟨xs,H2,I2,r2,q2⟩:=KJ;exact⟨x::xs,H2,I2, .cons r1 r2,q2⟩
def zx (t:TA):TE:=λσ H Q=>t σ H λxs H1=>xs.length<=sizeLine/\∀p,H1 p=none->Q (.ref p) (upd H1 p (.tup xs))
def zy (t:TA):TE:=λσ H Q=>t σ H λxs H1=>xs.length<=sizeLine/\∀p,H1 p=none->Q (.ref p) (upd H1 p (.lst xs))
theorem mr {x1} (h:PA X es t):PE X (.Tuple es x1 pos) (zx t):=by
 intro Ku s σ H Q I hq;refine wpAny_Tuple_spliced (thn (h pos Ku s σ H _ I hq) λus s1 ⟨xs,H1,I1,r,z,q⟩=>⟨by rw[<-r.length];exact z, ?_⟩);have hf:H1 s1.heap.objs.size=none:=I1.hok.fresh (A8 _);refine⟨.ref s1.heap.objs.size,upd H1 s1.heap.objs.size (.tup xs),I1.laid (t':=s1.toks) (λb u e=>A5 _ e) (A8 _) ?_,rfl,q _ hf⟩;exact⟨z,us,r,⟨_,AI _ rfl,rfl,_,rfl⟩⟩
theorem iR (h:PA X es t):PE X (.List es pos) (zy t):=by
 intro Ku s σ H Q I hq;refine wpAny_List_spliced (thn (h pos Ku s σ H _ I hq) λus s1 ⟨xs,H1,I1,r,z,q⟩=>⟨by rw[<-r.length];exact z, ?_⟩);have hf:H1 s1.heap.objs.size=none:=I1.hok.fresh (A8 _);refine⟨.ref s1.heap.objs.size,upd H1 s1.heap.objs.size (.lst xs),I1.laid (t':=s1.toks) (λb u e=>A5 _ e) (A8 _) ?_,rfl,q _ hf⟩;exact⟨z,us,0,r,AI _ rfl⟩
end
abbrev Sp:=P' V->Hp->VK->XK->Prop
variable {sp:Sp}
abbrev CXT:=P' Env->Hp->P4->XK->P3->P4->Prop
variable {CX:CXT}
structure Env0 (P:P6) (w:P8) (K:W.Frag) (mg:Str->Qc P3) (base:Qb) (A:P9) (outer:P' Env) (s:P4) (H:Hp):Prop where
 frames:A.frames=some outer
 mod:Mod K mg base
 bs:∀b o,base.get? b=some o->s.heap.get? b=some o/\H b=none
 bsz:base.objs.size<=s.heap.objs.size
 funs:s.heap.FunFrames base outer
 frf:∀b∈frs outer,H b=none
 hok:HOk P w H s.heap
 bare:AllBare s.gens
def CE (outer:P' Env) (P:P6) (w:P8) (H:Hp) (s:P4) (Q:VK) (u:P3) (s':P4):Prop:=
 ∃v H',s'.os=s.os/\AllBare s'.gens/\Un (frs outer) [] H H' s.heap s'.heap/\HOk P w H' s'.heap/\aw v u/\Q v H'
def CR (CX:CXT) (outer:P' Env) (P:P6) (w:P8) (H:Hp) (s:P4) (Q:VK) (E:XK) (r:Result) (s':P4):Prop:=
 match r with
 | .ok (.ret u)=>CE outer P w H s Q u s'
 | .ok _=>False
 | .error e=>CX outer H s E e s'
structure FnOk (P:P6) (w:P8) (K:W.Frag) (mg:Str->Qc P3) (base:Qb) (CX:CXT) (k:Nat) (f:P5) (fd:P7) (ps:P' Str) (sp:Sp):Prop where
 len:∀vs H Q E,sp vs H Q E->vs.length=ps.length
 run:∀(A:Around) (outer:List Env) (s:Shared) (H:Hp) (args:Args) (us:List Value) (vs:List V) (Q:VK) (E:XK),Room k A->Env0 P w K mg base A outer s H->BindsTo s fd args (ps.zip us)->ap vs us->sp vs H Q E->
  codeAny (model P w) A (.call (.ref f) args) (CR CX outer P w H s Q E) s
def FnOk.imp {k:Nat}{sp':Sp} (F:FnOk P w K mg base CX k f fd ps sp)
  (h:∀vs H Q E,sp' vs H Q E->sp vs H Q E):FnOk P w K mg base CX k f fd ps sp':=
 ⟨λvs H Q E q=>F.len vs H Q E (h _ _ _ _ q),λA outer s H args us vs Q E hr he hb hv hs=>F.run A outer s H args us vs Q E hr he hb hv (h _ _ _ _ hs)⟩
section
variable {X:Cx}{Ku:P' (P5×Obj)}{σ:St}{H:Hp}{s s':P4}
def Inv.env0 (I:Inv X Ku σ H s):Env0 X.prog X.w X.K X.mg X.base X.A X.stack s H:=
 ⟨I.ok.frames,I.ok.mod,I.bs,As I.ok.bsz I.sz,I.stack,I.stkFree,I.hok,I.bare⟩
theorem Inv.after {Q:VK}(I:Inv X Ku σ H s) (h:CE X.stack X.prog X.w H s Q u s'):EP X Ku σ Q u s':=by
 obtain⟨v,H',os,bare,un,hok,r,q⟩:=h;obtain⟨hh,g,d,t,O0⟩:=s';obtain rfl:O0=s.os:=os;exact⟨v,H',I.call (h':=hh) (g':=g) (d':=d) (t':=t) (ch:=[]) un hok bare (λb z=>absurd z (by simp)),r,q⟩
end
def j7 (sp:Sp) (Lw:P' V) (E:XK) (t:TA):TE:=λσ H Q=>t σ H λvs H1=>sp (vs++Lw) H1 Q E
def fB (K:W.Frag) (fd:P7) (ps:P' Str) (ds:P' P3):Prop:=
 ∀(s:P4) (us:P' P3),K.In s.heap->(us++ds).length=ps.length->BindsTo s fd ⟨us,[]⟩ (ps.zip (us++ds))
theorem fB.all (h:∀us:P' P3,us.length=ps.length->bindArgs fd ⟨us,[]⟩=pure (ps.zip us)):fB K fd ps []:=λs us _ hl=>by
 rw[B8] at hl⊢;exact .of_eq (h us hl)
def gd (CX:CXT) (X:Cx) (E:XK):Prop:=∀(Ku:P' (P5×Obj)) (σ:St) (H:Hp) (s:P4) (e:P3) (s':P4),Inv X Ku σ H s->CX X.stack H s E e s'->X.xe e s'
section
variable {X:Cx}{CX:CXT}{k:Nat}{f C:P5}{fd:P7}{ps:P' Str}{sp:Sp}{Lw:P' V}{ds:P' P3}{E:XK}{x m:Str}{p pos KR:Pos}{e o:Qa}{es:P' Qa}{ta:TE}{t:TA}
theorem rj {σ:St}{Q:VK}(F:FnOk X.prog X.w X.K X.mg X.base CX k f fd ps sp) (hr:Room k X.A) (hb:fB X.K fd ps ds) (hd:ap Lw ds) (hx:gd CX X E)
  (I:Inv X Ku σ H s) (r:ap vs us) (h:sp (vs++Lw) H Q E):wpAny (model X.prog X.w) X.A (call (.ref f) us) (EP X Ku σ Q) X.xe s:=by
 have r2:ap (vs++Lw) (us++ds):=r.append hd;have hl:(us++ds).length=ps.length:=by rw[<-r2.length];exact F.len _ _ _ _ h
 refine wpAny_call (D7 (F.run X.A X.stack s H ⟨us,[]⟩ (us++ds) (vs++Lw) Q E hr I.env0 (hb s us I.kIn hl) r2 h) λr s' hq=> ?_);cases r with
 |error e=>exact hx Ku σ H s e s' I hq
 |ok fl=>
  cases fl with
  |ret u=>exact I.after hq
  |next=>exact False.elim hq
  |brk=>exact False.elim hq
  |cont=>exact False.elim hq
theorem cP (F:FnOk X.prog X.w X.K X.mg X.base CX k f fd ps sp) (hr:Room k X.A) (hg:Gl X x) (hm:X.mg x=some (.ref f)) (hk:W.keepIn X.K (.ref f)=true) (hb:fB X.K fd ps ds) (hd:ap Lw ds) (hx:gd CX X E)
  (ha:PA X (e::es) t) (Mn:(x==("__debug__":Str))=false:=by decide) (he:starEach (e::es) X.env=(false,eval e X.env)::starEach es X.env:=by rfl) (LY:(backTo pos (starEach es X.env)).any (·.1)=false:=by rfl):
  PE X (.Call (.Name x p) (e::es) [] pos) (j7 sp Lw E t):=by
 intro Ku s σ H Q I h;refine BL (f' I hg hm ?_ Mn);refine W.callWith_K (h₀:=X.base) I.ok.mod.kin hk (thn (ha pos Ku s σ H _ I h) λus s1 zu34=> ?_) he LY;obtain⟨vs,H1,I1,r,q⟩:=zu34;refine⟨I1.kIn, ?_⟩;exact rj F hr hb hd hx I1 r q
theorem zA (F:FnOk X.prog X.w X.K X.mg X.base CX k f fd ps sp) (hr:Room k X.A) (hg:Gl X x) (hm:X.mg x=some (.ref f)) (hk:W.keepIn X.K (.ref f)=true) (hb:fB X.K fd ps ds) (hd:ap Lw ds) (hx:gd CX X E)
  (Mn:(x==("__debug__":Str))=false:=by decide):PE X (.Call (.Name x p) [] [] pos) (j7 sp Lw E mq):=by
 intro Ku s σ H Q I h;refine BL (f' I hg hm ?_ Mn);exact W.callWith_K0 I.kIn hk (rj (us:=[]) F hr hb hd hx I .nil h)
end
structure FnScope (N P:P' Str) (sc:Scope):Prop where
 kind:sc.kind= .function
 co:sc.isCoroutine=false
 gen:sc.isGenerator=false
 nd:N.Nodup
 pre:N.take P.length=P
 par:∀x∈P,sc.names.lookup x=some .local\/sc.names.lookup x=some .cell
 nofree:∀y∈sc.names,y.2≠ .free
theorem rk {kindOf:Str->Qc NameKind}{x:Str}:∀{binds:P' (Str×P3)}{m:Str->Qc P3},(∀v,(x,v)∉binds)->bindL kindOf binds m x=m x
 |[],_,_=>rfl
 |(n,v)::r,m,h=>by
  unfold bindL;rw[rk λw hw=>h w (AN _ hw)];split
  .have:x≠n:=by rintro rfl;exact h v AS
   simp[this]
  .rfl
theorem rm {kindOf:Str->Qc NameKind}{x:Str}:∀{binds:P' (Str×P3)}{m:Str->Qc P3},(∀v,(x,v)∉binds)->bindC kindOf binds m x=m x
 |[],_,_=>rfl
 |(n,v)::r,m,h=>by
  unfold bindC;rw[rm λw hw=>h w (AN _ hw)];split
  .rfl
  .have:x≠n:=by rintro rfl;exact h v AS
   simp[this]
theorem rn {kindOf:Str->Qc NameKind}{x:Str}{v:P3}:∀{P:P' Str}{vs:P' P3}{i:Nat}{m:Str->Qc P3},P.Nodup->P[i]? =some x->vs[i]? =some v->kindOf x=some .local->
  bindL kindOf (P.zip vs) m x=some v
 |[],_,_,_,_,h,_,_=>by simp at h
 |_::_,[],_,_,_,_,h,_=>by simp at h
 |p::P,w::vs,0,m,nd,h1,h2,hk=>by
  simp at h1 h2;subst h1;subst h2;show bindL kindOf ((p,w)::P.zip vs) m p=_;unfold bindL;rw[rk λv hv=>(Ba.mp nd).1 (List.of_mem_zip hv).1,AB hk];simp
 |p::P,w::vs,i+1,m,nd,h1,h2,hk=>by
  show bindL kindOf ((p,w)::P.zip vs) m x=_;unfold bindL;exact rn (i:=i) (Ba.mp nd).2 (by simpa using h1) (by simpa using h2) hk
theorem rp {kindOf:Str->Qc NameKind}{x:Str}{v:P3}:∀{P:P' Str}{vs:P' P3}{i:Nat}{m:Str->Qc P3},P.Nodup->P[i]? =some x->vs[i]? =some v->kindOf x≠some .local->
  bindC kindOf (P.zip vs) m x=some v
 |[],_,_,_,_,h,_,_=>by simp at h
 |_::_,[],_,_,_,_,h,_=>by simp at h
 |p::P,w::vs,0,m,nd,h1,h2,hk=>by
  simp at h1 h2;subst h1;subst h2;show bindC kindOf ((p,w)::P.zip vs) m p=_;unfold bindC;rw[rm λv hv=>(Ba.mp nd).1 (List.of_mem_zip hv).1,A6 hk];simp
 |p::P,w::vs,i+1,m,nd,h1,h2,hk=>by
  show bindC kindOf ((p,w)::P.zip vs) m x=_;unfold bindC;exact rp (i:=i) (Ba.mp nd).2 (by simpa using h1) (by simpa using h2) hk
def start (N:P' Str) (vs:P' V):St:=vs.map some++List.replicate (N.length-vs.length) none
def cT (CX:CXT) (P:P6) (w:P8) (K:W.Frag) (mg:Str->Qc P3) (base:Qb) (N:P' Str) (KC:Str) (scope:Scope) (f:P5) (cd:P3) (A:P9) (outer:P' Env) (s:P4) (H:Hp) (E:XK):Cx where
 prog:=P
 w:=w
 K:=K
 mg:=mg
 base:=base
 A:=A.deeper (envOfC KC scope s.heap.objs.size f cd)
 N:=N
 s₀:=s
 H₀:=H
 env:=envOfC KC scope s.heap.objs.size f cd
 outer:=outer
 stack:=envOfC KC scope s.heap.objs.size f cd::outer
 ex:=[]
 calm:=true
 fn:=λ_=>true
 pn:=[]
 xe:=λe s'=>wpAny (model P w) (A.deeper (envOfC KC scope s.heap.objs.size f cd)) (leaving (envOfC KC scope s.heap.objs.size f cd) e) (λ_ MS=>CX outer H s E e MS) (λe' MS=>CX outer H s E e' MS) s'
theorem rq {sc:Scope}(h:sc.names.lookup x=some .cell):∃c,(cellsFrom n sc.names []).lookup x=some c:=by
 have q:=W.cellsFrom_some sc.names n [] (.inl h);exact Option.isSome_iff_exists.mp q
theorem zC {cd:P3}{outer:P' Env}{s1:P4}{E:XK}
  (S:FnScope N ps scope) (hd:A.handled=none) (e0:Env0 P w K mg base A outer s H) (hl:vs.length=ps.length) (r:ap vs us)
  (x:InCallC s s.heap.objs.size (bindL (envOfC KC scope s.heap.objs.size f cd).kindOf (ps.zip us) λ_=>none) (cellsFrom (s.heap.objs.size+1) scope.names []) (bindC (envOfC KC scope s.heap.objs.size f cd).kindOf (ps.zip us) λ_=>none) s1):
  Inv (cT CX P w K mg base N KC scope f cd A outer s H E) [] (start N vs) H s1:=by
 have LY:ps.length<=N.length:=by have:=BF List.length S.pre;rw[Aa] at this;lia
 obtain⟨h1,tk,rfl,hk⟩:=x.done;have noA:∀b:P5,b∉(cT CX P w K mg base N KC scope f cd A outer s H E).ex:=λb z=>absurd (show b∈([]:P' P5) from z) (by simp);refine⟨⟨e0.mod,S.kind,rfl,rfl,A8 _,λy z c h1 h2=> ?_,λy hy=> ?_,λy c _ h=> ?_,λ_=>hd,Around.frames_deeper e0.frames, .inr ⟨rfl,rfl⟩,λb z=>absurd z (noA b),e0.bs,e0.bsz,λb _ _=>noA b,λb z=>absurd z (noA b),e0.funs,e0.frf⟩,
  rfl,e0.bare,Un.kept hk,⟨_,x.toInCall.ns,λi y v h1 h2 h3=> ?_⟩,λy c h=>⟨_,x.cell y c h⟩,e0.hok.fresh (A8 _),λy c h=> ?_,λp hp=>absurd (show p∈([]:P' (P5×Obj)) from hp) (by simp),e0.hok.kept hk, ?_⟩
 .exact name_of_addr x.apart (Bt h1) (Bt h2)
 .have hy:scope.names.lookup y=some .cell\/scope.names.lookup y=some .free:=hy;rcases hy with hy|hy
  .exact rq hy
  .exact absurd rfl (S.nofree _ (Bt hy))
 .exact AT (x.above y c (Bt h))
 .have hi:i<vs.length:=by
   unfold start at h2;by_cases hi:i<vs.length
   .exact hi
   .rw [Bg (by simpa using hi)] at h2;rw[Cq] at h2;split at h2<;>cases h2
  have ha:vs[i]? =some v:=by
   unfold start at h2;rw[Cd (by simpa using hi),AE] at h2;cases e:vs[i]? with
   |none=>rw[e] at h2;cases h2
   |some a=>rw[e] at h2;cases h2;rfl
  obtain⟨u,hu,rv⟩:=r.get ha;have hp:ps[i]? =some y:=by
   rw[<-S.pre,List.getElem?_take_of_lt (by lia)];exact h1
  have ndP:ps.Nodup:=by rw[<-S.pre];exact S.nd.sublist (List.take_sublist _ _)
  refine⟨u,rv, ?_⟩;rcases S.par y (AU hp) with k|k
  .exact .inl ⟨k,rn ndP hp hu k⟩
  .obtain⟨c,e⟩:=rq (n:=s.heap.objs.size+1) k;refine .inr ⟨.inl k,c,e, ?_⟩;have q:=x.cell y c e;rw[rp ndP hp hu (by show scope.names.lookup y≠_;rw[k];decide)] at q;exact q
 .exact e0.hok.fresh (AT (x.above y c (Bt h)))
 .unfold start;show _=N.length;rw[AC,A1,Ad];lia
theorem rA {k:Nat}{name:Str}{params:Arguments}{dV kV Ma pm KM ct oc:P3}{an od:Qc P5}
  {N0:Array (Qc P3)}(lk:K.lookup f=some ⟨oc,od, .func (W.fnOf name KC params body scope dV kV Ma pm an KM ct),N0⟩) (MQ:W.codeIn K KM KC=true) (S:FnScope N ps scope)
  (len:∀vs H Q E,sp vs H Q E->vs.length=ps.length)
  (Lh:∀(A:P9) (outer:P' Env) (s:P4) (H:Hp) (vs:P' V) (Q:VK) (E:XK),Room k (A.deeper (envOfC KC scope s.heap.objs.size f KM))->sp vs H Q E->
   ∃t,PSs (cT CX P w K mg base N KC scope f KM A outer s H E) body t/\t {nx:=λ_ H'=>Q .non H',rt:=Q} (start N vs) H):
  FnOk P w K mg base CX (k+1) f (W.fnOf name KC params body scope dV kV Ma pm an KM ct) ps sp:=by
 refine⟨len,λA outer s H args us vs Q E hr e0 hb r MT=> ?_⟩;have hl:=len _ _ _ _ MT;have KX:K.In s.heap:=e0.mod.kin.keeps λb o e=>(e0.bs b o e).1;have lim:s.heap.NoLimit:=e0.mod.nolimit.keeps λb o e=>(e0.bs b o e).1;have Li:∀y∈ps.zip us,scope.names.lookup y.1=some .local\/(scope.names.lookup y.1=some .cell/\((cellsFrom (s.heap.objs.size+1) scope.names []).lookup y.1).isSome=true):=λ⟨n,v⟩ hy=>by
  rcases S.par n (List.of_mem_zip hy).1 with q|q
  .exact .inl q
  .exact .inr ⟨q,W.cellsFrom_some _ _ _ (.inl q)⟩
 refine codeAny_call_function hr.depth (KX _ _ lk) rfl S.co S.gen rfl (W.codeRec_of KX MQ) (hb _ _ _ _ ?_);refine wpAny_newFunctionEnv_cells S.kind Li λenv he s1 x=> ?_;subst he;refine⟨lim.keeps x.toInCall.keep,codeAny_func ?_⟩;obtain⟨t,ht,hq⟩:=Lh A outer s H vs Q E (hr.deeper _) MT;have I:Inv (cT CX P w K mg base N KC scope f KM A outer s H E) [] (start N vs) H s1:=zC S hr.hd e0 hl r x;refine BV (ht [] s1 (start N vs) H _ I hq) (λfl s' hs=> ?_) λe s' hs=>hs;have fin:∀{σ':St}{H':Hp}{v:V}{u:P3},Inv (cT CX P w K mg base N KC scope f KM A outer s H E) [] σ' H' s'->aw v u->Q v H'->CE outer P w H s Q u s':=
  fun{σ' H' v u} J rv q=>⟨v,H',J.os,J.bare,J.base,J.hok,rv,q⟩
 cases fl with
 |ret u=>
  obtain⟨v,σ',H',J,rv,q⟩:=hs;exact fin J rv q
 |next=>
  obtain⟨σ',H',J,q⟩:=hs;exact fin (v:=V.non) (u:=Value.none) J rfl q
 |brk=>
  obtain⟨_,_,_,q⟩:=hs;exact False.elim q
 |cont=>
  obtain⟨_,_,_,q⟩:=hs;exact False.elim q
section
variable {X:Cx}{x:Str}{p pos:Pos}{e:Qa}{es:P' Qa}{t:TA}{id T:String}{r:P' V->Hp->VK->Prop}
def tCB (r:P' V->Hp->VK->Prop) (t:TA):TE:=λσ H Q=>t σ H λvs H1=>r vs H1 Q
theorem aS (hc:bz X (.builtin id) r) (hg:Gl X x) (hm:X.mg x=none) (hv:bootBuiltins x=some (.builtin id)) (ha:PA X (e::es) t) (hn:x≠"__name__":=by decide) (Mn:(x==("__debug__":Str))=false:=by decide)
  (he:starEach (e::es) X.env=(false,eval e X.env)::starEach es X.env:=by rfl) (LY:(backTo pos (starEach es X.env)).any (·.1)=false:=by rfl):PE X (.Call (.Name x p) (e::es) [] pos) (tCB r t):=by
 intro Ku s σ H Q I h;refine BL (dy I hg hm hv ?_ hn Mn);exact D2 (thn (ha pos Ku s σ H _ I h) λus s1 KJ=>by obtain⟨vs,H1,I1,r1,q1⟩:=KJ;exact hc Ku s1 σ H1 vs us Q I1 r1 q1) he LY
theorem iS (hc:bz X (.type T) r) (hg:Gl X x) (hm:X.mg x=none) (hv:bootBuiltins x=some (.type T)) (ha:PA X (e::es) t) (hn:x≠"__name__":=by decide) (Mn:(x==("__debug__":Str))=false:=by decide)
  (he:starEach (e::es) X.env=(false,eval e X.env)::starEach es X.env:=by rfl) (LY:(backTo pos (starEach es X.env)).any (·.1)=false:=by rfl):PE X (.Call (.Name x p) (e::es) [] pos) (tCB r t):=by
 intro Ku s σ H Q I h;refine BL (dy I hg hm hv ?_ hn Mn);exact BO (thn (ha pos Ku s σ H _ I h) λus s1 KJ=>by obtain⟨vs,H1,I1,r1,q1⟩:=KJ;exact hc Ku s1 σ H1 vs us Q I1 r1 q1) he LY
end
end L2
namespace HT
open PySem PyProof.Rows
variable {Q:P3->P4->Prop}{hi lo:Qc Int}{sl:P5}{vl vu:P3}
section
open PySem.SeqAt
open PySem.AutoSeq1 (wpAny_loadPart')
open PySem.MeetsSeq PySem.MeetsSeq2 PySem.MeetsSeq3
end
section
variable {prog:P6}{w:P8}{A:P9}{E:P3->P4->Prop}{s:P4}
theorem cat_tup {t b:P5}{vs ws:P' P3}(ht:IsTup s.heap t vs.toArray) (hb:IsTup s.heap b ws.toArray) (hv:vs≠[])
  (h1:ws=[]->Q (.ref t) s) (h2:ws≠[]->Q (.ref s.heap.objs.size) {s with heap:=s.heap.push {cls:= .type "tuple",data:= .seq (vs++ws).toArray}})
  (hsz:vs.length+ws.length<=sizeLine):wpAny (model prog w) A (binaryOp .Add (.ref t) (.ref b)) Q E s:=by
 obtain⟨⟨cls,dd,data,sl⟩,ho,hc,n,hd⟩:=id ht;obtain⟨⟨N1,Mi,data2,Mo⟩,LF,Lo,n2,LP⟩:=id hb;simp only at hc hd Lo LP;subst hc hd Lo LP;have e:vs.toArray++ws.toArray=(vs++ws).toArray:=by simp
 by_cases hw:ws=[]
 .exact concat_meets ⟨_,ho,rfl⟩ ⟨_,LF,rfl⟩ noFill_tuple_add seq_tuple_add PySem.F.slot_tuple_add PySem.F.entry_tuple_add (PySem.F.args_tuple_add_2 _ _)
   (tuple_addW1 t b vs.toArray ws.toArray n n2 dd Mi sl Mo (by simpa using hv) (by simp[hw])) ⟨ho,LF,h1 hw⟩
 .refine concat_meets ⟨_,ho,rfl⟩ ⟨_,LF,rfl⟩ noFill_tuple_add seq_tuple_add PySem.F.slot_tuple_add PySem.F.entry_tuple_add (PySem.F.args_tuple_add_2 _ _)
   (tuple_addW2 t b vs.toArray ws.toArray n n2 dd Mi sl Mo (by simpa using hv) (by simpa using hw) (by rw[AF,AF];exact hsz)) ⟨ho,LF, ?_⟩
  rw[e];exact h2 hw
def sIx (n d:Nat):Qc Int->Nat
 |none=>d
 |some v=>if v<0 then(v+(n:Int)).toNat else min v.toNat n
def sIx_none (n d:Nat):sIx n d none=d:=rfl
theorem sIx_nat (n d k:Nat):sIx n d (some (k:Int))=min k n:=by
 show(if(k:Int)<0 then((k:Int)+(n:Int)).toNat else min (k:Int).toNat n)=min k n;rw[A6 (by lia),AV]
theorem zD (n d:Nat) (hd:d<=n) (o:Qc Int):sIx n d o<=n:=by
 cases o with
 |none=>exact hd
 |some v=>
  show(if v<0 then(v+(n:Int)).toNat else min v.toNat n)<=n;by_cases hv:v<0
  .rw [AB hv];lia
  .rw [A6 hv];exact Nat.min_le_right _ _
theorem rB (v:Int) (n d:Nat):(if v<0 then max (v+(n:Int)) 0 else min v (n:Int))=((sIx n d (some v):Nat):Int):=by
 show(if v<0 then max (v+(n:Int)) 0 else min v (n:Int))=(((if v<0 then(v+(n:Int)).toNat else min v.toNat n):Nat):Int);by_cases hv:v<0
 .simp only[AB hv];lia
 .simp only[A6 hv];lia
theorem zE (lo hi:Qc Int) (n:Nat):Builtin.Slice.sliceAdjust lo hi 1 (n:Int)=(((sIx n 0 lo:Nat):Int),((sIx n n hi:Nat):Int)):=by
 have h1:¬((1:Int)<0):=by lia
 unfold Builtin.Slice.sliceAdjust;simp only[h1,Av];refine Prod.ext ?_ ?_
 .cases lo with
  |none=>rfl
  |some v=>exact rB v n 0
 .cases hi with
  |none=>rfl
  |some v=>exact rB v n n
theorem zF (i j:Nat):Builtin.Slice.slicePlaces (i:Int) (j:Int) 1=j-i:=by
 unfold Builtin.Slice.slicePlaces;have h1:(1:Int)>0:=by lia
 simp only[h1,C5,Int.ediv_one];split<;>lia
theorem rC {v:P3}{o:Qc Int}{Q:Qc Int->P4->Prop} (p:IsPart v o) (h:Q o s):wpAny (model prog w) A (Builtin.Slice.slicePartIndex v) Q E s:=by
 cases p with
 |none=>exact slicePart_none h
 |int i t=>exact slicePart_int h
theorem rD {n:Nat}{Q:Int×Int×Nat->P4->Prop} (hs:s.heap.IsSliceOf sl vl vu .none) (pl:IsPart vl lo) (pu:IsPart vu hi)
  (h:Q (((sIx n 0 lo:Nat):Int),1,sIx n n hi-sIx n 0 lo) s):wpAny (model prog w) A (Builtin.Slice.sliceApplied (.ref sl) (pure (n:Int))) Q E s:=by
 obtain⟨os,O1,O2,hds⟩:=id hs;unfold Builtin.Slice.sliceApplied Builtin.Slice.sliceFields;refine A0 (A0 (Bc O1 hds (x:=vl) rfl (A0 (Bc O1 hds (x:=vu) rfl (A0 (Bc O1 hds (x:= .none) rfl (A3 ?_)))))));refine A0 (slicePart_none ?_);show wpAny _ _ (if((1:Int)==0)=true then _ else _) _ _ s;rw[A6 (by decide)];refine A0 (rC pl (A0 (rC pu (A0 (A3 ?_)))));show wpAny _ _ (match Builtin.Slice.sliceAdjust lo hi 1 (n:Int) with|(lo,hi)=>pure (lo,(1:Int),Builtin.Slice.slicePlaces lo hi 1)) _ _ s;rw[zE lo hi n];show wpAny _ _ (pure (((sIx n 0 lo:Nat):Int),(1:Int),Builtin.Slice.slicePlaces ((sIx n 0 lo:Nat):Int) ((sIx n n hi:Nat):Int) 1)) _ _ s;rw[zF];exact A3 h
theorem zG (xs:Array P3) (i k:Nat):((List.range k).filterMap fun(m:Nat)=>xs[((i:Int)+(m:Int)*1).toNat]?).toArray=((xs.toList.drop i).take k).toArray:=by
 have e:(fun(m:Nat)=>xs[((i:Int)+(m:Int)*1).toNat]?)=λm=>xs[i+m]? :=by
  funext m
  have:((i:Int)+(m:Int)*1).toNat=i+m:=by lia
  rw[this]
 rw[e];have:=pick_run xs i k;rw[List.filterMap_map] at this;have e2:((λx=>xs[x]?)∘λx=>i+x)=λm=>xs[i+m]? :=rfl;rw[e2] at this;rw[this]
theorem getItem_tuple_cut {t:P5}{items:Array P3}(ht:IsTup s.heap t items) (hs:s.heap.IsSliceOf sl vl vu .none) (pl:IsPart vl lo) (pu:IsPart vu hi)
  (hw:¬(sIx items.size 0 lo=0/\sIx items.size items.size hi=items.size))
  (h:Q (.ref s.heap.objs.size) {s with heap:=s.heap.push {cls:= .type "tuple",data:= .seq ((items.toList.drop (sIx items.size 0 lo)).take (sIx items.size items.size hi-sIx items.size 0 lo)).toArray}})
  (hsz:items.size<=sizeLine):wpAny (model prog w) A (getItem (.ref t) (.ref sl)) Q E s:=by
 have ML:sizeOk (.seq ((items.toList.drop (sIx items.size 0 lo)).take (sIx items.size items.size hi-sIx items.size 0 lo)).toArray):=by
  show((items.toList.drop (sIx items.size 0 lo)).take (sIx items.size items.size hi-sIx items.size 0 lo)).toArray.size<=sizeLine;rw[AF,Aa,CZ,An];lia
 have hj:sIx items.size items.size hi<=items.size:=zD _ _ (A8 _) hi;obtain⟨os,O1,O2,hds⟩:=id hs;have hTs:s.TypeIs (.ref sl) "slice":=⟨os,O1,O2⟩;unfold getItem;try with_reducible refine Aw ?_
 first|refine A0 (A3 ?_)|skip
 refine A0 (wpAny_sequenceKey ht.typeIs (by decide) ?_);refine A0 (B5 (name:=Str.ofString "__getitem__") ht.typeIs BR
  (Aj BR ht.typeIs entry_tuple_getitem ?_ (args_tuple_getitem _ _)))
 show wpAny _ _ (Builtin.Tuple.tupleItemsOf (.ref t)>>=_) _ _ s;refine A0 (tupleItemsOf_ ht ?_);refine A0 (DU hTs ?_);rw[AB (by decide)];refine A0 (rD hs pl pu ?_);have hno:¬((((sIx items.size 0 lo:Nat):Int)==0&&(1:Int)==1&&(sIx items.size items.size hi-sIx items.size 0 lo)==items.size)=true):=by
  intro q;rw[AD,AD] at q;have q1:((sIx items.size 0 lo:Nat):Int)=0:=eq_of_beq q.1.1;have q2:sIx items.size items.size hi-sIx items.size 0 lo=items.size:=eq_of_beq q.2;exact hw ⟨by lia,by lia⟩
 show wpAny _ _ (if(((sIx items.size 0 lo:Nat):Int)==0&&(1:Int)==1&&(sIx items.size items.size hi-sIx items.size 0 lo)==items.size)=true then _ else _) _ _ s;rw[A6 hno,zG];first
  |exact A0 (m:=Builtin.Tuple.tupleExact _) (Au (A3 ⟨_,rfl,A3 h⟩) ML)
  |exact A0 (m:=Builtin.Tuple.tupleExact _) (Au (A0 (A3 (A3 ⟨_,rfl,A3 h⟩))) ML)
  |exact A0 (A0 (m:=Builtin.Tuple.tupleExact _) (Au (A3 (A3 ⟨_,rfl,A3 h⟩)) ML))
  |exact A0 (A0 (m:=Builtin.Tuple.tupleExact _) (Au (A3 ⟨_,rfl,A3 h⟩) ML))
end
end HT
namespace L2
open PySem PySem.Spec PyProof.Rows
variable {H:Hp}{Ku:P' (P5×Obj)}{i:Int}{j n:Nat}{s:P4}{xs:P' V}
abbrev TO:=St->Hp->(Qc Int->Hp->Prop)->Prop
def PO (X:Cx) (e:Qc Qa) (t:TO):Prop:=
 ∀(Ku:P' (P5×Obj)) (s:P4) (σ:St) (H:Hp) (Q:Qc Int->Hp->Prop),Inv X Ku σ H s->t σ H Q->
  wpAny (model X.prog X.w) X.A (evalPart e X.env) (λu s'=>∃o H',Inv X Ku σ H' s'/\IsPart u o/\Q o H') X.xe s
def zH:TO:=λ_ H Q=>Q none H
inductive tPart_ (Q:(Option Int->Hp->Prop)) (x:V) (H1:Hp):Prop
 |mk i:x= .int i->Q (some i) H1->tPart_ Q x H1
def zI (t:TE):TO:=λσ H Q=>t σ H λx H1=>tPart_ Q x H1
theorem mw {ns:P' Int}:∀{us:P' P3},ap (ns.map V.int) us->IntsAre us ns:=by
 induction ns with
 |nil=>intro us r;rw[DP] at r;cases r;exact .nil
 |cons n ns ih=>
  intro us r;rw[AW] at r;cases r with
  |cons r1 r2=>
   obtain⟨t,e⟩:=r1;subst e;exact .cons n t (ih r2)
section
variable {X:Cx}{e:Qa}{te:TE}{lo hi:Qc Qa}{tl th:TO}{pos p2:Pos}
theorem fC:PO X none zH:=by
 intro Ku s σ H Q I h;rw[evalPart_none];exact A3 ⟨none,H,I, .none,h⟩
theorem fD (h:PE X e te):PO X (some e) (zI te):=by
 intro Ku s σ H Q I hw;rw[evalPart_some];refine thn (h Ku s σ H _ I hw) λu s1 zu35=> ?_;obtain⟨x,H1,I1,r1,q1⟩:=zu35;obtain⟨i,rfl,q⟩:=q1;obtain⟨t,rfl⟩:=r1;exact⟨some i,H1,I1, .int i t,q⟩
def SlR (X:Cx) (r:V->Qc Int->Qc Int->Hp->VK->Prop):Prop:=
 ∀(Ku:P' (P5×Obj)) (s:P4) (σ:St) (H:Hp) (x:V) (v vl vu:P3) (lo hi:Qc Int) (sl:P5) (Q:VK),Inv X Ku σ H s->aw x v->s.heap.IsSliceOf sl vl vu .none->IsPart vl lo->IsPart vu hi->r x lo hi H Q->
  ∃T id,typeLookup (.type T) "__getitem__"=pure (some (.builtin id))/\s.TypeIs v T/\wpAny (model X.prog X.w) X.A (getItem v (.ref sl)) (EP X Ku σ Q) X.xe s
def tSl (r:V->Qc Int->Qc Int->Hp->VK->Prop) (te:TE) (tl th:TO):TE:=λσ H Q=>te σ H λx H1=>tl σ H1 λl H2=>th σ H2 λu H3=>r x l u H3 Q
theorem fE {r:V->Qc Int->Qc Int->Hp->VK->Prop} (hr:SlR X r) (he:PE X e te) (hl:PO X lo tl) (hu:PO X hi th):PE X (.Subscript e (.Slice lo hi none p2) pos) (tSl r te tl th):=by
 intro Ku s σ H Q I h;refine Subscript_ (thn (he Ku s σ H _ I h) λv s1 zu36=> ?_);obtain⟨x,H1,I1,r1,q1⟩:=zu36;refine wpAny_Slice (thn (hl Ku s1 σ H1 _ I1 q1) λvl s2 zu37=> ?_);obtain⟨l,H2,I2,pl,q2⟩:=zu37;refine thn (hu Ku s2 σ H2 _ I2 q2) λvu s3 zu38=> ?_;obtain⟨u,H3,I3,pu,q3⟩:=zu38;rw[evalPart_none];refine A3 ?_;have I4:Inv X Ku σ H3 {s3 with heap:=s3.heap.push {cls:= .type "slice",data:= .fields #[vl,vu, .none]}}:=I3.kept (t':=s3.toks) λb ob q=>A5 _ q;obtain⟨T,id,hT,ht,hg⟩:=hr Ku {s3 with heap:=s3.heap.push {cls:= .type "slice",data:= .fields #[vl,vu, .none]}} σ H3 x v vl vu l u s3.heap.objs.size Q I4 r1 (Heap.IsSliceOf.new ..) pl pu q3;show wpAny (model X.prog X.w) X.A (subscriptTail e (.Slice lo hi none p2) v (.ref s3.heap.objs.size)) (EP X Ku σ Q) X.xe {s3 with heap:=s3.heap.push {cls:= .type "slice",data:= .fields #[vl,vu, .none]}};exact tail_any (ops:=[.ref s3.heap.objs.size,v]) ht hT hg (by with_unfolding_all rfl)
def cr (xs:P' V) (lo hi:Qc Int):P' V:=(xs.drop (HT.sIx xs.length 0 lo)).take (HT.sIx xs.length xs.length hi-HT.sIx xs.length 0 lo)
theorem rE (xs:P' V) (lo hi:Qc Int):(cr xs lo hi).length<=xs.length:=by
 unfold cr;rw[Aa,CZ];lia
inductive rSlT (K:W.Frag) (x:V) (lo:Option Int) (hi:Option Int) (H:Hp) (Q:VK):Prop
 |mk a xs:x= .ref a->SqT K H a xs->¬(HT.sIx xs.length 0 lo=0/\HT.sIx xs.length xs.length hi=xs.length)->(∀p,H p=none->Q (.ref p) (upd H p (.tup (cr xs lo hi))))->rSlT K x lo hi H Q
theorem zJ:SlR X (rSlT X.K):=by
 intro Ku s σ H x v vl vu lo hi sl Q I rx hs pl pu h;obtain⟨a,xs,rfl,hx,hw,q⟩:=h;cases rx;obtain⟨Kx,r,ht,hz⟩:=I.tuple hx;have Kz:Kx.toArray.size=xs.length:=by rw[AF];exact r.length.symm
 refine⟨"tuple",_,BR.lookup,ht.typeIs, ?_⟩;refine HT.getItem_tuple_cut ht hs pl pu (by rw[Kz];exact hw) ?_ (by rw[Kz];exact hz);rw[Kz];refine⟨.ref s.heap.objs.size,_,I.laid (t':=s.toks) (o:= .tup (cr xs lo hi)) (λb ob q=>A5 _ q) (A8 _) ?_,rfl,q _ (I.hok.fresh (A8 _))⟩;exact⟨As (rE xs lo hi) hz,_,(r.drop (HT.sIx xs.length 0 lo)).take (HT.sIx xs.length xs.length hi-HT.sIx xs.length 0 lo),IsTup.new _ _⟩
inductive rCatT (K:W.Frag) (x:V) (y:V) (H:Hp) (Q:VK):Prop
 |mk a b xs ys:x= .ref a->y= .ref b->SqT K H a xs->SqT K H b ys->xs≠[]->xs.length+ys.length<=sizeLine->((ys=[]->Q (.ref a) H))->((ys≠[]->∀p,H p=none->Q (.ref p) (upd H p (.tup (xs++ys)))))->rCatT K x y H Q
theorem ap.nil_iff {us:P' P3} (r:ap xs us):us=[]↔xs=[]:=by
 cases r with
 |nil=>simp
 |cons _ _=>simp
theorem zK:OpR X (binaryOp .Add) (rCatT X.K):=by
 intro Ku s σ H x y v u Q I rx ry h;obtain⟨a,b,xs,ys,rfl,rfl,ha,hb,hx,hz,q1,q2⟩:=h;cases rx;cases ry;obtain⟨Kx,r1,p1,_⟩:=I.tuple ha;obtain⟨Mb,r2,p2,_⟩:=I.tuple hb;refine HT.cat_tup p1 p2 (λz=>hx (r1.nil_iff.mp z)) (λz=>⟨.ref a,H,I,rfl,q1 (r2.nil_iff.mp z)⟩) (λz=> ?_) (by rw[<-r1.length,<-r2.length];exact hz);refine⟨.ref s.heap.objs.size,_,I.laid (t':=s.toks) (o:= .tup (xs++ys)) (λb ob q=>A5 _ q) (A8 _) ?_,rfl,q2 (λw=>z (r2.nil_iff.mpr w)) _ (I.hok.fresh (A8 _))⟩;exact⟨by rw[AC];exact hz,_,r1.append r2,IsTup.new _ _⟩
end
def ixN (n:Nat) (i:Int):Qc Nat:=if 0<=i then(if i<n then some i.toNat else none) else if -(n:Int)<=i then some (i+n).toNat else none
def atI {α:Type} (xs:P' α) (i:Int):Qc α:=(ixN xs.length i).bind λj=>xs[j]?
theorem rF (h:ixN n i=some j):seqIndex? i n=some j/\j<n/\-(n:Int)<=i/\i<n:=by
 unfold ixN at h;by_cases h0:0<=i
 .rw [AB h0] at h;by_cases h1:i<n
  .rw [AB h1] at h;have e:i.toNat=j:=Ae h;exact⟨by rw[seqIndex_of h0 h1,e],by lia,by lia,h1⟩
  .rw [A6 h1] at h;cases h
 .rw [A6 h0] at h;by_cases h1: -(n:Int)<=i
  .rw [AB h1] at h;have e:(i+n).toNat=j:=Ae h;exact⟨by rw[seqIndex_neg (by lia) h1,e],by lia,h1,by lia⟩
  .rw [A6 h1] at h;cases h
theorem rG {α:Type}{xs:P' α}{v:α} (h:atI xs i=some v):∃j,seqIndex? i xs.length=some j/\xs[j]? =some v/\j<xs.length/\-(xs.length:Int)<=i/\i<xs.length:=by
 unfold atI at h;cases e:ixN xs.length i with
 |none=>rw[e] at h;cases h
 |some j=>
  rw[e] at h;obtain⟨h1,h2,h3,h4⟩:=rF e;exact⟨j,h1,h,h2,h3,h4⟩
theorem j8 {α:Type}{xs:P' α}{v:α} (h:xs[j]? =some v):atI xs (j:Int)=some v:=by
 have hj:j<xs.length:=(AG.mp h).1;have e:ixN xs.length (j:Int)=some j:=by
  unfold ixN;rw[AB (by lia),AB (by lia)];simp
 unfold atI;rw[e];exact h
theorem zL {α:Type} (xs:P' α) (v:α):atI (xs++[v]) (-1)=some v:=by
 have hl:(xs++[v]).length=xs.length+1:=by simp
 have e:ixN (xs++[v]).length (-1)=some xs.length:=by
  unfold ixN;rw[hl,A6 (by decide),AB (by lia)];congr 1
  lia
 unfold atI;rw[e];show(xs++[v])[xs.length]? =some v;simp
def zM (b:Qa):Prop:=∀o i,subscripted b false o i=operate [o,i] (getItem o i)
def IxR (X:Cx) (r:R2):Prop:=
 ∀(value KS:Qa) (Ku:P' (P5×Obj)) (s:P4) (σ:St) (H:Hp) (x y:V) (v u:P3) (Q:VK),Inv X Ku σ H s->aw x v->aw y u->r x y H Q->
  subscripted KS false v u=operate [v,u] (getItem v u)->wpAny (model X.prog X.w) X.A (subscriptTail value KS v u) (EP X Ku σ Q) X.xe s
def MtR (X:Cx) (id:String) (r:V->P' V->Hp->VK->Prop):Prop:=
 ∀(Ku:P' (P5×Obj)) (s:P4) (σ:St) (H:Hp) (x:V) (xs:P' V) (v:P3) (us:P' P3) (Q:VK),Inv X Ku σ H s->aw x v->ap xs us->r x xs H Q->
  wpAny (model X.prog X.w) X.A (call (.builtin id) (v::us)) (EP X Ku σ Q) X.xe s
section
variable {X:Cx}{a b:Qa}{ta tb:TE}{pos:Pos}
theorem az {r:R2} (hr:IxR X r) (ha:PE X a ta) (hb:PE X b tb) (hs:zM b):PE X (.Subscript a b pos) (tOp r ta tb):=by
 intro Ku s σ H Q I h;exact Subscript_ (mi ha hb I h λv u s2 x y H2 I2 rx ry q=>hr a b Ku s2 σ H2 x y v u Q I2 rx ry q (hs _ _))
inductive rIxL (K:W.Frag) (x:V) (y:V) (H:Hp) (Q:VK):Prop
 |mk p xs i v:x= .ref p->y= .int i->SqL K H p xs->atI xs i=some v->Q v H->rIxL K x y H Q
inductive rIxT (K:W.Frag) (x:V) (y:V) (H:Hp) (Q:VK):Prop
 |mk p xs i v:x= .ref p->y= .int i->SqT K H p xs->atI xs i=some v->Q v H->rIxT K x y H Q
theorem bh:IxR X (rIxL X.K):=by
 intro value KS Ku s σ H x y v u Q I rx ry h hs;obtain⟨p,xs,i,z,rfl,rfl,hq,he,q⟩:=h;cases rx;obtain⟨t,rfl⟩:=ry;obtain⟨Kx,r,pl,hz⟩:=I.list hq;obtain⟨j,h1,h2,h3,h4,h5⟩:=rG he;obtain⟨w,ew,LD⟩:=r.get h2;have hl:=r.length;have hn:=gc;have fin:EP X Ku σ Q w s:=⟨z,H,I,LD,q⟩;by_cases h0:0<=i
 .have hj:i.toNat=j:=by
   rw[seqIndex_of h0 h5] at h1;exact Ae h1
  exact item_listR pl.isList h0 (by lia) (by rw[hj];simpa using ew) fin hs
 .have hj:(i+(Kx.toArray.size:Int)).toNat=j:=by
   rw[seqIndex_neg (by lia) h4] at h1;rw[AF,<-hl];exact Ae h1
  exact subscriptTail_builtinR (x:=w) pl.isList.typeIs slot_list_getitem.lookup
   (wpAny_getItem_list_neg (Q:=λr s'=>r=w/\EP X Ku σ Q r s') pl.isList (by lia) (by rw[AF]<;>lia) (by lia) (by rw[hj];simpa using ew) ⟨rfl,fin⟩) hs
theorem bW:IxR X (rIxT X.K):=by
 intro value KS Ku s σ H x y v u Q I rx ry h hs;obtain⟨p,xs,i,z,rfl,rfl,hq,he,q⟩:=h;cases rx;obtain⟨t,rfl⟩:=ry;obtain⟨Kx,r,pl,hz⟩:=I.tuple hq;obtain⟨j,h1,h2,h3,h4,h5⟩:=rG he;obtain⟨w,ew,LD⟩:=r.get h2;have hl:=r.length;have hn:=gc;have fin:EP X Ku σ Q w s:=⟨z,H,I,LD,q⟩;exact subscriptTail_builtinR (x:=w) pl.typeIs slot_tuple_getitem.lookup
  (getItem_tuple (j:=j) (Q:=λr s'=>r=w/\EP X Ku σ Q r s') pl (by lia) (by lia) (by rw[AF,<-hl];exact h1) (by simpa using ew) ⟨rfl,fin⟩) hs
theorem zN (Kx:P' P3) (n j:Nat) (u:P3):Obj.mapSeq (·.setIfInBounds j u) {cls:= .type "list",data:= .seq Kx.toArray n}={cls:= .type "list",data:= .seq (Kx.set j u).toArray n}:=by
 simp[Obj.mapSeq]
theorem Inv.lst {Ku:P' (P5×Obj)}{σ:St}{H:Hp}{s:P4}{p:P5}{xs:P' V} (I:Inv X Ku σ H s) (h:H p=some (.lst xs)):
  ∃(Kx:P' P3) (n:Nat),ap xs Kx/\s.heap.get? p=some {cls:= .type "list",data:= .seq Kx.toArray n}/\xs.length<=sizeLine:=by
 obtain⟨z,Kx,n,r,e⟩:=I.hok p _ h;exact⟨Kx,n,r,e,z⟩
theorem Inv.lstUpd {σ:St}{p:P5}{ys:P' V}{Kx its':P' P3}{n n':Nat}{f:Obj->Obj} (I:Inv X Ku σ H s) (h:H p=some (.lst xs))
  (ho:s.heap.get? p=some {cls:= .type "list",data:= .seq Kx.toArray n}) (hf:f {cls:= .type "list",data:= .seq Kx.toArray n}={cls:= .type "list",data:= .seq its'.toArray n'}) (r:ap ys its') (hz:ys.length<=sizeLine) (t:Nat):
  Inv X Ku σ (upd H p (.lst ys)) {s with heap:=s.heap.update p f,toks:=t}:=by
 have e:(s.heap.update p f).get? p=some {cls:= .type "list",data:= .seq its'.toArray n'}:=by
  rw[CB f ho (by rw[hf]<;>rfl),hf]
 refine I.write (x:=p) (e:=p) (by rw[h];trivial) (.inl rfl) (λb u hb q=>(Heap.get?_update_other _ _ (D4 hb)).trans q) ⟨_,e⟩ ?_;exact⟨hz,its',n',r,e⟩
inductive rSetL (o:V) (i:V) (v:V) (H:Hp) (Q:(Hp->Prop)):Prop
 |mk p xs k j:o= .ref p->i= .int k->H p=some (.lst xs)->ixN xs.length k=some j->Q (upd H p (.lst (xs.set j v)))->rSetL o i v H Q
theorem iT:mf X rSetL:=by
 intro Ku s σ H o i v ov iv u Q I ro ri rv h;obtain⟨p,xs,k,j,rfl,rfl,hp,hj,q⟩:=h;cases ro;obtain⟨t,rfl⟩:=ri;obtain⟨Kx,n,r,ho,hz⟩:=I.lst hp;obtain⟨h1,h2,h3,h4⟩:=rF hj;have hl:=r.length;have hn:=gc;have I':Inv X Ku σ (upd H p (.lst (xs.set j v))) {s with heap:=s.heap.update p (Obj.mapSeq (·.setIfInBounds j u))}:=
  I.lstUpd hp ho (zN Kx n j u) (r.set rv j) (by rw[Bi];exact hz) s.toks
 by_cases h0:0<=k
 .have hk:k.toNat=j:=by
   rw[seqIndex_of h0 h4] at h1;exact Ae h1
  exact W.ki_setAt ho h0 (by lia) (by rw[AF,<-hl];exact h4) (by rw[hk];exact⟨_,I',q⟩)
 .have hk:(k+(Kx.toArray.size:Int)).toNat=j:=by
   rw[seqIndex_neg (by lia) h3] at h1;rw[AF,<-hl];exact Ae h1
  exact W.ki_setBack ho (by lia) (by rw[AF,<-hl];exact h3) (by lia) (by rw[hk];exact⟨_,I',q⟩)
theorem zO (lo hi:Qc Int) (n:Nat):(sliceBounds lo hi none n).1=((HT.sIx n 0 lo:Nat):Int)/\(sliceBounds lo hi none n).2.1=((HT.sIx n n hi:Nat):Int)/\(sliceBounds lo hi none n).2.2=1:=by
 refine⟨?_, ?_,rfl⟩
 .cases lo with
  |none=>simp[sliceBounds,HT.sIx]
  |some i=>
   simp only[sliceBounds,HT.sIx,Option.getD_none,show(1:Int)>0 by decide,C5];by_cases h:i<0
   .simp only[h,C5]<;>lia
   .simp only[h,Av]<;>lia
 .cases hi with
  |none=>simp[sliceBounds,HT.sIx]
  |some i=>
   simp only[sliceBounds,HT.sIx,Option.getD_none,show(1:Int)>0 by decide,C5];by_cases h:i<0
   .simp only[h,C5]<;>lia
   .simp only[h,Av]<;>lia
theorem zP (Kx:P' P3) (lo hi:Qc Int):slicePick Kx.toArray lo hi none=((Kx.drop (HT.sIx Kx.length 0 lo)).take (HT.sIx Kx.length Kx.length hi-HT.sIx Kx.length 0 lo)).toArray:=by
 obtain⟨h1,h2,h3⟩:=zO lo hi Kx.toArray.size;unfold slicePick;rw[h1,h2,h3];simp only[sliceRange_one,pick_run,AF]<;>rfl
inductive rSlL (K:W.Frag) (x:V) (lo:Option Int) (hi:Option Int) (H:Hp) (Q:VK):Prop
 |mk a xs:x= .ref a->SqL K H a xs->(∀p,H p=none->Q (.ref p) (upd H p (.lst (cr xs lo hi))))->rSlL K x lo hi H Q
theorem gL:SlR X (rSlL X.K):=by
 intro Ku s σ H x v vl vu lo hi sl Q I rx hs pl pu h;obtain⟨a,xs,rfl,hx,q⟩:=h;cases rx;obtain⟨Kx,r,ht,hz⟩:=I.list hx;have Kz:=r.length;refine⟨"list",_,slot_list_getitem.lookup,ht.isList.typeIs, ?_⟩;refine wpAny_getItem_list_slice ht.isList hs pl pu .none (by simp) ?_ (by rw[AF]<;>lia)
 rw[zP,<-Kz];refine⟨.ref s.heap.objs.size,_,I.laid (t':=s.toks) (o:= .lst (cr xs lo hi)) (λb ob q=>A5 _ q) (A8 _) ?_,rfl,q _ (I.hok.fresh (A8 _))⟩;exact⟨As (rE xs lo hi) hz,_,0,(r.drop (HT.sIx xs.length 0 lo)).take (HT.sIx xs.length xs.length hi-HT.sIx xs.length 0 lo),AI _ rfl⟩
theorem dA:bz X (.builtin "len") (λxs H Q=>∃p ys,xs=[.ref p]/\(SqL X.K H p ys\/SqT X.K H p ys)/\Q (.int ys.length) H):=by
 intro Ku s σ H xs us Q I r h;obtain⟨p,ys,rfl,hq,q⟩:=h;obtain⟨u,rfl,rx⟩:=cO r;cases rx;have hn:=gc;rcases hq with hq|hq
 .obtain⟨Kx,r',pl,hz⟩:=I.list hq;have Kz:=r'.length;exact Calls.call_len_list pl.isList (by simp only[AF]<;>lia) ⟨.int ys.length,H,I.tok _,⟨s.toks+1,by rw[AF,Kz]⟩,q⟩
 .obtain⟨Kx,r',pl,hz⟩:=I.tuple hq;have Kz:=r'.length;exact len_tuple pl (by simp only[AF]<;>lia) ⟨.int ys.length,H,I.tok _,⟨s.toks+1,by rw[AF,Kz]⟩,q⟩
theorem rH:bz X (.type "list") (λxs H Q=>∃p ys,xs=[.ref p]/\(SqL X.K H p ys\/SqT X.K H p ys)/\∀l,H l=none->Q (.ref l) (upd H l (.lst ys))):=by
 intro Ku s σ H xs us Q I r h;obtain⟨p,ys,rfl,hq,q⟩:=h;obtain⟨u,rfl,rx⟩:=cO r;cases rx;have fin:∀(Kx:P' P3),ap ys Kx->ys.length<=sizeLine->∀(h':Qb) (c':Nat),(∀b o',s.heap.get? b=some o'->h'.get? b=some o')->
   h'.get? s.heap.objs.size=some {cls:= .type "list",dict:=none,data:= .seq Kx.toArray c',slots:= #[]}->EP X Ku σ Q (.ref s.heap.objs.size) {s with heap:=h'}:=λKx r' hz h' c' kp e=>
  ⟨.ref s.heap.objs.size,_,I.laid (t':=s.toks) kp (A8 _) (show aC X.prog X.w _ h' _ (.lst ys) from⟨hz,Kx,c',r',e⟩),rfl,q _ (I.hok.fresh (A8 _))⟩
 rcases hq with hq|hq
 .obtain⟨Kx,r',pl,hz⟩:=I.list hq;have Kz:=r'.length;obtain⟨o,ho,hc,n,hd⟩:=pl.isList;exact call_list_seq p (.inl rfl) ho hc hd (λh' c' kp e=>fin Kx r' hz h' c' kp e) (by simp only[AF]<;>lia)
 .obtain⟨Kx,r',pl,hz⟩:=I.tuple hq;have Kz:=r'.length;obtain⟨o,ho,hc,n,hd⟩:=pl;exact call_list_seq p (.inr rfl) ho hc hd (λh' c' kp e=>fin Kx r' hz h' c' kp e) (by simp only[AF]<;>lia)
theorem zQ:bz X (.type "tuple") (λxs H Q=>∃p ys,xs=[.ref p]/\((SqL X.K H p ys/\∀l,H l=none->Q (.ref l) (upd H l (.tup ys)))\/(SqT X.K H p ys/\Q (.ref p) H))):=by
 intro Ku s σ H xs us Q I r h;obtain⟨p,ys,rfl,h⟩:=h;obtain⟨u,rfl,rx⟩:=cO r;cases rx;rcases h with⟨hq,q⟩|⟨hq,q⟩
 .obtain⟨Kx,r',pl,hz⟩:=I.list hq;have Kz:=r'.length;refine call_tuple_list pl.isList (λh' kp=> ?_) (by simp only[AF]<;>lia)
  have I1:Inv X Ku σ H {s with heap:=h'}:=I.kept (t':=s.toks) kp;have I2:Inv X Ku σ (upd H h'.objs.size (.tup ys)) {s with heap:=h'.push {cls:= .type "tuple",data:= .seq Kx.toArray}}:=
   I1.laid (t':=s.toks) (λb o e=>A5 _ e) (A8 _) (show aC X.prog X.w _ _ _ (.tup ys) from⟨hz,Kx,r',IsTup.new _ _⟩)
  exact⟨.ref h'.objs.size,_,I2,rfl,q _ (I1.hok.fresh (A8 _))⟩
 .obtain⟨Kx,r',pl,hz⟩:=I.tuple hq;exact call_tuple_same pl ⟨.ref p,H,I,rfl,q⟩
def tyV (K:W.Frag) (T:String) (x:V) (H:Hp):Prop:=match x with
 | .str _=>T="str"
 | .int _=>T="int"
 | .ref p=>(T="list"/\∃xs,SqL K H p xs)\/(T="tuple"/\∃o,K.lookup p=some o/\o.cls= .type "tuple"/\o.dict=none)\/
   (T="dict"/\((∃Kv,H p=some (.dK Kv))\/∃Kv,H p=some (.dT Kv)))\/(T="set"/\∃S n,H p=some (.set S n))
 |_=>False
theorem rJ {σ:St}{T:String}{x:V}{v:P3} (I:Inv X Ku σ H s) (r:aw x v) (ty:tyV X.K T x H):
  s.TypeIs v T/\∀a,v= .ref a->∃ob,s.heap.get? a=some ob/\ob.dict=none:=by
 cases x with
 |str z=>
  obtain⟨t,rfl⟩:=r;cases (show T="str" from ty);exact⟨typeIs_str s z t,λ_ e=>nomatch e⟩
 |int i=>
  obtain⟨t,rfl⟩:=r;cases (show T="int" from ty);exact⟨typeIs_int s i t,λ_ e=>nomatch e⟩
 |ref p=>
  cases r;rcases ty with⟨rfl,xs,hq⟩|⟨rfl,o,hk,hc,hd⟩|⟨rfl,hk⟩|⟨rfl,S,n,hk⟩
  .obtain⟨Kx,_,pl,_⟩:=I.list hq;refine⟨pl.isList.typeIs,λa e=> ?_⟩;cases e;obtain⟨o,n,e,c,hd,_⟩:=pl;exact⟨o,e,hd⟩
  .refine⟨⟨o,I.kIn p o hk,hc⟩,λa e=> ?_⟩;cases e;exact⟨o,I.kIn _ o hk,hd⟩
  .have z:∃o,s.heap.get? p=some o/\o.ExactDict:=by
    rcases hk with⟨Kv,hk⟩|⟨Kv,hk⟩
    .obtain⟨_,_,_,_,o,_,_,e,ex,_⟩:=I.hok p _ hk;exact⟨o,e,ex⟩
    .obtain⟨_,_,_,_,o,_,_,e,ex,_⟩:=I.hok p _ hk;exact⟨o,e,ex⟩
   obtain⟨o,e,ex⟩:=z;refine⟨⟨o,e,ex.1⟩,λa e2=> ?_⟩;cases e2;exact⟨o,e,ex.2.1⟩
  .obtain⟨o,_,_,_,e,ex,_⟩:=I.hok p _ hk;refine⟨⟨o,e,ex.1⟩,λa e2=> ?_⟩;cases e2;exact⟨o,e,ex.2.1⟩
 |_=>exact False.elim ty
def zR (K:W.Frag) (T:String) (r:V->P' V->Hp->VK->Prop) (to:TE):TE:=λσ H Q=>to σ H λx H1=>tyV K T x H1/\r x [] H1 Q
def tBM (K:W.Frag) (T:String) (r:V->P' V->Hp->VK->Prop) (to:TE) (t:TA):TE:=λσ H Q=>to σ H λx H1=>tyV K T x H1/\t σ H1 λxs H2=>r x xs H2 Q
variable {o e:Qa}{es:P' Qa}{to:TE}{t:TA}{name:Str}{KR KH:Pos}{T id:String}{r:V->P' V->Hp->VK->Prop}
theorem rK (pa:PlainAttrs T) (slot:Slot T name id) (hty:typeOf (.builtin id)=pure (.type "method_descriptor")) (hm:MtR X id r) (ho:PE X o to)
  (Mp:attributeBase o name X.env (eval o X.env)=eval o X.env:=by rfl) (Mq:(KR.endLine==KH.line)=true:=by rfl):PE X (.Call (.Attribute o name KR) [] [] KH) (zR X.K T r to):=by
 intro Ku s σ H Q I h;refine wpAny_Call_method0_late Mp Mq (thn (ho Ku s σ H _ I h) λv s1 zu39=> ?_);obtain⟨x,H1,I1,r1,ty,q1⟩:=zu39;obtain⟨h1,h2⟩:=rJ I1 r1 ty;exact⟨T,id,pa,slot,hty,h1,h2,DC rfl (PySem.evalArgs_none (hm Ku s1 σ H1 x [] v [] Q I1 r1 .nil q1))⟩
theorem cu (pa:PlainAttrs T) (slot:Slot T name id) (hty:typeOf (.builtin id)=pure (.type "method_descriptor")) (hm:MtR X id r) (ho:PE X o to) (ha:PA X (e::es) t)
  (Mp:attributeBase o name X.env (eval o X.env)=eval o X.env:=by rfl)
  (hfew:((backTo KH (starEach (e::es) X.env)).all (λx=> !x.1)&&(backToKw KH (keywordEach [] X.env)).all (λx=>x.1.isSome)
   &&decide ((e::es).length+([]:P' Keyword).length+(if([]:P' Keyword).isEmpty then 0 else 1)<30))=true:=by rfl)
  (Mq:(KR.endLine==KH.line)=true:=by rfl) (hs:starEach (e::es) X.env=(false,eval e X.env)::starEach es X.env:=by rfl) (O3:(backTo KH (starEach es X.env)).any (·.1)=false:=by rfl):
  PE X (.Call (.Attribute o name KR) (e::es) [] KH) (tBM X.K T r to t):=by
 intro Ku s σ H Q I h;refine wpAny_Call_method_late Mp hfew Mq rfl (thn (ho Ku s σ H _ I h) λv s1 zu40=> ?_);obtain⟨x,H1,I1,r1,ty,q1⟩:=zu40;obtain⟨h1,h2⟩:=rJ I1 r1 ty;refine⟨T,id,pa,slot,hty,h1,h2, ?_⟩;have hA:=ha KH Ku s1 σ H1 _ I1 q1;rw[hs] at hA⊢;refine DC (by show(false||(backTo KH (starEach es X.env)).any (·.1))=false;rw[O3]<;>rfl) (Calls.evalArgs_plain ?_)
 exact thn hA λus s2 KJ=>by obtain⟨vs,H2,I2,r2,q2⟩:=KJ;exact hm Ku s2 σ H2 x vs v us Q I2 r1 r2 q2
end
def MtM (X:Cx) (id:String) (r:V->P' V->Hp->VK->Prop):Prop:=
 ∀(Ku:P' (P5×Obj)) (s:P4) (σ:St) (H:Hp) (x:V) (xs:P' V) (v:P3) (us:P' P3) (Q:VK),Inv X Ku σ H s->aw x v->ap xs us->r x xs H Q->
  wpAny (model X.prog X.w) X.A (call (.builtin id) (v::us)) (EP X Ku σ Q) X.xe s
def ap.one:∀{x:V}{us:P' P3},ap [x] us->∃u,us=[u]/\aw x u
 |_,_, .cons r .nil=>⟨_,rfl,r⟩
def ap.zero:∀{us:P' P3},ap [] us->us=[]
 |_, .nil=>rfl
theorem ap.dropLast {xs:P' V}{us:P' P3} (h:ap xs us):ap xs.dropLast us.dropLast:=by
 induction h with
 |nil=>exact .nil
 |cons r t ih=>
  cases t with
  |nil=>exact .nil
  |cons q t'=>exact .cons r ih
theorem ap.rep {xs:P' V}{us:P' P3} (h:ap xs us):∀k:Nat,ap (List.replicate k xs).flatten (List.replicate k us).flatten
 |0=> .nil
 |k+1=>by
  rw[Ap,Ap,CQ,CQ];exact ap.append h (ap.rep h k)
theorem zS {α:Type} (l:P' α):l.eraseIdx (l.length-1)=l.dropLast:=by
 induction l with
 |nil=>rfl
 |cons a r ih=>
  cases r with
  |nil=>rfl
  |cons b r=>
   have e:(a::b::r).length-1=((b::r).length-1)+1:=by
    have h1:(a::b::r).length=r.length+2:=rfl;have h2:(b::r).length=r.length+1:=rfl;lia
   rw[e,List.eraseIdx_cons_succ,ih];all_goals rfl
theorem rL (Kx:P' P3):∀(k:Nat) (acc:P' P3),
  List.foldl (λx1 x2=>x1++x2) acc.toArray (List.replicate k Kx.toArray)=(acc++(List.replicate k Kx).flatten).toArray
 |0,acc=>by simp
 |k+1,acc=>by
  have e:acc.toArray++Kx.toArray=(acc++Kx).toArray:=by simp
  have e2:(acc++Kx)++(List.replicate k Kx).flatten=acc++(List.replicate (k+1) Kx).flatten:=by
   rw[Ap,CQ,B0]
  rw[<-e2,<-rL Kx k (acc++Kx),<-e,Ap,Bj]
section
variable {X:Cx}{Ku:P' (P5×Obj)}{σ:St}{H:Hp}{s:P4}{l b:P5}{xs ys zs:P' V}
theorem Inv.lset {Kx its':P' P3}{n:Nat}{f:Array P3->Array P3}{t':Nat} (I:Inv X Ku σ H s) (hH:H l=some (.lst xs))
  (e:s.heap.get? l=some {cls:= .type "list",data:= .seq Kx.toArray n}) (hf:f Kx.toArray=its'.toArray) (hv:ap ys its') (hz:ys.length<=sizeLine):
  Inv X Ku σ (upd H l (.lst ys)) {s with heap:=s.heap.update l (Obj.mapSeq f),toks:=t'}:=by
 have q:=PySem.IsL.update e f;rw[hf] at q;refine I.write (x:=l) (e:=l) (by rw[hH];exact trivial) (.inl rfl) (λb' u hb hu=>(Heap.get?_update_other s.heap (Obj.mapSeq f) (D4 hb)).trans hu) ⟨_,q⟩ ?_;exact⟨hz,its',_,hv,q⟩
def Inv.lnew {Kx:P' P3}{t':Nat} (I:Inv X Ku σ H s) (hv:ap ys Kx) (hz:ys.length<=sizeLine):
  Inv X Ku σ (upd H s.heap.objs.size (.lst ys)) {s with heap:=s.heap.push {cls:= .type "list",data:= .seq Kx.toArray},toks:=t'}:=
 I.laid (λ_ _ q=>A5 _ q) (A8 _) ⟨hz,Kx,0,hv,AI _ rfl⟩
theorem Inv.fresh (I:Inv X Ku σ H s):H s.heap.objs.size=none:=I.hok.fresh (A8 _)
theorem Inv.lstM (I:Inv X Ku σ H s) (hH:H l=some (.lst xs)):xs.length<=sizeLine/\∃(Kx:P' P3) (n:Nat),ap xs Kx/\xs.length=Kx.length/\s.heap.get? l=some {cls:= .type "list",data:= .seq Kx.toArray n}:=by
 obtain⟨z,Kx,n,r,e⟩:=I.hok l _ hH;exact⟨z,Kx,n,r,r.length,e⟩
theorem rM (h:n<=sizeLine):Builtin.List.listTooLong n=false:=by
 unfold Builtin.List.listTooLong;exact Am (by lia)
end
section
variable {X:Cx}
inductive rAppend (x:V) (vs:List V) (H:Hp) (Q:VK):Prop
 |mk l xs y:x= .ref l->vs=[y]->H l=some (.lst xs)->xs.length<sizeLine->Q .non (upd H l (.lst (xs++[y])))->rAppend x vs H Q
theorem dB:MtM X "list.append" rAppend:=by
 intro Ku s σ H x vs v us Q I rx rv h;obtain⟨l,xs,y,rfl,rfl,hH,hz,q⟩:=h;cases rx;obtain⟨u,rfl,ru⟩:=rv.one;obtain⟨z,Kx,n,r,hl,e⟩:=I.lstM hH;refine DV F.slot_list_append ⟨_,e,rfl⟩ F.entry_list_append (F.args_list_append_2 _ _) (PySem.list_append l Kx.toArray n u (by rw[AF];lia)) ⟨e, ?_⟩;refine⟨.non,_,I.lset (its':=Kx++[u]) hH e (by simp) (r.append (.cons ru .nil)) ?_,rfl,q⟩;rw[AC,BX];lia
inductive rExtend (x:V) (vs:List V) (H:Hp) (Q:VK):Prop
 |mk l b xs zs:x= .ref l->vs=[.ref b]->H l=some (.lst xs)->H b=some (.lst zs)->xs.length+zs.length<=sizeLine->Q .non (upd H l (.lst (xs++zs)))->rExtend x vs H Q
theorem iU:MtM X "list.extend" rExtend:=by
 intro Ku s σ H x vs v us Q I rx rv h;obtain⟨l,b,xs,zs,rfl,rfl,hH,hB,hz,q⟩:=h;cases rx;obtain⟨u,rfl,ru⟩:=rv.one;cases ru;obtain⟨z,Kx,n,r,hl,e⟩:=I.lstM hH;obtain⟨z2,Mb,n2,r2,KQ,e2⟩:=I.lstM hB;have hsz:Kx.toArray.size+Mb.toArray.size<=sizeLine:=by rw[AF,AF];lia
 have Nb:¬(!Kx.toArray.isEmpty&&Builtin.List.listTooLong (Kx.toArray.size+Mb.toArray.size))=true:=by
  rw[rM hsz,CV];exact AX
 refine DV F.slot_list_extend ⟨_,e,rfl⟩ F.entry_list_extend (F.args_list_extend_2 _ _)
  (AutoSeq1.list_extend_list_list_0 l Kx.toArray n b Mb.toArray n2 Nb (by rw[AF];lia) (by lia)) ⟨e,e2, ?_⟩
 refine⟨.non,_,I.lset (its':=Kx++Mb) hH e (by simp) (r.append r2) ?_,rfl,q⟩;rw[AC];lia
inductive rPop (x:V) (vs:List V) (H:Hp) (Q:VK):Prop
 |mk l xs y:x= .ref l->vs=[]->H l=some (.lst xs)->xs[xs.length-1]? =some y->Q y (upd H l (.lst xs.dropLast))->rPop x vs H Q
theorem rN:MtM X "list.pop" rPop:=by
 intro Ku s σ H x vs v us Q I rx rv h;obtain⟨l,xs,y,rfl,rfl,hH,hy,q⟩:=h;cases rx;have hus:=rv.zero;subst hus;obtain⟨z,Kx,n,r,hl,e⟩:=I.lstM hH;obtain⟨u,hu,ru⟩:=r.get hy;have LZ:Kx.toArray[Kx.toArray.size-1]? =some u:=by
  show Kx.toArray[Kx.length-1]? =some u;rw[<-BN,<-hl];exact hu
 refine DV F.slot_list_pop ⟨_,e,rfl⟩ F.entry_list_pop (F.args_list_pop_1 _) (MeetsSeq.list_pop_last l Kx.toArray n u LZ (by rw[AF];lia)) ⟨e, ?_⟩;refine⟨y,_,I.lset (its':=Kx.dropLast) hH e ?_ r.dropLast ?_,ru,q⟩
 .show Kx.toArray.eraseIdxIfInBounds (Kx.toArray.size-1)=Kx.dropLast.toArray;rw[AF,List.eraseIdxIfInBounds_toArray,zS]
 .rw [List.length_dropLast];lia
inductive rCat (x:V) (y:V) (H:Hp) (Q:VK):Prop
 |mk l b xs zs:x= .ref l->y= .ref b->H l=some (.lst xs)->H b=some (.lst zs)->xs.length+zs.length<=sizeLine->(∀p,H p=none->Q (.ref p) (upd H p (.lst (xs++zs))))->rCat x y H Q
theorem gM:OpR X (binaryOp .Add) rCat:=by
 intro Ku s σ H x y v u Q I rx ry h;obtain⟨l,b,xs,zs,rfl,rfl,hH,hB,hz,q⟩:=h;cases rx;cases ry;obtain⟨z,Kx,n,r,hl,e⟩:=I.lstM hH;obtain⟨z2,Mb,n2,r2,KQ,e2⟩:=I.lstM hB;refine PySem.P.add_list e e2 ?_ (by rw[AF,AF];lia);have ea:Kx.toArray++Mb.toArray=(Kx++Mb).toArray:=by simp
 rw[ea];exact⟨.ref _,_,I.lnew (t':=s.toks) (r.append r2) (by rw[AC];lia),rfl,q _ I.fresh⟩
inductive rRep (x:V) (y:V) (H:Hp) (Q:VK):Prop
 |mk l k xs:x= .ref l->y= .int k->H l=some (.lst xs)->-(2^63)<=k->k<2^63->xs.length*k.toNat<=sizeLine->(∀p,H p=none->Q (.ref p) (upd H p (.lst (List.replicate k.toNat xs).flatten)))->rRep x y H Q
theorem zT {α:Type} (xs:P' α) (k:Nat):(List.replicate k xs).flatten.length=k*xs.length:=by
 induction k with
 |zero=>simp
 |succ k ih=>rw[Ap,CQ,AC,ih,CY,Nat.add_comm]
theorem iV:OpR X (binaryOp .Mult) rRep:=by
 intro Ku s σ H x y v u Q I rx ry h;obtain⟨l,k,xs,rfl,rfl,hH,h1,h2,hz,q⟩:=h;cases rx;obtain⟨t,rfl⟩:=ry;obtain⟨z,Kx,n,r,hl,e⟩:=I.lstM hH;have Kz:Kx.toArray.size*k.toNat<=sizeLine:=by rw[AF,<-hl];exact hz
 have MB:¬Kx.toArray.size*k.toNat>(2^63-1)/8:=by
  have:(sizeLine:Nat)<=(2^63-1)/8:=by decide
  lia
 have hfit:¬(!Builtin.List.listFitsIndex k)=true:=by
  rw[fitsIndex_both h1 h2];exact AX
 have Nb:¬Builtin.List.listTooLong (Kx.toArray.size*k.toNat)=true:=by
  rw[rM Kz];exact AX
 have O4:List.foldl (λx1 x2=>x1++x2) #[] (List.replicate (if Kx.toArray.isEmpty=true then 0 else k.toNat) Kx.toArray)=(List.replicate k.toNat Kx).flatten.toArray:=by
  have f0:∀m:Nat,List.foldl (λx1 x2=>x1++x2) #[] (List.replicate m Kx.toArray)=(List.replicate m Kx).flatten.toArray:=λm=>by
   have:=rL Kx m [];rw[DD] at this;exact this
  rw[f0];cases Kx with
  |nil=>simp
  |cons a r'=>rw[A6 (by simp)]
 refine wpAny_binaryOp_repeat_ref (T:="list") (U:="int") (by decide) ⟨_,e,rfl⟩ (λs'=>typeIs_int s' k t) noFill_list_mul F.fills_int_mul F.slot_int_rmul repeat_list F.slot_int_index.lookup
  (DV F.slot_int_rmul (typeIs_int s k t) F.entry_int_rmul (F.args_int_rmul_2 _ _) (int___rmul___int_list k t l Kx.toArray n)
   ⟨e,rfl,⟨_,e,rfl⟩,DV F.slot_list_mul ⟨_,e,rfl⟩ F.entry_list_mul (F.args_list_mul_2 _ _) (AutoListH.list___mul___list_int_3 l Kx.toArray n k t hfit MB Nb) ⟨e, ?_⟩⟩)
 rw[O4];exact⟨.ref _,_,I.lnew (t':=s.toks) (r.rep k.toNat) (by rw[zT,Nat.mul_comm];exact hz),rfl,q _ I.fresh⟩
end
end L2
namespace Att
open PySem PySem.W PySem.Calls PyProof.Rows
variable {P:Params}{h:Qb}{l:OpenLaw}{n:Nat}
theorem zU :∀(ns:P' Int) (vs:P' P3),WellAll P h vs (ns.map WData.int)->IntsAre vs ns:=by
 intro ns;induction ns with
 |nil=>
  intro vs w;rw[DP] at w;cases w;exact .nil
 |cons n ns ih=>
  intro vs w;rw[AW] at w;cases w with
  |cons a b=>
   cases a;exact .cons _ _ (ih _ b)
theorem zV (hn:l.most=some n) {args:P' WData}{O5:P' P3}
  (N2:l.row.toRowW.claim.pre args=true) (hwl:WellAll P h O5 args):
  ∃a vs ns,O5=[Value.ref a]/\args=[WData.list (ns.map WData.int)]/\h.get? a=some {cls:= .type "list",data:= .seq vs.toArray}/\IntsAre vs ns/\ns.length<=n:=by
 have O6:WShape.hasAll [] args [.list .int]=true:=(pre_splitW N2).1;have hc:l.pre.holds [] {args:=args}=true:=(pre_splitW N2).2;obtain⟨d,r,rfl,h1,h2⟩:=hasAllW_cons O6;obtain rfl:=hasAllW_nil h2;obtain⟨xs,rfl,h3⟩:=hasW_list h1;obtain⟨ns,rfl⟩:=items_int h3;have Kz:ns.length<=n:=by
  unfold OpenLaw.pre at hc;have h4:(WTm.not (.lt (.lit (.int (n:Int))) (.len (.arg 0)))).holds [] {args:=[.list (ns.map .int)]}=true:=by
   have h4:=(holds_andW hc).1;rw[hn] at h4;exact h4
  have h5:=condW_of h4 (w_not (w_lt w_lit (w_len_list (w_arg rfl))));rw[A1] at h5;refine Nat.le_of_not_lt λq=> ?_;have q':(n:Int)<((ns.length:Nat):Int):=by lia
  first
   |(rw[BA q'] at h5;exact absurd h5 (by decide))
   |(simp at h5;lia)
 cases hwl with
 |cons w1 w2=>
  cases w2;cases w1 with
  |list ho Lc=>exact⟨_,_,ns,rfl,rfl,ho,zU ns _ Lc,Kz⟩
theorem zW (l:OpenLaw) (args:P' WData):l.row.toRowW.claim.post args (.bool true) args=true:=
 postW_of (r:=l.row.toRowW) (X:=(true==true))
  (show WShape.has [] (.bool true) .bool=true by first|rfl|decide|simp[WShape.has,WShape.arms,WShape.armsAll])
  (show(WTm.eq .res (.lit (.bool true))).value [] {args:=args,res:=some (.bool true),after:=args}=some (.bool (true==true)) from w_eq_bool (w_res rfl) w_lit) rfl
theorem attach_call {q:P6}{L6:P' Str}{XP:(Str->Qc P3)->Qb->Prop}{YP:P8->Qb->Prop}{d:DefRec}
  (hn:l.most=some n) (hdf:d.params.defaults=[])
  (call:∀(w:P8) (s₀ s₁:P4) (mg mb:Str->Qc P3) (fa:P5) (o:Obj) (pm cd Ma:P3) (a:P5) (vs:P' P3) (ns:P' Int),
   Ground q L6 [] XP w s₀ mg mb s₁.heap->YP w s₁.heap->
   s₁.heap.get? fa=some o->o.data= .func (docDef d.name d.params d.body d.scope pm cd Ma)->s₁.heap.CodeRec cd d.name->mg d.name=some (.ref fa)->
   s₁.heap.get? a=some {cls:= .type "list",data:= .seq vs.toArray}->IntsAre vs ns->ns.length<=n->s₁.gens= #[]->
   codeAny (model l.prog w) callerA (.call (.ref fa) ⟨[.ref a],[]⟩) (λr s'=>r= .ok (.ret (.bool true))/\OldK s₁.heap s'.heap/\s'.os=s₁.os/\AllBare s'.gens) s₁):
  WalkO q L6 XP YP l.row.toRowW d [] (λf vs=>PySem.call f vs):=by
 intro w s₀ s₁ mg mb G Y fa o pm cd Ma dV kV ho hd MQ hD hmg hg args O5 as N2 hlay hrd hwl My;obtain rfl:dV= .none:=Dflts.none hD hdf;obtain rfl:kV= .none:=Dflts.noKw hD;obtain⟨a,vs,ns,rfl,rfl,O7,Nc,Kz⟩:=zV hn N2 hwl;refine enter_call (D7 (call w s₀ s₁ mg mb fa o pm cd Ma a vs ns G Y ho (fd_plain hd) MQ hmg O7 Nc Kz hg) λr s' hq=> ?_);obtain⟨rfl,h2,h3,h4⟩:=hq;exact⟨.inl ⟨.bool true, .bool true,[],rfl,λ_=>rfl, .bool true,zW l _,λ_=>⟨List.Pairwise.nil,λ_ hm=>(nomatch hm)⟩⟩,h2,h3,h4⟩
section
variable {prog:P6}{w:P8}{A:P9}{E:P3->P4->Prop}{s:P4}{K:Frag}
def Kr (h:Qb) (L d:P5):P' (P5×Obj):=(List.range h.objs.size).filterMap λa=>if a=L\/a=d then none else(h.get? a).map λo=>(a,o)
end
end Att
namespace L2
open PySem PySem.Spec PyProof.Rows
variable {A B c:Prop}{E Q:P3->P4->Prop}{H H' H1:Hp}{K:W.Frag}{KC x:Str}{Ku:P' (P5×Obj)}{Kv:P' (P' Key×V)}{LG:List Expr}{LU:Expr}{N ps:P' Str}{Nf pos py:Pos}{P:P6}{X:Cx}{a acc b f l:P5}{d i n own:Nat}{e:Bool}{env:Env}{fd:P7}{g:TG}{h':Qb}{j:Int}{js:P' Nat}{o:Qc V}{s:P4}{scope:Scope}{st:Qd}{te:TE}{tg:Qa}{u:P3}{v y:V}{w:P8}{xs:P' (P' Key×P5×P3)}
theorem rO:∀{vs:P' P3}{ns:P' Int},IntsAre vs ns->ap (ns.map V.int) vs
 |_,_, .nil=> .nil
 |_,_, .cons n t h=> .cons ⟨t,rfl⟩ (rO h)
def mx (H:Hp):Prop:=∀b,H b=none\/∃o xs,H b=some (.frz o (.lst xs))
theorem zX {P:P6}{w:P8}{mg mb:Str->Qc P3}{CX:CXT}{k:Nat}{fa:P5}{fd:P7}{sp:Sp}{s₁:P4}{vs:P' P3}{ns:P' Int}
  (KX:K.In s₁.heap) (Oz:s₁.heap.Ns mainGlobals mg) (hb:s₁.heap.Ns builtinsNs mb) (Nd:∀x:Str,x≠"__name__"->mb x=bootBuiltins x) (hlim:s₁.heap.NoLimit) (hg:s₁.gens= #[])
  (ha:s₁.heap.get? a=some {cls:= .type "list",data:= .seq vs.toArray}) (hi:IntsAre vs ns) (hl:ns.length<=sizeLine) (hr:Room k callerA)
  (F:∀base:Qb,K.In base->base.Ns mainGlobals mg->FnOk P w K mg base CX k fa fd [x] sp) (hbind:∀(s:P4) (u:P3),BindsTo s fd ⟨[u],[]⟩ [(x,u)])
  (MT:∀H:Hp,mx H->SqL K H a (ns.map V.int)->sp [.ref a] H (λv _=>v= .bl true) λ_ _ _=>False)
  (hCX:∀H e s',CX [] H s₁ (λ_ _ _=>False) e s'->False):
  codeAny (model P w) callerA (.call (.ref fa) ⟨[.ref a],[]⟩) (λr s'=>r= .ok (.ret (.bool true))/\OldK s₁.heap s'.heap/\s'.os=s₁.os/\AllBare s'.gens) s₁:=by
 have rv:=rO hi;have lenV:=hi.length;have core:∀H:Hp,mx H->SqL K H a (ns.map V.int)->HOk P w H s₁.heap->(∀b,H b≠none->b=a)->(H a≠none->K.lookup a=none)->
   codeAny (model P w) callerA (.call (.ref fa) ⟨[.ref a],[]⟩) (λr s'=>r= .ok (.ret (.bool true))/\OldK s₁.heap s'.heap/\s'.os=s₁.os/\AllBare s'.gens) s₁:=by
  intro H hO hS hok hA hK;have base_of:∀{b:P5}{o:Obj},s₁.heap.get? b=some o->H b=none->(eQ s₁.heap H).get? b=some o:=λe n=>yt e n;have noA:∀{b:P5}{o:Obj}{es:Array DictEntry}{ep:Nat},s₁.heap.get? b=some o->o.data= .dict es ep->H b=none:=fun{b o es ep} e d=>by
   cases q:H b with
   |none=>rfl
   |some u=>
    have e':b=a:=hA b (by rw[q];simp);subst e';rw[ha] at e;cases e;have d':Data.seq vs.toArray _=Data.dict es ep:=d;cases d'
  have nsK:∀{b:P5}{m:Str->Qc P3},s₁.heap.Ns b m->(eQ s₁.heap H).Ns b m:=fun{b m} KJ=>by obtain⟨o,es,ep,e,d,r⟩:=KJ;exact⟨o,es,ep,base_of e (noA e d),d,r⟩
  have hKb:K.In (eQ s₁.heap H):=λb o e=>base_of (KX b o e) (by
   cases q:H b with
   |none=>rfl
   |some u=>
    have e':b=a:=hA b (by rw[q];simp);subst e';rw[hK (by rw[q];simp)] at e;cases e)
  have hM:Mod K mg (eQ s₁.heap H):=⟨hKb,nsK Oz,⟨mb,nsK hb,Nd⟩,let ⟨mc,h1,h2⟩:=hlim;⟨mc,nsK h1,h2⟩⟩;have e0:Env0 P w K mg (eQ s₁.heap H) callerA [] s₁ H:=⟨rfl,hM,λb o e=>yu e,Nat.le_of_eq (yr _ _),trivial,λb hb=>absurd (show b∈([]:P' P5) from hb) (by simp),hok, .of_eq hg⟩;refine D7 ((F _ hKb (nsK Oz)).run callerA [] s₁ H ⟨[.ref a],[]⟩ [.ref a] [.ref a] _ _ hr e0 (hbind s₁ (.ref a)) (.cons rfl .nil) (MT H hO hS)) λr s' h=> ?_;cases r with
  |error e=>exact(hCX H e s' h).elim
  |ok fl=>
   cases fl with
   |next=>exact False.elim h
   |brk=>exact False.elim h
   |cont=>exact False.elim h
   |ret u=>
    obtain⟨v,H',os,bare,un,hok',r',q⟩:=h;have q':v= .bl true:=q;subst q';obtain rfl:u=Value.bool true:=r';refine⟨rfl,OldK.of_keep λb o e=> ?_,os,bare⟩;cases q:H b with
    |none=>exact un.keep b o e q (by intro z;exact absurd (show b∈([]:P' P5) from z) (by simp)) (by simp)
    |some u=>
     rcases hO b with z|⟨ob,xs,z⟩
     .rw [q] at z;cases z
     .have z2:=un.frzs b ob _ z;obtain⟨e1,_⟩:=hok b _ z;obtain⟨e2,_⟩:=hok' b _ z2;rw[e] at e1;cases e1;exact e2
 cases hk:K.lookup a with
 |some o=>
  have e:=KX a o hk;rw[ha] at e;cases e;refine core (λ_=>none) (λ_=> .inl rfl) (.inr ⟨_,vs.toArray,_,hk,rfl,rfl,rfl,by rw[AF,lenV];exact hl,by simpa using rv⟩) (λb u z=>by have z':(none:Qc HO)=some u:=z;cases z') (λb z=>absurd rfl z) λz=>absurd rfl z
 |none=>
  refine core (λb=>if b=a then some (.frz {cls:= .type "list",data:= .seq vs.toArray} (.lst (ns.map V.int))) else none) (λb=> ?_) (.inl (.inr ⟨{cls:= .type "list",data:= .seq vs.toArray},AB rfl⟩)) (λb u z=> ?_) (λb z=> ?_) λ_=>hk
  .by_cases hb:b=a
   .exact .inr ⟨_,_,AB hb⟩
   .exact .inl (A6 hb)
  .by_cases hb:b=a
   .have z':=(AB hb).symm.trans z;cases z';subst hb;exact⟨ha,by rw[A1];exact hl,vs,_,rv,ha⟩
   .have z':=(A6 hb).symm.trans z;cases z'
  .by_cases hb:b=a
   .exact hb
   .exact absurd (A6 hb) z
theorem zY {l:W.OpenLaw}{k:Nat}{q:P6}{L6:P' Str}{XP:(Str->Qc P3)->Qb->Prop}{YP:P8->Qb->Prop}{d:DefRec}{K:Params->W.Frag}{CX:P8->CXT}{sp:P8->Sp}
  (hn:l.most=some n) (NN:n<=sizeLine) (hdf:d.params.defaults=[]) (hr:Room k callerA)
  (hY:∀(w:P8) (h:Qb),YP w h->(K w.params).In h)
  (F:∀(w:P8) (mg:Str->Qc P3) (fa:P5) (h:Qb),(K w.params).In h->h.Ns mainGlobals mg->mg d.name=some (.ref fa)->
   ∃fd:P7,(∀(s:P4) (u:P3),BindsTo s fd ⟨[u],[]⟩ [(x,u)])/\
    ∀base:Qb,(K w.params).In base->base.Ns mainGlobals mg->FnOk l.prog w (K w.params) mg base (CX w) k fa fd [x] (sp w))
  (MT:∀(w:P8) (H:Hp) (a:P5) (ns:P' Int),ns.length<=n->mx H->SqL (K w.params) H a (ns.map V.int)->sp w [.ref a] H (λv _=>v= .bl true) λ_ _ _=>False)
  (hCX:∀(w:P8) (H:Hp) (s:P4) (e:P3) (s':P4),CX w [] H s (λ_ _ _=>False) e s'->False):
  W.WalkO q L6 XP YP l.row.toRowW d [] (λf vs=>PySem.call f vs):=by
 refine Att.attach_call hn hdf λw s₀ s₁ mg mb fa o pm cd Ma a vs ns G Y ho hd MQ hmg O7 Nc Kz hg=> ?_;have KX:=hY w _ Y;obtain⟨fd,hb,hF⟩:=F w mg fa _ KX G.T.g hmg;exact zX KX G.T.g G.T.b G.T.builtins G.T.nolimit hg O7 Nc (As Kz NN) hr hF hb (λH hO hS=>MT w H a ns Kz hO hS) λH e s'=>hCX w H s₁ e s'
def dC (s:Qd):Arguments:=match s with
 | .FunctionDef _ a _ _ _ _ _ _ _ _=>a
 |_=>{posonlyargs:=[],args:=[],vararg:=none,kwonlyargs:=[],kw_defaults:=[],kwarg:=none,defaults:=[]}
def cI (s:Qd):P' Qd:=match s with
 | .FunctionDef _ _ b _ _ _ _ _ _ _=>b
 |_=>[]
def ao (s:Qd):Scope:=match s with
 | .FunctionDef _ _ _ _ _ _ sc _ _ _=>sc
 |_=>{kind:= .function,names:=[],isGenerator:=false,isCoroutine:=false}
abbrev CX0:CXT:=λ_ _ _ _ _ _=>False
abbrev E0:XK:=λ_ _ _=>False
def gN :gd CX0 X E0:=λ_ _ _ _ _ _ _ h=>h.elim
structure Fun (K:W.Frag) (x KC:Str) (st:Qd) (f:P5) (fd:P7):Prop where
 ex:∃(oc:Value) (od:Option Addr) (kV Ma pm:Value) (an:Option Addr) (KM ct:Value) (N0:Array (Option Value)),
  fd=W.fnOf x KC (dC st) (cI st) (ao st) .none kV Ma pm an KM ct/\K.lookup f=some ⟨oc,od, .func fd,N0⟩/\W.codeIn K KM KC=true
 kp:W.keepIn K (.ref f)=true
section
variable {P:P6}{w:P8}{K:W.Frag}{mg:Str->Qc P3}{base:Qb}
theorem Fun.ok {k:Nat}{sp:Sp} (F:Fun K x KC st f fd) (S:FnScope N ps (ao st)) (len:∀vs H Q E,sp vs H Q E->vs.length=ps.length)
  (Lh:∀(KM:P3) (A:P9) (outer:P' Env) (s:P4) (H:Hp) (vs:P' V) (Q:VK) (E:XK),Room k (A.deeper (envOfC KC (ao st) s.heap.objs.size f KM))->sp vs H Q E->
   ∃t,PSs (cT CX0 P w K mg base N KC (ao st) f KM A outer s H E).nox (cI st) t/\t {nx:=λ_ H'=>Q .non H',rt:=Q} (start N vs) H):FnOk P w K mg base CX0 (k+1) f fd ps sp:=by
 obtain⟨oc,od,kV,Ma,pm,an,KM,ct,N0,rfl,lk,MQ⟩:=F.ex;refine rA lk MQ S len λA outer s H vs Q E hr MT=> ?_;obtain⟨t,h,q⟩:=Lh KM A outer s H vs Q E hr MT;exact⟨t,h.nox,q⟩
theorem Fun.binds (F:Fun K x KC st f fd)
  (h:∀(kV Ma pm:P3) (an:Qc P5) (KM ct:P3) (us:P' P3),us.length=ps.length->bindArgs (W.fnOf x KC (dC st) (cI st) (ao st) .none kV Ma pm an KM ct) ⟨us,[]⟩=pure (ps.zip us)):fB K fd ps []:=by
 obtain⟨oc,od,kV,Ma,pm,an,KM,ct,N0,rfl,lk,MQ⟩:=F.ex;exact .all (h kV Ma pm an KM ct)
def zZ {oc:P3}{od an:Qc P5}{N0:Array (Qc P3)}{kV Ma pm KM ct:P3} (l:K.lookup f=some ⟨oc,od, .func (W.fnOf x KC (dC st) (cI st) (ao st) .none kV Ma pm an KM ct),N0⟩)
  (c:W.codeIn K KM KC=true) (k:W.keepIn K (.ref f)=true):Fun K x KC st f (W.fnOf x KC (dC st) (cI st) (ao st) .none kV Ma pm an KM ct):=⟨⟨oc,od,kV,Ma,pm,an,KM,ct,N0,rfl,l,c⟩,k⟩
end
theorem cQ {A:P9}{k:Nat} (hr:Room k A):A.units+1<cLine:=Nat.lt_of_le_of_lt (Nat.add_le_add_left (by decide:1<=64) _) hr.units
theorem aD (h:n<=1000):n<sizeLine:=Nat.lt_of_le_of_lt h (by decide)
section
variable {X:Cx}
theorem pv (i:Nat) {pos:Pos} (hN:X.N[i]? =some x:=by rfl) (hv:Vis X.env.scope x:=by first|exact Or.inl rfl|exact Or.inr (Or.inl rfl)|exact Or.inr (Or.inr rfl)) (hd:(x==("__debug__":Str))=false:=by decide)
  (MQ:(x==("__classdict__":Str))=false:=by decide):PE X (.Name x pos) (tVar i):=yz hN hv hd MQ
end
theorem aT (h:B):if false=true then A else B:=by
 rw[A6 AX];exact h
theorem bu (h:A):if true=true then A else B:=by
 rw[AB rfl];exact h
def ag (H H':Hp):Prop:=∀b o,H b=some o->H' b=some o
def ag.refl (H:Hp):ag H H:=λ_ _ h=>h
def ag.trans {H2:Hp} (a:ag H H1) (b:ag H1 H2):ag H H2:=λc o h=>b c o (a c o h)
theorem ag.free (e:ag H H') (h:H' l=Option.none):H l=Option.none:=by
 cases q:H l with
 |none=>rfl
 |some o=>
  rw[e l o q] at h;cases h
theorem ag.seq {xs:P' V} (e:ag H H') (h:SqL K H a xs):SqL K H' a xs:=by
 rcases h with(h|⟨o,h⟩)|h
 .exact .inl (.inl (e _ _ h))
 .exact .inl (.inr ⟨o,e _ _ h⟩)
 .exact .inr h
set_option maxHeartbeats 4000000
section
variable {κ:Type} [DecidableEq κ]
def aP (Kv:P' (κ×V)) (k:κ):Qc V:=(Kv.find? λkv=>decide (kv.1=k)).map (·.2)
def aQ (Kv:P' (κ×V)) (k:κ) (v:V):P' (κ×V):=
 if(Kv.any λkv=>decide (kv.1=k))=true then Kv.map (λkv=>if kv.1=k then(kv.1,v) else kv) else Kv++[(k,v)]
theorem cU {p:κ×V}{r:P' (κ×V)}{k:κ} (e:p.1=k):aP (p::r) k=some p.2:=by simp[aP,Bb,e]
theorem cV {p:κ×V}{r:P' (κ×V)}{k:κ} (e:¬p.1=k):aP (p::r) k=aP r k:=by simp[aP,Bb,e]
theorem fF (k:κ):∀Kv:P' (κ×V),(Kv.any λkv=>decide (kv.1=k))=(aP Kv k).isSome
 |[]=>rfl
 |p::r=>by
  rw[List.any_cons];by_cases e:p.1=k
  .simp only[cU e,BA e,Bool.true_or,Option.isSome_some]
  .rw [cV e,Am e,Bool.false_or];exact fF k r
theorem rP (k j:κ) (y:V):∀Kv:P' (κ×V),aP (Kv.map λkv=>if kv.1=k then(kv.1,y) else kv) j=(aP Kv j).map λx=>if j=k then y else x
 |[]=>rfl
 |p::r=>by
  have ih:=rP k j y r;rw[AW];by_cases h:p.1=k
  .rw [AB h];by_cases e:p.1=j
   .rw [cU (p:=(p.1,y)) e,cU e,Ci,AB (e.symm.trans h)]
   .rw [cV (p:=(p.1,y)) e,cV e,ih]
  .rw [A6 h];by_cases e:p.1=j
   .rw [cU (p:=p) e,cU e,Ci,A6 (λz=>h (e.trans z))]
   .rw [cV (p:=p) e,cV e,ih]
theorem rQ (k j:κ) (y:V):∀Kv:P' (κ×V),aP Kv k=none->aP (Kv++[(k,y)]) j=if j=k then some y else aP Kv j
 |[],_=>by
  by_cases e:k=j
  .rw [AB e.symm];exact cU (p:=(k,y)) e
  .rw [A6 (λz=>e z.symm)];exact cV (p:=(k,y)) e
 |p::r,hn=>by
  rw[Cb];have hk:¬p.1=k:=λz=>by rw[cU z] at hn;cases hn
  rw[cV hk] at hn;have ih:=rQ k j y r hn;by_cases e:p.1=j
  .rw [cU e,cU e,A6 (λz=>hk (e.trans z))]
  .rw [cV e,cV e,ih]
theorem rR (Kv:P' (κ×V)) (k j:κ) (y:V):aP (aQ Kv k y) j=if j=k then some y else aP Kv j:=by
 unfold aQ;by_cases a:(Kv.any λkv=>decide (kv.1=k))=true
 .rw [AB a,rP];rw[fF] at a;by_cases e:j=k
  .obtain⟨x,hx⟩:=Option.isSome_iff_exists.mp a;rw[AB e,e,hx,Ci,AB rfl]
  .rw [A6 e];cases aP Kv j with
   |none=>rfl
   |some x=>rw[Ci,A6 e]
 .rw [A6 a];refine rQ k j y Kv ?_;rw[fF] at a;cases q:aP Kv k with
  |none=>rfl
  |some x=>rw[q] at a;exact(a rfl).elim
theorem my (Kv:P' (κ×V)) (k:κ) (v:V):(aQ Kv k v).length<=Kv.length+1:=by
 unfold aQ;split
 .rw [A1];lia
 .rw [AC,AZ,C2];lia
theorem rS {Kv:P' (κ×V)}{k:κ} (v:V) (h:aP Kv k=none):aQ Kv k v=Kv++[(k,v)]:=by
 unfold aQ;rw[fF,h];exact A6 (by decide)
theorem cG.isSome_eq {u:Qc P3} (r:cG o u):o.isSome=u.isSome:=by
 cases o with
 |none=>cases u with
  |none=>rfl
  |some _=>exact(show False from r).elim
 |some _=>cases u with
  |none=>exact(show False from r).elim
  |some _=>rfl
theorem cG.getD {o:Qc V}{u:Qc P3}{d:V}{d':P3} (r:cG o u) (rd:aw d d'):aw (o.getD d) (u.getD d'):=by
 cases o with
 |none=>cases u with
  |none=>exact rd
  |some _=>exact(show False from r).elim
 |some _=>cases u with
  |none=>exact(show False from r).elim
  |some _=>exact r
theorem KV.val {Kv:P' (κ×V)}{vs:P' (κ×P3)} (r:KV Kv vs) (k:κ):cG (aP Kv k) (valueAt vs k):=by
 unfold KV at r;induction r with
 |nil=>exact True.intro
 | @cons p q ps qs h t ih=>
  obtain⟨h1,h2⟩:=h;by_cases e:p.1=k
  .have e':q.1=k:=h1.symm.trans e;have b:valueAt (q::qs) k=some q.2:=by simp[valueAt,Bb,e']
   rw[cU e,b];exact h2
  .have e':¬q.1=k:=λz=>e (h1.trans z);have b:valueAt (q::qs) k=valueAt qs k:=by simp[valueAt,Bb,e']
   rw[cV e,b];exact ih
theorem KV.any {Kv:P' (κ×V)}{vs:P' (κ×P3)} (r:KV Kv vs) (k:κ):(Kv.any λkv=>decide (kv.1=k))=vs.any λkv=>decide (kv.1=k):=by
 unfold KV at r;induction r with
 |nil=>rfl
 |cons h t ih=>rw[List.any_cons,List.any_cons,ih,h.1]
theorem KV.repl {Kv:P' (κ×V)}{vs:P' (κ×P3)} (r:KV Kv vs) (k:κ) (ry:aw y u):
  KV (Kv.map λkv=>if kv.1=k then(kv.1,y) else kv) (vs.map λkv=>if kv.1=k then(kv.1,u) else kv):=by
 unfold KV at r⊢;induction r with
 |nil=>exact .nil
 | @cons p q ps qs h t ih=>
  rw[AW,AW];refine .cons ?_ ih;obtain⟨h1,h2⟩:=h;by_cases e:p.1=k
  .rw [AB e,AB (h1.symm.trans e)];exact⟨h1,ry⟩
  .rw [A6 e,A6 (λz=>e (h1.trans z))];exact⟨h1,h2⟩
theorem KV.put {Kv:P' (κ×V)}{vs:P' (κ×P3)} (r:KV Kv vs) (k:κ) (ry:aw y u):KV (aQ Kv k y) (stored vs k u):=by
 unfold aQ stored;rw[r.any k];by_cases e:(vs.any λkv=>decide (kv.1=k))=true
 .rw [AB e,AB e];exact r.repl k ry
 .rw [A6 e,A6 e];exact Paired.snoc r ⟨rfl,ry⟩
theorem KV.length {Kv:P' (κ×V)}{vs:P' (κ×P3)} (r:KV Kv vs):Kv.length=vs.length:=Be r
end
theorem j9 {k:Key}(r:aw (kV k) u):(bU P w).is k u=true:=by
 cases k with
 |inl i=>obtain⟨t,e⟩:=(show∃t,u=Value.int i t from r);subst e;exact yo P w i t
 |inr x=>obtain⟨t,e⟩:=(show∃t,u=Value.str x t from r);subst e;exact yp P w x t
theorem rT {P:P6}{w:P8}:∀{ks:P' Key}{us:P' P3},ap (ks.map kV) us->ItemsAre (bU P w) ks us
 |[],_,r=>by rw[DP] at r;cases r;exact .nil
 |k::ks,_,r=>by
  rw[AW] at r;cases r with
  |cons h t=>exact .cons (j9 h) (rT t)
abbrev KT (H:Hp):P' (P' Key×V)->P' (P' Key×P5×P3)->Prop:=Paired λp q=>p.1=q.1/\H q.2.1=some (.tup (p.1.map kV))/\aw p.2 q.2.2
theorem KT.val {H:Hp}{Kv:P' (P' Key×V)}{xs:P' (P' Key×P5×P3)} (r:KT H Kv xs) (k:P' Key):cG (aP Kv k) ((atKey xs k).map (·.2)):=by
 induction r with
 |nil=>exact True.intro
 | @cons p q ps qs h t ih=>
  obtain⟨h1,_,h2⟩:=h;by_cases e:p.1=k
  .have e':q.1=k:=h1.symm.trans e;have b:atKey (q::qs) k=some q.2:=by simp[atKey,Bb,e']
   rw[cU e,b];exact h2
  .have e':¬q.1=k:=λz=>e (h1.trans z);have b:atKey (q::qs) k=atKey qs k:=by simp[atKey,Bb,e']
   rw[cV e,b];exact ih
theorem KT.repl (r:KT H Kv xs) (k:P' Key) (ry:aw y u):
  KT H (Kv.map λkv=>if kv.1=k then(kv.1,y) else kv) (xs.map (putAt k u)):=by
 induction r with
 |nil=>exact .nil
 | @cons p q ps qs h t ih=>
  rw[AW,AW];refine .cons ?_ ih;obtain⟨h1,h2,h3⟩:=h;unfold putAt;by_cases e:p.1=k
  .rw [AB e,AB (h1.symm.trans e)];exact⟨h1,h2,ry⟩
  .rw [A6 e,A6 (λz=>e (h1.trans z))];exact⟨h1,h2,h3⟩
theorem KT.put (r:KT H Kv xs) (k:P' Key) (hb:H b=some (.tup (k.map kV))) (ry:aw y u):
  KT H (aQ Kv k y) (storedH xs k b u):=by
 have e:(Kv.any λkv=>decide (kv.1=k))=(atKey xs k).isSome:=by
  rw[fF,(r.val k).isSome_eq,Option.isSome_map]
 unfold aQ storedH;rw[e];by_cases q:(atKey xs k).isSome=true
 .rw [AB q,AB q];exact r.repl k ry
 .rw [A6 q,A6 q];exact Paired.snoc r ⟨rfl,hb,ry⟩
def KT.keeps (r:KT H Kv xs) (ht:∀b ys,H b=some (.tup ys)->H' b=some (.tup ys)):KT H' Kv xs:=
 Paired.mapP r λ_ _ z=>⟨z.1,ht _ _ z.2.1,z.2.2⟩
section
variable {P:P6}{w:P8}{H:Hp}{h:Qb}{a:P5}
def iW {u:HO} (ok:HOk P w H h) (e:Rd H a u):aC P w H h a u:=e.ok ok
def iX {Kv:P' (Key×V)} (ok:HOk P w H h) (e:Rd H a (.dK Kv)):Kv.length<=sizeLine/\(a==sysModules)=false/\∃vs,KV Kv vs/\h.DictOf (bU P w) a vs:=
 show aC P w H h a (.dK Kv) from iW ok e
def z9 {Kv:P' (Key×V)} (ok:HOk P w H h) (e:H a=some (.dK Kv)):Kv.length<=sizeLine/\(a==sysModules)=false/\∃vs,KV Kv vs/\h.DictOf (bU P w) a vs:=iX ok (.inl e)
theorem iY {ks:P' Key} (ok:HOk P w H h) (e:H a=some (.tup (ks.map kV))):(tupleKind (bU P w)).is h ks a:=by
 obtain⟨_,Kx,r,o,h1,h2,n,h3⟩:=(show aC P w H h a (.tup (ks.map kV)) from ok a _ e);exact⟨o,Kx.toArray,n,h1,h2,h3,by simpa using rT r⟩
theorem iZ (ok:HOk P w H h) (e:Rd H a (.dT Kv)):Kv.length<=sizeLine/\(a==sysModules)=false/\
  ∃xs,KT H Kv xs/\h.DictOfH (tupleKind (bU P w)) a xs:=by
 obtain⟨z,y,xs,r,o,es,ep,h1,h2,h3,h4,h5⟩:=(show aC P w H h a (.dT Kv) from iW ok e);refine⟨z,y,xs,r,o,es,ep,h1,h2,h3,h4,λx hx=> ?_,h5⟩;have all:∀{l:P' (P' Key×V)}{m:P' (P' Key×P5×P3)},KT H l m->∀x∈m,(tupleKind (bU P w)).is h x.1 x.2.1:=by
  intro l m q;induction q with
  |nil=>intro x hx;exact nomatch hx
  | @cons p q ps qs hq t ih=>
   intro x hx;rcases AM.mp hx with e|hx
   .subst e;exact iY ok (by rw[<-hq.1];exact hq.2.1)
   .exact ih x hx
 exact all r x hx
def rV (ok:HOk P w H h) (e:H a=some (.dT Kv)):Kv.length<=sizeLine/\(a==sysModules)=false/\
  ∃xs,KT H Kv xs/\h.DictOfH (tupleKind (bU P w)) a xs:=iZ ok (.inl e)
end
def cW (H:Hp) (a:P5) (y:V) (r:Qc V):Prop:=
 (∃Kv k,Rd H a (.dK Kv)/\y=kV k/\r=aP Kv k)\/∃Kv k b,Rd H a (.dT Kv)/\y= .ref b/\H b=some (.tup (k.map kV))/\r=aP Kv k
def dD (H:Hp) (a:P5) (y v:V) (H':Hp):Prop:=
 (∃Kv k,H a=some (.dK Kv)/\y=kV k/\Kv.length<sizeLine/\H'=upd H a (.dK (aQ Kv k v)))\/
 ∃Kv k b,H a=some (.dT Kv)/\y= .ref b/\H b=some (.tup (k.map kV))/\Kv.length<sizeLine/\H'=upd H a (.dT (aQ Kv k v))
theorem cW.k {H:Hp}{a:P5}{Kv:P' (Key×V)}{k:Key} (e:H a=some (.dK Kv)):cW H a (kV k) (aP Kv k):= .inl ⟨Kv,k, .inl e,rfl,rfl⟩
def cW.t {k:P' Key} (e:H a=some (.dT Kv)) (eb:H b=some (.tup (k.map kV))):cW H a (.ref b) (aP Kv k):= .inr ⟨Kv,k,b, .inl e,rfl,eb,rfl⟩
theorem dD.k {H:Hp}{a:P5}{Kv:P' (Key×V)}{k:Key}{v:V} (e:H a=some (.dK Kv)) (hl:Kv.length<sizeLine):dD H a (kV k) v (upd H a (.dK (aQ Kv k v))):= .inl ⟨Kv,k,e,rfl,hl,rfl⟩
def dD.t {k:P' Key}(e:H a=some (.dT Kv)) (eb:H b=some (.tup (k.map kV))) (hl:Kv.length<sizeLine):
  dD H a (.ref b) v (upd H a (.dT (aQ Kv k v))):= .inr ⟨Kv,k,b,e,rfl,eb,hl,rfl⟩
section
variable {X:Cx}{Ku:P' (P5×Obj)}{σ:St}{H:Hp}{s:P4}{a:P5}{y v:V}{u r:P3}{o:Qc V}{A:P9}{E:P3->P4->Prop}
theorem Inv.big (I:Inv X Ku σ H s):sysModules<s.heap.objs.size:=by
 have h:mainGlobals<s.heap.objs.size:=(I.mod.glob.keeps I.bk).lt;exact Nat.lt_trans (by decide) h
theorem Db (hu:A.units+1<cLine) (I:Inv X Ku σ H s) (g:cW H a y (some v)) (ry:aw y u) (h:∀w' s',Inv X Ku σ H s'->aw v w'->Q w' s'):
  wpAny (model X.prog X.w) A (getItem (.ref a) u) Q E s:=by
 rcases g with⟨Kv,k,e,ey,l⟩|⟨Kv,k,b,e,ey,eb,l⟩
 .subst ey;obtain⟨z,hd,vs,KO,dd⟩:=iX I.hok e;obtain⟨w',hw,LD⟩:=cG.some_of (v:=v) (o:=valueAt vs k) (by rw[l];exact KO.val k);exact wpAny_getItem_of (j9 ry) dd.mapOf hw (h w' _ (I.tok _) LD)
 .subst ey;cases (show u=Value.ref b from ry);obtain⟨z,hd,xs,KO,dd⟩:=iZ I.hok e;obtain⟨w',hw,LD⟩:=cG.some_of (v:=v) (o:=(atKey xs k).map (·.2)) (by rw[l];exact KO.val k);obtain⟨p,hp,N3⟩:=AA.mp hw;refine wpAny_getItem_heap (tupleKind_room_in1 hu) (iY I.hok eb) dd hp ?_;rw[N3];exact h w' _ (I.tok _) LD
def gO {t':Nat}{ob:HO} (I:Inv X Ku σ H s) (mu:Mut (H a)) (hs:Heap.SameBut a s.heap h') (he:∃q,h'.get? a=some q) (new:aC X.prog X.w (upd H a ob) h' a ob):
  Inv X Ku σ (upd H a ob) {s with heap:=h',toks:=t'}:=
 I.write (x:=a) (e:=a) mu (.inl rfl) (λb q hb z=>(hs.2 b hb).trans z) he new
def Dc {Kv:P' (Key×V)}{vs:P' (Key×P3)} (z:Kv.length<=sizeLine) (hd:(a==sysModules)=false) (KO:KV Kv vs) (dd:h'.DictOf (bU P w) a vs):
  aC P w H' h' a (.dK Kv):=⟨z,hd,vs,KO,dd⟩
theorem Dd {Q:Unit->P4->Prop} (hu:A.units+1<cLine) (I:Inv X Ku σ H s) (g:dD H a y v H') (ry:aw y u) (rv:aw v r) (h:∀s',Inv X Ku σ H' s'->Q () s'):
  wpAny (model X.prog X.w) A (setItem (.ref a) u r) Q E s:=by
 rcases g with⟨Kv,k,e,ey,l,eH⟩|⟨Kv,k,b,e,ey,eb,l,eH⟩
 .subst ey eH;obtain⟨z,hd,vs,KO,dd⟩:=z9 I.hok e;have hz:vs.length<=sizeLine:=by rw[<-KO.length];exact z
  have hl:(aQ Kv k v).length<=sizeLine:=by have:=my Kv k v;lia
  refine wpAny_setItem_pairs (hsz:=hz) (j9 ry) dd λh' NO hs=>h _ ?_;have he:∃q,h'.get? a=some q:=let ⟨q,_,_,hq,_⟩:=NO;⟨q,hq⟩;exact gO I (by rw[e];exact True.intro) hs he (Dc hl hd (KO.put k rv) NO)
 .subst ey eH;cases (show u=Value.ref b from ry);obtain⟨z,hd,xs,KO,dd⟩:=rV I.hok e;have hz:xs.length<=sizeLine:=by rw[<-Be KO];exact z
  have hl:(aQ Kv k v).length<=sizeLine:=by have:=my Kv k v;lia
  refine wpAny_setItem_heap (hsz:=hz) (tupleKind_room_in1 hu) (iY I.hok eb) dd λh' NO hs=>h _ ?_;obtain⟨q,es,ep,hq,h2,h3,h4,_,h5⟩:=NO;refine gO I (by rw[e];exact True.intro) hs ⟨q,hq⟩ ⟨hl,hd,_,(KO.put k eb rv).keeps λc ys ec=> ?_,q,es,ep,hq,h2,h3,h4,h5⟩;rw[au (jR ec e (λz=>nomatch z))];exact ec
end
def i0 (i:Qa):Prop:=∀ov iv,subscripted i false ov iv=operate [ov,iv] (getItem ov iv)
theorem mz {prog:P6}{A:P9}{value KS:Qa}{T id:String}
  (hl:typeLookup (.type T) "__getitem__"=pure (some (.builtin id))) (hs:i0 KS)
  (h:wpAny (model prog w) A (eval value env) (λo s₁=>wpAny (model prog w) A (eval KS env) (λi s₂=>s₂.TypeIs o T/\wpAny (model prog w) A (getItem o i) Q E s₂) E s₁) E s):
  wpAny (model prog w) A (eval (.Subscript value KS pos) env) Q E s:=by
 refine Subscript_ (BV h (λo s₁ h₁=>BV h₁ (λi s₂ h₂=> ?_) λ_ _ x=>x) λ_ _ x=>x);obtain⟨hT,h₂⟩:=h₂;unfold subscriptTail;refine A0 ?_;rw[getitemInPython_of_ne hT.not_modules];refine A0 (CS hT hl ?_);have fin:wpAny (model prog w) A (subscripted KS false o i) (λr s₃=>wpAny (model prog w) A (letTemporaryGo value o r>>=λ_=>pure r) Q E s₃) E s₂:=by
  rw[hs o i];exact wpAny_operating (BV h₂ (λr s₃ h₃=>A0 (wpAny_letTemporaryGo (A3 h₃))) λ_ _ x=>x)
 first
  |exact A3 (A0 fin)
  |exact A0 (A3 (A0 fin))
  |exact A0 fin
theorem De {σ:St}(I:Inv X Ku σ H s) (g:cW H a y o):s.TypeIs (.ref a) "dict":=by
 rcases g with⟨Kv,k,e,_,_⟩|⟨Kv,k,b,e,_,_,_⟩
 .obtain⟨_,_,vs,_,dd⟩:=iX I.hok e;exact dd.typeIs
 .obtain⟨_,_,xs,_,dd⟩:=iZ I.hok e;exact dd.typeIs
inductive tDGet_ (Q:VK) (x:V) (y:V) (H2:Hp):Prop
 |mk a v:x= .ref a->cW H2 a y (some v)->Q v H2->tDGet_ Q x y H2
def Df (td ty:TE):TE:=λσ H Q=>td σ H λx H1=>ty σ H1 λy H2=>tDGet_ Q x y H2
inductive sDPut_ (D:Ends) (σ:St) (v:V) (x:V) (y:V) (H3:Hp):Prop
 |mk a H4:x= .ref a->dD H3 a y v H4->D.nx σ H4->sDPut_ D σ v x y H3
def Dg (td ty tv:TE):TS:=λD σ H=>tv σ H λv H1=>td σ H1 λx H2=>ty σ H2 λy H3=>sDPut_ D σ v x y H3
section
variable {X:Cx}{o i e value:Qa}{pos KP Lv:Pos}{td ty tv:TE}
theorem j' (hu:X.A.units+1<cLine) (ho:PE X o td) (hi:PE X i ty) (hs:i0 i):PE X (.Subscript o i pos) (Df td ty):=by
 intro Ku s σ H Q I h;refine mz PySem.F.slot_dict_getitem.lookup hs (thn (ho Ku s σ H _ I h) λu s1 zu41=> ?_);obtain⟨x,H1,I1,rx,q1⟩:=zu41;refine thn (hi Ku s1 σ H1 _ I1 q1) λiv s2 zu42=> ?_;obtain⟨y,H2,I2,ry,a,v,ex,g,q2⟩:=zu42;subst ex;obtain rfl:u=Value.ref a:=rx;exact⟨De I2 g,Db hu I2 g ry λw' s3 I3 LD=>⟨v,H2,I3,LD,q2⟩⟩
theorem i5 (hu:X.A.units+1<cLine) (ho:PE X o td) (hi:PE X i ty) (hv:PE X value tv) (hs:swapsWith value (some (.Subscript o i KP)) pos.line X.env=pure false):
  PS X (.Assign [.Subscript o i KP] value pos) (Dg td ty tv):=by
 intro Ku s σ H D I h;refine wpAny_Assign_Subscript (thn (hv Ku s σ H _ I h) λr s1 zu43=> ?_) hs;obtain⟨v,H1,I1,rv,q1⟩:=zu43;refine thn (ho Ku s1 σ H1 _ I1 q1) λu s2 zu44=> ?_;obtain⟨x,H2,I2,rx,q2⟩:=zu44;refine thn (hi Ku s2 σ H2 _ I2 q2) λiv s3 zu45=> ?_;obtain⟨y,H3,I3,ry,a,H4,ex,g,q3⟩:=zu45;subst ex;obtain rfl:u=Value.ref a:=rx;exact Dd hu I3 g ry rv λs4 I4=>⟨σ,H4,I4,q3⟩
end
def Dh (h:Qb) (hb:sysModules<h.objs.size):aC P w H (h.push {cls:= .type "dict",data:= .dict #[]}) h.objs.size (.dK []):=
 ⟨AJ _,Ce.mpr (D4 (AO hb)),[], .nil,Heap.DictOf.new h⟩
def rW (h:Qb) (hb:sysModules<h.objs.size):aC P w H (h.push {cls:= .type "dict",data:= .dict #[]}) h.objs.size (.dT []):=
 ⟨AJ _,Ce.mpr (D4 (AO hb)),[], .nil,_, #[],0,AI _ rfl,⟨rfl,rfl,rfl⟩,rfl,rfl,List.nodup_nil⟩
def Di:TE:=λ_ H Q=>∀p,H p=none->Q (.ref p) (upd H p (.dK []))
def Dj:TE:=λ_ H Q=>∀p,H p=none->Q (.ref p) (upd H p (.dT []))
section
variable {X:Cx}{pos:Pos}
def mB:PE X (.Dict [] [] pos) Di:=λKu s σ H Q I h=>
 wpAny_Dict_empty ⟨.ref s.heap.objs.size,_,I.laid (a:=s.heap.objs.size) (o:= .dK []) (t':=s.toks) (λ_ _ q=>A5 _ q) (A8 _) (Dh s.heap I.big),rfl,h _ (I.hok.fresh (A8 _))⟩
def Dk:PE X (.Dict [] [] pos) Dj:=λKu s σ H Q I h=>
 wpAny_Dict_empty ⟨.ref s.heap.objs.size,_,I.laid (a:=s.heap.objs.size) (o:= .dT []) (t':=s.toks) (λ_ _ q=>A5 _ q) (A8 _) (rW s.heap I.big),rfl,h _ (I.hok.fresh (A8 _))⟩
end
structure M2 (X:Cx) (o:Qa) (m:Str) (KR:Pos) (e f:Qa) (KH:Pos):Prop where
 base:attributeBase o m X.env (eval o X.env)=eval o X.env
 few:((backTo KH (starEach [e,f] X.env)).all (λx=> !x.1)&&(backToKw KH (keywordEach [] X.env)).all (λx=>x.1.isSome)
  &&decide (([e,f]:List Expr).length+([]:List Keyword).length+(if([]:List Keyword).isEmpty then 0 else 1)<30))=true
 line:(KR.endLine==KH.line)=true
 trees:backTo KH (starEach [e,f] X.env)=[(false,eval e X.env),(false,eval f X.env)]
def IsD (H:Hp) (a:P5):Prop:=(∃Kv,Rd H a (.dK Kv))\/∃Kv,Rd H a (.dT Kv)
theorem rX {σ:St}(I:Inv X Ku σ H s) (d:IsD H a):
  s.TypeIs (.ref a) "dict"/\(∀b,Value.ref a= .ref b->∃ob,s.heap.get? b=some ob/\ob.dict=none)/\(a==sysModules)=false:=by
 rcases d with⟨Kv,e⟩|⟨Kv,e⟩
 .obtain⟨_,hd,vs,_,dd⟩:=iX I.hok e;refine⟨dd.typeIs,λb q=> ?_,hd⟩;cases q;obtain⟨ob,_,_,h1,h2,_⟩:=dd;exact⟨ob,h1,h2.2.1⟩
 .obtain⟨_,hd,xs,_,dd⟩:=iZ I.hok e;refine⟨dd.typeIs,λb q=> ?_,hd⟩;cases q;obtain⟨ob,_,_,h1,h2,_⟩:=dd;exact⟨ob,h1,h2.2.1⟩
section
variable {X:Cx}{Ku:P' (P5×Obj)}{σ:St}{H:Hp}{s:P4}{a:P5}{y d:V}{u r:P3}{o:Qc V}{A:P9}{E:P3->P4->Prop}
theorem Dl (hu:A.units+1<cLine) (I:Inv X Ku σ H s) (g:cW H a y o) (ry:aw y u) (rd:aw d r) (h:∀w' s',Inv X Ku σ H s'->aw (o.getD d) w'->Q w' s'):
  wpAny (model X.prog X.w) A (call (.builtin "dict.get") [.ref a,u,r]) Q E s:=by
 rcases g with⟨Kv,k,e,ey,l⟩|⟨Kv,k,b,e,ey,eb,l⟩
 .subst ey;obtain⟨z,hd,vs,KO,dd⟩:=iX I.hok e;refine call_meetsIn PySem.F.slot_dict_get dd.typeIs PySem.F.entry_dict_get (PySem.F.args_dict_get_3 _ _ _) (meets_dict_get_default (bU X.prog X.w) a (j9 ry) hd r) ⟨_,dd.mapOf,h _ _ (I.tok _) ?_⟩;rw[l];exact(KO.val k).getD rd
 .subst ey;cases (show u=Value.ref b from ry);obtain⟨z,hd,xs,KO,dd⟩:=iZ I.hok e;refine call_meetsIn PySem.F.slot_dict_get dd.typeIs PySem.F.entry_dict_get (PySem.F.args_dict_get_3 _ _ _) (meetsH_dict_get_default (tupleKind (bU X.prog X.w)) a b hd r) ⟨tupleKind_room_in1 hu,k,xs,iY I.hok eb,dd,h _ _ (I.tok _) ?_⟩;rw[l];exact(KO.val k).getD rd
end
inductive tDGet2_ (ty:TE) (tx:TE) (σ:St) (Q:VK) (x:V) (H1:Hp):Prop
 |mk a:x= .ref a->IsD H1 a->(ty σ H1 λy H2=>tx σ H2 λz H3=>∃o,cW H3 a y o/\Q (o.getD z) H3)->tDGet2_ ty tx σ Q x H1
def Dm (td ty tx:TE):TE:=λσ H Q=>td σ H λx H1=>tDGet2_ ty tx σ Q x H1
section
variable {X:Cx}{o e f:Qa}{KR KH:Pos}{td ty tx:TE}
theorem ka (hu:X.A.units+1<cLine) (ho:PE X o td) (he:PE X e ty) (hf:PE X f tx) (m:M2 X o "get" KR e f KH):PE X (.Call (.Attribute o "get" KR) [e,f] [] KH) (Dm td ty tx):=by
 intro Ku s σ H Q I h;refine wpAny_Call_method m.base m.few m.line PySem.F.plainAttrs_dict PySem.F.slot_dict_get PySem.F.type_dict_get (thn (ho Ku s σ H _ I h) λu s1 zu46=> ?_);obtain⟨x,H1,I1,rx,a,ex,d,q1⟩:=zu46;subst ex;obtain rfl:u=Value.ref a:=rx;obtain⟨t1,t2,_⟩:=rX I1 d;refine⟨t1,t2, ?_⟩;rw[m.trees];refine DC rfl (Calls.evalArgs_plain (CA (thn (he Ku s1 σ H1 _ I1 q1) λiv s2 ⟨y,H2,I2,ry,q2⟩=>
  CA (thn (hf Ku s2 σ H2 _ I2 q2) λfv s3 ⟨z,H3,I3,rz,ov,g,q3⟩=>Calls.spliced_nil ?_))))
 exact Dl hu I3 g ry rz λw' s4 I4 LD=>⟨_,H3,I4,LD,q3⟩
end
section
variable {X:Cx}{pos:Pos}{a b c d:Qa}{ta tb tc td:TE}
inductive gLst (K:W.Frag) (n:Nat) (t:TGs) (v:V) (σ:St) (H:Hp) (Q:(St->Hp->Prop)):Prop
 |mk a xs:v= .ref a->SqL K H a xs->xs.length=n->t xs σ H Q->gLst K n t v σ H Q
theorem Do {es:P' Qa}{k:Nat}{t:TGs}(hc:X.calm=true) (h:PGs X es t)
  (hn:(assignEach es X.env).length=n:=by rfl) (LO:(assignEach es X.env).findIdx? (·.1)=none:=by rfl):PG X (.Tuple es k pos) (gLst X.K n t):=by
 intro Ku s σ H v u Q I r hw;obtain⟨a,xs,e1,hq,hl,hw⟩:=hw;subst e1;cases r;obtain⟨Kx,rv,p,hz⟩:=I.list hq;have e2:(assignEach es X.env).length=Kx.toArray.size:=by simp[hn,<-hl,rv.length]
 rw[PyProof.Rows.assign_Tuple];refine A0 (DQ ?_);unfold unpack;rw[e2,LO];refine A0 (Aw (W.kun_itemsOf (I.ok.hd hc) p.isList λh' hx=> ?_));have I1:Inv X Ku σ H {s with heap:=h'}:=I.kept (t':=s.toks) λb o e=>hx b o (AO (AL e)) e;exact h Ku _ σ H xs _ Q I1 (by simpa using rv) hw
theorem mC:bz X (.builtin "isinstance") (λxs H Q=>∃x n t b,xs=[x, .ty n]/\TyOf X.K H x t/\W.kitOne X.K t (.type n)=some b/\Q (.bl b) H):=by
 intro Ku s σ H xs us Q I r h;obtain⟨x,n,t,b,rfl,ty,e,q⟩:=h;obtain⟨u,w',rfl,ru,LD⟩:=iQ r;obtain rfl:w'=Value.type n:=LD;exact zw I ru ty e λtk=>⟨.bl b,H,I.tok tk,rfl,q⟩
end
section
open PySem.W
variable {K:Frag}
theorem rY {t:String}:kitOne K (.type t) (.type t)=some true:=by
 unfold kitOne;rw[AB (by simp)]
theorem gP {t c:String}{b:Bool} (h1:(Value.type t==Value.type c)=false) (h2:kitMeta c=true) (h3:(fastBuiltinMro t).map (·.contains (Value.type c))=some b):kitOne K (.type t) (.type c)=some b:=by
 unfold kitOne;rw[A6 (by rw[h1];decide)];unfold kitCls;show(if kitMeta c=true then subIn K (.type t) (.type c) else none)=some b;rw[AB h2];exact h3
theorem Dp:kitOne K (.type "int") (.type "bool")=some false:=gP (by ac_nf) (by ac_nf) (by ac_nf)
theorem Dq:kitOne K (.type "bool") (.type "int")=some true:=gP (by ac_nf) (by ac_nf) (by ac_nf)
end
theorem bG [Decidable c] (h1:c->A) (h2:¬c->B):if decide c=true then A else B:=by
 by_cases h:c
 .rw [AB (BA h)];exact h1 h
 .rw [A6 (by rw[Am h];decide)];exact h2 h
theorem Dr [Decidable c] (h1:¬c->A) (h2:c->B):if(!decide c)=true then A else B:=by
 by_cases h:c
 .rw [A6 (by rw[BA h];decide)];exact h2 h
 .rw [AB (by rw[Am h];rfl)];exact h1 h
def dE {i:Int} (h1:i=j->A) (h2:i≠j->B):if decide (V.int i=V.int j)=true then A else B:=bG (λh=>h1 (V.int.inj h)) λh=>h2 λe=>h (BF V.int e)
def mE {i:Int} (h1:i≠j->A) (h2:i=j->B):if(!decide (V.int i=V.int j))=true then A else B:=Dr (λh=>h1 λe=>h (BF V.int e)) λh=>h2 (V.int.inj h)
theorem ag.put {o:HO} (s:ag H H1) (n:H l=none):ag H (upd H1 l o):=λb u e=>by
 rw[au (bF e n)];exact s b u e
def ag.new {o:HO} (n:H l=none):ag H (upd H l o):=(ag.refl H).put n
theorem Ds {prog:Program}{w:World}{A:Around}{R:Result->Shared->Prop}{s:Shared}{Lq aG:Expr}{it acc:Value}(I:Nat->Shared->Prop)
  (turn:∀n s,I n s->wpAny (model prog w) A (pyNext it) (λr s₁=>match r with
   |none=>R (.ok .next) s₁
   |some v=>wpAny (model prog w) A (letOwnedTupleGo Lq it v) (λ_ s₁'=>wpAny (model prog w) A (assign Lq env v) (λ_ s₂=>
     wpAny (model prog w) A (forIn LG true λc r=>if r=true then do let ok<-isTrue c env (eval c env);pure (ForInStep.yield ok) else pure (ForInStep.yield r)) (λok s₃=>
      if ok=true then wpAny (model prog w) A (eval LU env) (λx s₄=>
       wpAny (model prog w) A (call (.builtin "list.append") [acc,x]) (λ_ s₅=>∃m,m<n/\I m s₅) (notedBy (model prog w) A env λe s'=>R (.error e) s') s₄) (notedBy (model prog w) A env λe s'=>R (.error e) s') s₃
      else∃m,m<n/\I m s₃) (notedBy (model prog w) A env λe s'=>R (.error e) s') s₂) (notedBy (model prog w) A env λe s'=>R (.error e) s') s₁') (notedBy (model prog w) A env λe s'=>R (.error e) s') s₁) (notedBy (model prog w) A env λe s'=>R (.error e) s') s)
  (n:Nat) (h:I n s):
  codeAny (model prog w) A (.compLoop (.ListComp LU [⟨Lq,aG,LG,0⟩] scope pos) 0 it acc env) R s:=by
 refine codeAny_loop rfl I (λn s hI=> ?_) n h;show wpAny _ A ((compTurn (.ListComp LU [⟨Lq,aG,LG,0⟩] scope pos) 0 it acc env).onRaise (λx=>do noteFrame x env;theTreesLotGoes x)) _ _ s;refine wpAny_noted ?_;rw[compTurn_list];refine A0 (DQ (A0 (BV (turn n s hI) (λr s₁ h₁=> ?_) λ_ _ h'=>h')));cases r with
 |none=>exact A3 h₁
 |some v=>
  refine A0 (BV h₁ (λ_ s₁' h₁'=>A0 (BV h₁' (λ_ s₂ h₂=>A0 (BV h₂ (λok s₃ h₃=> ?_) λ_ _ h'=>h')) λ_ _ h'=>h')) λ_ _ h'=>h');cases ok with
  |false=>exact A3 ⟨rfl,h₃⟩
  |true=>
   exact A0 (A0 (BV h₃ (λx s₄ h₄=>A0 (BV h₄ (λ_ s₅ h₅=>A3 (A3 ⟨rfl,h₅⟩)) λ_ _ h'=>h')) λ_ _ h'=>h'))
def cJ (env:Env):P' (Str×NameKind)->P' (Str×P5)->P' (Str×P5)
 |[],cs=>cs
 |(n,k)::r,cs=>cJ env r (if k= .free then(n,(env.cells.lookup n).getD 0)::cs else cs)
theorem mF {env:Env}:∀(ns:List (Str×NameKind)) (cs:List (Str×Addr)),(∀y∈ns,y.2= .free->∃c,env.cells.lookup y.1=some c)->
  (forIn ns cs fun(x:Str×NameKind) (r:List (Str×Addr))=>(if(x.2== .free)=true then do let c<-cellOf env x.1;pure (ForInStep.yield ((x.1,c)::r)) else pure (ForInStep.yield r):Sem (ForInStep (List (Str×Addr)))))=(pure (cJ env ns cs):Sem _)
 |[],cs,_=>rfl
 |(n,k)::r,cs,h=>by
  have hr:=λy hy=>h y (AN _ hy);by_cases hk:k= .free
  .obtain⟨c,hc⟩:=h (n,k) AS hk;subst hk;rw[Ck];have e:cellOf env n=pure c:=by unfold cellOf;rw[hc]
   simp only[beq_self_eq_true,C5,e,pure_bind];rw[mF r _ hr];show _=pure (cJ env r (if NameKind.free=NameKind.free then(n,(env.cells.lookup n).getD 0)::cs else cs));rw[AB rfl,show env.cells.lookup n=some c from hc];rfl
  .have hb:(k==NameKind.free)=false:=by simpa using hk
   rw[Ck];simp only[hb,AK,Av,pure_bind];rw[mF r _ hr];show _=pure (cJ env r (if k=NameKind.free then(n,(env.cells.lookup n).getD 0)::cs else cs));rw[A6 hk]
theorem Dt (h:∀y∈scope.names,y.2= .free->∃c,env.cells.lookup y.1=some c):closureFor scope env=pure (cJ env scope.names []):=by
 unfold closureFor;have e:=mF scope.names [] h;simp only[bind_pure] at e⊢;exact e
theorem rZ {env:Env}{x:Str}{c:P5}:∀(ns:P' (Str×NameKind)) (cs:P' (Str×P5)),(∀y∈ns,y.2= .free->∃c,env.cells.lookup y.1=some c)->(∀x c,cs.lookup x=some c->env.cells.lookup x=some c)->
  (cJ env ns cs).lookup x=some c->env.cells.lookup x=some c
 |[],cs,_,hc,e=>hc x c e
 |(n,k)::r,cs,h,hc,e=>by
  unfold cJ at e;refine rZ r _ (λy hy=>h y (AN _ hy)) (λx' c' e'=> ?_) e;by_cases hk:k= .free
  .rw [AB hk] at e';obtain⟨c0,h0⟩:=h (n,k) AS hk;rw[h0] at e';rw[CG] at e';by_cases q:x'==n
   .rw [q] at e';cases e';rw[CJ.mp q];exact h0
   .have q':(x'==n)=false:=by simpa using q
    rw[q'] at e';exact hc x' c' e'
  .rw [A6 hk] at e';exact hc x' c' e'
theorem r0 {env:Env}{x:Str}:∀(ns:P' (Str×NameKind)) (cs:P' (Str×P5)),(∃c,cs.lookup x=some c)->∃c,(cJ env ns cs).lookup x=some c
 |[],cs,h=>h
 |(n,k)::r,cs,h=>by
  unfold cJ;refine r0 r _ ?_;by_cases hk:k= .free
  .rw [AB hk,CG];by_cases q:x==n
   .rw [q];exact⟨_,rfl⟩
   .have q':(x==n)=false:=by simpa using q
    rw[q'];exact h
  .rw [A6 hk];exact h
theorem mG {env:Env}{x:Str}:∀(ns:P' (Str×NameKind)) (cs:P' (Str×P5)),(x,NameKind.free)∈ns->∃c,(cJ env ns cs).lookup x=some c
 |(n,k)::r,cs,h=>by
  unfold cJ;rcases AM.mp h with e|e
  .cases e;rw[AB rfl];exact r0 r _ ⟨_,by rw[CG,beq_self_eq_true]⟩
  .exact mG r _ e
def Cx.comp (X:Cx) (scope:Scope) (C:P5) (N:P' Str) (s₀:P4) (H₀:Hp) (ex:P' P5) (E:P3->P4->Prop):Cx where
 prog:=X.prog
 w:=X.w
 K:=X.K
 mg:=X.mg
 base:=X.base
 A:=X.A
 N:=N
 s₀:=s₀
 H₀:=H₀
 env:=compEnvC scope (cJ X.env scope.names []) C X.env
 outer:=X.stack
 stack:=X.stack
 ex:=ex
 fn:=λ_=>false
 calm:=X.calm
 pn:=[]
 xe:=E
def ge (X:Cx) (LG:List Expr) (t:TT):Prop:=
 ∀(Ku:List (Addr×Obj)) (s:Shared) (σ:St) (H:Hp) (Q:Bool->Hp->Prop),Inv X Ku σ H s->t σ H Q->
  wpAny (model X.prog X.w) X.A (forIn LG true λc r=>if r=true then do let ok<-isTrue c X.env (eval c X.env);pure (ForInStep.yield ok) else pure (ForInStep.yield r)) (TP X Ku σ Q) X.xe s
def kb:TT:=λ_ H Q=>Q true H
def eT :ge X [] kb:=λ_ _ _ H _ I h=>wpAny_tests_nil ⟨H,I,h⟩
def mH {c:Qa}{t:TT} (h:PT X c t):ge X [c] t:=λKu s σ H Q I q=>wpAny_tests_one (h Ku s σ H Q I q)
def cX (own:Nat) (js:P' Nat) (σ:St):St:=List.replicate own none++js.map λj=>(σ[j]?).getD none
def gQ (J:It) (own:Nat) (js:P' Nat) (g:TG) (ti:TT) (te:TE) (σ:St) (H1:Hp) (acc:P5) (Q:VK):Prop:=
 ∃Wq:Nat->Nat->Hp->Prop,(∃m,Wq 0 m (upd H1 acc (.lst [])))/\∀i m H2,Wq i m H2->
  (J.stop i H2/\Q (.ref acc) H2)\/(J.go i H2/\∀x H3,J.yld i H2 x H3->g x (cX own js σ) H3 λσ4 H4=>ti σ4 H4 λb H5=>
   if b=true then te σ4 H5 λy H6=>rAppend (.ref acc) [y] H6 λ_ H7=>∃m',m'<m/\Wq (i+1) m' H7 else∃m',m'<m/\Wq (i+1) m' H5)
def i6 (own:Nat) (js:P' Nat) (wi:TI) (g:TG) (ti:TT) (te:TE):TE:=λσ H Q=>wi σ H λJ H1=>∀acc,H1 acc=none->gQ J own js g ti te σ H1 acc Q
def gf {α:Type}{t:Sem α}{Q Q':α->P4->Prop}{M:Model}{A:P9}(h:wpAny M A t Q (λ_ _=>False) s) (hQ:∀a s,Q a s->Q' a s):wpAny M A t Q' E s:=BV h hQ λ_ _ f=>f.elim
theorem mI {scope:Scope}{env:Env}{x:Str}:∀{names:P' (Str×NameKind)},((names.map fun(n,k)=>if(k==NameKind.free&&env.scope.kind== .function&&env.kindOf n==some .cell) then(n,NameKind.cell) else(n,k)).lookup x=some .cell\/
  (names.map fun(n,k)=>if(k==NameKind.free&&env.scope.kind== .function&&env.kindOf n==some .cell) then(n,NameKind.cell) else(n,k)).lookup x=some .free)->(∀y∈names,y.2≠ .cell)->(x,NameKind.free)∈names
 |[],h,_=>by simp at h
 |(n,k)::r,h,hc=>by
  have hr:∀y∈r,y.2≠ .cell:=λy hy=>hc y (AN _ hy);have h0:k≠ .cell:=hc (n,k) AS;rw[AW,CG] at h;by_cases hb:(k==NameKind.free&&env.scope.kind== .function&&env.kindOf n==some .cell)=true
  .rw [AB hb] at h;dsimp only at h;by_cases q:x==n
   .have hk:k= .free:=by simp only[AD,CJ] at hb;exact hb.1.1
    rw[CJ.mp q,hk];exact AS
   .have q':(x==n)=false:=by simpa using q
    rw[q'] at h;exact AN _ (mI (scope:=scope) h hr)
  .rw [A6 hb] at h;dsimp only at h;by_cases q:x==n
   .rw [q] at h;dsimp only at h;have hk:k= .free:=by
     rcases h with h|h
     .exact absurd (Ae h) h0
     .exact Ae h
    rw[CJ.mp q,hk];exact AS
   .have q':(x==n)=false:=by simpa using q
    rw[q'] at h;exact AN _ (mI (scope:=scope) h hr)
def gg (own:Nat) (g:TG):Prop:=∀v σ H (Q:St->Hp->Prop),g v σ H Q->g v σ H λσ' H'=>Q σ' H'/\σ'.length=σ.length/\∀i,own<=i->σ'[i]? =σ[i]?
theorem fG (h:i<own):gg own (cn i):=λv σ H Q q=>⟨q,Bi ..,λj hj=>by rw[C9 (by lia)]⟩
theorem Du (own:Nat) (js:P' Nat) (σ:St):(cX own js σ).length=own+js.length:=by simp[cX]
theorem r6 {σ:St}(h:(cX own js σ)[i]? =some (some v)):own<=i/\∃j,js[i-own]? =some j/\σ[j]? =some (some v):=by
 unfold cX at h;by_cases hi:i<own
 .rw [Cd (by simpa using hi),Cq,AB hi] at h;cases h
 .rw [Bg (by simpa using hi),Ad,AE] at h;refine⟨by lia, ?_⟩;cases e:js[i-own]? with
  |none=>rw[e] at h;cases h
  |some j=>
   rw[e] at h;refine⟨j,rfl, ?_⟩;have h':(σ[j]?).getD none=some v:=Ae h;cases e2:σ[j]? with
   |none=>rw[e2] at h';cases h'
   |some o=>rw[e2] at h';exact BF some h'
theorem r9 {LU aG:Qa}{LG:P' Qa}{pos ps:Pos}{wi:TI}{ti:TT}(hc:X.calm=true)
  (KY:∀y∈scope.names,y.2≠ .cell) (Li:scope.kind= .function) (LH:∀y∈scope.names,y.2= .local->scope.names.lookup y.1=some .local)
  (Lu:∀y∈scope.names,y.2= .free->X.env.kindOf y.1=some .cell\/X.env.kindOf y.1=some .free) (Kz:N.length=own+js.length)
  (MB:∀(i j:Nat) (x:Str),js[i]? =some j->N[own+i]? =some x->X.N[j]? =some x/\(x,NameKind.free)∈scope.names/\(X.env.kindOf x=some .cell\/X.env.kindOf x=some .free)/\((relabel scope X.env).names.lookup x=some .cell\/(relabel scope X.env).names.lookup x=some .free))
  (hi:PI X tg aG wi) (hg:∀C s₀ H₀ ex,PG (X.comp scope C N s₀ H₀ ex λ_ _=>False) tg g) (ho:gg own g) (ht:∀C s₀ H₀ ex,ge (X.comp scope C N s₀ H₀ ex λ_ _=>False) LG ti) (he:∀C s₀ H₀ ex,PE (X.comp scope C N s₀ H₀ ex λ_ _=>False) LU te)
  {σ:St}{Q:VK}{use:Qc (P3->Sem Unit)}{RQ:P3->P4->Prop} (I:Inv X Ku σ H s) (h:i6 own js wi g ti te σ H Q)
  (fin:∀(acc C:P5) (H3:Hp) (s4:P4) (m:Str->Qc P3),Inv X Ku σ H3 s4->s4.heap.Ns C m->H3 C=none->C≠X.env.locals->C∉X.fs->X.s₀.heap.objs.size<=C->(∀x c,X.env.cells.lookup x=some c->c≠C)->(∀p∈X.pn++Ku,p.1≠C)->
   Q (.ref acc) H3->compPost (model X.prog X.w) X.A X.xe use RQ (.ref acc) C (.ok .next) s4)
  (hs:∀x,foldedSetIterable aG X.env x=pure x:=by intro _;rfl):
  wpAny (model X.prog X.w) X.A (comprehension (.ListComp LU [⟨tg,aG,LG,0⟩] scope pos) scope X.env ps (newList []) false (eval aG X.env) use) RQ X.xe s:=by
 have N4:∀y∈scope.names,y.2= .free->∃c,X.env.cells.lookup y.1=some c:=λy hy hf=>I.ok.has y.1 (Lu y hy hf);refine wpAny_comprehension_free (use:=use) rfl hs (Dt N4) Li LH (thn (hi Ku s σ H _ I h) λv s1 h1=>thn h1 λitv s2 h2=> ?_);obtain⟨it,fp,tn,J,H2,e,I2,T,MR,f2,q⟩:=h2;subst e;have nf:H2 s2.heap.objs.size=none:=I2.hok.fresh (A8 _);obtain⟨Wq,⟨m0,w0⟩,turn⟩:=q s2.heap.objs.size nf;refine Au (wpAny_newFunctionEnv KY (by intro y hy;simp at hy) (λh₁ O8 N5=> ?_) Li);dsimp only at O8 N5⊢;generalize hP2:s2.heap.push {cls:= .type "list",dict:=none,data:= .seq ([]:P' P3).toArray}=P2 at O8 N5⊢;have hC:P2.objs.size=s2.heap.objs.size+1:=by rw[<-hP2,B7]
 have OA:s2.heap.objs.size<P2.objs.size:=by rw[hC];exact BU _
 have kp:∀b o,s2.heap.get? b=some o->h₁.get? b=some o:=λb o e=>N5.extBut b o (AO (Nat.lt_trans (AL e) OA)) (A5 _ (hP2▸A5 _ e));have Ky:h₁.get? s2.heap.objs.size=some {cls:= .type "list",dict:=none,data:= .seq ([]:P' P3).toArray}:=N5.extBut _ _ (AO OA) (A5 _ (hP2▸AI _ rfl));have O9:∀x c,(cJ X.env scope.names []).lookup x=some c->X.env.cells.lookup x=some c:=λx c e=>rZ scope.names [] N4 (λ_ _ z=>by simp at z) e;have cne:∀x c,(cJ X.env scope.names []).lookup x=some c->c<s2.heap.objs.size/\H2 c=none:=λx c e=>by
  obtain⟨v,o,ho,hd⟩:=I2.cell x c (O9 x c e);exact⟨AL ho,I2.freeC x c (O9 x c e)⟩
 have fpl:∀b∈fp,b<s2.heap.objs.size:=λb hb=>by
  obtain⟨o,e,_⟩:=T.obj 0 _ MR b hb;exact AL e
 have hX:(X.comp scope P2.objs.size N s2 H2 fp λ_ _=>False).Ok:={
  mod:=I.ok.mod
  kind:=Li
  glob:=I.ok.glob
  blt:=I.ok.blt
  above:=AT OA
  inj:=λx y c a b=>I.ok.inj x y c (O9 x c a) (O9 y c b)
  has:=λx hx=>mG scope.names [] (mI (scope:=scope) (env:=X.env) hx KY)
  cab:=λx c a _=>by cases (show false=true from a)
  hd:=I.ok.hd
  frames:=I.ok.frames
  stk:= .inl rfl
  exf:=λb hb=>⟨AO (Nat.lt_trans (fpl b hb) OA),λx c a=>(f2 b hb).2.2.2.2.1 x c (O9 x c a)⟩
  bs:=I2.bs
  bsz:=As I.ok.bsz I2.sz
  noex:=λb o e hb=>by
   rcases(f2 b hb).2.2.2.1 with z|z
   .exact I.ok.noex b o e z
   .exact absurd (Ai (Ai (AL e) I.ok.bsz) z) (CF _)
  exfs:=λb hb z=>by
   rcases AM.mp (I2.stkSub b z) with z|z
   .exact(f2 b hb).2.1 z
   .exact(f2 b hb).2.2.1 z
  funs:=I2.stack
  frf:=I2.stkFree}
 have I3:∀tk,Inv (X.comp scope P2.objs.size N s2 H2 fp λ_ _=>False) [] (cX own js σ) (upd H2 s2.heap.objs.size (.lst [])) {s2 with heap:=h₁,toks:=tk}:=λtk=>{
  ok:=hX
  os:=rfl
  bare:=I2.bare
  base:=Un.laid kp (A8 _) nf
  loc:=⟨_,O8,λi x v a b c=>by
   obtain⟨hio,j,hj,hv⟩:=r6 b;obtain⟨h3,h4,h5,h6⟩:=MB (i-own) j x hj (by rw[show own+(i-own)=i by lia];exact a);obtain⟨m,hn,hl⟩:=I2.loc;obtain⟨u,ru,lk⟩:=hl j x v h3 hv (.inr h5);refine⟨u,ru, .inr ⟨h6, ?_⟩⟩;rcases lk with⟨z,_⟩|⟨_,c0,z1,z2⟩
   .rcases h5 with h5|h5<;>(rw[h5] at z;cases z)
   .obtain⟨c1,NP⟩:=mG (env:=X.env) scope.names [] h4;have:=O9 x c1 NP;rw[z1] at this;cases this;obtain⟨o,ho,hd⟩:=z2;exact⟨c0,NP,o,kp _ _ ho,hd⟩⟩
  cell:=λx c a=>by
   obtain⟨v,o,ho,hd⟩:=I2.cell x c (O9 x c a);exact⟨v,o,kp _ _ ho,hd⟩
  free:=by
   show upd H2 _ _ P2.objs.size=none;rw[au (BZ OA)];exact I2.hok.fresh (AT OA)
  freeC:=λx c a=>by
   rw[au (AO (cne x c a).1)];exact(cne x c a).2
  pin:=λp hp=>absurd (show p∈([]:P' (P5×Obj)) from hp) (by simp)
  hok:=I2.hok.laid kp (A8 _) ⟨AJ _,[],0, .nil,Ky⟩
  len:=by rw[Du];exact Kz.symm}
 have fr0:∀b∈fp,upd H2 s2.heap.objs.size (.lst []) b=none:=λb hb=>by
  rw[au (AO (fpl b hb))];exact(f2 b hb).1
 have st3:tn 0 h₁:=T.keep 0 _ _ MR λb _ o e=>kp b o e;have MA:∀{H':Hp},(∀b∈fp,H' b=none)->∀b∈fp,cq (X.comp scope P2.objs.size N s2 H2 fp λ_ _=>False) [] H' b:=λhn b hb=>
  ⟨hn b hb,(hX.exf b hb).1,hX.exfs b hb, .inl hb,λx c a=>(hX.exf b hb).2 x c a,λp hp=>absurd (show p∈([]:P' (P5×Obj)) from hp) (by simp)⟩
 have loop:∀s₃:P4,s₃={s2 with heap:=h₁,toks:=s2.toks+([]:P' (Str×P3)).length}->
   codeAny (model X.prog X.w) X.A (.compLoop (.ListComp LU [⟨tg,aG,LG,0⟩] scope pos) 0 (.ref it) (.ref s2.heap.objs.size) (compEnvC scope (cJ X.env scope.names []) P2.objs.size X.env))
    (compPost (model X.prog X.w) X.A X.xe use RQ (.ref s2.heap.objs.size) P2.objs.size) s₃:=by
  rintro s₃ rfl;refine Ds (λn s'=>∃i H',Inv (X.comp scope P2.objs.size N s2 H2 fp λ_ _=>False) [] (cX own js σ) H' s'/\tn i s'.heap/\(∀b∈fp,H' b=none)/\Wq i n H') ?_ m0 ⟨0,_,I3 _,st3,fr0,w0⟩;rintro n s3 ⟨i,H3,J3,t3,fr3,w3⟩;rcases turn i n H3 w3 with⟨stop,qd⟩|⟨go,step⟩
  .refine gf (T.done (X.comp scope P2.objs.size N s2 H2 fp λ_ _=>False) rfl rfl rfl hc i [] s3 _ H3 _ J3 (MA fr3) t3 stop) λr s4 zu47=> ?_;obtain⟨hr,J4⟩:=zu47;subst hr;obtain⟨m,hn,_⟩:=J4.loc;have B:Un (frs X.stack) fp H2 H3 s2.heap s4.heap:=J4.base;have I5:Inv X Ku σ H3 s4:=I2.call' J4.os B J4.hok J4.bare λb hb=>by
    obtain⟨a1,a2,a3,a4,a5,a6⟩:=f2 b hb;exact⟨a4,a2,a5,a6⟩
   have hp:=I2.fpOk (H':=H3) (b:=P2.objs.size) (AT OA) J4.free;obtain⟨a1,a2,a3,a4,a5,a6⟩:=hp;exact fin s2.heap.objs.size P2.objs.size H3 s4 m I5 hn a1 a2 a3 (As I2.sz (AT OA)) a5 a6 qd
  .refine gf (T.item (X.comp scope P2.objs.size N s2 H2 fp λ_ _=>False) rfl rfl rfl hc i [] s3 _ H3 _ J3 (MA fr3) t3 go) λr s4 zu48=> ?_;obtain⟨u,hr,h4⟩:=zu48;subst hr;refine gf h4 λ_ s5 zu49=> ?_;obtain⟨x,H5,J5,r5,y5,t5,fr5⟩:=zu49;have J5':=J5.pinned (MA fr5) (T.obj _ _ t5);refine gf (hg _ _ _ _ _ s5 _ H5 x u _ J5' r5 (ho _ _ _ _ (step x H5 y5))) λ_ s6 zu50=> ?_;obtain⟨σ6,H6,J6,q6,hl6,MM⟩:=zu50;have again:∀{s7:P4}{H7:Hp},Inv (X.comp scope P2.objs.size N s2 H2 fp λ_ _=>False) ([]++iO fp s5.heap) σ6 H7 s7->(∃m',m'<n/\Wq (i+1) m' H7)->
     ∃m,m<n/\∃i H',Inv (X.comp scope P2.objs.size N s2 H2 fp λ_ _=>False) [] (cX own js σ) H' s7/\tn i s7.heap/\(∀b∈fp,H' b=none)/\Wq i m H':=fun{s7 H7} J7 z=>by
    obtain⟨m',hm,w7⟩:=z;refine⟨m',hm,i+1,H7,J7.unpinned.weak (by rw[hl6]) (λk v z=> ?_),T.keep _ _ _ t5 λb hb o e=>(J7.pin (b,o) (B4 _ (B4 _ (jY hb e)))).1,λb hb=> ?_,w7⟩
    .rw [MM k (r6 z).1];exact z
    .obtain⟨o,e,d⟩:=T.obj _ _ t5 b hb;exact(J7.pin (b,o) (B4 _ (B4 _ (jY hb e)))).2.1
   refine gf (ht _ _ _ _ _ s6 σ6 H6 _ J6 q6) λok s7 zu51=> ?_;obtain⟨H7,J7,q7⟩:=zu51;cases ok with
   |false=>exact again J7 q7
   |true=>
    refine gf (he _ _ _ _ _ s7 σ6 H7 _ J7 q7) λy s8 zu52=> ?_;obtain⟨yv,H8,J8,r8,q8⟩:=zu52;exact gf (dB _ s8 σ6 H8 (.ref s2.heap.objs.size) [yv] (.ref s2.heap.objs.size) [y] _ J8 rfl (.cons r8 .nil) q8) λ_ s9 KJ=>by obtain⟨_,H9,J9,_,q9⟩:=KJ;exact again J9 q9
 exact codeAny_compStart_list (loop _ rfl) (T.self X.A 0 _ _ _ st3 (loop _ rfl))
theorem Dv {LU aG:Qa}{LG:P' Qa}{pos:Pos}{wi:TI}{ti:TT}(hc:X.calm=true)
  (KY:∀y∈scope.names,y.2≠ .cell) (Li:scope.kind= .function) (LH:∀y∈scope.names,y.2= .local->scope.names.lookup y.1=some .local)
  (Lu:∀y∈scope.names,y.2= .free->X.env.kindOf y.1=some .cell\/X.env.kindOf y.1=some .free) (Kz:N.length=own+js.length)
  (MB:∀(i j:Nat) (x:Str),js[i]? =some j->N[own+i]? =some x->X.N[j]? =some x/\(x,NameKind.free)∈scope.names/\(X.env.kindOf x=some .cell\/X.env.kindOf x=some .free)/\((relabel scope X.env).names.lookup x=some .cell\/(relabel scope X.env).names.lookup x=some .free))
  (hi:PI X tg aG wi) (hg:∀C s₀ H₀ ex,PG (X.comp scope C N s₀ H₀ ex λ_ _=>False) tg g) (ho:gg own g) (ht:∀C s₀ H₀ ex,ge (X.comp scope C N s₀ H₀ ex λ_ _=>False) LG ti) (he:∀C s₀ H₀ ex,PE (X.comp scope C N s₀ H₀ ex λ_ _=>False) LU te)
  (hs:∀x,foldedSetIterable aG X.env x=pure x:=by intro _;rfl):PE X (.ListComp LU [⟨tg,aG,LG,0⟩] scope pos) (i6 own js wi g ti te):=by
 intro Ku s σ H Q I h;rw[eval_ListComp];refine r9 hc KY Li LH Lu Kz MB hi hg ho ht he I h (use:=none) (λacc C H3 s4 m I5 hn c1 c2 c3 c4 c5 c6 q=> ?_) hs;refine⟨m,hn,λh' sb=>⟨.ref acc,H3, ?_,rfl,q⟩⟩;exact I5.turned (t':=s4.toks) (it:=C) (λb o hb e=>(sb.2 b hb).trans e) c1 c2 (.inr c4) c5 c6
theorem Dw {y:Str}{tg aG:Expr}{N:List Str}{js:List Nat}{wi:TI}{ti:TT}(hN:X.N.Nodup) (Mr:X.N[i]? =some y) (hy:Loc X.env.scope y) (hf:X.fn y=true\/X.env.scope.names.lookup y=some .local)
  (hc:X.calm=true)
  (KY:∀y∈scope.names,y.2≠ .cell) (Li:scope.kind= .function) (LH:∀y∈scope.names,y.2= .local->scope.names.lookup y.1=some .local)
  (Lu:∀y∈scope.names,y.2= .free->X.env.kindOf y.1=some .cell\/X.env.kindOf y.1=some .free) (Kz:N.length=own+js.length)
  (MB:∀(i j:Nat) (x:Str),js[i]? =some j->N[own+i]? =some x->X.N[j]? =some x/\(x,NameKind.free)∈scope.names/\(X.env.kindOf x=some .cell\/X.env.kindOf x=some .free)/\((relabel scope X.env).names.lookup x=some .cell\/(relabel scope X.env).names.lookup x=some .free))
  (hi:PI X tg aG wi) (hg:∀C s₀ H₀ ex,PG (X.comp scope C N s₀ H₀ ex λ_ _=>False) tg g) (ho:gg own g) (ht:∀C s₀ H₀ ex,ge (X.comp scope C N s₀ H₀ ex λ_ _=>False) LG ti) (he:∀C s₀ H₀ ex,PE (X.comp scope C N s₀ H₀ ex λ_ _=>False) LU te)
  (hsw:swapsWith (.ListComp LU [⟨tg,aG,LG,0⟩] scope pos) (some (.Name y py)) Nf.line X.env=pure true:=by rfl)
  (hs:∀x,foldedSetIterable aG X.env x=pure x:=by intro _;rfl):PS X (.Assign [.Name y py] (.ListComp LU [⟨tg,aG,LG,0⟩] scope pos) Nf) (iN (i6 own js wi g ti te) (cn i)):=by
 intro Ku s σ H D I h;rw[exec_Assign_Name_used _ _ _ _ hsw];refine A0 (DQ (A0 ?_));show wpAny _ X.A (do let _<-comprehension (.ListComp LU [⟨tg,aG,LG,0⟩] scope pos) scope X.env _ (newList []) false (eval aG X.env) (some (assign (.Name y py) X.env))) _ _ s;refine A0 (BV (r9 hc KY Li LH Lu Kz MB hi hg ho ht he I h (use:=some (assign (.Name y py) X.env)) (RQ:=λ_ s'=>SP X Ku D .next s') (λacc C H3 s4 m I5 hn c1 c2 c3 c4 c5 c6 q=> ?_) hs) (λ_ s' hq=>A3 (A3 hq)) λ_ _ e=>e);show wpAny _ X.A (assign (.Name y py) X.env (.ref acc)) _ _ _;obtain⟨o,es,ep,LN,hd,hr⟩:=hn;have I6:Inv X (Ku++[(C,o)]) σ H3 s4:=I5.pins_of λp hp=>by
  rcases C1.mp hp with z|z
  .exact I5.pin p (B4 _ z)
  .rw [Aq.mp z];exact⟨LN,c1,c2,c3,λv z=>by rw[hd] at z;cases z⟩
 refine wpAny_assign_Name (fZ I6 hN Mr hy (v:= .ref acc) rfl (λs' I7=> ?_) hf);have hp:=I7.pin (C,o) (B4 _ (B4 _ (by simp)));refine⟨m,⟨o,es,ep,hp.1,hd,hr⟩,λh' sb=>⟨_,H3, ?_,q⟩⟩;exact I7.unpinned.turned (t':=s'.toks) (it:=C) (λb o hb e=>(sb.2 b hb).trans e) c1 c2 (.inr c4) c5 c6
def kc (XN:P' Str) (sc scope:Scope) (own:Nat) (js:P' Nat) (N:P' Str):Bool:=
 (scope.names.all λy=>decide (y.2≠ .cell)&&(decide (y.2≠ .local)||decide (scope.names.lookup y.1=some .local))&&(decide (y.2≠ .free)||decide (sc.names.lookup y.1=some .cell)||decide (sc.names.lookup y.1=some .free)))&&
  decide (scope.kind= .function)&&decide (N.length=own+js.length)&&
  (List.range js.length).all λi=>match js[i]?,N[own+i]? with
   |some j,some x=>decide (XN[j]? =some x)&&decide (scope.names.lookup x=some .free)&&(decide (sc.names.lookup x=some .cell)||decide (sc.names.lookup x=some .free))
   |_,_=>false
theorem mJ {env:Env}:∀{names:P' (Str×NameKind)}{x:Str},names.lookup x=some .free->
  (names.map fun(n,k)=>if(k==NameKind.free&&env.scope.kind== .function&&env.kindOf n==some .cell) then(n,NameKind.cell) else(n,k)).lookup x=some .cell\/
  (names.map fun(n,k)=>if(k==NameKind.free&&env.scope.kind== .function&&env.kindOf n==some .cell) then(n,NameKind.cell) else(n,k)).lookup x=some .free
 |[],_,h=>by simp at h
 |(n,k)::r,x,h=>by
  have ih:= @mJ env r x;rw[AW,CG];rw[CG] at h;by_cases hc:(k==NameKind.free&&env.scope.kind== .function&&env.kindOf n==some .cell)=true
  .rw [AB hc];dsimp only;cases hx:x==n with
   |true=>exact .inl rfl
   |false=>
    rw[hx] at h;exact ih h
  .rw [A6 hc];dsimp only;cases hx:x==n with
   |true=>
    rw[hx] at h;exact .inr h
   |false=>
    rw[hx] at h;exact ih h
structure CompOk (XN:P' Str) (sc scope:Scope) (own:Nat) (js:P' Nat) (N:P' Str):Prop where
 cell:∀y∈scope.names,y.2≠ .cell
 names:∀y∈scope.names,y.2= .local->scope.names.lookup y.1=some .local
 free:∀y∈scope.names,y.2= .free->sc.names.lookup y.1=some .cell\/sc.names.lookup y.1=some .free
 kind:scope.kind= .function
 len:N.length=own+js.length
 cap:∀(i j:Nat) (x:Str),js[i]? =some j->N[own+i]? =some x->XN[j]? =some x/\scope.names.lookup x=some .free/\(sc.names.lookup x=some .cell\/sc.names.lookup x=some .free)
theorem se {XN:P' Str}{sc:Scope}(h:kc XN sc scope own js N=true):CompOk XN sc scope own js N:=by
 unfold kc at h;rw[AD,AD,AD] at h;obtain⟨⟨⟨h1,h2⟩,h3⟩,h4⟩:=h;rw[Ao] at h1 h4;refine⟨λy hy=> ?_,λy hy e=> ?_,λy hy e=> ?_,Ar h2,Ar h3,λi j x a b=> ?_⟩
 .have:=h1 y hy;rw[AD,AD] at this;exact Ar this.1.1
 .have:=h1 y hy;rw[AD,AD,DF] at this;rcases this.1.2 with z|z
  .exact absurd e (Ar z)
  .exact Ar z
 .have:=h1 y hy;rw[AD,AD,DF,DF,DF] at this;rcases this.2 with(z|z)|z
  .exact absurd e (Ar z)
  .exact .inl (Ar z)
  .exact .inr (Ar z)
 .have hi:i<js.length:=(AG.mp a).1;have:=h4 i (Ag.mpr hi);rw[a,b] at this;dsimp only at this;rw[AD,AD,DF] at this;exact⟨Ar this.1.1,Ar this.1.2,this.2.imp Ar Ar⟩
section
variable {X:Cx}{XN:P' Str}{sc scope:Scope}{LU tg aG:Qa}{LG:P' Qa}{pos:Pos}{N:P' Str}{own:Nat}{js:P' Nat}{wi:TI}{g:TG}{ti:TT}{te:TE}
theorem dP (hc:X.calm=true) (ok:kc XN sc scope own js N=true) (hsc:X.env.scope=sc) (hXN:X.N=XN) (hi:PI X tg aG wi) (hg:∀C s₀ H₀ ex,PG (X.comp scope C N s₀ H₀ ex λ_ _=>False) tg g) (ho:gg own g)
  (ht:∀C s₀ H₀ ex,ge (X.comp scope C N s₀ H₀ ex λ_ _=>False) LG ti) (he:∀C s₀ H₀ ex,PE (X.comp scope C N s₀ H₀ ex λ_ _=>False) LU te)
  (hs:∀x,foldedSetIterable aG X.env x=pure x:=by intro _;rfl):PE X (.ListComp LU [⟨tg,aG,LG,0⟩] scope pos) (i6 own js wi g ti te):=by
 obtain⟨h1,h2,h3,h4,h5,h6⟩:=se ok;subst hsc hXN;refine Dv hc h1 h4 h2 h3 h5 (λi j x a b=> ?_) hi hg ho ht he hs;obtain⟨z1,z2,z3⟩:=h6 i j x a b;exact⟨z1,Bt z2,z3,mJ z2⟩
theorem si {y:Str}(hN:X.N.Nodup) (Mr:X.N[i]? =some y) (hy:Loc X.env.scope y) (hf:X.fn y=true\/X.env.scope.names.lookup y=some .local) (hc:X.calm=true) (ok:kc XN sc scope own js N=true) (hsc:X.env.scope=sc) (hXN:X.N=XN) (hi:PI X tg aG wi)
  (hg:∀C s₀ H₀ ex,PG (X.comp scope C N s₀ H₀ ex λ_ _=>False) tg g) (ho:gg own g)
  (ht:∀C s₀ H₀ ex,ge (X.comp scope C N s₀ H₀ ex λ_ _=>False) LG ti) (he:∀C s₀ H₀ ex,PE (X.comp scope C N s₀ H₀ ex λ_ _=>False) LU te)
  (hsw:swapsWith (.ListComp LU [⟨tg,aG,LG,0⟩] scope pos) (some (.Name y py)) Nf.line X.env=pure true:=by rfl)
  (hs:∀x,foldedSetIterable aG X.env x=pure x:=by intro _;rfl):PS X (.Assign [.Name y py] (.ListComp LU [⟨tg,aG,LG,0⟩] scope pos) Nf) (iN (i6 own js wi g ti te) (cn i)):=by
 obtain⟨h1,h2,h3,h4,h5,h6⟩:=se ok;subst hsc hXN;refine Dw hN Mr hy hf hc h1 h4 h2 h3 h5 (λi j x a b=> ?_) hi hg ho ht he hsw hs;obtain⟨z1,z2,z3⟩:=h6 i j x a b;exact⟨z1,Bt z2,z3,mJ z2⟩
end
theorem kf {lo:Int}{ti:TT}{σ:St}{Q:VK} (Pv:Nat->Hp->Prop) (h0:Pv 0 (upd H1 acc (.lst [])))
  (hs:∀i H2,i<n->Pv i H2->g (.int (lo+i)) (cX own js σ) H2 λσ4 H4=>ti σ4 H4 λb H5=>if b=true then te σ4 H5 λy H6=>rAppend (.ref acc) [y] H6 λ_ H7=>Pv (i+1) H7 else Pv (i+1) H5) (hd:∀H2,Pv n H2->Q (.ref acc) H2)
  (mono:∀σ H (R R':St->Hp->Prop) x,(∀σ' H',R σ' H'->R' σ' H')->g x σ H R->g x σ H R') (Lj:∀σ H (R R':Bool->Hp->Prop),(∀b H',R b H'->R' b H')->ti σ H R->ti σ H R') (Lk:∀σ H (R R':VK),(∀v H',R v H'->R' v H')->te σ H R->te σ H R'):
  gQ (Itr lo n) own js g ti te σ H1 acc Q:=by
 refine⟨λi m H2=>m=n-i/\i<=n/\Pv i H2,⟨n,by simp,AJ _,h0⟩, ?_⟩;rintro i m H2 ⟨rfl,hi,p⟩;by_cases KD:i<n
 .refine .inr ⟨KD,λx H3 y=> ?_⟩;obtain⟨e1,e2⟩:=y;subst e1 e2;refine mono _ _ _ _ _ (λσ4 H4 q=>Lj _ _ _ _ (λb H5 q=> ?_) q) (hs i _ KD p);cases b with
  |true=>
   refine Lk _ _ _ _ (λv H6 q=> ?_) q;obtain⟨l,xs,y,a1,a2,a3,a4,a5⟩:=q;exact⟨l,xs,y,a1,a2,a3,a4,n-(i+1),by lia,rfl,KD,a5⟩
  |false=>exact⟨n-(i+1),by lia,rfl,KD,q⟩
 .have e:i=n:=by lia
  subst e;exact .inl ⟨A8 _,hd H2 p⟩
theorem i7 {xs:P' V}{ti:TT}{σ:St}{Q:VK} (Pv:Nat->Hp->Prop) (h0:Pv 0 (upd H1 acc (.lst []))) (hl:∀i H2,i<=xs.length->Pv i H2->SqL K H2 a xs)
  (hs:∀i x H2,xs[i]? =some x->Pv i H2->g x (cX own js σ) H2 λσ4 H4=>ti σ4 H4 λb H5=>if b=true then te σ4 H5 λy H6=>rAppend (.ref acc) [y] H6 λ_ H7=>Pv (i+1) H7 else Pv (i+1) H5) (hd:∀H2,Pv xs.length H2->Q (.ref acc) H2)
  (mono:∀σ H (R R':St->Hp->Prop) x,(∀σ' H',R σ' H'->R' σ' H')->g x σ H R->g x σ H R') (Lj:∀σ H (R R':Bool->Hp->Prop),(∀b H',R b H'->R' b H')->ti σ H R->ti σ H R') (Lk:∀σ H (R R':VK),(∀v H',R v H'->R' v H')->te σ H R->te σ H R'):
  gQ (Itl K a) own js g ti te σ H1 acc Q:=by
 refine⟨λi m H2=>m=xs.length-i/\i<=xs.length/\Pv i H2,⟨xs.length,by simp,AJ _,h0⟩, ?_⟩;rintro i m H2 ⟨rfl,hi,p⟩;have q:=hl i H2 hi p;by_cases KD:i<xs.length
 .refine .inr ⟨⟨xs,xs[i],q,by simp[KD]⟩,λx H3 y=> ?_⟩;obtain⟨e1,y⟩:=y;subst e1;refine mono _ _ _ _ _ (λσ4 H4 q=>Lj _ _ _ _ (λb H5 q=> ?_) q) (hs i x _ (y xs q) p);cases b with
  |true=>
   refine Lk _ _ _ _ (λv H6 q=> ?_) q;obtain⟨l,xs,y,a1,a2,a3,a4,a5⟩:=q;exact⟨l,xs,y,a1,a2,a3,a4,_,by lia,rfl,KD,a5⟩
  |false=>exact⟨_,by lia,rfl,KD,q⟩
 .have e:i=xs.length:=by lia
  subst e;exact .inl ⟨⟨xs,q,A8 _⟩,hd H2 p⟩
def fH :∀(σ:St) (H:Hp) (R R':St->Hp->Prop) (x:V),(∀σ' H',R σ' H'->R' σ' H')->cn i x σ H R->cn i x σ H R':=λ_ _ _ _ _ k h=>k _ _ h
theorem kg {A B:St->Hp->Prop}{x:V}{σ:St}(h:A (σ.set i (some x)) H):cn i x σ H λσ4 H4=>kb σ4 H4 λb H5=>if b=true then A σ4 H5 else B σ4 H5:=by
 show if true=true then A (σ.set i (some x)) H else B (σ.set i (some x)) H
 rw[AB rfl];exact h
theorem gR (h:i<n):ixN n (i:Int)=some i:=by
 unfold ixN;rw[AB (by lia),AB (by lia),AV]
def eU:∀(σ:St) (H:Hp) (R R':Bool->Hp->Prop),(∀b H',R b H'->R' b H')->kb σ H R->kb σ H R':=λ_ _ _ _ k h=>k _ _ h
section
variable {X:Cx}{K:W.Frag}
def Dx (h:X.K=K):IxR X (rIxL K):=h▸bh
end
inductive EqR (K:W.Frag) (H:Hp):Nat->V->V->Bool->Prop where
 |int (d:Nat) (i j:Int):EqR K H d (.int i) (.int j) (decide (i=j))
 |lists {d:Nat}{a b:Addr}{xs ys:List V} (es:Nat->Bool) (h1:SqL K H a xs) (h2:SqL K H b ys) (hl:xs.length=ys.length) (he:∀(j:Nat) x y,xs[j]? =some x->ys[j]? =some y->EqR K H d x y (es j)):EqR K H (d+1) (.ref a) (.ref b) ((List.range xs.length).all es)
 |lens {d:Nat}{a b:Addr}{xs ys:List V} (h1:SqL K H a xs) (h2:SqL K H b ys) (hl:xs.length≠ys.length):EqR K H (d+1) (.ref a) (.ref b) false
 |tuples {d:Nat}{a b:Addr}{xs ys:List V} (es:Nat->Bool) (h1:SqT K H a xs) (h2:SqT K H b ys) (he:∀(j:Nat) x y,xs[j]? =some x->ys[j]? =some y->EqR K H d x y (es j)):EqR K H (d+1) (.ref a) (.ref b) ((List.range (min xs.length ys.length)).all es&&xs.length==ys.length)
section
variable {X:Cx}{Ku:P' (P5×Obj)}{σ:St}{H:Hp}{s:P4}
theorem EqR.same (I:Inv X Ku σ H s) {x:V}(h:EqR X.K H d x y e):x=y->e=true:=by
 induction h with
 |int d i j=>intro q;cases q;simp
 |lists es h1 h2 hl he ih=>
  intro q;cases q;have z:=I.list_inj h1 h2;subst z;rw[Ao];intro j hj;rw[Ag] at hj;have hx:=A2 hj;exact ih j _ _ hx hx rfl
 |lens h1 h2 hl=>
  intro q;cases q;exact absurd (BF List.length (I.list_inj h1 h2)) hl
 | @tuples d a b xs ys es h1 h2 he ih=>
  intro q;cases q;have z:=I.tuple_inj h1 h2;subst z;rw[AD];refine⟨?_,by simp⟩;rw[Ao];intro j hj;rw[Ag,Nat.min_self] at hj;have hx:=A2 hj;exact ih j _ _ hx hx rfl
def cK (A:P9):A.in1.units=A.units+1:=rfl
theorem EqR.bo (I:Inv X Ku σ H s) {x:V}(h:EqR X.K H d x y e):∀{A:P9}{u v:P3},A.units+d<cLine->aw x u->aw y v->SeqAt.RcAt A s u v e/\SeqAt.RcNeAt A s u v (!e)/\SeqAt.EqAt A s u v e:=by
 induction h with
 |int d i j=>
  intro A u v hu ru rv;obtain⟨t,rfl⟩:=ru;obtain⟨t',rfl⟩:=rv;have e:decide (i=j)=(i==j):=by rw[Bool.beq_eq_decide_eq]
  rw[e];exact⟨SeqAt.RcAt.int_int i t j t',SeqAt.RcNeAt.int_int i t j t',SeqAt.EqAt.int_int i t j t'⟩
 | @lists d a b xs ys es h1 h2 hl he ih=>
  intro A u v hu ru rv;obtain rfl:u=Value.ref a:=ru;obtain rfl:v=Value.ref b:=rv;obtain⟨is,r1,p1,z1⟩:=I.list h1;obtain⟨js,r2,p2,z2⟩:=I.list h2;have l1:=r1.length;have l2:=r2.length;have ln:xs.length=is.toArray.size:=by simpa using l1
  have sz:is.toArray.size=js.toArray.size:=by simp only[AF];lia
  have it:∀j (q1:j<is.toArray.size) (q2:j<js.toArray.size),SeqAt.EqAt A.in1 s is.toArray[j] js.toArray[j] (es j):=λj q1 q2=>by
   simp only[AF] at q1 q2;have hx:xs[j]? =some xs[j]:=A2 (by lia);have hy:ys[j]? =some ys[j]:=A2 (by lia);obtain⟨u1,e1,ru1⟩:=r1.get hx;obtain⟨u2,e2,ru2⟩:=r2.get hy;have g1:is.toArray[j]=u1:=by
    rw[A2 q1] at e1;simpa using Option.some.inj e1
   have g2:js.toArray[j]=u2:=by
    rw[A2 q2] at e2;simpa using Option.some.inj e2
   rw[g1,g2];exact(ih j _ _ hx hy (by rw[cK];lia) ru1 ru2).2.2
  rw[ln];have R:=SeqAt.RcAt.lists (A:=A) p1.isList p2.isList sz (by lia) it;refine⟨R,SeqAt.RcNeAt.lists p1.isList p2.isList sz (by lia) it, ?_⟩;by_cases q:a=b
  .subst q;have:=(EqR.lists es h1 h2 hl he).same I rfl;rw[ln] at this;rw[this];exact SeqAt.EqAt.same _
  .exact SeqAt.EqAt.of_refs q R
 | @lens d a b xs ys h1 h2 hl=>
  intro A u v hu ru rv;obtain rfl:u=Value.ref a:=ru;obtain rfl:v=Value.ref b:=rv;obtain⟨is,r1,p1,z1⟩:=I.list h1;obtain⟨js,r2,p2,z2⟩:=I.list h2;have l1:=r1.length;have l2:=r2.length;have sz:(is.toArray.size !=js.toArray.size)=true:=by
   simp only[AF,bne_iff_ne,ne_eq];lia
  have R:=SeqAt.RcAt.lists_lengths (A:=A) p1.isList p2.isList sz (by lia);refine⟨R,SeqAt.RcNeAt.lists_lengths p1.isList p2.isList sz (by lia), ?_⟩;by_cases q:a=b
  .subst q;exact absurd (BF List.length (I.list_inj h1 h2)) hl
  .exact SeqAt.EqAt.of_refs q R
 | @tuples d a b xs ys es h1 h2 he ih=>
  intro A u v hu ru rv;obtain rfl:u=Value.ref a:=ru;obtain rfl:v=Value.ref b:=rv;obtain⟨is,r1,p1,z1⟩:=I.tuple h1;obtain⟨js,r2,p2,z2⟩:=I.tuple h2;have l1:=r1.length;have l2:=r2.length;have ln:xs.length=is.toArray.size:=by simpa using l1
  have ln2:ys.length=js.toArray.size:=by simpa using l2
  have it:∀j (q1:j<is.toArray.size) (q2:j<js.toArray.size),SeqAt.EqAt A.in1 s is.toArray[j] js.toArray[j] (es j):=λj q1 q2=>by
   simp only[AF] at q1 q2;have hx:xs[j]? =some xs[j]:=A2 (by lia);have hy:ys[j]? =some ys[j]:=A2 (by lia);obtain⟨u1,e1,ru1⟩:=r1.get hx;obtain⟨u2,e2,ru2⟩:=r2.get hy;have g1:is.toArray[j]=u1:=by
    rw[A2 q1] at e1;simpa using Option.some.inj e1
   have g2:js.toArray[j]=u2:=by
    rw[A2 q2] at e2;simpa using Option.some.inj e2
   rw[g1,g2];exact(ih j _ _ hx hy (by rw[cK];lia) ru1 ru2).2.2
  rw[ln,ln2];have R:=SeqAt.RcAt.tuples (A:=A) (show s.heap.IsTuple a is.toArray from p1) (show s.heap.IsTuple b js.toArray from p2) (by lia) it;refine⟨R,SeqAt.RcNeAt.tuples (show s.heap.IsTuple a is.toArray from p1) (show s.heap.IsTuple b js.toArray from p2) (by lia) it, ?_⟩;by_cases q:a=b
  .subst q;have:=(EqR.tuples es h1 h2 he).same I rfl;rw[ln,ln2] at this;rw[this];exact SeqAt.EqAt.same _
  .exact SeqAt.EqAt.of_refs q R
inductive rEqS (K:W.Frag) (neg:Bool) (x:V) (y:V) (H:Hp) (Q:VK):Prop
 |mk d e:EqR K H d x y e->d<=8->(Q (.bl (if neg then !e else e)) H)->rEqS K neg x y H Q
theorem mL {k:Nat} (hr:Room k X.A):OpR X (compareOp .Eq) (rEqS X.K false):=by
 intro Ku s σ H x y v u Q I rx ry h;obtain⟨d,e,r,hd,q⟩:=h;have hu:=hr.un;exact(r.bo I (A:=X.A) (by lia) rx ry).1 X.prog X.w X.xe _ ⟨.bl e,H,I,rfl,q⟩
theorem mM {k:Nat} (hr:Room k X.A):OpR X (compareOp .NotEq) (rEqS X.K true):=by
 intro Ku s σ H x y v u Q I rx ry h;obtain⟨d,e,r,hd,q⟩:=h;have hu:=hr.un;exact(r.bo I (A:=X.A) (by lia) rx ry).2.1 X.prog X.w X.xe _ ⟨.bl (!e),H,I,rfl,q⟩
theorem gh (hc:X.calm=true):bz X (.builtin "sum") (λxs H Q=>∃(p:P5) (ns:P' Int),xs=[.ref p]/\SqL X.K H p (ns.map V.int)/\Q (.int ns.sum) H):=by
 intro Ku s σ H xs us Q I r h;obtain⟨p,ns,rfl,hq,q⟩:=h;obtain⟨u,rfl,rx⟩:=cO r;cases rx;obtain⟨Kx,r',pl,hz⟩:=I.list hq;have hi:IntsAre Kx ns:=mw r';obtain⟨ys,e⟩:=hi.allInts.items;have hl:=pl.isList;rw[e] at hl;refine sum_intListG (I.ok.hd hc) hl λh' tk t' hk=>⟨.int ns.sum,H,I.kept hk,⟨t', ?_⟩,q⟩;have n1:=hi.numsOf;rw[show Kx=Kx.toArray.toList from rfl,e,nums_intItems] at n1;rw[preSum_eq,CK (by simp),n1]
def CDB (_ j:Int):Prop:=j≠0/\j.natAbs<2^512
theorem sj:OpR X (binaryOp .FloorDiv) (rI CDB λi j=> .int (i.fdiv j)):=opI λi j _ _ _ _ _ hc q=>floordiv_int hc.1 q (.inl (PyProof.noPylong_of_log2 (by
 have h0:j.natAbs≠0:=by have:=hc.1;lia
 have:=(Nat.log2_lt h0).mpr hc.2;lia)))
end
def Ite (K:W.Frag) (a:P5):It:=
 ⟨λi H=>∃xs x,SqL K H a xs/\xs[i]? =some x,λi H v H'=>∃x p,(∀xs,SqL K H a xs->xs[i]? =some x)/\v= .ref p/\H p=none/\H'=upd H p (.tup [.int i,x]),λi H=>∃xs,SqL K H a xs/\xs.length<=i⟩
theorem Dy {Lx:P' Qa}{k:Nat}(a e it:P5) (Lp:e≠it):
  Turn P w K (.Tuple Lx k pos) (Ite K a) [e,it] e (λi h=>(∃Mm,IsEnum h e it (i:Nat) Mm)/\h.IsListIter it a i) where
 mem:=by simp
 obj:=λi h st b hb=>by
  obtain⟨⟨Mm,h1⟩,o,h2,h3,h4⟩:=st;rcases AM.mp hb with z|z
  .subst z;exact⟨_,h1,λv y=>by cases y⟩
  .rw [Aq.mp z];exact⟨o,h2,λv y=>by rw[h4] at y;cases y⟩
 keep:=λi h h' st kk=>⟨st.1.imp λMm z=>kk e (by simp) _ z,st.2.at λo z=>kk it (by simp) o z⟩
 item:=by
  intro X hP hw hK hc i Ku s σ H E I hf st hg;subst hP hw hK;obtain⟨xs,x,hq,hx⟩:=hg;obtain⟨Kx,rv,p,hz⟩:=I.list hq;obtain⟨u,hu,ru⟩:=rv.get hx;obtain⟨⟨Mm,he⟩,KI⟩:=st;have nf:H s.heap.objs.size=none:=I.hok.fresh (A8 _);have ltE:e<s.heap.objs.size:=AL he;refine wpAny_pyNext_enum_item he KI p.isList (x:=u) (by simpa using hu) Lp λh' ho MC hT hsz hk=>⟨.ref s.heap.objs.size,rfl, ?_⟩;refine wpAny_letOwnedTupleGo_enum ho λh2 N6 sb=> ?_;have k2:∀b o,b≠e->b≠it->s.heap.get? b=some o->h2.get? b=some o:=λb o n1 n2 z=>(sb.2 b n1).trans (hk b o n1 n2 z);have O':h2.get? s.heap.objs.size=some {cls:= .type "tuple",data:= .seq #[.int i s.toks,u]}:=(sb.2 _ (BZ ltE)).trans hT;have Ml:∀b,b∉[e,it]->b≠e/\b≠it:=λb z=>⟨λy=>z (by simp[y]),λy=>z (by simp[y])⟩;refine⟨.ref s.heap.objs.size,upd H s.heap.objs.size (.tup [.int i,x]), ?_,rfl,⟨x,_,λys hy=>by rw[I.list_inj hy hq];exact hx,rfl,nf,rfl⟩,⟨⟨u,by simpa using N6⟩,MC.at λo z=>(sb.2 it Lp.symm).trans z⟩,λb hb=> ?_⟩
  .refine I.step (s:=s) (h':=h2) (g':=s.gens) (d':=s.drawn) (t':=s.toks+1) (ch:=[e,it]) (λb hb=> ?_) (λb o _ _ c z _=>k2 b o (Ml b c).1 (Ml b c).2 z) (λb o _ _ c z _=>⟨o.slots,k2 b o (Ml b c).1 (Ml b c).2 z⟩)
    (λb o c z n=> ?_) (λb o c z=>⟨o,k2 b o (Ml b c).1 (Ml b c).2 z⟩) (λb ys z=> ?_) (λb o v z=> ?_) (λb ps z=>⟨#[], ?_⟩) (λm hm=> ?_) (λb v z=> ?_) I.bare
   .obtain⟨a1,a2,a3,a4,a5,a6⟩:=hf b hb;exact⟨a4,a2,a5,a6⟩
   .rw [au (AO (AL z))];exact n
   .rw [au (bF z nf)];exact z
   .rw [au (bF z nf)];exact z
   .rw [au (bF z nf),z];simp
   .obtain⟨o,es,ep,LN,r⟩:=hm;exact⟨o,es,ep,k2 _ o (λy=>(hf e (by simp)).2.1 y.symm) (λy=>(hf it (by simp)).2.1 y.symm) LN,r⟩
   .by_cases hb:b=s.heap.objs.size
    .subst hb;rw[am] at z;cases z;exact⟨by show 2<=sizeLine;decide,[.int i s.toks,u], .cons ⟨_,rfl⟩ (.cons ru .nil),⟨_,O',rfl,_,rfl⟩⟩
    .rw [au hb] at z;refine(I.hok b v z).stay (λc o hc y=>k2 c o ?_ ?_ y) (λc y=> ?_) λc ys y=> ?_
     .rcases hc with q|q
      .rw [q];exact λy=>by rw[y,(hf e (by simp)).1] at z;cases z
      .exact λy=>by rw[y,(hf e (by simp)).1] at q;cases q
     .rcases hc with q|q
      .rw [q];exact λy=>by rw[y,(hf it (by simp)).1] at z;cases z
      .exact λy=>by rw[y,(hf it (by simp)).1] at q;cases q
     .rw [au (bF y nf)];exact y
     .rw [au (bF y nf)];exact y
  .obtain⟨o,z,_⟩:=(show∃o,s.heap.get? b=some o/\True from by
    rcases AM.mp hb with q|q
    .rw [q];exact⟨_,he,trivial⟩
    .rw [Aq.mp q];obtain⟨o,y,_⟩:=KI;exact⟨o,y,trivial⟩)
   rw[au (AO (AL z))];exact(hf b hb).1
 done:=by
  intro X hP hw hK hc i Ku s σ H E I hf st hg;subst hP hw hK;obtain⟨xs,hq,hx⟩:=hg;obtain⟨Kx,rv,p,hz⟩:=I.list hq;obtain⟨⟨Mm,he⟩,KI⟩:=st;have hl:=rv.length;obtain⟨f0,f1,f2,f3,f4,f5⟩:=hf it (by simp);exact wpAny_pyNext_enum_end (I.ok.hd hc) he KI p.isList (by simp;lia) λh' eb=>⟨rfl,I.turned (t':=s.toks) (λb o hb z=>eb b o hb z) f0 f1 f3 f4 f5⟩
 self:=λ_ _ _ _ _ st h=>let ⟨⟨_,z⟩,_⟩:=st;wpAny_pyIter_enum z h
section
variable {X:Cx}{Lx:P' Qa}{k:Nat}{Lv p pos:Pos}{e:Qa}{te:TE}
def Dz (K:W.Frag) (tl:TE):TI:=λσ H R=>tl σ H λx H1=>∃a,x= .ref a/\(∃xs,SqL K H1 a xs)/\R (Ite K a) H1
theorem gS (hg:Gl X "enumerate") (hm:X.mg "enumerate"=none) (hl:PE X e te) (he:starEach [e] X.env=[(false,eval e X.env)]:=by rfl):PI X (.Tuple Lx k Lv) (.Call (.Name "enumerate" p) [e] [] pos) (Dz X.K te):=by
 intro Ku s σ H R I h;refine BL (dy I hg hm boot_enumerate ?_);refine BO (thn ((ae hl af he) _ Ku s σ H (λvs H1=>match vs with|[x]=>(∃a,x= .ref a/\(∃xs,SqL X.K H1 a xs)/\R (Ite X.K a) H1)|_=>False) I h) λus s1 zu53=> ?_) he (by rfl);obtain⟨vs,H1,I1,r1,q1⟩:=zu53
 match vs,q1,r1 with
 |[x],q1,r1=>
 obtain⟨a,rfl,⟨xs,hq⟩,q⟩:=q1;obtain⟨u,rfl,ru⟩:=cO r1;obtain rfl:u=Value.ref a:=ru;obtain⟨Kx,rv,pl,hz⟩:=I1.list hq;refine call_enumerate_list pl.isList λh' hen KI hsz hk=> ?_;refine wpAny_pyIter_enum hen ?_;refine⟨_,[_,_],_,_,H1,rfl,I1.kept (t':=s1.toks) hk,Dy a _ _ (BZ (BU _)),⟨⟨_,by simpa using hen⟩,KI⟩,λb hb=> ?_,q⟩;have fr:∀b,s1.heap.objs.size<=b->cq X Ku H1 b:=λb z=>I1.fpOk z (I1.hok.fresh z);rcases AM.mp hb with z|z
 .rw [z];exact fr _ (CH _)
 .rw [Aq.mp z];exact fr _ (A8 _)
end
theorem i8 {xs:P' V}{tb:TS}{D:Ends}{σ:St}(Pv:Nat->St->Hp->Prop) (h0:Pv 0 σ H) (hl:∀i σ H,i<=xs.length->Pv i σ H->SqL K H a xs)
  (hs:∀i x σ H p,xs[i]? =some x->Pv i σ H->H p=none->g (.ref p) σ (upd H p (.tup [.int i,x])) λσ2 H2=>tb (eLp D (Pv (i+1))) σ2 H2) (hd:∀σ H,Pv xs.length σ H->D.nx σ H):
  ∃Wq:Nat->Nat->St->Hp->Prop,(∃m,Wq 0 m σ H)/\∀i m σ H,Wq i m σ H->
   ((Ite K a).stop i H/\D.nx σ H)\/((Ite K a).go i H/\∃N:St->Hp->Prop,(∀σ' H',N σ' H'->∃m',m'<m/\Wq (i+1) m' σ' H')/\∀x H',(Ite K a).yld i H x H'->g x σ H' λσ2 H2=>tb (eLp D (N)) σ2 H2):=by
 refine⟨λi m σ H=>m=xs.length-i/\i<=xs.length/\Pv i σ H,⟨xs.length,by simp,AJ _,h0⟩, ?_⟩;rintro i m σ H ⟨rfl,hi,p⟩;have q:=hl i σ H hi p;by_cases KD:i<xs.length
 .refine .inr ⟨⟨xs,xs[i],q,by simp[KD]⟩,Pv (i+1),λσ' H' p'=>⟨xs.length-(i+1),by lia,rfl,KD,p'⟩,λx H' y=> ?_⟩;obtain⟨z,pp,e1,e2,e3,e4⟩:=y;subst e2 e4;exact hs i z σ H pp (e1 xs q) p e3
 .have e:i=xs.length:=by lia
  subst e;exact .inl ⟨⟨xs,q,A8 _⟩,hd σ H p⟩
inductive rGetN (K:W.Frag) (o:V) (i:V) (H:Hp) (Q:VK):Prop
 |mk (p:Addr) (xs:List V) (j:Nat) (k:Int) (v:V):o= .ref p->i= .int k->k=j->SqL K H p xs->xs[j]? =some v->Q v H->rGetN K o i H Q
theorem kh :qN X (rGetN X.K):=by
 intro Ku s σ H o i ov iv Q I r1 r2 h;obtain⟨p,xs,j,k,v,rfl,rfl,e,hq,hx,q⟩:=h;cases r1;obtain⟨t,rfl⟩:=r2;obtain⟨Kx,r,pl,hz⟩:=I.list hq;obtain⟨w,ew,LD⟩:=r.get hx;have hl:=r.length;have hn:=gc;have hj:j<xs.length:=(AG.mp hx).1;exact wpAny_getItem_list pl.isList (by lia) (by lia) (by rw[e,AV];simpa using ew) ⟨v,H,I,LD,q⟩
section
variable {X:Cx}{st:Qd}{t:TS}
def Ea (t:TS):TS:=λD σ H=>∃I:St->Hp->Prop,t (eTo D (I)) σ H/\∀σ' H',I σ' H'->D.nx σ' H'
theorem Eb (h:PS X st t):PS X st (Ea t):=λKu s σ H D Iv ⟨J,h1,h2⟩=>
 thn (h Ku s σ H _ Iv h1) λf s' hf=>by
  cases f with
  |next=>obtain⟨σ',H',a,b⟩:=hf;exact⟨σ',H',a,h2 _ _ b⟩
  |brk=>exact hf
  |cont=>exact hf
  |ret u=>exact hf
end
inductive D where
 |i (n:Int)|l (xs:List D)|t (xs:List D)
mutual
def Is (H:Hp):D->V->Prop
 | .i n,v=>v= .int n
 | .l xs,v=>∃a vs,v= .ref a/\H a=some (.lst vs)/\Iss H xs vs
 | .t xs,v=>∃a vs,v= .ref a/\H a=some (.tup vs)/\Iss H xs vs
def Iss (H:Hp):P' D->P' V->Prop
 |[],vs=>vs=[]
 |x::xs,vs=>∃u us,vs=u::us/\Is H x u/\Iss H xs us
end
theorem aU {H:Hp}{n:Int}:Is H (.i n) (.int n):=by unfold Is;rfl
theorem aI {H:Hp}{a:P5}{xs:P' D}{vs:P' V} (h:H a=some (.lst vs)) (k:Iss H xs vs):Is H (.l xs) (.ref a):=by unfold Is;exact⟨a,vs,rfl,h,k⟩
theorem bO {H:Hp}{a:P5}{xs:P' D}{vs:P' V} (h:H a=some (.tup vs)) (k:Iss H xs vs):Is H (.t xs) (.ref a):=by unfold Is;exact⟨a,vs,rfl,h,k⟩
theorem aX {H:Hp}{n:Int}{v:V} (h:Is H (.i n) v):v= .int n:=by unfold Is at h;exact h
theorem aH {H:Hp}{xs:P' D}{v:V} (h:Is H (.l xs) v):∃a vs,v= .ref a/\H a=some (.lst vs)/\Iss H xs vs:=by unfold Is at h;exact h
theorem bP {H:Hp}{xs:P' D}{v:V} (h:Is H (.t xs) v):∃a vs,v= .ref a/\H a=some (.tup vs)/\Iss H xs vs:=by unfold Is at h;exact h
theorem aA {H:Hp}:Iss H [] []:=by unfold Iss;rfl
theorem ax {H:Hp}{x:D}{xs:P' D}{u:V}{us:P' V} (h:Is H x u) (k:Iss H xs us):Iss H (x::xs) (u::us):=by unfold Iss;exact⟨u,us,rfl,h,k⟩
theorem aR {H:Hp}{x:D}{xs:P' D}{vs:P' V} (h:Iss H (x::xs) vs):∃u us,vs=u::us/\Is H x u/\Iss H xs us:=by unfold Iss at h;exact h
theorem bQ {H:Hp}{vs:P' V} (h:Iss H [] vs):vs=[]:=by unfold Iss at h;exact h
mutual
theorem Is.mono {H H':Hp} (s:ag H H'):∀{d:D}{v:V},Is H d v->Is H' d v
 | .i _,_,h=>by rw[aX h];exact aU
 | .l xs,_,h=>by
  obtain⟨a,vs,e,q,r⟩:=aH h;rw[e];exact aI (s _ _ q) (Iss.mono s r)
 | .t xs,_,h=>by
  obtain⟨a,vs,e,q,r⟩:=bP h;rw[e];exact bO (s _ _ q) (Iss.mono s r)
theorem Iss.mono {H H':Hp} (s:ag H H'):∀{xs:P' D}{vs:P' V},Iss H xs vs->Iss H' xs vs
 |[],_,h=>by rw[bQ h];exact aA
 |x::xs,_,h=>by
  obtain⟨u,us,e,q,r⟩:=aR h;rw[e];exact ax (Is.mono s q) (Iss.mono s r)
end
theorem Iss.length {H:Hp}:∀{xs:P' D}{vs:P' V},Iss H xs vs->vs.length=xs.length
 |[],_,h=>by rw[bQ h];rfl
 |x::xs,_,h=>by
  obtain⟨u,us,rfl,_,r⟩:=aR h;rw[AZ,AZ,r.length]
theorem Iss.get {H:Hp}:∀{xs:P' D}{vs:P' V}{j:Nat}{x:D},Iss H xs vs->xs[j]? =some x->∃v,vs[j]? =some v/\Is H x v
 |[],_,_,_,_,e=>by simp at e
 |x::xs,_,0,_,h,e=>by
  obtain⟨u,us,rfl,q,_⟩:=aR h;simp at e;subst e;exact⟨u,rfl,q⟩
 |x::xs,_,j+1,_,h,e=>by
  obtain⟨u,us,rfl,_,r⟩:=aR h;obtain⟨v,e',k⟩:=r.get (j:=j) (by simpa using e);exact⟨v,by simpa using e',k⟩
theorem Iss.of_get {H:Hp}{xs:P' D}{vs:P' V}{j:Nat}{v:V} (h:Iss H xs vs) (e:vs[j]? =some v):∃x,xs[j]? =some x/\Is H x v:=by
 have hj:j<vs.length:=(AG.mp e).1;have hj':j<xs.length:=by rw[<-h.length];exact hj
 obtain⟨u,e1,k⟩:=h.get (A2 hj');rw[e] at e1;cases e1;exact⟨_,A2 hj',k⟩
theorem Iss.append {H:Hp}:∀{xs ys:P' D}{vs ws:P' V},Iss H xs vs->Iss H ys ws->Iss H (xs++ys) (vs++ws)
 |[],_,_,_,h,k=>by rw[bQ h];exact k
 |x::xs,_,_,_,h,k=>by
  obtain⟨u,us,rfl,q,r⟩:=aR h;exact ax q (r.append k)
theorem Iss.take {H:Hp}:∀{xs:P' D}{vs:P' V} (n:Nat),Iss H xs vs->Iss H (xs.take n) (vs.take n)
 |[],_,n,h=>by rw[bQ h];simp;exact aA
 |x::xs,_,0,h=>by simp;exact aA
 |x::xs,_,n+1,h=>by
  obtain⟨u,us,rfl,q,r⟩:=aR h;exact ax q (r.take n)
theorem Iss.drop {H:Hp}:∀{xs:P' D}{vs:P' V} (n:Nat),Iss H xs vs->Iss H (xs.drop n) (vs.drop n)
 |[],_,n,h=>by rw[bQ h];simp;exact aA
 |x::xs,_,0,h=>h
 |x::xs,_,n+1,h=>by
  obtain⟨u,us,rfl,q,r⟩:=aR h;exact r.drop n
theorem Iss.rep {H:Hp}{x:D}{v:V} (h:Is H x v):∀n:Nat,Iss H (List.replicate n x) (List.replicate n v)
 |0=>aA
 |n+1=>by rw[Ap,Ap];exact ax h (Iss.rep h n)
mutual
def Kin:D->D->Prop
 | .i _, .i _=>True
 | .l xs, .l ys=>cb xs ys
 | .t xs, .t ys=>cb xs ys
 |_,_=>False
def cb:P' D->P' D->Prop
 |x::xs,y::ys=>Kin x y/\cb xs ys
 |_,_=>True
end
mutual
def eqD:D->D->Bool
 | .i a, .i b=>decide (a=b)
 | .l xs, .l ys=>cj xs ys
 | .t xs, .t ys=>cj xs ys
 |_,_=>false
def cj:P' D->P' D->Bool
 |[],[]=>true
 |x::xs,y::ys=>eqD x y&&cj xs ys
 |_,_=>false
end
mutual
def dep:D->Nat
 | .i _=>0
 | .l xs=>cw xs+1
 | .t xs=>cw xs+1
def cw:P' D->Nat
 |[]=>0
 |x::xs=>max (dep x) (cw xs)
end
mutual
theorem sk:∀{a b:D},eqD a b=true↔a=b
 | .i a, .i b=>by simp[eqD]
 | .i _, .l _=>by simp[eqD]
 | .i _, .t _=>by simp[eqD]
 | .l _, .i _=>by simp[eqD]
 | .l xs, .l ys=>by simp[eqD,ki (xs:=xs) (ys:=ys)]
 | .l _, .t _=>by simp[eqD]
 | .t _, .i _=>by simp[eqD]
 | .t _, .l _=>by simp[eqD]
 | .t xs, .t ys=>by simp[eqD,ki (xs:=xs) (ys:=ys)]
theorem ki:∀{xs ys:P' D},cj xs ys=true↔xs=ys
 |[],[]=>by simp[cj]
 |[],_::_=>by simp[cj]
 |_::_,[]=>by simp[cj]
 |x::xs,y::ys=>by simp[cj,sk (a:=x) (b:=y),ki (xs:=xs) (ys:=ys)]
end
def Ec {a:D}:eqD a a=true:=sk.mpr rfl
theorem mO:∀{xs ys:P' D},xs.length=ys.length->cj xs ys=(List.range xs.length).all λj=>eqD (xs.getD j (.i 0)) (ys.getD j (.i 0))
 |[],[],_=>by simp[cj]
 |x::xs,y::ys,h=>by
  have ih:=mO (xs:=xs) (ys:=ys) (by simpa using h);rw[cj,ih,AZ,List.range_succ_eq_map];simp[List.all_map,Function.comp_def]
theorem sq {xs ys:P' D} (h:xs.length≠ys.length):cj xs ys=false:=by
 cases e:cj xs ys with
 |false=>rfl
 |true=>exact absurd (BF List.length (ki.mp e)) h
mutual
theorem Is.eqr {K:W.Frag}{H:Hp}:∀{d e:D}{v w:V}{n:Nat},dep d<=n->Kin d e->Is H d v->Is H e w->EqR K H n v w (eqD d e)
 | .i a, .i b,_,_,n,_,_,h,k=>by
  rw[aX h,aX k,eqD];exact EqR.int n a b
 | .l xs, .l ys,_,_,0,hn,_,_,_=>absurd hn (by unfold dep;lia)
 | .l xs, .l ys,_,_,n+1,hn,hk,h,k=>by
  obtain⟨a,vs,rfl,ha,ra⟩:=aH h;obtain⟨b,ws,rfl,hb,rb⟩:=aH k;have Oy:cw xs<=n:=by unfold dep at hn;lia
  have Mz:cb xs ys:=by unfold Kin at hk;exact hk
  have l1:=ra.length;have l2:=rb.length;rw[eqD];by_cases hl:xs.length=ys.length
  .rw [mO hl,<-l1];exact EqR.lists _ (SqL.of ha) (SqL.of hb) (by lia) λj x y hx hy=>Iss.eqr Oy Mz ra rb hx hy
  .rw [sq hl];exact EqR.lens (SqL.of ha) (SqL.of hb) (by lia)
 | .t xs, .t ys,_,_,0,hn,_,_,_=>absurd hn (by unfold dep;lia)
 | .t xs, .t ys,_,_,n+1,hn,hk,h,k=>by
  obtain⟨a,vs,rfl,ha,ra⟩:=bP h;obtain⟨b,ws,rfl,hb,rb⟩:=bP k;have Oy:cw xs<=n:=by unfold dep at hn;lia
  have Mz:cb xs ys:=by unfold Kin at hk;exact hk
  have l1:=ra.length;have l2:=rb.length;rw[eqD];have q:=EqR.tuples (d:=n) (λj=>eqD (xs.getD j (.i 0)) (ys.getD j (.i 0))) (SqT.of (K:=K) ha) (SqT.of (K:=K) hb) λj x y hx hy=>Iss.eqr Oy Mz ra rb hx hy;by_cases hl:xs.length=ys.length
  .rw [mO hl];rw[l1,l2,<-hl,Nat.min_self] at q;simpa using q
  .rw [sq hl];have z:(vs.length==ws.length)=false:=by rw[l1,l2];simpa using hl
   rw[z,CV] at q;exact q
 | .i _, .l _,_,_,_,_,hk,_,_=>by unfold Kin at hk;exact hk.elim
 | .i _, .t _,_,_,_,_,hk,_,_=>by unfold Kin at hk;exact hk.elim
 | .l _, .i _,_,_,_,_,hk,_,_=>by unfold Kin at hk;exact hk.elim
 | .l _, .t _,_,_,_,_,hk,_,_=>by unfold Kin at hk;exact hk.elim
 | .t _, .i _,_,_,_,_,hk,_,_=>by unfold Kin at hk;exact hk.elim
 | .t _, .l _,_,_,_,_,hk,_,_=>by unfold Kin at hk;exact hk.elim
theorem Iss.eqr {K:W.Frag}{H:Hp}:∀{xs ys:P' D}{vs ws:P' V}{n:Nat},cw xs<=n->cb xs ys->Iss H xs vs->Iss H ys ws->∀{j:Nat}{x y:V},vs[j]? =some x->ws[j]? =some y->
  EqR K H n x y (eqD (xs.getD j (.i 0)) (ys.getD j (.i 0)))
 |[],_,_,_,_,_,_,h,_,_,_,_,e,_=>by rw[bQ h] at e;simp at e
 |_::_,[],_,_,_,_,_,_,k,_,_,_,_,e=>by rw[bQ k] at e;simp at e
 |x::xs,y::ys,_,_,n,hn,hk,h,k,0,u,w,e1,e2=>by
  obtain⟨u',us,rfl,q,_⟩:=aR h;obtain⟨w',ws,rfl,q',_⟩:=aR k;simp at e1 e2;subst e1 e2;have Mz:Kin x y/\cb xs ys:=by unfold cb at hk;exact hk
  have hd:dep x<=n:=by unfold cw at hn;lia
  exact Is.eqr (d:=x) (e:=y) hd Mz.1 q q'
 |x::xs,y::ys,_,_,n,hn,hk,h,k,j+1,u,w,e1,e2=>by
  obtain⟨u',us,rfl,_,r⟩:=aR h;obtain⟨w',ws,rfl,_,r'⟩:=aR k;have Mz:Kin x y/\cb xs ys:=by unfold cb at hk;exact hk
  have hd:cw xs<=n:=by unfold cw at hn;lia
  have:=Iss.eqr (K:=K) hd Mz.2 r r' (j:=j) (by simpa using e1) (by simpa using e2);simpa using this
end
abbrev Pt:=Int×Int
def pt (p:Pt):D:= .t [.i p.1, .i p.2]
def hid (H:Hp) (a:P5):Hp:=λb=>if b=a then none else H b
theorem mP {H:Hp}{a b:P5} (h:b≠a):hid H a b=H b:=by unfold hid;rw[A6 h]
theorem Ed {H:Hp}{a:P5}:hid H a a=none:=by unfold hid;rw[AB rfl]
theorem Ee {H:Hp}{a:P5}:ag (hid H a) H:=λb o e=>by
 unfold hid at e;split at e
 .cases e
 .exact e
theorem i9 {H H':Hp}{a:P5} (s:ag H H'):ag (hid H a) (hid H' a):=λb o e=>by
 unfold hid at e⊢;split at e
 .cases e
 .rename_i h;rw[A6 h];exact s b o e
section
variable {X:Cx}{es:P' Qa}{t:TA}{pos:Pos}
def New (H:Hp) (o:HO) (Q:VK):Prop:=∀p H2,H p=none->ag H H2->H2 p=some o->Q (.ref p) H2
def New.at {H:Hp}{o:HO}{Q:VK} (q:New H o Q) {p:P5} (np:H p=none):Q (.ref p) (upd H p o):=q p _ np (ag.new np) am
def Ef (t:TA):TE:=λσ H Q=>t σ H λxs H1=>xs.length<=sizeLine/\New H1 (.tup xs) Q
def Eg (t:TA):TE:=λσ H Q=>t σ H λxs H1=>xs.length<=sizeLine/\New H1 (.lst xs) Q
theorem bK {x1} (h:PA X es t):PE X (.Tuple es x1 pos) (Ef t):=by
 intro Ku s σ H Q I hq;refine wpAny_Tuple_spliced (thn (h pos Ku s σ H _ I hq) λus s1 ⟨xs,H1,I1,r,z,q⟩=>⟨by rw[<-r.length];exact z, ?_⟩);refine⟨.ref s1.heap.objs.size,upd H1 s1.heap.objs.size (.tup xs),I1.laid (t':=s1.toks) (λb u e=>A5 _ e) (A8 _) ?_,rfl,q.at (I1.hok.fresh (A8 _))⟩;exact⟨z,us,r,⟨_,AI _ rfl,rfl,_,rfl⟩⟩
theorem av (h:PA X es t):PE X (.List es pos) (Eg t):=by
 intro Ku s σ H Q I hq;refine wpAny_List_spliced (thn (h pos Ku s σ H _ I hq) λus s1 ⟨xs,H1,I1,r,z,q⟩=>⟨by rw[<-r.length];exact z, ?_⟩);refine⟨.ref s1.heap.objs.size,upd H1 s1.heap.objs.size (.lst xs),I1.laid (t':=s1.toks) (λb u e=>A5 _ e) (A8 _) ?_,rfl,q.at (I1.hok.fresh (A8 _))⟩;exact⟨z,us,0,r,AI _ rfl⟩
def OpR.imp {f:P3->P3->Sem P3}{r r':R2} (h:OpR X f r) (k:∀x y H Q,r' x y H Q->r x y H Q):OpR X f r':=λKu s σ H x y v u Q I rx ry q=>h Ku s σ H x y v u Q I rx ry (k _ _ _ _ q)
def bz.imp {f:P3}{r r':P' V->Hp->VK->Prop} (h:bz X f r) (k:∀xs H Q,r' xs H Q->r xs H Q):bz X f r':=λKu s σ H xs us Q I rs q=>h Ku s σ H xs us Q I rs (k _ _ _ q)
theorem dk:OpR X (binaryOp .Add) (λx y H Q=>∃xs zs,Is H (.l xs) x/\Is H (.l zs) y/\xs.length+zs.length<=sizeLine/\∀p H2,H p=none->ag H H2->Is H2 (.l (xs++zs)) (.ref p)->Q (.ref p) H2):=
 gM.imp λx y H Q ⟨xs,zs,hx,hz,hl,q⟩=>by
  obtain⟨a,vs,rfl,ha,ra⟩:=aH hx;obtain⟨b,ws,rfl,hb,rb⟩:=aH hz;exact⟨a,b,vs,ws,rfl,rfl,ha,hb,by rw[ra.length,rb.length];exact hl,λp np=>q p _ np (ag.new np) (aI am ((ra.append rb).mono (ag.new np)))⟩
theorem sr {α:Type}{x:α}:∀n:Nat,(List.replicate n [x]).flatten=List.replicate n x
 |0=>rfl
 |n+1=>by rw[Ap,CQ,sr n,Ap];rfl
theorem fI:OpR X (binaryOp .Mult) (λx y H Q=>∃d n,Is H (.l [d]) x/\y= .int n/\-(2^63)<=n/\n<2^63/\n.toNat<=sizeLine/\∀p H2,H p=none->ag H H2->Is H2 (.l (List.replicate n.toNat d)) (.ref p)->Q (.ref p) H2):=
 iV.imp λx y H Q ⟨d,n,hx,ey,h1,h2,hl,q⟩=>by
  obtain⟨a,vs,rfl,ha,ra⟩:=aH hx;obtain⟨u,us,rfl,hu,ru⟩:=aR ra;rw[bQ ru] at ha;refine⟨a,n,_,rfl,ey,ha,h1,h2,by rw[BX,Nat.one_mul];exact hl,λp np=>q p _ np (ag.new np) ?_⟩;rw[sr];exact aI am ((Iss.rep hu _).mono (ag.new np))
theorem Eh:bz X (.type "list") (λvs H Q=>∃v xs,vs=[v]/\(Is H (.l xs) v\/Is H (.t xs) v)/\∀p H2,H p=none->ag H H2->Is H2 (.l xs) (.ref p)->Q (.ref p) H2):=
 rH.imp λvs H Q ⟨v,xs,ev,hx,q⟩=>by
  subst ev;rcases hx with hx|hx
  .obtain⟨a,ws,rfl,ha,ra⟩:=aH hx;exact⟨a,ws,rfl, .inl (SqL.of ha),λp np=>q p _ np (ag.new np) (aI am (ra.mono (ag.new np)))⟩
  .obtain⟨a,ws,rfl,ha,ra⟩:=bP hx;exact⟨a,ws,rfl, .inr (SqT.of ha),λp np=>q p _ np (ag.new np) (aI am (ra.mono (ag.new np)))⟩
theorem ss:bz X (.type "tuple") (λvs H Q=>∃v xs,vs=[v]/\Is H (.l xs) v/\∀p H2,H p=none->ag H H2->Is H2 (.t xs) (.ref p)->Q (.ref p) H2):=
 zQ.imp λvs H Q ⟨v,xs,ev,hx,q⟩=>by
  subst ev;obtain⟨a,ws,rfl,ha,ra⟩:=aH hx;exact⟨a,ws,rfl, .inl ⟨SqL.of ha,λp np=>q p _ np (ag.new np) (bO am (ra.mono (ag.new np)))⟩⟩
theorem ja {α:Type}{xs:P' α}{i:Int}{j:Nat}{x:α} (e:i=j) (h:xs[j]? =some x):atI xs i=some x:=by rw[e];exact j8 h
theorem Iss.atI {H:Hp}{xs:P' D}{vs:P' V}{i:Int}{x:D} (h:Iss H xs vs) (e:L2.atI xs i=some x):∃u,L2.atI vs i=some u/\Is H x u:=by
 unfold L2.atI at e⊢;rw[h.length];cases q:ixN xs.length i with
 |none=>rw[q] at e;cases e
 |some j=>
  rw[q] at e;obtain⟨u,e1,k⟩:=h.get (j:=j) e;exact⟨u,e1,k⟩
theorem Ei:IxR X (λx y H Q=>∃xs i d,Is H (.l xs) x/\y= .int i/\atI xs i=some d/\∀u,Is H d u->Q u H):=by
 intro value KS Ku s σ H x y v u Q I rx ry h hs;obtain⟨xs,i,d,hx,ey,e,q⟩:=h;obtain⟨a,vs,rfl,ha,ra⟩:=aH hx;obtain⟨z,ez,hz⟩:=ra.atI e;exact bh value KS Ku s σ H (.ref a) y v u Q I rx ry ⟨a,vs,i,z,rfl,ey,SqL.of ha,ez,q z hz⟩ hs
theorem bX:IxR X (λx y H Q=>∃xs i d,Is H (.t xs) x/\y= .int i/\atI xs i=some d/\∀u,Is H d u->Q u H):=by
 intro value KS Ku s σ H x y v u Q I rx ry h hs;obtain⟨xs,i,d,hx,ey,e,q⟩:=h;obtain⟨a,vs,rfl,ha,ra⟩:=bP hx;obtain⟨z,ez,hz⟩:=ra.atI e;exact bW value KS Ku s σ H (.ref a) y v u Q I rx ry ⟨a,vs,i,z,rfl,ey,SqT.of ha,ez,q z hz⟩ hs
theorem Ej:bz X (.builtin "len") (λvs H Q=>∃v xs,vs=[v]/\(Is H (.l xs) v\/Is H (.t xs) v)/\Q (.int xs.length) H):=
 dA.imp λvs H Q ⟨v,xs,ev,hx,q⟩=>by
  subst ev;rcases hx with hx|hx
  .obtain⟨a,ws,rfl,ha,ra⟩:=aH hx;exact⟨a,ws,rfl, .inl (SqL.of ha),by rw[ra.length];exact q⟩
  .obtain⟨a,ws,rfl,ha,ra⟩:=bP hx;exact⟨a,ws,rfl, .inr (SqT.of ha),by rw[ra.length];exact q⟩
end
section
variable {P:P6}{w:P8}{H:Hp}{h:Qb}{a:P5}{o:HO}
theorem aC.obj (x:aC P w H h a o):∃ob,h.get? a=some ob:=by
 cases o with
 |lst xs=>obtain⟨_,_,_,_,e⟩:=x;exact⟨_,e⟩
 |tup xs=>obtain⟨_,_,_,_,e,_⟩:=x;exact⟨_,e⟩
 |dK Kv=>obtain⟨_,_,_,_,_,_,_,e,_⟩:=x;exact⟨_,e⟩
 |dT Kv=>obtain⟨_,_,_,_,_,_,_,e,_⟩:=x;exact⟨_,e⟩
 |set S n=>obtain⟨_,_,_,_,e,_⟩:=x;exact⟨_,e⟩
 |ins C dx fs=>obtain⟨_,_,_,e,_⟩:=x;exact⟨_,e⟩
 |own y=>exact x
 |xd fs=>obtain⟨_,⟨_,_,_,e,_⟩,_⟩:=x;exact⟨_,e⟩
 |rng lo hi=>obtain⟨_,_,_,e⟩:=x;exact⟨_,e⟩
 |frz ob u=>exact⟨_,x.1⟩
 |tbl ps=>exact⟨_,x⟩
 |met f y=>exact⟨_,x⟩
 |ext φ=>exact x.2.1
end
def CX1 (P:P6) (w:P8):CXT:=λouter H s E e s'=>
 ∃(a C:P5) (H':Hp) (B:Qb) (a0:P3),e= .ref a/\E (.ref C) none H'/\s'.os=s.os/\AllBare s'.gens/\Un (frs outer) [] H H' s.heap s'.heap/\HOk P w H' B/\H' a=none/\
  Heap.FlyingW B outer a (.ref C) a0 s'.heap/\(∀b o,s.heap.get? b=some o->H b=none->b∉frs outer->B.get? b=some o)/\(∀b o,s.heap.get? b=some o->b∉frs outer->∃o',B.get? b=some o')
def mQ (X:Cx) (E:XK):Prop:=∀(Ku:P' (P5×Obj)) (σ:St) (H:Hp) (s:P4) (h':Qb) (e C:P5) (args:P' P3),Inv X Ku σ H s->Heap.MadeExcOf s.heap h' e (.ref C) args->E (.ref C) none H->X.xe (.ref e) {s with heap:=h'}
theorem kj {X:Cx}{P:P6}{w:P8}:gd (CX1 P w) X E0:=λ_ _ _ _ _ _ _ KJ=>by obtain⟨_,_,_,_,_,_,z,_⟩:=KJ;exact z.elim
section
variable {X:Cx}{Ku:P' (P5×Obj)}{σ:St}{H H':Hp}{s s':P4}{B h':Qb}{l:P' Env}
theorem mR (u:Un (frs l) [] H H' s.heap s'.heap) (fl:s'.heap.FunFrames B l) (kB:∀b o,s.heap.get? b=some o->H b=none->b∉frs l->B.get? b=some o) (tB:∀b o,s.heap.get? b=some o->b∉frs l->∃o',B.get? b=some o')
  (st:B.StaysIn h') (up:s'.heap.UpToSlots h'):Un (frs l) [] H H' s.heap h' where
 keep:=λb o e n hb _=>st b o (kB b o e n hb)
 slot:=λb o e n hb hx=>by
  obtain⟨sl,e1⟩:=u.slot b o e n hb hx;obtain⟨_,o',e2,d⟩:=fl.mem hb;rw[e1] at e2;cases e2;obtain⟨sl',e3⟩:=up b _ e1 d;exact⟨sl',e3⟩
 free:=u.free
 there:=λb o e hx=>by
  by_cases hb:b∈frs l
  .obtain⟨_,o',e2,d⟩:=fl.mem hb;obtain⟨sl',e3⟩:=up b _ e2 d;exact⟨_,e3⟩
  .obtain⟨o',e2⟩:=tB b o e hb;exact⟨o',st b o' e2⟩
 tups:=u.tups
 frzs:=u.frzs
 tbls:=u.tbls
theorem Inv.nstk (I:Inv X Ku σ H s) {b:P5}{o:Obj} (e:X.s₀.heap.get? b=some o) (hb:b∉X.fs):b∉frs X.stack:=λz=>by
 rcases AM.mp (I.stkSub b z) with q|q
 .exact absurd q (AO (Ai (AL e) I.ok.above))
 .exact hb q
def sw {env:Env}{b:P5} (he:env∈l) (hf:env.frame=some b):b∈frs l:=List.mem_filterMap.mpr ⟨env,he,hf⟩
theorem Inv.hidden (I:Inv X Ku σ H s):HOk X.prog X.w H (W.hideAll s.heap (frs X.stack)):=λa o e=>by
 refine(I.hok a o e).stay (λb u hb q=>W.hideAll_get _ q λz=> ?_) (λ_ q=>q) λ_ _ q=>q;have n:=I.stkFree b z;rcases hb with rfl|hb
 .rw [n] at e;cases e
 .rw [n] at hb;cases hb
structure Fnc (X:Cx):Prop where
 ex:X.ex=[]
 stk:X.stack=X.env::X.outer
 fr:X.env.frame=some X.env.locals
theorem CX1.mk {E:XK}{e C:P5}{a0:P3} (F:Fnc X) (I:Inv X Ku σ H s) (os:s'.os=s.os) (bare:AllBare s'.gens) (u:Un (frs X.stack) [] H H' s.heap s'.heap) (hB:HOk X.prog X.w H' B) (hE:E (.ref C) none H') (hn:H' e=none)
  (fl:Heap.FlyingW B X.outer e (.ref C) a0 s'.heap) (kB:∀b o,s.heap.get? b=some o->H b=none->b∉frs X.stack->B.get? b=some o) (tB:∀b o,s.heap.get? b=some o->b∉frs X.stack->∃o',B.get? b=some o'):
  CX1 X.prog X.w X.outer X.H₀ X.s₀ E (.ref e) s':=by
 have J:Inv X Ku σ H' s':=I.call' (ch:=[]) os u (hB.kept fl.1) bare λ_ z=>absurd z (by simp);have ub:Un X.fs X.ex X.H₀ H' X.s₀.heap s'.heap:=J.base;have nx:∀b:P5,b∉X.ex:=λb=>by rw[F.ex];simp
 rw[F.ex] at ub;refine⟨e,C,H',B,a0,rfl,hE,J.os,J.bare,ub,hB,hn,fl,λb o q n hb=> ?_,λb o q hb=> ?_⟩
 .exact kB b o (I.base.keep b o q n hb (nx b)) (I.base.free b o q n (nx b)) (I.nstk q hb)
 .obtain⟨o',q'⟩:=I.base.there b o q (nx b);exact tB b o' q' (I.nstk q hb)
theorem Ek {CX:CXT}{E:XK} (F:Fnc X) (hcx:CX=CX1 X.prog X.w) (hxe:X.xe=λe s'=>wpAny (model X.prog X.w) X.A (leaving X.env e) (λ_ MS=>CX X.outer X.H₀ X.s₀ E e MS) (λe' MS=>CX X.outer X.H₀ X.s₀ E e' MS) s'):mQ X E:=by
 intro Ku σ H s h' e C args I hx hE;subst hcx;rw[hxe];have fb:=I.stack;have hl:s.heap.FunFrames (W.hideAll s.heap (frs X.stack)) (X.env::X.outer):=by
  rw[F.stk] at fb⊢;exact W.funFrames_hide fb λenv he b hb=>sw he hb
 refine wpAny_leaves_madeW (base:=W.hideAll s.heap (frs X.stack)) (by rw[I.ok.frames,F.stk]) F.fr (λb o q=>W.of_hideAll _ q) hl hx λh'' t fl _ _ up=> ?_;have kB:∀b o,s.heap.get? b=some o->b∉frs X.stack->(W.hideAll s.heap (frs X.stack)).get? b=some o:=λb o q n=>W.hideAll_get _ q n;have hn:H e=none:=by
  cases q:H e with
  |none=>rfl
  |some o=>
   obtain⟨ob,z⟩:=(I.hok e o q).obj;rw[hx.new] at z;cases z
 have u0:Un (frs X.stack) [] H H s.heap h':=Un.kept hx.keeps;have fl':h'.FunFrames (W.hideAll s.heap (frs X.stack)) X.stack:=by
  rw[F.stk];rw[F.stk] at hl;exact hl.of_keeps λb o q _=>⟨o,hx.keeps b o q,rfl⟩
 have u:Un (frs X.stack) [] H H s.heap h'':=mR (s':={s with heap:=h'}) u0 fl' (λb o q _ n=>kB b o q n) (λb o q n=>⟨o,kB b o q n⟩) fl.1 up;exact CX1.mk (s':={s with heap:=h''}) F I rfl I.bare u I.hidden hE hn fl (λb o q _ n=>kB b o q n) (λb o q n=>⟨o,kB b o q n⟩)
theorem El {CX:CXT}{E:XK} (F:Fnc X) (hcx:CX=CX1 X.prog X.w) (hxe:X.xe=λe s'=>wpAny (model X.prog X.w) X.A (leaving X.env e) (λ_ MS=>CX X.outer X.H₀ X.s₀ E e MS) (λe' MS=>CX X.outer X.H₀ X.s₀ E e' MS) s'):gd (CX1 X.prog X.w) X E:=by
 intro Ku σ H s e s' I hc;subst hcx;rw[hxe];obtain⟨a,C,H',B,a0,rfl,hE,os,bare,u,hB,hn,fl,kB,tB⟩:=hc;refine wpAny_leaves_onW (by rw[I.ok.frames,F.stk]) F.fr (by rw[<-F.stk];exact fl) λh'' fl'' up=> ?_;exact CX1.mk (s':={s' with heap:=h''}) F I os bare (mR u fl.2.2.1 kB tB fl''.1 up) hB hE hn fl'' kB tB
end
theorem Fun.okx {P:P6}{w:P8}{K:W.Frag}{mg:Str->Qc P3}{base:Qb}{x KC:Str}{st:Qd}{f:P5}{fd:P7}{N ps:P' Str}{k:Nat}{sp:Sp} (F:Fun K x KC st f fd) (S:FnScope N ps (ao st)) (len:∀vs H Q E,sp vs H Q E->vs.length=ps.length)
  (Lh:∀(KM:P3) (A:P9) (outer:P' Env) (s:P4) (H:Hp) (vs:P' V) (Q:VK) (E:XK),Room k (A.deeper (envOfC KC (ao st) s.heap.objs.size f KM))->sp vs H Q E->
   mQ (cT (CX1 P w) P w K mg base N KC (ao st) f KM A outer s H E) E->gd (CX1 P w) (cT (CX1 P w) P w K mg base N KC (ao st) f KM A outer s H E) E->
   ∃t,PSs (cT (CX1 P w) P w K mg base N KC (ao st) f KM A outer s H E) (cI st) t/\t {nx:=λ_ H'=>Q .non H',rt:=Q} (start N vs) H):FnOk P w K mg base (CX1 P w) (k+1) f fd ps sp:=by
 obtain⟨oc,od,kV,Ma,pm,an,KM,ct,N0,rfl,lk,MQ⟩:=F.ex;refine rA lk MQ S len λA outer s H vs Q E hr MT=> ?_;have Fn:Fnc (cT (CX1 P w) P w K mg base N KC (ao st) f KM A outer s H E):=⟨rfl,rfl,rfl⟩;exact Lh KM A outer s H vs Q E hr MT (Ek Fn rfl rfl) (El Fn rfl rfl)
def Fun.oky {P:P6}{w:P8}{K:W.Frag}{mg:Str->Qc P3}{base:Qb}{x KC:Str}{st:Qd}{f:P5}{fd:P7}{N ps:P' Str}{k:Nat}{sp:Sp} (F:Fun K x KC st f fd) (S:FnScope N ps (ao st)) (len:∀vs H Q E,sp vs H Q E->vs.length=ps.length)
  (Lh:∀(KM:P3) (A:P9) (outer:P' Env) (s:P4) (H:Hp) (vs:P' V) (Q:VK) (E:XK),Room k (A.deeper (envOfC KC (ao st) s.heap.objs.size f KM))->sp vs H Q E->
   Fnc (cT CX0 P w K mg base N KC (ao st) f KM A outer s H E).nox->
   ∃t,PSs (cT CX0 P w K mg base N KC (ao st) f KM A outer s H E).nox (cI st) t/\t {nx:=λ_ H'=>Q .non H',rt:=Q} (start N vs) H):FnOk P w K mg base CX0 (k+1) f fd ps sp:=
 F.ok S len λKM A outer s H vs Q E hr MT=>Lh KM A outer s H vs Q E hr MT ⟨rfl,rfl,rfl⟩
section
variable {X:Cx}{pos np KH:Pos}{x:Str}{C:P5}{E:XK}{e:Qa}{es:P' Qa}{t:TA}
abbrev bmV:P' P3:=[.type "ValueError", .type "Exception", .type "BaseException", .type "object"]
theorem Em {K:W.Frag}{h:Qb}{bmB:P' P3}{OB:String} (Y:K.In h) (q:W.excIn K C bmB OB=true):
  ∃bm N nm qn bs hdct sn sub ab col dd k0 k1 k2 k3 k5 mN,h.get? C=some (excClassObj nm qn C N bs bm hdct sn sub ab col dd k0 k1 k2 k3 k5 OB)/\h.Ns N mN/\mN "__init__"=none/\OwnTail h bmB bm:=by
 unfold W.excIn at q;split at q
 case h_2=>cases q
 rename_i dd cd sl ho;split at q
 case h_2=>cases q
 rename_i C' bm k0 k1 k2 k3 n k5 hm hs;rw[AD,AD,AD,AD,AD,CJ,CJ,CJ,Bool.not_eq_true'] at q;obtain⟨⟨⟨⟨⟨e1,e2⟩,e3⟩,e4⟩,e5⟩,e6⟩:=q;subst e1 e2;rcases cd with⟨nm,bs,mro,ns,qn,hd,sn,sub,ab,col,del⟩;dsimp only at hm e3 e5 e6;subst hm e3;have hsl:sl= #[k0,k1,k2,k3,some (.builtin n),k5]:=by
  rcases sl with⟨l⟩;have Pa:l=_:=hs;rw[Pa]
 subst hsl;exact⟨bm,ns,nm,qn,bs,hd,sn,sub,ab,col,dd,k0,k1,k2,k3,k5,_,Y _ _ ho, .of_isNs (W.isNs_of_in Y e5),W.nsMap_none_of_in Y e5 e6,W.tail_of_in Y e4⟩
def sI (C:P5) (E:XK) (t:TA):TS:=λ_ σ H=>t σ H λvs H1=>vs.length<=sizeLine/\E (.ref C) none H1
theorem mS (hR:mQ X E) (hg:Gl X x) (hm:X.mg x=some (.ref C)) (hC:W.excIn X.K C bmV "ValueError.__new__"=true) (hc:X.calm=true) (ha:PA X (e::es) t) (Mn:(x==("__debug__":Str))=false:=by decide)
  (he:starEach (e::es) X.env=(false,eval e X.env)::starEach es X.env:=by rfl) (LY:(backTo KH (starEach es X.env)).any (·.1)=false:=by rfl):
  PS X (.Raise (some (.Call (.Name x np) (e::es) [] KH)) none pos) (sI C E t):=by
 intro Ku s σ H D I h;have N4:=I.ok.mod.kin;obtain⟨bm',N',nm',qn',bs',hdct',sn',sub',ab',col',NO,k0',k1',k2',k3',k5',mN',hCb,hNb,hnib,TLb⟩:=Em N4 hC;refine wpAny_Raise_call_subT (q:=qn') (N:=N') (bs:=bs') (bm:=bm') (hdct:=hdct') (sn:=sn') (sub:=sub') (ab:=ab') (col:=col') (dd:=NO) (k0:=k0') (k1:=k1') (k2:=k2') (k3:=k3') (k5:=k5') (nm:=nm') (mN:=mN') PySem.F.excBase_ValueError
  (TLb.hasType (by ac_nf)) (I.ok.hd hc) (by rw[he];show(false||(backTo KH (starEach es X.env)).any (·.1))=false;rw[LY];rfl) hnib (f' I hg hm ⟨rfl, ?_⟩ Mn)
 have h2:=ha KH Ku s σ H _ I h;rw[he] at h2⊢;refine Calls.evalArgs_plain (thn h2 λus s1 ⟨vs,H1,I1,r,hz,hE⟩=>⟨rfl,by rw[<-r.length];exact hz,I1.bk _ _ hCb,hNb.keeps I1.bk,TLb.keeps I1.bk,λh' e' hx=> ?_⟩);exact hR Ku σ H1 s1 h' e' C us I1 hx hE
end
section
variable {X:Cx}{pos:Pos}{e v:Qa}{es:P' Qa}{te:TE}
abbrev TJ:=Str->St->Hp->VK->Prop
def PJ (X:Cx) (es:P' Qa) (t:TJ):Prop:=∀(KU:Str) (Ku:P' (P5×Obj)) (s:P4) (σ:St) (H:Hp) (Q:VK),Inv X Ku σ H s->t KU σ H Q->wpAny (model X.prog X.w) X.A (joinParts KU (evalEach es X.env)) (EP X Ku σ Q) X.xe s
def tJn:TJ:=λKU _ H Q=>KU.length<=sizeLine/\Q (.str KU) H
inductive tJc_ (tr:TJ) (KU:Str) (σ:St) (Q:VK) (x:V) (H1:Hp):Prop
 |mk y:x= .str y->(KU++y).length<=sizeLine->tr (KU++y) σ H1 Q->tJc_ tr KU σ Q x H1
def tJc (te:TE) (tr:TJ):TJ:=λKU σ H Q=>te σ H λx H1=>tJc_ tr KU σ Q x H1
def En:PJ X [] tJn:=λKU Ku s σ H Q I h=>joinParts_nil ⟨.str KU,H,I.tok _,⟨_,rfl⟩,h.2⟩ h.1
theorem km {tr:TJ} (he:PE X e te) (hr:PJ X es tr):PJ X (e::es) (tJc te tr):=by
 intro KU Ku s σ H Q I h;show wpAny _ _ (joinParts KU (eval e X.env::evalEach es X.env)) _ _ _;refine joinParts_cons (thn (he Ku s σ H _ I h) λu s1 zu54=> ?_);obtain⟨x,H1,I1,r1,y,ex,hz,q1⟩:=zu54;subst ex;obtain⟨tk,rfl⟩:=r1;exact⟨hz,hr (KU++y) Ku s1 σ H1 Q I1 q1⟩
def Eo {v2:Qa}{t:TJ} (h:PJ X (e::v2::es) t):PE X (.JoinedStr (e::v2::es) pos) (λσ H Q=>t Str.empty σ H Q):=λKu s σ H Q I hq=>JoinedStr_many (h Str.empty Ku s σ H Q I hq)
theorem sJ (hv:PE X v te):PE X (.FormattedValue v (-1) none pos) (λσ H Q=>te σ H λx H1=>∃i,x= .int i/\i.natAbs.log2<1920/\Q (.str (toString i)) H1):=by
 intro Ku s σ H Q I h;refine FormattedValue_plain (thn (hv Ku s σ H _ I h) λu s1 zu55=> ?_);obtain⟨x,H1,I1,r1,i,ex,hz,q1⟩:=zu55;subst ex;obtain⟨tk,rfl⟩:=r1;exact formatField_int_small hz ⟨.str _,H1,I1.tok _,⟨_,rfl⟩,q1⟩
end
end L2
namespace L2
open PySem PySem.Calls PyProof.Rows PySem.W Builtin Builtin.ObjectAttr Builtin.Getset_descriptor
variable {M:Model}
structure XC (K:Frag) (C:P5):Prop where
 cl:(clsIn K C).isSome=true
 ga:findIn K (.ref C) "__getattribute__"=some (some (.builtin "BaseException.__getattribute__"))
 gt:findIn K (.ref C) "__getattr__"=some none
 ca:findIn K (.ref C) "__class__"=some (some (.builtin "object.__class__"))
 gn:specialIn K (.builtin "object.__class__") "__get__"=some (some (.builtin "getset_descriptor.__get__"))
 tk:takesIn K (.builtin "object.__class__")=some true
 ob:mroIn K C (.type "object")=some true
 be:mroIn K C (.type "BaseException")=some true
section
variable {prog:P6}{w:P8}{A:P9}{E:P3->P4->Prop}{K:Frag}{x C:P5}{h:Qb}{g:Array GenState}{d:Drawn}{t:Nat}{os:OsState}
def mT {o:Obj} (e:h.get? x=some o) (c:o.cls= .ref C):Looks M h (typeOf (.ref x)) (.ref C):=c▸(Looks.ld e).andThen .now
theorem Ep {R:Result->P4->Prop}{tp:P3} (Y:K.In h) (F:XC K C) (LT:∀M:Model,Looks M h (typeOf (.ref x)) (.ref C)) (q:R (.ok (.ret (.ref C))) ⟨h,g,d,t,os⟩):
  codeAny (model prog w) A (.call (.builtin "getset_descriptor.__get__") ⟨[.builtin "object.__class__", .ref x,tp],[]⟩) R ⟨h,g,d,t,os⟩:=by
 have L0:=LT (model prog w);have L1:=looks_mroIn (M:=model prog w) Y F.ob;refine codeAny_call_builtin KF.slot_gs.plain KF.entry_gs (KF.slot_gs.check _ _ _ _ _ _ _ _ KF.type_class (KF.args_gs _ _ _) ?_);unfold Builtin.«getset_descriptor.__get__» descrGet;rw[dga_obj];refine A0 (A3 ?_);unfold descrGetter descrCheckInstance descrNameAndClass isInstance;simp only[KF.owner_class]
 repeat lk
 refine⟨Code.quiet_builtin _ (by ac_nf),Bv KF.entry_class ?_⟩;unfold Builtin.«object.__class__» shownTypeOf
 repeat lk
 exact q
theorem Er (Y:K.In h) (F:XC K C):Looks M h (find (.ref x) (.ref C) "__class__") (.bind (.builtin "getset_descriptor.__get__") (.builtin "object.__class__")):=by
 have L1:=looks_findIn (M:=M) Y F.ca;have L2:Looks M h (getOf (some (.builtin "object.__class__"))) (some (.builtin "getset_descriptor.__get__")):=looks_specialIn Y F.gn;have L3:=looks_takesIn (M:=M) Y F.tk;exact L1.andThen (L2.andThen ((show Looks M h (dataDescriptor? (some (.builtin "object.__class__")) (some (.builtin "getset_descriptor.__get__"))) (some (.builtin "getset_descriptor.__get__", .builtin "object.__class__")) from L3.andThen .now).andThen (Looks.tag .now)))
theorem Es {tk:Tok}{Q:Fin->P4->Prop} (Y:K.In h) (F:XC K C) (LT:∀M:Model,Looks M h (typeOf (.ref x)) (.ref C)) (q:Q (.done (.ret (.ref C))) ⟨h,g,d,t,os⟩):
  wpAny (model prog w) A (Builtin.«object.__getattribute__» ⟨[.ref x, .str "__class__" tk],[]⟩) Q E ⟨h,g,d,t,os⟩:=by
 have L0:=LT (model prog w);have L1:=Er (x:=x) (M:=model prog w) Y F;refine A0 (A3 (A0 (A3 (A0 (L0.at (A0 (L1.at ?_)))))));show wpAny _ _ (holding [.builtin "object.__class__"] (call (.builtin "getset_descriptor.__get__") [.builtin "object.__class__", .ref x, .ref C])>>=ret) _ _ _;exact A0 (Aw (wpAny_call (Ep Y F LT (A3 q))))
theorem Et {OC:P3}{Q:Unit->P4->Prop} (Y:K.In h) (F:XC K C) (LT:∀M:Model,Looks M h (typeOf (.ref x)) (.ref C)) (q:Q () ⟨h,g,d,t,os⟩):
  wpAny M A (checkBuiltinCall "BaseException.__getattribute__" ⟨[.ref x,OC],[]⟩) Q E ⟨h,g,d,t,os⟩:=by
 have e1:builtinKind "BaseException.__getattribute__"=some .slot:=by ac_nf
 have e2:splitId "BaseException.__getattribute__"=some ("BaseException","__getattribute__"):=by ac_nf
 have ha:=PySem.F.args_bexc_ga (.ref x) OC;have L0:=LT M;have L1:=looks_mroIn (M:=M) Y F.be;simp only[checkBuiltinCall,e1,e2];refine A0 ?_;unfold isInstance
 repeat (first|lk|wp_step)
 exact q
theorem Eu {Q:Qc P3->P4->Prop} (Y:K.In h) (F:XC K C) (LT:∀M:Model,Looks M h (typeOf (.ref x)) (.ref C)) (q:Q (some (.ref C)) ⟨h,g,d,t+1,os⟩):wpAny (model prog w) A (getAttr? (.ref x) "__class__") Q E ⟨h,g,d,t,os⟩:=by
 have L0:=LT (model prog w);have L1:=looks_findIn (M:=model prog w) Y F.ga;have L2:=looks_findIn (M:=model prog w) Y F.gt;have e2:(Value.builtin "BaseException.__getattribute__"==Value.builtin "object.__getattribute__")=false:=by ac_nf
 have e1:(onTheHeap (Value.ref C)&&Value.builtin "BaseException.__getattribute__"==Value.builtin "object.__getattribute__")=false:=by rw[e2];rfl
 have f3:=PySem.F.excAttr_ValueError.ga.bind (.ref x);unfold getAttr? getAttrBy? getAttrBy;refine A0 (wpAny_mkText (A0 (By (Aw (A0 (L0.at (A0 (L1.at ?_))))))));dsimp only;rw[e1];simp only[AK,Av]
 repeat (any_goals (first|assumption|with_reducible refine L2.at ?_|wp_step))
 refine codeAny_call_builtin PySem.F.excAttr_ValueError.ga.plain PySem.F.entry_bexc_ga (Et Y F LT (Es Y F LT ?_))
 repeat (any_goals (first|assumption|lk|wp_step))
theorem Ev (F:XC K C):KitX K (.ref x) (.ref C) (λh=>∃o,h.get? x=some o/\o.cls= .ref C) where
 ty:=λ_ _ _ KJ=>by obtain⟨_,e,c⟩:=KJ;exact mT e c
 it:=λ_ _ Y _=>by
  have z:=F.cl;unfold clsIn at z;split at z
  .rename_i ho;intro A' Q' E' s' k q;unfold isType loadHead;exact A0 (wpAny_loadPart (k _ _ (Y _ _ ho)) (A3 q))
  .cases z
 ne:=λh tp dd Kx n sl Y htp=>by
  have z:=F.cl;unfold clsIn at z;split at z
  .rename_i ho;refine Bool.eq_false_iff.mpr λq=> ?_;have e:C=tp:=Value.ref.inj (CJ.mp q);subst e;have y:=(Y _ _ ho).symm.trans htp;cases y
  .cases z
 ca:=fun{_ _ _ _ _ s} Y ⟨_,e,c⟩ k=>by
  obtain⟨hh,g,d,t,os⟩:=s;exact Eu Y F (λM=>mT e c) k
end
def dQ (C a:P5):HO:= .ext λh=>∃o,h.get? a=some o/\o.cls= .ref C
theorem Ew {P:P6}{w:P8}{H:Hp}{h:Qb}{a C:P5} (e:∃o,h.get? a=some o/\o.cls= .ref C):aC P w H h a (dQ C a):=
 ⟨e,e.elim λo q=>⟨o,q.1⟩,λ_ _ KJ k=>by obtain⟨o,q,c⟩:=KJ;exact⟨o,k o q,c⟩⟩
def mU:V->Qc P3
 | .ty n=>some (.type n)
 | .ref c=>some (.ref c)
 |_=>none
theorem Ex {v:V}{c u:P3} (e:mU v=some c) (r:aw v u):u=c:=by
 cases v<;>first|(cases e;exact r)|cases e
section
variable {X:Cx}
theorem Ey:bz X (.builtin "isinstance") (λxs H Q=>∃a C v c b,xs=[.ref a,v]/\H a=some (dQ C a)/\XC X.K C/\mU v=some c/\kitOne X.K (.ref C) c=some b/\Q (.bl b) H):=by
 intro Ku s σ H xs us Q I r h;obtain⟨a,C,v,c,b,rfl,ha,F,ev,e,q⟩:=h;obtain⟨u,w',rfl,ru,LD⟩:=iQ r;obtain rfl:u=Value.ref a:=ru;obtain rfl:=Ex ev LD;exact kia_one (Ev F) I.kIn (I.hok a _ ha).1 e (λz=>nomatch z) λtk=>⟨.bl b,H,I.tok tk,rfl,q⟩
def sK {K:Frag} (hK:X.K=K):bz X (.builtin "isinstance") (λxs H Q=>∃a C v c b,xs=[.ref a,v]/\H a=some (dQ C a)/\XC K C/\mU v=some c/\kitOne K (.ref C) c=some b/\Q (.bl b) H):=hK▸Ey
end
end L2
namespace L2
open PySem PySem.Spec PyProof.Rows PySem.W
variable {K:W.Frag}{v:V}
abbrev Cx.inTry (X:Cx) (pn:P' (P5×Obj)) (z:P3->P4->Prop):Cx:={X with pn:=pn,xe:=z}
abbrev Cx.inSuite (X:Cx) (e:P5):Cx:={X with A:=X.A.mark (some (.ref e)),calm:=false,xe:=λ_ _=>False}
section
variable {X:Cx}{Ku pn:P' (P5×Obj)}{σ:St}{H H':Hp}{s s':P4}{z:P3->P4->Prop}{e:P5}
theorem Inv.toTry (I:Inv X Ku σ H s):Inv (X.inTry (X.pn++Ku) z) [] σ H s:=
 ⟨⟨I.ok.mod,I.ok.kind,I.ok.glob,I.ok.blt,I.ok.above,I.ok.inj,I.ok.has,I.ok.cab,I.ok.hd,I.ok.frames,I.ok.stk,I.ok.exf,I.ok.bs,I.ok.bsz,I.ok.noex,I.ok.exfs,I.ok.funs,I.ok.frf⟩,
  I.os,I.bare,I.base,I.loc,I.cell,I.free,I.freeC,λp hp=>I.pin p (by rw[B8] at hp;exact hp),I.hok,I.len⟩
def Inv.unTry {MJ:P' (P5×Obj)} (I:Inv (X.inTry (X.pn++Ku) z) MJ σ H s):Inv X Ku σ H s:=
 ⟨⟨I.ok.mod,I.ok.kind,I.ok.glob,I.ok.blt,I.ok.above,I.ok.inj,I.ok.has,I.ok.cab,I.ok.hd,I.ok.frames,I.ok.stk,I.ok.exf,I.ok.bs,I.ok.bsz,I.ok.noex,I.ok.exfs,I.ok.funs,I.ok.frf⟩,
  I.os,I.bare,I.base,I.loc,I.cell,I.free,I.freeC,λp hp=>I.pin p (List.mem_append_left _ hp),I.hok,I.len⟩
def Inv.toSuite (I:Inv X Ku σ H s):Inv (X.inSuite e) Ku σ H s:=
 ⟨⟨I.ok.mod,I.ok.kind,I.ok.glob,I.ok.blt,I.ok.above,I.ok.inj,I.ok.has,I.ok.cab,λq=>absurd q AX,I.ok.frames,I.ok.stk,I.ok.exf,I.ok.bs,I.ok.bsz,I.ok.noex,I.ok.exfs,I.ok.funs,I.ok.frf⟩,
  I.os,I.bare,I.base,I.loc,I.cell,I.free,I.freeC,I.pin,I.hok,I.len⟩
def Inv.unSuite (hd:X.calm=true->X.A.handled=none) (I:Inv (X.inSuite e) Ku σ H s):Inv X Ku σ H s:=
 ⟨⟨I.ok.mod,I.ok.kind,I.ok.glob,I.ok.blt,I.ok.above,I.ok.inj,I.ok.has,I.ok.cab,hd,I.ok.frames,I.ok.stk,I.ok.exf,I.ok.bs,I.ok.bsz,I.ok.noex,I.ok.exfs,I.ok.funs,I.ok.frf⟩,
  I.os,I.bare,I.base,I.loc,I.cell,I.free,I.freeC,I.pin,I.hok,I.len⟩
theorem Inv.hold {C:P5} (I:Inv X Ku σ H s) (hn:H e=none) (hL:e≠X.env.locals) (O4:X.s₀.heap.get? e=none/\(∀x c,X.env.cells.lookup x=some c->c≠e)/\(∀p∈X.pn++Ku,p.1≠e)) (ho:∃o,s.heap.get? e=some o/\o.cls= .ref C):
  Inv X Ku σ (upd H e (dQ C e)) s:=by
 obtain⟨n0,nc,np⟩:=O4;have N7:∀{b:P5}{o:Obj},X.s₀.heap.get? b=some o->b≠e:=fun{b o} q z=>by rw[z,n0] at q;cases q
 have neh:∀{b:P5}{o:HO},H b=some o->b≠e:=λq=>bF q hn;refine⟨I.ok,I.os,I.bare,⟨I.base.keep,I.base.slot,λb o q n hx=> ?_,I.base.there,λb xs q=> ?_,λb o u q=> ?_,λb ps q=> ?_⟩,I.loc,I.cell, ?_,λx c q=> ?_,λp hp=> ?_,λb o q=> ?_,I.len⟩
 .rw [au (N7 q)];exact I.base.free b o q n hx
 .have z:=I.base.tups b xs q;rw[au (neh z)];exact z
 .have z:=I.base.frzs b o u q;rw[au (neh z)];exact z
 .obtain⟨more,z⟩:=I.base.tbls b ps q;exact⟨more,by rw[au (neh z)];exact z⟩
 .rw [au (D4 hL)];exact I.free
 .rw [au (nc x c q)];exact I.freeC x c q
 .obtain⟨a1,a2,a3⟩:=I.pin p hp;exact⟨a1,by rw[au (np p hp)];exact a2,a3⟩
 .by_cases hb:b=e
  .subst hb;rw[am] at q;cases q;exact Ew ho
  .rw [au hb] at q;exact(I.hok b o q).stay (λ_ _ _ q=>q) (λc q=>by rw[au (neh q)];exact q) λc xs q=>by rw[au (neh q)];exact q
end
def bw (H:Hp) (v:V):Prop:=(∃i,v= .int i)\/(∃b,v= .bl b)\/v= .non\/(∃x,v= .str x)\/(∃a xs,v= .ref a/\H a=some (.lst xs))\/(∃a xs,v= .ref a/\H a=some (.tup xs))
def isI (v:V):Bool:=match v with
 | .int _=>true
 |_=>false
def Within (lo hi:Int) (v:V):Prop:=∃i,v= .int i/\lo<=i/\i<=hi
theorem bw.mono {H H':Hp}(s:ag H H') (h:bw H v):bw H' v:=by
 rcases h with h|h|h|h|⟨a,xs,e,h⟩|⟨a,xs,e,h⟩
 .exact .inl h
 .exact .inr (.inl h)
 .exact .inr (.inr (.inl h))
 .exact .inr (.inr (.inr (.inl h)))
 .exact .inr (.inr (.inr (.inr (.inl ⟨a,xs,e,s _ _ h⟩))))
 .exact .inr (.inr (.inr (.inr (.inr ⟨a,xs,e,s _ _ h⟩))))
theorem Ez {lo hi:Int}(h:Within lo hi v):isI v=true:=by obtain⟨i,rfl,_⟩:=h;rfl
theorem EA :W.kitOne K (.type "NoneType") (.type "int")=some false:=gP (by ac_nf) (by ac_nf) (by ac_nf)
theorem EB :W.kitOne K (.type "str") (.type "int")=some false:=gP (by ac_nf) (by ac_nf) (by ac_nf)
theorem EC :W.kitOne K (.type "list") (.type "int")=some false:=gP (by ac_nf) (by ac_nf) (by ac_nf)
theorem ED :W.kitOne K (.type "tuple") (.type "int")=some false:=gP (by ac_nf) (by ac_nf) (by ac_nf)
inductive sp_whole (vs:List V) (H:Hp) (Q:VK) (E':XK):Prop
 |mk v:vs=[v]->bw H v->Q (.bl (isI v)) H->sp_whole vs H Q E'
section
variable {X:Cx}{Ku:P' (P5×Obj)}{σ:St}{H:Hp}{s:P4}{h':Qb}{ch:P' P5}{t':Nat}
theorem cq.chs (hf:∀b∈ch,cq X Ku H b):∀b∈ch,(b∈X.ex\/X.s₀.heap.objs.size<=b)/\b≠X.env.locals/\(∀x c,X.env.cells.lookup x=some c->c≠b)/\∀p∈X.pn++Ku,p.1≠b:=λb hb=>by
 obtain⟨_,a2,_,a4,a5,a6⟩:=hf b hb;exact⟨a4,a2,a5,a6⟩
theorem Inv.turnAll (I:Inv X Ku σ H s) (hf:∀b∈ch,cq X Ku H b) (k:∀b o,b∉ch->s.heap.get? b=some o->h'.get? b=some o):Inv X Ku σ H {s with heap:=h',toks:=t'}:=by
 have nin:∀{b u},H b=some u->b∉ch:=λe z=>by rw[(hf _ z).1] at e;cases e
 refine I.step (g':=s.gens) (d':=s.drawn) (ch:=ch) (cq.chs hf) (λb o _ _ c e _=>k b o c e) (λb o _ _ c e _=>⟨o.slots,k b o c e⟩) (λ_ _ _ _ n=>n) (λb o c e=>⟨o,k b o c e⟩) (λ_ _ e=>e) (λ_ _ _ e=>e) (λb ps e=>⟨#[],by rw[e];simp⟩) (λm hm=> ?_) (λb u e=> ?_) I.bare
 .obtain⟨o,es,ep,ho,r⟩:=hm;exact⟨o,es,ep,k _ o (λz=>(hf _ z).2.1 rfl) ho,r⟩
 .refine(I.hok b u e).stay (λc v hc q=>k c v ?_ q) (λ_ q=>q) λ_ _ q=>q;rcases hc with z|z
  .rw [z];exact nin e
  .exact nin z
theorem Inv.turnNew {o:HO} (I:Inv X Ku σ H s) (hf:∀b∈ch,cq X Ku H b) (k:∀b ob,b∉ch->s.heap.get? b=some ob->h'.get? b=some ob) (new:aC X.prog X.w (upd H s.heap.objs.size o) h' s.heap.objs.size o):
  Inv X Ku σ (upd H s.heap.objs.size o) {s with heap:=h',toks:=t'}:=by
 have nf:H s.heap.objs.size=none:=I.hok.fresh (A8 _);have nin:∀{b u},H b=some u->b∉ch:=λe z=>by rw[(hf _ z).1] at e;cases e
 refine I.step (g':=s.gens) (d':=s.drawn) (ch:=ch) (cq.chs hf) (λb o _ _ c e _=>k b o c e) (λb o _ _ c e _=>⟨o.slots,k b o c e⟩) (λb ob c e n=> ?_) (λb o c e=>⟨o,k b o c e⟩) (λb ys e=> ?_) (λb o u e=> ?_) (λb ps e=>⟨#[], ?_⟩) (λm hm=> ?_) (λb u e=> ?_) I.bare
 .rw [au (AO (AL e))];exact n
 .rw [au (bF e nf)];exact e
 .rw [au (bF e nf)];exact e
 .rw [au (bF e nf),e];simp
 .obtain⟨o,es,ep,ho,r⟩:=hm;exact⟨o,es,ep,k _ o (λz=>(hf _ z).2.1 rfl) ho,r⟩
 .by_cases hb:b=s.heap.objs.size
  .subst hb;rw[am] at e;cases e;exact new
  .rw [au hb] at e;refine(I.hok b u e).stay (λc v hc q=>k c v ?_ q) (λc q=> ?_) λc ys q=> ?_
   .rcases hc with z|z
    .rw [z];exact nin e
    .exact nin z
   .rw [au (bF q nf)];exact q
   .rw [au (bF q nf)];exact q
end
theorem ko :gg 2 (gTup K 2 (gCons (cn 0) (gCons (cn 1) jU))):=by
 intro v σ H Q ⟨a,xs,e,hq,hl,x,r,ex,y,r2,er,en,q⟩;refine⟨a,xs,e,hq,hl,x,r,ex,y,r2,er,en,q, ?_,λi hi=> ?_⟩
 .rw [Bi,Bi]
 .rw [C9 (by lia),C9 (by lia)]
theorem kr :∀(σ:St) (H:Hp) (R R':St->Hp->Prop) (x:V),(∀σ' H',R σ' H'->R' σ' H')->gTup K 2 (gCons (cn 0) (gCons (cn 1) jU)) x σ H R->gTup K 2 (gCons (cn 0) (gCons (cn 1) jU)) x σ H R':=
 λσ H R R' v k KJ=>by obtain⟨a,xs,e,hq,hl,x,r,ex,y,r2,er,en,q⟩:=KJ;exact⟨a,xs,e,hq,hl,x,r,ex,y,r2,er,en,k _ _ q⟩
theorem ku {X:Cx}{es:P' Qa}{k:Nat}{pos:Pos}{t:TGs}{n:Nat}(hK:X.K=K) (hc:X.calm=true) (h:PGs X es t)
  (hn:(assignEach es X.env).length=n:=by rfl) (LO:(assignEach es X.env).findIdx? (·.1)=none:=by rfl):PG X (.Tuple es k pos) (gTup K n t):=hK▸cp hc h hn LO
end L2
namespace PySem.SeqAt
open AutoSeq1 (wpAny_loadPart')
open MeetsSeq MeetsSeq2 MeetsSeq3 SeqRoads2
def LtAt (A:P9) (s:P4) (y x:P3) (b:Bool):Prop:=
 ∀(prog:P6) (w:P8) (E:P3->P4->Prop) (Q:P3->P4->Prop),Q (.bool b) s->wpAny (model prog w) A (richCompare .Lt y x) Q E s
def lex (e f:Nat->Bool) (m n:Nat):Nat->Nat->Bool
 |0,_=>decide (m<n)
 |k+1,i=>if e i=true then lex e f m n k (i+1) else f i
theorem EE (l b:P5) (items Kw:Array P3) (n n2:Nat) (dd Mi:Qc P5) (sl Mo:Array (Qc P3)) (e f:Nat->Bool) (k:Nat):
  ∀i:Nat,min items.size Kw.size-i=k->Meets (Builtin.«list.__eq__.loop» ⟨[.ref l, .ref b,rawInt i,rawInt 0],[]⟩)
   (λA R s=>s.heap.get? l=some {cls:= .type "list",dict:=dd,data:= .seq items n,slots:=sl}/\s.heap.get? b=some {cls:= .type "list",dict:=Mi,data:= .seq Kw n2,slots:=Mo}/\
    (∀j (h1:j<items.size) (h2:j<Kw.size),EqAt A.in1 s items[j] Kw[j] (e j))/\(∀j (h1:j<items.size) (h2:j<Kw.size),e j=false->LtAt A.in1 s items[j] Kw[j] (f j))/\
    R (.ok (.ret (.bool (lex e f items.size Kw.size k i)))) s):=by
 induction k with
 |zero=>
  intro i hk prog w A R s h;obtain⟨hp,g,d,tk,os⟩:=s;obtain⟨hl,hb,he,hf,h⟩:=h
  wp_walk using wpAny_loadPart' hl,CU hb
  rcases(by lia:items.size<=i\/(i<items.size/\Kw.size<=i)) with q|⟨q1,q2⟩
  .have OD:items[((i:Nat):Int).toNat]? =none:=by simp;lia
   rw[OD]
   wp_walk using wpAny_loadPart' hl,CU hb
   exact h
  .have OD:items[((i:Nat):Int).toNat]? =some items[i]:=by simp[q1]
   have Ms:Kw[((i:Nat):Int).toNat]? =none:=by simp;lia
   rw[OD,Ms]
   wp_walk using wpAny_loadPart' hl,CU hb
   exact h
 |succ k ih=>
  intro i hk prog w A R s h;obtain⟨hp,g,d,tk,os⟩:=s;obtain⟨hl,hb,he,hf,h⟩:=h
  wp_walk using wpAny_loadPart' hl,CU hb
  have KD:i<items.size:=by lia
  have Ll:i<Kw.size:=by lia
  have OD:items[((i:Nat):Int).toNat]? =some items[i]:=by simp[KD]
  have Ms:Kw[((i:Nat):Int).toNat]? =some Kw[i]:=by simp[Ll]
  have hc:((i:Int)+1)=((i+1:Nat):Int):=by push_cast;rfl
  unfold lex at h;rw[OD,Ms];refine A0 (he i KD Ll prog w _ _ ?_);cases NQ:e i with
  |true=>
   rw[NQ,AB rfl] at h
   wp_walk
   rw[hc];exact⟨DR plain_eq_loop _,Bv entry_eq_loop (by
    rw[Bu plain_eq_loop _];exact ih (i+1) (by lia) prog w A R _ ⟨hl,hb,he,hf,h⟩)⟩
  |false=>
   rw[NQ,A6 (by simp)] at h
   wp_walk using wpAny_loadPart' hl,CU hb
   rw[OD,Ms];refine A0 (hf i KD Ll NQ prog w _ _ ?_)
   wp_walk
   exact h
theorem sL (l b:P5) (items Kw:Array P3) (n n2:Nat) (dd Mi:Qc P5) (sl Mo:Array (Qc P3)) (e f:Nat->Bool):
  Meets (Builtin.«list.__lt__» ⟨[.ref l, .ref b],[]⟩)
   (λA R s=>s.heap.get? l=some {cls:= .type "list",dict:=dd,data:= .seq items n,slots:=sl}/\s.heap.get? b=some {cls:= .type "list",dict:=Mi,data:= .seq Kw n2,slots:=Mo}/\
    (∀j (h1:j<items.size) (h2:j<Kw.size),EqAt A.in1 s items[j] Kw[j] (e j))/\(∀j (h1:j<items.size) (h2:j<Kw.size),e j=false->LtAt A.in1 s items[j] Kw[j] (f j))/\
    R (.ok (.ret (.bool (lex e f items.size Kw.size (min items.size Kw.size) 0)))) s):=by
 intro prog w A R s h;obtain⟨hp,g,d,tk,os⟩:=s;obtain⟨hl,hb,he,hf,h⟩:=h;have f3:=AutoSeq1.sub_list_list
 wp_walk using wpAny_loadPart' hl,CU hb
 exact⟨DR plain_eq_loop _,Bv entry_eq_loop (by
  rw[Bu plain_eq_loop _];exact EE l b items Kw n n2 dd Mi sl Mo e f _ 0 rfl prog w A R _ ⟨hl,hb,he,hf,by simpa using h⟩)⟩
theorem EF (l b:P5) (items Kw:Array P3) (n n2:Nat) (dd Mi:Qc P5) (sl Mo:Array (Qc P3)) (e f:Nat->Bool):
  Meets (Builtin.«tuple.__lt__» ⟨[.ref l, .ref b],[]⟩)
   (λA R s=>s.heap.get? l=some {cls:= .type "tuple",dict:=dd,data:= .seq items n,slots:=sl}/\s.heap.get? b=some {cls:= .type "tuple",dict:=Mi,data:= .seq Kw n2,slots:=Mo}/\
    (∀j (h1:j<items.size) (h2:j<Kw.size),EqAt A.in1 s items[j] Kw[j] (e j))/\(∀j (h1:j<items.size) (h2:j<Kw.size),e j=false->LtAt A.in1 s items[j] Kw[j] (f j))/\
    R (.ok (.ret (.bool (lex e f items.size Kw.size (min items.size Kw.size) 0)))) s):=
 .of_wp λprog w A R s h=>by
  obtain⟨hp,g,d,tk,os⟩:=s;obtain⟨hl,hb,he,hf,h⟩:=h;have f2:=AutoSeq1.sub_tuple_tuple;have hZ:(items.toList.zip Kw.toList).length=min items.size Kw.size:=by simp
  wp_walk using wpAny_loadPart' hl,CU hb,C0 _ (λaN b s'=>b.1=none/\s'=⟨hp,g,d,tk,os⟩/\∃i,aN=(items.toList.zip Kw.toList).drop i/\i<=min items.size Kw.size/\
   R (.ok (.ret (.bool (lex e f items.size Kw.size (min items.size Kw.size-i) i)))) ⟨hp,g,d,tk,os⟩) _
  case turn=>
   rintro⟨y,x⟩ aN b s' ⟨NQ,rfl,i,hz,hile,hR⟩;have KD:i<(items.toList.zip Kw.toList).length:=by
    rcases Bp i (items.toList.zip Kw.toList).length with h'|h'
    .exact h'
    .rw [List.drop_of_length_le h'] at hz;cases hz
   have hm:i<min items.size Kw.size:=hZ▸KD;have h1:i<items.size:=Ai hm (Nat.min_le_left _ _);have h2:i<Kw.size:=Ai hm (Nat.min_le_right _ _);rw[Bk KD] at hz;injection hz with hyx hrest;have hy:y=items[i]:=by have:=BF Prod.fst hyx;simpa using this
   have hx:x=Kw[i]:=by have:=BF Prod.snd hyx;simpa using this
   subst hy hx;rw[show min items.size Kw.size-i=(min items.size Kw.size-(i+1))+1 by lia,lex] at hR;refine A0 (he i h1 h2 prog w _ _ ?_);cases hy:e i with
   |true=>
    rw[hy,AB rfl] at hR
    wp_walk
    exact⟨rfl,rfl,i+1,hrest,by lia,hR⟩
   |false=>
    rw[hy,A6 (by simp)] at hR;rw[AB (show(!false)=true from rfl)];refine A0 (C4 ?_);refine A0 (hf i h1 h2 hy prog w _ _ ?_)
    wp_walk
    exact⟨_,rfl,hR⟩
  case fin=>
   rintro⟨b1,b2⟩ s' ⟨NQ,rfl,i,hz,hile,hR⟩;simp only at NQ;subst NQ;have hi:i=min items.size Kw.size:=by
    rcases Bp i (items.toList.zip Kw.toList).length with h'|h'
    .rw [Bk h'] at hz;cases hz
    .lia
   subst hi;rw[DO] at hR
   wp_walk
   exact⟨_,rfl,hR⟩
  case h=>
   exact⟨rfl,rfl,0,rfl,AJ _,by simpa using h⟩
section
variable {A:P9}{s:P4}
def LtAt.int_int (i:Int) (t:Tok) (j:Int) (u:Tok):LtAt A s (.int i t) (.int j u) (decide (i<j)):=λprog w E Q h=>wpAny_lt_int h
theorem LtAt.lists {l b:P5}{items Kw:Array P3}{e f:Nat->Bool} (hl:s.heap.IsList l items) (hb:s.heap.IsList b Kw) (hu:A.units<cLine)
  (he:∀j (h1:j<items.size) (h2:j<Kw.size),EqAt A.in1 s items[j] Kw[j] (e j)) (hf:∀j (h1:j<items.size) (h2:j<Kw.size),e j=false->LtAt A.in1 s items[j] Kw[j] (f j)):
  LtAt A s (.ref l) (.ref b) (lex e f items.size Kw.size (min items.size Kw.size) 0):=λprog w E Q h=>by
 obtain⟨⟨cls,dd,data,sl⟩,ho,hc,n,hd⟩:=id hl;obtain⟨⟨N1,Mi,data2,Mo⟩,LF,Lo,n2,LP⟩:=id hb;simp only at hc hd Lo LP;subst hc hd Lo LP;exact richCompare_meets_room (op:= .Lt) ⟨_,ho,rfl⟩ ⟨_,LF,rfl⟩ F.slot_list_lt F.entry_list_lt (F.args_list_lt_2 _ _) (sL l b items Kw n n2 dd Mi sl Mo e f)
  ⟨ho,LF,he,hf,show Value.bool (lex e f items.size Kw.size (min items.size Kw.size) 0)≠Value.notImplemented/\Q (.bool (lex e f items.size Kw.size (min items.size Kw.size) 0)) s from⟨(λx=>nomatch x),h⟩⟩ hu
theorem LtAt.tuples {l b:P5}{items Kw:Array P3}{e f:Nat->Bool} (hl:s.heap.IsTuple l items) (hb:s.heap.IsTuple b Kw) (hu:A.units<cLine)
  (he:∀j (h1:j<items.size) (h2:j<Kw.size),EqAt A.in1 s items[j] Kw[j] (e j)) (hf:∀j (h1:j<items.size) (h2:j<Kw.size),e j=false->LtAt A.in1 s items[j] Kw[j] (f j)):
  LtAt A s (.ref l) (.ref b) (lex e f items.size Kw.size (min items.size Kw.size) 0):=λprog w E Q h=>by
 obtain⟨⟨cls,dd,data,sl⟩,ho,hc,n,hd⟩:=id hl;obtain⟨⟨N1,Mi,data2,Mo⟩,LF,Lo,n2,LP⟩:=id hb;simp only at hc hd Lo LP;subst hc hd Lo LP;exact richCompare_meets_room (op:= .Lt) ⟨_,ho,rfl⟩ ⟨_,LF,rfl⟩ F.slot_tuple_lt F.entry_tuple_lt (F.args_tuple_lt_2 _ _) (EF l b items Kw n n2 dd Mi sl Mo e f)
  ⟨ho,LF,he,hf,show Value.bool (lex e f items.size Kw.size (min items.size Kw.size) 0)≠Value.notImplemented/\Q (.bool (lex e f items.size Kw.size (min items.size Kw.size) 0)) s from⟨(λx=>nomatch x),h⟩⟩ hu
theorem key_lists {prog:P6}{w:P8}{E:P3->P4->Prop}{l b:P5}{items Kw:Array P3}{e f:Nat->Bool}{Q:Bool->P4->Prop} (hl:s.heap.IsList l items) (hb:s.heap.IsList b Kw) (hu:A.units<cLine)
  (he:∀j (h1:j<items.size) (h2:j<Kw.size),EqAt A.in1 s items[j] Kw[j] (e j)) (hf:∀j (h1:j<items.size) (h2:j<Kw.size),e j=false->LtAt A.in1 s items[j] Kw[j] (f j))
  (h:Q (lex e f items.size Kw.size (min items.size Kw.size) 0) s):wpAny (model prog w) A (PyProof.Rows.keyLt' PyProof.Rows.oneType' (.ref l) (.ref b)) Q E s:=by
 rw[PyProof.Rows.keyLt'_oneType,PyProof.Rows.oneLt'_eq];simp only[C5];refine A0 (wpAny_cRoomFor hu ?_);obtain⟨⟨cls,dd,data,sl⟩,ho,hc,n,hd⟩:=id hl;obtain⟨⟨N1,Mi,data2,Mo⟩,LF,Lo,n2,LP⟩:=id hb;simp only at hc hd Lo LP;subst hc hd Lo LP;refine A0 (wpAny_callSpecialIfBound?_slot (T:="list") ⟨_,ho,rfl⟩ F.slot_list_lt (DV F.slot_list_lt ⟨_,ho,rfl⟩ F.entry_list_lt (F.args_list_lt_2 _ _) (sL l b items Kw n n2 dd Mi sl Mo e f) ⟨ho,LF,he,hf, ?_⟩));exact Bl h
end
end PySem.SeqAt
namespace L2
open PySem PySem.Spec PyProof.Rows
variable {A:P9}{E:P3->P4->Prop}{H:Hp}{Q:Bool->P4->Prop}{a b:P5}{p:Array Nat}{prog:P6}{vs:P' P3}{w:P8}{xs:P' Int}
inductive LtR (K:W.Frag) (H:Hp):Nat->V->V->Bool->Prop where
 |int (d:Nat) (i j:Int):LtR K H d (.int i) (.int j) (decide (i<j))
 |lists {d:Nat}{a b:Addr}{xs ys:List V} (es fs:Nat->Bool) (h1:SqL K H a xs) (h2:SqL K H b ys) (he:∀(j:Nat) x y,xs[j]? =some x->ys[j]? =some y->EqR K H d x y (es j)) (hf:∀(j:Nat) x y,xs[j]? =some x->ys[j]? =some y->es j=false->LtR K H d x y (fs j)):
  LtR K H (d+1) (.ref a) (.ref b) (SeqAt.lex es fs xs.length ys.length (min xs.length ys.length) 0)
 |tuples {d:Nat}{a b:Addr}{xs ys:List V} (es fs:Nat->Bool) (h1:SqT K H a xs) (h2:SqT K H b ys) (he:∀(j:Nat) x y,xs[j]? =some x->ys[j]? =some y->EqR K H d x y (es j)) (hf:∀(j:Nat) x y,xs[j]? =some x->ys[j]? =some y->es j=false->LtR K H d x y (fs j)):
  LtR K H (d+1) (.ref a) (.ref b) (SeqAt.lex es fs xs.length ys.length (min xs.length ys.length) 0)
section
variable {X:Cx}{Ku:P' (P5×Obj)}{σ:St}{H:Hp}{s:P4}
theorem dm {xs:P' V}{is:P' P3}{j:Nat} (r:ap xs is) (q:j<is.toArray.size):∃x,xs[j]? =some x/\aw x is.toArray[j]:=by
 have l:=r.length;have q':j<is.length:=by simpa using q
 have hx:xs[j]? =some xs[j]:=A2 (by lia);obtain⟨u,e,ru⟩:=r.get hx;refine⟨_,hx, ?_⟩;have g:is.toArray[j]=u:=by
  rw[A2 q'] at e;simpa using Option.some.inj e
 rw[g];exact ru
theorem LtR.bo (I:Inv X Ku σ H s) {d:Nat}{x y:V}{b:Bool} (h:LtR X.K H d x y b):∀{A:P9}{u v:P3},A.units+d<cLine->aw x u->aw y v->SeqAt.LtAt A s u v b:=by
 induction h with
 |int d i j=>
  intro A u v hu ru rv;obtain⟨t,rfl⟩:=ru;obtain⟨t',rfl⟩:=rv;exact SeqAt.LtAt.int_int i t j t'
 | @lists d a b xs ys es fs h1 h2 he hf ih=>
  intro A u v hu ru rv;obtain rfl:u=Value.ref a:=ru;obtain rfl:v=Value.ref b:=rv;obtain⟨is,r1,p1,z1⟩:=I.list h1;obtain⟨js,r2,p2,z2⟩:=I.list h2;have l1:xs.length=is.toArray.size:=by have:=r1.length;simpa using this
  have l2:ys.length=js.toArray.size:=by have:=r2.length;simpa using this
  rw[l1,l2];refine SeqAt.LtAt.lists p1.isList p2.isList (by lia) (λj q1 q2=> ?_) (λj q1 q2 z=> ?_)
  .obtain⟨x,hx,rx⟩:=dm r1 q1;obtain⟨y,hy,ry⟩:=dm r2 q2;exact((he j _ _ hx hy).bo I (by rw[cK];lia) rx ry).2.2
  .obtain⟨x,hx,rx⟩:=dm r1 q1;obtain⟨y,hy,ry⟩:=dm r2 q2;exact ih j _ _ hx hy z (by rw[cK];lia) rx ry
 | @tuples d a b xs ys es fs h1 h2 he hf ih=>
  intro A u v hu ru rv;obtain rfl:u=Value.ref a:=ru;obtain rfl:v=Value.ref b:=rv;obtain⟨is,r1,p1,z1⟩:=I.tuple h1;obtain⟨js,r2,p2,z2⟩:=I.tuple h2;have l1:xs.length=is.toArray.size:=by have:=r1.length;simpa using this
  have l2:ys.length=js.toArray.size:=by have:=r2.length;simpa using this
  rw[l1,l2];refine SeqAt.LtAt.tuples (show s.heap.IsTuple a is.toArray from p1) (show s.heap.IsTuple b js.toArray from p2) (by lia) (λj q1 q2=> ?_) (λj q1 q2 z=> ?_)
  .obtain⟨x,hx,rx⟩:=dm r1 q1;obtain⟨y,hy,ry⟩:=dm r2 q2;exact((he j _ _ hx hy).bo I (by rw[cK];lia) rx ry).2.2
  .obtain⟨x,hx,rx⟩:=dm r1 q1;obtain⟨y,hy,ry⟩:=dm r2 q2;exact ih j _ _ hx hy z (by rw[cK];lia) rx ry
theorem LtR.key (I:Inv X Ku σ H s) {d:Nat}{xs ys:P' V}{es fs:Nat->Bool} (h1:SqL X.K H a xs) (h2:SqL X.K H b ys) (he:∀(j:Nat) x y,xs[j]? =some x->ys[j]? =some y->EqR X.K H d x y (es j)) (hf:∀(j:Nat) x y,xs[j]? =some x->ys[j]? =some y->es j=false->LtR X.K H d x y (fs j))
  (hu:A.units+(d+1)<cLine) (q:Q (SeqAt.lex es fs xs.length ys.length (min xs.length ys.length) 0) s):
  wpAny (model prog w) A (keyLt' oneType' (.ref a) (.ref b)) Q E s:=by
 obtain⟨is,r1,p1,z1⟩:=I.list h1;obtain⟨js,r2,p2,z2⟩:=I.list h2;have l1:xs.length=is.toArray.size:=by have:=r1.length;simpa using this
 have l2:ys.length=js.toArray.size:=by have:=r2.length;simpa using this
 rw[l1,l2] at q;refine SeqAt.key_lists p1.isList p2.isList (by lia) (λj q1 q2=> ?_) (λj q1 q2 z=> ?_) q
 .obtain⟨x,hx,rx⟩:=dm r1 q1;obtain⟨y,hy,ry⟩:=dm r2 q2;exact((he j _ _ hx hy).bo I (by rw[cK];lia) rx ry).2.2
 .obtain⟨x,hx,rx⟩:=dm r1 q1;obtain⟨y,hy,ry⟩:=dm r2 q2;exact(hf j _ _ hx hy z).bo I (by rw[cK];lia) rx ry
end
def jb (ns:P' Int):Int:=ns.getD (argBest (λi j=>decide (ns.getD i 0<ns.getD j 0)) (ns.length-1)) 0
section
variable {X:Cx}
theorem sM {ys:Array (Int×Tok)}{ns:P' Int} (h:ys.toList.map (·.1)=ns) (i:Nat):numAt ys i=ns.getD i 0:=by
 subst h;unfold numAt;rw[List.getD,AE,BN]
theorem EG (hc:X.calm=true):bz X (.builtin "min") (λxs H Q=>∃(p:P5) (ns:P' Int),xs=[.ref p]/\SqL X.K H p (ns.map V.int)/\0<ns.length/\Q (.int (jb ns)) H):=by
 intro Ku s σ H xs us Q I r h;obtain⟨p,ns,rfl,hq,h0,q⟩:=h;obtain⟨u,rfl,rx⟩:=cO r;cases rx;obtain⟨Kx,r',pl,hz⟩:=I.list hq;have hi:IntsAre Kx ns:=mw r';obtain⟨ys,e⟩:=hi.allInts.items;have n1:=hi.numsOf;rw[show Kx=Kx.toArray.toList from rfl,e,nums_intItems] at n1;have hsz:ys.size=ns.length:=by rw[<-n1];simp
 have hl:=pl.isList;rw[e] at hl;refine min_intList (I.ok.hd hc) hl (by lia) λv h' tk hv hk=> ?_;obtain⟨t,rfl⟩:=intItems_at hv;refine⟨.int (jb ns),H,I.kept hk,⟨t, ?_⟩,q⟩;unfold jb;rw[sM n1,hsz];simp only[sM n1]
inductive ipM (x:V) (y:V) (H:Hp) (Q:VK):Prop
 |mk i j:x= .int i->y= .int j->j4 i j->Q (.int (i*j)) H->ipM x y H Q
theorem EH:PIp X .Mult ipM:=by
 intro Ku s σ H x y v u Q I r1 r2 h;obtain⟨i,j,e1,e2,c,q⟩:=h;subst e1;subst e2;obtain⟨t,rfl⟩:=r1;obtain⟨t',rfl⟩:=r2;exact imul_int ⟨.int _,H,I.tok _,⟨_,rfl⟩,q⟩ c.ok
end
def tI (xs:P' Int):D:= .t (xs.map .i)
theorem gT {H:Hp}:∀{xs:P' Int}{vs:P' V},Iss H (xs.map .i) vs->vs=xs.map V.int
 |[],vs,h=>h
 |x::xs,vs,h=>by
  obtain⟨u,us,rfl,h1,h2⟩:=h;rw[aX h1,gT h2];rfl
theorem gU {H:Hp}:∀(xs:P' Int),Iss H (xs.map .i) (xs.map V.int)
 |[]=>rfl
 |x::xs=>⟨_,_,rfl,aU,gU xs⟩
theorem bY {v:V} (h:Is H (tI xs) v):∃a,v= .ref a/\H a=some (.tup (xs.map V.int)):=by
 obtain⟨a,vs,rfl,ha,hi⟩:=bP h;rw[gT hi] at ha;exact⟨a,rfl,ha⟩
def eV (h:H a=some (.tup (xs.map V.int))):Is H (tI xs) (.ref a):=bO h (gU xs)
open PySem.W
section
variable {n:Nat}
def Ord (n:Nat) (p:Array Nat):Prop:=p.Perm (List.range n).toArray
theorem Ord.size {p:Array Nat} (h:Ord n p):p.size=n:=by
 have:=(CW.mp h).length_eq;simpa using this
theorem Ord.lt (h:Ord n p) {i:Nat} (hi:i∈p.toList):i<n:=by
 have:=(CW.mp h).mem_iff.mp hi;simpa using this
theorem Ord.bubble {p:Array Nat} (h:Ord n p) (i j:Nat):Ord n (PyProof.Rows.bubble p i j):=(bubble_perm p i j).trans h
def Ord.kas (h:Ord n p) (i j:Nat):Ord n (kas_rev p i j):=(mirror_perm p i j _).trans h
theorem Ord.getD {p:Array Nat} (h:Ord n p) (hn:0<n) (i:Nat):p.getD i 0<n:=by
 by_cases hi:i<p.size
 .have e:p.getD i 0=p[i]:=by simp[Array.getD,hi]
  rw[e];exact h.lt (by simp)
 .have e:p.getD i 0=0:=by simp[Array.getD,hi]
  rw[e];exact hn
def bR (n:Nat) {α:Type} (R:α->Prop):KasT α->Prop
 | .ret a=>R a
 | .ask i j k=>i<n/\j<n/\∀b,bR n R (k b)
theorem bR.bind {α β:Type}{R:α->Prop}{R':β->Prop}{f:α->KasT β} (hf:∀a,R a->bR n R' (f a)):∀{t:KasT α},bR n R t->bR n R' (t.bind f)
 | .ret a,h=>hf a h
 | .ask i j k,h=>⟨h.1,h.2.1,λb=>bR.bind hf (h.2.2 b)⟩
variable (hn:0<n)
include hn
theorem mV {p:Array Nat} (h:Ord n p):∀f m,bR n (λ_=>True) (kas_asc p f m)
 |0,m=>trivial
 |f+1,m=>⟨h.getD hn _,h.getD hn _,λb=>by
  cases b with
  |true=>exact trivial
  |false=>exact mV h f (m+1)⟩
theorem kw:∀(f:Nat) (p:Array Nat) (m q:Nat),Ord n p->bR n (λr=>Ord n r.1) (kas_desc f p m q)
 |0,p,m,q,h=>h
 |f+1,p,m,q,h=>⟨h.getD hn _,h.getD hn _,λb=>by
  cases b with
  |true=>
   show bR n _ (if q>0 then kas_desc f (kas_rev p (m-(q+1)) m) (m+1) 0 else kas_desc f p (m+1) 0);by_cases hq:q>0
   .rw [AB hq];exact kw f _ _ _ (h.kas _ _)
   .rw [A6 hq];exact kw f _ _ _ h
  |false=>
   refine(show bR n _ (KasT.ask (p.getD (m-1) 0) (p.getD m 0) λd=>if d=true then KasT.ret (p,m,q) else kas_desc f p (m+1) (q+1)) from⟨h.getD hn _,h.getD hn _,λb=> ?_⟩);cases b with
   |true=>exact h
   |false=>exact kw f _ _ _ h⟩
theorem sN (h:Ord n p) (m k:Nat):bR n (λr=>Ord n r.2) (kas_tail3 m k p):=by
 unfold kas_tail3;refine bR.bind (λa _=> ?_) (mV hn (h.kas 0 m) _ _);exact h.kas 0 m
theorem sO (h:Ord n p) (m k:Nat):bR n (λr=>Ord n r.2) (kas_descPart m k p):=by
 refine(kw hn _ _ _ _ h).bind λr hr=> ?_;by_cases hq:r.2.2>0
 .rw [AB hq];exact sN hn (hr.kas _ _) _ _
 .rw [A6 hq];exact sN hn hr _ _
theorem EI (h:Ord n p) (k:Nat):bR n (λr=>Ord n r.2) (kas_count k p):=by
 refine(mV hn h _ _).bind λm _=> ?_;by_cases h1:(m==k)=true
 .rw [AB h1];exact h
 .rw [A6 h1];by_cases h2:m>1
  .rw [AB h2];refine⟨h.getD hn _,h.getD hn _,λb=> ?_⟩;cases b with
   |true=>exact h
   |false=>exact sO hn (h.kas _ _) _ _
  .rw [A6 h2];exact sO hn h _ _
theorem mW {p:Array Nat} (h:Ord n p) (k:Nat):∀f l r,bR n (λ_=>True) (kas_place p k f l r)
 |0,l,r=>trivial
 |f+1,l,r=>by
  unfold kas_place;by_cases h1:l>=r
  .rw [AB h1];exact trivial
  .rw [A6 h1];refine⟨h.getD hn _,h.getD hn _,λb=> ?_⟩;cases b with
   |true=>exact mW h k f _ _
   |false=>exact mW h k f _ _
theorem sP:∀(f:Nat) (p:Array Nat) (k:Nat),Ord n p->bR n (Ord n) (kas_bin f p k)
 |0,p,k,h=>h
 |f+1,p,k,h=>(mW hn h k _ _ _).bind λl _=>sP f _ _ (h.bubble _ _)
theorem EJ:bR n (Ord n) (kas_sort n):=by
 refine(EI hn (show Ord n (List.range n).toArray from Array.Perm.refl _) n).bind λr hr=> ?_;by_cases h:r.1<n
 .rw [AB h];exact sP hn _ _ _ hr
 .rw [A6 h];exact hr
end
section
variable {prog:P6}{w:P8}{A:P9}{E:P3->P4->Prop}{s:P4}
def eX (vs:P' P3) (i:Nat):Keyed:=(vs.getD i .none,vs.getD i .none)
abbrev bp (h:Qb) (a:P5) (vs:P' P3):Qb:=((h.update a (Obj.mapSeq λ_=>(#[]:Array P3))).push (seqObj "tuple" vs.toArray 0)).push (seqObj "list" #[] 0)
theorem EK (vs:P' P3):(List.toArray (List.range vs.length)).map (eX vs)=vs.toArray.zip vs.toArray:=by
 refine Array.ext (by simp) λi h1 h2=> ?_;have hi:i<vs.length:=by simpa using h1
 simp[eX,hi]
abbrev dR (h:Qb) (vs:P' P3):Qb:=bp (((h.push (seqObj "list" #[] 0)).update h.objs.size (Obj.mapSeq (· ++vs.toArray))).push (seqObj "list" vs.toArray 0)) (h.objs.size+1) vs
theorem sQ {h:Qb}{o:Obj} (hb:h.get? b=some o):(dR h vs).get? b=some o:=by
 have KD:b<h.objs.size:=AL hb;have sz:(((h.push (seqObj "list" #[] 0)).update h.objs.size (Obj.mapSeq (· ++vs.toArray))).push (seqObj "list" vs.toArray 0)).objs.size=h.objs.size+2:=by rw[Bq,B',Bq]
 have n0:b≠h.objs.size:=AO KD;have n1:b≠h.objs.size+1:=AO (Ak KD);have n2:b≠h.objs.size+2:=AO (Ak (Ak KD));have n3:b≠h.objs.size+2+1:=AO (Ak (Ak (Ak KD)));rw[BB _ _ _ (by rw[Bq,B',sz];exact n3),BB _ _ _ (by rw[B',sz];exact n2),DT _ _ _ _ n1,
  BB _ _ _ (by rw[B',Bq];exact n1),DT _ _ _ _ n0,BB _ _ _ n0]
 exact hb
end
section
variable {prog:P6}{w:P8}{A:P9}{E:P3->P4->Prop}{s:P4}
theorem sR {n:Nat}{P:PySem.Fin->P4->Prop} (ho:s.heap.get? a=some (seqObj "list" vs.toArray n)) (h2:vs.length<2)
  (h:P (.done (.ret .none)) {s with heap:=sortedHeap s.heap a vs vs.toArray}):wpAny (model prog w) A (Builtin.«list.sort» ⟨[.ref a],[]⟩) P E s:=by
 rw[list_sort_plain];have ha:a<s.heap.objs.size:=AL ho;refine A0 (listItems_at ho rfl ?_);refine A0 (Cn ho rfl ?_ (by rw[AF,B3];lia) (AJ _));obtain⟨e1,Lm⟩:∃e1,(s.heap.update a (Obj.mapSeq λ_=>(#[]:Array P3))).get? a=some (seqObj "list" #[] e1):=⟨_,Ch ho (λ_=> #[])⟩;refine A0 (seqEpoch_at Lm rfl ?_);refine A0 (wpAny_newTuple ?_ (by show vs.length<=_;rw[B3];lia));refine A0 (Cu ?_ (AJ _));refine Aw ?_;have MM:(bp s.heap a vs).get? a=some (seqObj "list" #[] e1):=by
  rw[BB _ _ _ (by rw[Bq,B'];exact AO (Ak ha)),BB _ _ _ (by rw[B'];exact AO ha)];exact Lm
 show wpAny (model prog w) A _ P E {s with heap:=bp s.heap a vs};dsimp only;have NN:vs.toArray.size<2:=by rw[AF];lia
 rw[AB NN,AB NN];refine A0 (A3 ?_);rw[StateT.run_pure];refine A0 (A3 ?_);dsimp only;have eo:(vs.toArray.zip vs.toArray).map (·.2)=vs.toArray:=by
  refine Array.ext (by simp) λi h1 h2=> ?_;simp
 refine A0 (seqEpoch_at MM rfl ?_);rw[eo];refine A0 (Cn MM rfl ?_ (AJ _) (by rw[AF,B3];lia));simp only[Cv,AK,Av];exact A3 h
theorem sS {l:P5}{Q:P3->P4->Prop} (hl:s.heap.IsList l vs.toArray) (h2:vs.length<2)
  (h:Q (.ref (s.heap.objs.size+1)) {s with heap:=sortedAll s.heap vs vs.toArray}):wpAny (model prog w) A (call (.builtin "sorted") [.ref l]) Q E s:=by
 refine Cr kind_sorted plain_sorted entry_sorted (args_sorted1 _) ?_;unfold Builtin.«sorted»;refine A0 (m:=checkCount "sorted" 1 1 _) (A3 ?_);refine A0 (collect_list hl ?_ (by rw[B3];lia));refine A0 (Cu ?_ (by rw[B3];lia));have hsz:((s.heap.push (seqObj "list" #[] 0)).update s.heap.objs.size (Obj.mapSeq (· ++vs.toArray))).objs.size=s.heap.objs.size+1:=by
  rw[B',Bq]
 have NM:(((s.heap.push (seqObj "list" #[] 0)).update s.heap.objs.size (Obj.mapSeq (· ++vs.toArray))).push (seqObj "list" vs.toArray 0)).get? (s.heap.objs.size+1)=some (seqObj "list" vs.toArray 0):=by
  rw[<-hsz];exact AI _ rfl
 show wpAny _ _ _ _ _ {s with heap:=((s.heap.push (seqObj "list" #[] 0)).update s.heap.objs.size (Obj.mapSeq (· ++vs.toArray))).push (seqObj "list" vs.toArray 0)};rw[hsz];refine A0 (Aw (Aj DZ ⟨_,NM,rfl⟩ DX (sR (s:={s with heap:=((s.heap.push (seqObj "list" #[] 0)).update s.heap.objs.size (Obj.mapSeq (· ++vs.toArray))).push (seqObj "list" vs.toArray 0)}) NM h2 ⟨_,rfl, ?_⟩) (Da _)));exact A3 ⟨_,rfl,h⟩
end
section
variable {X:Cx}
theorem kx {rs:P' V}{Kx:P' P3} (r:ap rs Kx):∀(l:P' Nat),(∀i∈l,i<rs.length)->ap (l.map λi=>rs.getD i .non) (l.map λi=>Kx.getD i .none)
 |[],_=> .nil
 |i::l,h=>by
  have hi:i<rs.length:=h i (by simp);have e:rs[i]? =some rs[i]:=A2 hi;obtain⟨u,hu,ru⟩:=r.get e;rw[AW,AW];refine .cons ?_ (kx r l λj hj=>h j (by simp[hj]));rw[List.getD,List.getD,e,hu];exact ru
end
def cY (fin:Bool):P' Int->P' Int->Bool
 |x::xs,y::ys=>if x=y then cY fin xs ys else decide (x<y)
 |_,_=>fin
def ltI (xs ys:P' Int):Bool:=cY (decide (xs.length<ys.length)) xs ys
section
variable {prog:P6}{w:P8}{A:P9}{E:P3->P4->Prop}{s:P4}
theorem sU {fin:Bool}{Q:Bool->P4->Prop}:∀{xs ys:P' Int}{is js:P' P3} (i:Nat),ap (xs.map V.int) is->ap (ys.map V.int) js->Q (cY fin xs ys) s->KatLex prog w A true fin Q (is.zip js) i s
 |[],ys,is,js,i,h1,h2,q=>by
  cases h1;rw[List.zip_nil_left];exact kat_nil (by cases ys<;>exact q)
 |x::xs,[],is,js,i,h1,h2,q=>by
  cases h2;rw[List.zip_nil_right];exact kat_nil q
 |x::xs,y::ys,is,js,i,h1,h2,q=>by
  cases h1 with
  |cons r1 h1=>
  cases h2 with
  |cons r2 h2=>
  obtain⟨t,rfl⟩:=r1;obtain⟨t',rfl⟩:=r2;rw[List.zip_cons_cons];refine kat_cons ?_;refine wpAny_eqBool_int ?_;unfold cY at q;by_cases e:x=y
  .rw [AB e] at q;rw[show(x==y)=true by simp[e]];exact kat_yes (sU (i+1) h1 h2 q)
  .rw [A6 e] at q;rw[show(x==y)=false by simp[e]];refine kat_no ?_;cases hb:(true&&i==0) with
   |true=>exact oneLt_int q
   |false=>exact kat_one _ _ (SeqAt.LtAt.int_int x t y t' prog w _ _ q)
end
theorem EL (xss:P' (P' Int)):(List.range xss.length).map (λi=>xss.getD i [])=xss:=by
 refine Ca (by simp) λi h1 h2=> ?_;simp[List.getD,h2]
theorem sV {H:Hp}{xss:P' (P' Int)}{rs:P' V} (h:Iss H (xss.map tI) rs):∀(l:P' Nat),(∀i∈l,i<xss.length)->Iss H ((l.map λi=>xss.getD i []).map tI) (l.map λi=>rs.getD i .non)
 |[],_=>rfl
 |i::l,hl=>by
  have hi:i<xss.length:=hl i (by simp);have hr:i<rs.length:=by rw[h.length,A1];exact hi
  refine⟨_,_,rfl, ?_,sV h l λj hj=>hl j (by simp[hj])⟩;obtain⟨d,hd,h1⟩:=h.of_get (A2 hr);rw[AE,A2 hi] at hd;cases hd;show Is H (tI (xss.getD i [])) (rs.getD i .non);rw[A4,A4,A2 hi,A2 hr];exact h1
section
variable {X:Cx}{Ku:P' (P5×Obj)}{σ:St}{H:Hp}{s:P4}
theorem sW (I:Inv X Ku σ H s):∀{xss:P' (P' Int)}{rs:P' V}{Kx:P' P3},Iss H (xss.map tI) rs->ap rs Kx->(∀xs∈xss,xs≠[])->∃fs:P' P3,KatTups s.heap Kx fs/\fs.length=Kx.length/\∀f∈fs,∃z t,f=Value.int z t
 |[],rs,Kx,h,r,_=>by
  obtain rfl:rs=[]:=h;cases r;exact⟨[],KatTups.nil,rfl,λ_ h=>nomatch h⟩
 |xs::xss,rs,Kx,h,r,Lp=>by
  obtain⟨u,us,rfl,h1,h2⟩:=h;cases r with
  |cons r1 r2=>
  rename_i v Kx;obtain⟨fs,k1,k2,k3⟩:=sW I h2 r2 λys hy=>Lp ys (by simp[hy]);obtain⟨a,rfl,ha⟩:=bY h1;obtain rfl:v=Value.ref a:=r1;obtain⟨is,q1,q2,q3⟩:=I.tuple (SqT.of (K:=X.K) ha);obtain⟨o,ho,hc,n,hd⟩:=(show s.heap.IsTuple a is.toArray from q2)
  match xs,Lp xs (by simp) with
  |x::Ng,_=>
  cases q1 with
  |cons q0 q1=>
  obtain⟨t,rfl⟩:=q0;refine⟨.int x t::fs,KatTups.cons ho hc hd (by simp) k1,by simp[k2],λf hf=> ?_⟩;rcases AM.mp hf with rfl|hf
  .exact⟨_,_,rfl⟩
  .exact k3 f hf
theorem EM (I:Inv X Ku σ H s) {ys:P' Int} (h1:SqT X.K H a (xs.map V.int)) (h2:SqT X.K H b (ys.map V.int)) (q:Q (ltI xs ys) s):
  wpAny (model prog w) A (keyLt' (tuples' true) (.ref a) (.ref b)) Q E s:=by
 obtain⟨is,r1,p1,z1⟩:=I.tuple h1;obtain⟨js,r2,p2,z2⟩:=I.tuple h2;obtain⟨o1,Lm,NP,n1,OE⟩:=(show s.heap.IsTuple a is.toArray from p1);obtain⟨o2,LF,Lo,n2,LP⟩:=(show s.heap.IsTuple b js.toArray from p2);refine kat_lt Lm OE LF LP ?_;have l1:is.toArray.size=xs.length:=by have:=r1.length;simp at this⊢;lia
 have l2:js.toArray.size=ys.length:=by have:=r2.length;simp at this⊢;lia
 rw[l1,l2];exact sU 0 r1 r2 q
end
def kz (v:P3) (k:Int):Bool:=match v with
 | .int i _=>decide (i=k)
 |_=>false
def eY:P' DictEntry->P' (Int×Int)->Bool
 |[],[]=>true
 |e::es,p::Kv=>kz e.key p.1&&decide (e.hash=hashInt p.1)&&kz e.val p.2&&eY es Kv
 |_,_=>false
def sY (o:Obj) (Kv:P' (Int×Int)):Bool:=match o.cls,o.dict,o.data with
 | .type c,none, .dict es _=>c=="dict"&&o.slots.isEmpty&&eY es.toList Kv
 |_,_,_=>false
def kA (K:W.Frag) (a:P5) (Kv:P' (Int×Int)):Bool:=match K.lookup a with
 |some o=>sY o Kv
 |none=>false
theorem sZ {v:P3}{k:Int} (h:kz v k=true):∃t,v= .int k t:=by
 unfold kz at h;split at h
 .rename_i i t;exact⟨t,by rw[Ar h]⟩
 .cases h
theorem tj {e:DictEntry}{es:P' DictEntry}{p:Int×Int}{Kv:P' (Int×Int)} (h:eY (e::es) (p::Kv)=true):(∃t,e.key= .int p.1 t)/\e.hash=hashInt p.1/\(∃t,e.val= .int p.2 t)/\eY es Kv=true:=by
 unfold eY at h;rw[AD,AD,AD] at h;exact⟨sZ h.1.1.1,Ar h.1.1.2,sZ h.1.2,h.2⟩
theorem tq:∀{es:P' DictEntry}{Kv:P' (Int×Int)},eY es Kv=true->∀e∈es,∃k,Value.isInt k e.key=true/\e.hash=hashInt k
 |[],_,_,e,he=>nomatch he
 |e::es,[],h,_,_=>by unfold eY at h;cases h
 |e::es,p::Kv,h,e',he=>by
  obtain⟨⟨t,h1⟩,h2,_,h4⟩:=tj h;rcases AM.mp he with rfl|he
  .exact⟨p.1,by rw[h1];simp[Value.isInt],h2⟩
  .exact tq h4 e' he
theorem tw {k v:Int}:∀{es:P' DictEntry}{Kv:P' (Int×Int)},eY es Kv=true->Kv.lookup k=some v->∃t,(es.find? λe=>Value.isInt k e.key).map (·.val)=some (.int v t)
 |_,[],_,hv=>nomatch hv
 |[],p::Kv,h,_=>by unfold eY at h;cases h
 |e::es,p::Kv,h,hv=>by
  obtain⟨⟨t,h1⟩,h2,⟨u,h3⟩,h4⟩:=tj h;rw[CG] at hv;rw[Bb];by_cases q:k=p.1
  .have b:(k==p.1)=true:=by simp[q]
   rw[b] at hv;have Pb:p.2=v:=Ae hv;have i:Value.isInt k e.key=true:=by rw[h1,q];simp[Value.isInt]
   rw[i];exact⟨u,by rw[<-Pb,<-h3];rfl⟩
  .have b:(k==p.1)=false:=by simp[q]
   rw[b] at hv;have i:Value.isInt k e.key=false:=by rw[h1];simp[Value.isInt];exact λz=>q z.symm
   rw[i];exact tw h4 hv
inductive tDGetM_ (K:W.Frag) (Q:VK) (x:V) (y:V) (H2:Hp):Prop
 |mk a Kv k v:x= .ref a->kA K a Kv=true->y= .int k->Kv.lookup k=some v->Q (.int v) H2->tDGetM_ K Q x y H2
def EN (K:W.Frag) (td ty:TE):TE:=λσ H Q=>td σ H λx H1=>ty σ H1 λy H2=>tDGetM_ K Q x y H2
theorem EO {X:Cx}{o i:Qa}{pos:Pos}{td ty:TE} (ho:PE X o td) (hi:PE X i ty) (hs:i0 i):PE X (.Subscript o i pos) (EN X.K td ty):=by
 intro Ku s σ H Q I h;refine mz PySem.F.slot_dict_getitem.lookup hs (thn (ho Ku s σ H _ I h) λu s1 zu56=> ?_);obtain⟨x,H1,I1,rx,q1⟩:=zu56;refine thn (hi Ku s1 σ H1 _ I1 q1) λiv s2 zu57=> ?_;obtain⟨y,H2,I2,ry,a,Kv,k,v,ex,hd,ey,hv,q2⟩:=zu57;subst ex ey;obtain rfl:u=Value.ref a:=rx;obtain⟨t,rfl⟩:=ry;unfold kA at hd;split at hd
 .rename_i ob N8;have hg:=I2.kIn a ob N8;unfold sY at hd;split at hd
  .rename_i c es ep hc NR NS;rw[AD,AD] at hd;obtain⟨⟨d1,d2⟩,d3⟩:=hd;have hc':ob.cls= .type "dict":=by rw[hc,eq_of_beq d1]
   obtain⟨t',ht⟩:=tw d3 hv;have mp:s2.heap.MapOf (intKind X.prog X.w) a (findBy Value.isInt es):=⟨ob,es,ep,hg,⟨hc',NR,Array.isEmpty_iff.mp d2⟩,NS,λe he=>tq d3 e (by simpa using he),λ_=>rfl⟩;refine⟨⟨ob,hg,hc'⟩,wpAny_getItem_of (knd:=intKind X.prog X.w) (k:=k) (by simp[intKind,Value.isInt]) mp (v:= .int v t') ?_ ⟨.int v,H2,I2.tok _,⟨_,rfl⟩,q2⟩⟩;show findBy Value.isInt es k=_;unfold findBy;obtain⟨l⟩:=es;simpa using ht
  .cases hd
 .cases hd
def EQ (K:W.Frag) (H:Hp) (n:Nat) (xs:P' V) (x:V) (es:Nat->Bool):Prop:=n<=8/\(∀(j:Nat) z,xs[j]? =some z->(∃a,z= .ref a)/\EqR K H n z x (es j))/\∀(i j:Nat) z,xs[i]? =some z->xs[j]? =some z->es i=es j
section
variable {X:Cx}{Ku:P' (P5×Obj)}{σ:St}{H:Hp}{s:P4}
open Classical in
noncomputable def fJ (Kx:P' P3) (es:Nat->Bool) (u:P3):Bool:=decide (∃j:Nat,Kx[j]? =some u/\es j=true)
end
def Ask (K:W.Frag) (H:Hp) (x y:V) (b:Bool):Prop:=∃(a1 a2:P5) (xs ys:P' V) (d:Nat) (es fs:Nat->Bool),x= .ref a1/\y= .ref a2/\SqL K H a1 xs/\SqL K H a2 ys/\d<=4/\
 (∀(j:Nat) x y,xs[j]? =some x->ys[j]? =some y->EqR K H d x y (es j))/\(∀(j:Nat) x y,xs[j]? =some x->ys[j]? =some y->es j=false->LtR K H d x y (fs j))/\b=SeqAt.lex es fs xs.length ys.length (min xs.length ys.length) 0
end L2
namespace L2
open PySem PyProof.Rows
variable {M:Model}{Mc p p':Array Nat}{Q:Unit->SortSt->Prop}{a i j l m n:Nat}{b left:Bool}{vs:P' P3}{xss:P' (P' Int)}
def ER:Bool->Keyed->Array Keyed->Nat->Nat->Nat->StateT SortSt Sem (Qc Nat):=sortPriv%PySem.Builtin.gallop
def ES:Array Keyed->Array Keyed->StateT SortSt Sem (Array Keyed):=sortPriv%PySem.Builtin.mergeLo
def aG {γ:Type} (step:γ->Qc (Bool×γ)):Nat->γ->Qc γ
 |0,g=>some g
 |f+1,g=>(step g).bind λr=>if r.1=true then some r.2 else aG step f r.2
section
variable {M:Model}{A:P9}{E:P3->P4->Prop}{s:P4}{σ:Type}
theorem cx {β γ:Type}{step:γ->Qc (Bool×γ)} (φ:γ->β) (τ:γ->σ) {f:Nat->β->StateT σ Sem (ForInStep β)}{Q:β->σ->Prop}
  (hs:∀x g r,step g=some r->∀R:ForInStep β->σ->Prop,R (if r.1=true then .done (φ r.2) else .yield (φ r.2)) (τ r.2)->wpS M A E s (f x (φ g)) R (τ g))
  {b:Nat}{g g':γ} (h:aG step (b-a) g=some g') (hq:Q (φ g') (τ g')):wpS M A E s (forIn [a:b] (φ g) f) Q (τ g):=by
 rw[Std.Legacy.Range.forIn_eq_forIn_range'];have hsz:([a:b]:Std.Legacy.Range).size=b-a:=by simp[Std.Legacy.Range.size]
 show wpS M A E s (forIn (List.range' a ([a:b]:Std.Legacy.Range).size 1) (φ g) f) Q (τ g);rw[hsz];have go:∀(k:Nat) (l:P' Nat) (g:γ),l.length=k->aG step k g=some g'->wpS M A E s (forIn l (φ g) f) Q (τ g):=by
  intro k;induction k with
  |zero=>
   intro l g hl h;cases l with
   |nil=>rw[List.forIn_nil];cases h;exact Ah hq
   |cons _ _=>simp at hl
  |succ k ih=>
   intro l g hl h;cases l with
   |nil=>simp at hl
   |cons x l=>
    rw[Ck];unfold aG at h;obtain⟨r,hr,h⟩:=A7.mp h;refine AR (hs x g r hr _ ?_);by_cases hd:r.1=true
    .rw [AB hd] at h⊢;cases h;exact Ah hq
    .rw [A6 hd] at h⊢;exact ih l r.2 (by simpa using hl) h
 exact go _ _ g (by simp) h
end
section
variable {prog:P6}{w:P8}{A:P9}{E:P3->P4->Prop}{s:P4}{item:Nat->Keyed}{c:Nat->Nat->Qc Bool}{kd:SortKind}
def dF (kd:SortKind) (prog:P6) (w:P8) (A:P9) (s:P4) (item:Nat->Keyed) (c:Nat->Nat->Qc Bool):Prop:=
 ∀i j b,c i j=some b->∀Q:Bool->P4->Prop,Q b s->wpAny (model prog w) A (keyLt' kd (item i).1 (item j).1) Q (λ_ _=>False) s
theorem mX (hc:dF kd prog w A s item c) {st:SortSt} (hk:kindOf st=kd) (h:c i j=some b) {Q:Qc Bool->SortSt->Prop} (hq:Q (some b) st):wpS (model prog w) A E s (lt' (item i) (item j)) Q st:=by
 rw[lt'_eq];refine AR (wpS_get ?_);rw[hk];refine AR (wpS_lift (By (BV (hc i j b h _ ⟨rfl,Ah hq⟩) (λ_ _ h=>h) λ_ _ hF=>hF.elim)))
theorem gW {st:SortSt}{x:Nat} (h:Mc[i]? =some x) {Q:Keyed->SortSt->Prop} (hq:Q (item x) st):wpS (model prog w) A E s (elem' (Mc.map item) i) Q st:=by
 rw[elem'_eq,Array.getElem?_map,h];exact Ah hq
def eZ (c:Nat->Nat->Qc Bool) (left:Bool) (key:Nat) (Mc:Array Nat) (i:Nat):Qc Bool:=Mc[i]?.bind λx=>if left=true then c x key else(c key x).map (!·)
def gUp (b:Nat->Qc Bool) (m:Nat) (g:Nat×Nat):Qc (Bool×Nat×Nat):=if g.2>=m then some (true,g) else(b g.2).map λy=>if y=true then(false,g.2,2*g.2+1) else(true,g)
def gDn (b:Nat->Qc Bool) (m:Nat) (g:Nat×Nat):Qc (Bool×Nat×Nat):=if g.2>=m then some (true,g) else(b g.2).map λy=>if y=true then(true,g) else(false,g.2,2*g.2+1)
def jc (b:Nat->Qc Bool) (g:Nat×Nat):Qc (Bool×Nat×Nat):=
 if g.1>=g.2 then some (true,g) else(b (g.1+(g.2-g.1)/2)).map λy=>if y=true then(false,g.1+(g.2-g.1)/2+1,g.2) else(false,g.1,g.1+(g.2-g.1)/2)
def gal (c:Nat->Nat->Qc Bool) (left:Bool) (key:Nat) (Mc:Array Nat) (base n KN:Nat):Qc Nat:=
 (eZ c left key Mc (base+KN)).bind λright=>
  (if right=true then(aG (gUp (λo=>eZ c left key Mc (base+(KN+o))) (n-KN)) n (0,1)).map λg=>(KN+g.1+1,KN+min g.2 (n-KN))
   else(aG (gDn (λo=>eZ c left key Mc (base+(KN-o))) (KN+1)) n (0,1)).map λg=>(KN+1-min g.2 (KN+1),KN-g.1)).bind λlh=>
   (aG (jc λi=>eZ c left key Mc (base+i)) n lh).map (·.2)
theorem jd (hc:dF kd prog w A s item c) {st:SortSt} (hk:kindOf st=kd) {key:Nat}(h:eZ c left key Mc i=some b) {Q:Option Bool->SortSt->Prop} (hq:Q (some b) st):
  wpS (model prog w) A E s (do
   let x<-elem' (Mc.map item) i
   if left=true then lt' x (item key) else do
    let y<-lt' (item key) x
    pure (y.map (!·))) Q st:=by
 obtain⟨x,hx,h⟩:=A7.mp h;refine AR (gW hx ?_);by_cases hl:left=true
 .rw [AB hl] at h⊢;exact mX hc hk h hq
 .rw [A6 hl] at h⊢;obtain⟨y,hy,rfl⟩:=AA.mp h;exact AR (mX hc hk hy (Ah hq))
theorem tz (hc:dF kd prog w A s item c) {st:SortSt} (hk:kindOf st=kd) {key:Nat}{base KN k:Nat} (h:gal c left key Mc base n KN=some k) {Q:Qc Nat->SortSt->Prop} (hq:Q (some k) st):
  wpS (model prog w) A E s (ER left (item key) (Mc.map item) base n KN) Q st:=by
 (unfold wpS;wp_delta;wp_delta;wp_delta;refine(show wpS _ _ _ _ _ _ _ from ?_))
 dsimp only;obtain⟨right,hr,h⟩:=A7.mp h;obtain⟨lh,h1,h2⟩:=A7.mp h;obtain⟨lh2,h3,rfl⟩:=AA.mp h2;refine AR (jd hc hk hr ?_);dsimp only;by_cases e:right=true
 .rw [AB e] at h1⊢;obtain⟨g0,h0,rfl⟩:=AA.mp h1;refine AR (cx (γ:=Nat×Nat) (step:=gUp (λo=>eZ c left key Mc (base+(KN+o))) (n-KN)) (λg=>(none,g.1,g.2)) (λ_=>st) (λx g r hs R hR=> ?_) (a:=0) (b:=n) (g:=(0,1)) (g':=g0) h0 ?_)
  .unfold gUp at hs;dsimp only;by_cases e:g.2>=n-KN
   .rw [AB e] at hs⊢;cases hs;exact Ah hR
   .rw [A6 e] at hs⊢;obtain⟨y,hy,rfl⟩:=AA.mp hs;refine AR (jd hc hk hy ?_);cases y<;>exact Ah hR
  .dsimp only;refine AR (cx (γ:=Nat×Nat) (step:=jc λi=>eZ c left key Mc (base+i)) (λg=>(none,g.1,g.2)) (λ_=>st) (λx g r hs R hR=> ?_) (a:=0) (b:=n) (g:=(KN+g0.1+1,KN+min g0.2 (n-KN))) (g':=lh2) h3 (Ah hq));unfold jc at hs;dsimp only;by_cases e:g.1>=g.2
   .rw [AB e] at hs⊢;cases hs;exact Ah hR
   .rw [A6 e] at hs⊢;obtain⟨y,hy,rfl⟩:=AA.mp hs;refine AR (jd hc hk hy ?_);cases y<;>exact Ah hR
 .rw [A6 e] at h1⊢;obtain⟨g0,h0,rfl⟩:=AA.mp h1;refine AR (cx (γ:=Nat×Nat) (step:=gDn (λo=>eZ c left key Mc (base+(KN-o))) (KN+1)) (λg=>(none,g.1,g.2)) (λ_=>st) (λx g r hs R hR=> ?_) (a:=0) (b:=n) (g:=(0,1)) (g':=g0) h0 ?_)
  .unfold gDn at hs;dsimp only;by_cases e:g.2>=KN+1
   .rw [AB e] at hs⊢;cases hs;exact Ah hR
   .rw [A6 e] at hs⊢;obtain⟨y,hy,rfl⟩:=AA.mp hs;refine AR (jd hc hk hy ?_);cases y<;>exact Ah hR
  .dsimp only;refine AR (cx (γ:=Nat×Nat) (step:=jc λi=>eZ c left key Mc (base+i)) (λg=>(none,g.1,g.2)) (λ_=>st) (λx g r hs R hR=> ?_) (a:=0) (b:=n) (g:=(KN+1-min g0.2 (KN+1),KN-g0.1)) (g':=lh2) h3 (Ah hq));unfold jc at hs;dsimp only;by_cases e:g.1>=g.2
   .rw [AB e] at hs⊢;cases hs;exact Ah hR
   .rw [A6 e] at hs⊢;obtain⟨y,hy,rfl⟩:=AA.mp hs;refine AR (jd hc hk hy ?_);cases y<;>exact Ah hR
def mY (a b KU:Array Nat) (ia ib:Nat):Array Nat:=KU++a.extract ia a.size++b.extract ib b.size
def mZ (a b KU:Array Nat) (ia ib:Nat):Array Nat:=KU++b.extract ib b.size++a.extract ia a.size
def mLo (c:Nat->Nat->Qc Bool) (a b:Array Nat) (sg:Nat):Qc (Array Nat×Nat):=
 b[0]?.bind λy=>
  if(1==b.size)=true then some (mY a b #[y] 0 1,sg)
  else if(0+1==a.size)=true then some (mZ a b #[y] 0 1,sg)
  else none
abbrev stG (st:SortSt) (g:Nat):SortSt:=SortSt.mk' (kindOf st) (arrOf st) (pendingOf st) g (failedOf st)
theorem ET (a b KU:Array Nat) (ia ib:Nat):(mY a b KU ia ib).map item=KU.map item++(a.map item).extract ia (a.map item).size++(b.map item).extract ib (b.map item).size:=by
 unfold mY;simp
theorem EU (a b KU:Array Nat) (ia ib:Nat):(mZ a b KU ia ib).map item=KU.map item++(b.map item).extract ib (b.map item).size++(a.map item).extract ia (a.map item).size:=by
 unfold mZ;simp
theorem je {σ α:Type}{c:Prop} [Decidable c] {x y:StateT σ Sem α}{Q:α->σ->Prop}{st:σ} (hc:c) (h:wpS M A E s x Q st):wpS M A E s (if c then x else y) Q st:=by
 rw[AB hc];exact h
theorem m6 {σ α:Type}{c:Prop} [Decidable c] {x y:StateT σ Sem α}{Q:α->σ->Prop}{st:σ} (hc:¬c) (h:wpS M A E s y Q st):wpS M A E s (if c then x else y) Q st:=by
 rw[A6 hc];exact h
set_option maxHeartbeats 4000000 in
theorem EV (hc:dF kd prog w A s item c) {st:SortSt} (hk:kindOf st=kd) {a b KU:Array Nat}{g:Nat} (h:mLo c a b (gallopOf st)=some (KU,g)) {Q:Array Keyed->SortSt->Prop} (hq:Q (KU.map item) (stG st g)):
  wpS (model prog w) A E s (ES (a.map item) (b.map item)) Q st:=by
 obtain⟨κ,ar,pd,g0,fl⟩:=st
 (unfold wpS;wp_delta;wp_delta;wp_delta;refine(show wpS _ _ _ _ _ _ _ from ?_))
 refine AR (wpS_lift (C4 ⟨rfl, ?_⟩));unfold mLo at h;obtain⟨y,hy,h⟩:=A7.mp h;refine AR (gW hy ?_);by_cases e1:(1==b.size)=true
 .rw [AB e1] at h;cases h;refine je (by simpa using e1) (Ah ?_);rw[ET] at hq;simpa using hq
 rw[A6 e1] at h;by_cases e2:(0+1==a.size)=true
 .rw [AB e2] at h;cases h;refine m6 (by simpa using e1) (je (by simpa using e2) (Ah ?_));rw[EU] at hq;simpa using hq
 rw[A6 e2] at h;cases h
end
section
variable {prog:P6}{w:P8}{A:P9}{E:P3->P4->Prop}{s:P4}{item:Nat->Keyed}{c:Nat->Nat->Qc Bool}{kd:SortKind}
def mHi (c:Nat->Nat->Qc Bool) (a b:Array Nat) (sg:Nat):Qc (Array Nat×Nat):=none
end
def jf {γ:Type} (step:Nat->γ->Qc (Bool×γ)):Nat->Nat->γ->Qc γ
 |0,_,g=>some g
 |f+1,i,g=>(step i g).bind λr=>if r.1=true then some r.2 else jf step f (i+1) r.2
section
variable {M:Model}{A:P9}{E:P3->P4->Prop}{s:P4}{σ:Type}
theorem EW {β γ:Type}{step:Nat->γ->Qc (Bool×γ)} (φ:γ->β) (τ:γ->σ) {f:Nat->β->StateT σ Sem (ForInStep β)}{Q:β->σ->Prop}
  (hs:∀x g r,step x g=some r->∀R:ForInStep β->σ->Prop,R (if r.1=true then .done (φ r.2) else .yield (φ r.2)) (τ r.2)->wpS M A E s (f x (φ g)) R (τ g))
  {b:Nat}{g g':γ} (h:jf step (b-a) a g=some g') (hq:Q (φ g') (τ g')):wpS M A E s (forIn [a:b] (φ g) f) Q (τ g):=by
 rw[Std.Legacy.Range.forIn_eq_forIn_range'];have hsz:([a:b]:Std.Legacy.Range).size=b-a:=by simp[Std.Legacy.Range.size]
 show wpS M A E s (forIn (List.range' a ([a:b]:Std.Legacy.Range).size 1) (φ g) f) Q (τ g);rw[hsz];have go:∀(k i:Nat) (g:γ),jf step k i g=some g'->wpS M A E s (forIn (List.range' i k 1) (φ g) f) Q (τ g):=by
  intro k;induction k with
  |zero=>
   intro i g h;cases h;rw[List.range'_zero,List.forIn_nil];exact Ah hq
  |succ k ih=>
   intro i g h;rw[List.range'_succ,Ck];unfold jf at h;obtain⟨r,hr,h⟩:=A7.mp h;refine AR (hs i g r hr _ ?_);by_cases hd:r.1=true
   .rw [AB hd] at h⊢;cases h;exact Ah hq
   .rw [A6 hd] at h⊢;exact ih (i+1) r.2 h
 exact go _ a g h
end
section
variable {prog:P6}{w:P8}{A:P9}{E:P3->P4->Prop}{s:P4}{item:Nat->Keyed}{c:Nat->Nat->Qc Bool}{kd:SortKind}{pd:Array (Nat×Nat×Nat)}{g:Nat}
abbrev sst (kd:SortKind) (item:Nat->Keyed) (p:Array Nat) (pd:Array (Nat×Nat×Nat)) (g:Nat):SortSt:=SortSt.mk' kd (p.map item) pd g none
def cAt (c:Nat->Nat->Qc Bool) (p:Array Nat) (i j:Nat):Qc Bool:=p[i]?.bind λx=>p[j]?.bind λy=>c x y
theorem dG (hc:dF kd prog w A s item c) (h:cAt c p i j=some b) {Q:Qc Bool->SortSt->Prop} (hq:Q (some b) (sst kd item p pd g)):wpS (model prog w) A E s (ltAt' i j) Q (sst kd item p pd g):=by
 obtain⟨x,hx,h⟩:=A7.mp h;obtain⟨y,hy,h⟩:=A7.mp h;rw[ltAt'_eq];refine AR (wpS_get ?_);dsimp only;exact AR (gW hx (AR (gW hy (mX hc rfl h hq))))
def rev (p:Array Nat) (i j:Nat):Array Nat:=mirror p i j ((j-i)/2)
theorem fc (h:Q () (sst kd item (rev p i j) pd g)):wpS (model prog w) A E s (reverseSlice' i j) Q (sst kd item p pd g):=by
 rw[reverseSlice'_eq];refine DH ?_;have e1:mirror (p.map item) i j ((j-i)/2)=(rev p i j).map item:=W.kas_swaps_map item (λk=>i+k) (λk=>j-1-k) _ p;show Q () (SortSt.mk' kd (mirror (p.map item) i j ((j-i)/2)) pd g none);rw[e1];exact h
theorem EX {k:Nat}(h:Q () (sst kd item (bubble p k (k-l)) pd g)):wpS (model prog w) A E s (moveDown' k l) Q (sst kd item p pd g):=by
 rw[moveDown'_eq];refine DH ?_;have e1:bubble (p.map item) k (k-l)=(bubble p k (k-l)).map item:=W.kas_swaps_map item (λi=>k-i) (λi=>k-i-1) _ p;show Q () (SortSt.mk' kd (bubble (p.map item) k (k-l)) pd g none);rw[e1];exact h
def gi (c:Nat->Nat->Qc Bool) (p:Array Nat) (l:Nat) (m:Nat):Qc (Bool×Nat):=(cAt c p (l+m) (l+m-1)).map λq=>if q=true then(true,m) else(false,m+1)
def jg (c:Nat->Nat->Qc Bool) (l:Nat) (t:Array Nat×Nat×Nat):Qc (Bool×Array Nat×Nat×Nat):=
 (cAt c t.1 (l+t.2.1) (l+t.2.1-1)).bind λq=>
  if q=true then if t.2.2>0 then some (false,rev t.1 (l+t.2.1-(t.2.2+1)) (l+t.2.1),t.2.1+1,0) else some (false,t.1,t.2.1+1,0)
  else(cAt c t.1 (l+t.2.1-1) (l+t.2.1)).bind λr=>if r=true then some (true,t.1,t.2.1,t.2.2) else some (false,t.1,t.2.1+1,t.2.2+1)
def kC (c:Nat->Nat->Qc Bool) (l n:Nat) (p:Array Nat) (m:Nat):Qc (Nat×Array Nat):=(aG (gi c (rev p l (l+m)) l) (n-m) m).map λk=>(k,rev p l (l+m))
def kD (c:Nat->Nat->Qc Bool) (l n:Nat) (p:Array Nat) (m:Nat):Qc (Nat×Array Nat):=
 (aG (jg c l) (n-(m+1)) (p,m+1,0)).bind λt=>if t.2.2>0 then kC c l n (rev t.1 (l+t.2.1-(t.2.2+1)) (l+t.2.1)) t.2.1 else kC c l n t.1 t.2.1
def m7 (c:Nat->Nat->Qc Bool) (l n:Nat) (p:Array Nat):Qc (Nat×Array Nat):=
 (aG (gi c p l) (n-1) 1).bind λm=>if(m==n)=true then some (m,p) else if m>1 then(cAt c p l (l+m-1)).bind λq=>if q=true then some (m,p) else kD c l n (rev p l (l+m)) m else kD c l n p m
set_option maxHeartbeats 2000000 in
theorem EY (hc:dF kd prog w A s item c) {k:Nat}(h:m7 c l n p=some (k,p')) {Q:Qc Nat->SortSt->Prop} (hq:Q (some k) (sst kd item p' pd g)):wpS (model prog w) A E s (countRun' l n) Q (sst kd item p pd g):=by
 (unfold wpS;wp_delta;wp_delta;wp_delta;refine(show wpS _ _ _ _ _ _ _ from ?_))
 dsimp only;unfold m7 at h;obtain⟨m,h0,h⟩:=A7.mp h;have hz:=h0
 (
  refine AR (cx (γ:=Nat) (step:=gi c _ l) (λm=>(none,m)) (λ_=>sst kd item _ pd g) (λx m r hs R hR=> ?_) hz ?_)
  .obtain⟨q,LI,rfl⟩:=AA.mp hs;refine AR (dG hc LI ?_);cases q<;>exact Ah hR)
 dsimp only;by_cases e1:(m==n)=true
 .rw [AB e1] at h⊢;cases h;exact Ah hq
 rw[A6 e1] at h⊢;by_cases e2:m>1
 .rw [AB e2] at h⊢;obtain⟨q,LI,h⟩:=A7.mp h;refine AR (dG hc LI ?_);dsimp only;by_cases e3:q=true
  .rw [AB e3] at h⊢;cases h;exact Ah hq
  rw[A6 e3] at h⊢;refine AR (fc ?_);unfold kD kC at h
  (
   refine AR (wpS_lift (C4 ⟨rfl, ?_⟩));obtain⟨t,h1,h2⟩:=A7.mp h;refine AR (cx (γ:=Array Nat×Nat×Nat) (step:=jg c l) (λt=>(none,t.2.1,t.2.2)) (λt=>sst kd item t.1 pd g) (λx t r hs R hR=> ?_) h1 ?_)
   .unfold jg at hs;obtain⟨q,LI,hs⟩:=A7.mp hs;refine AR (dG hc LI ?_);cases q with
    |true=>
     dsimp only;rw[AB rfl] at hs⊢;split at hs
     .rename_i z;rw[AB z];cases hs;exact AR (fc (Ah hR))
     .rename_i z;rw[A6 z];cases hs;exact Ah hR
    |false=>
     dsimp only;rw[A6 (by simp)] at hs⊢;obtain⟨r,hr1,hs⟩:=A7.mp hs;refine AR (dG hc hr1 ?_);cases r<;>(cases hs;exact Ah hR)
   .dsimp only;split at h2
    .rename_i z;rw[AB z];refine AR (fc ?_);refine AR (fc ?_);obtain⟨k2,h3,h4⟩:=AA.mp h2;cases h4;have hz:=h3
     (
      refine AR (cx (γ:=Nat) (step:=gi c _ l) (λm=>(none,m)) (λ_=>sst kd item _ pd g) (λx m r hs R hR=> ?_) hz ?_)
      .obtain⟨q,LI,rfl⟩:=AA.mp hs;refine AR (dG hc LI ?_);cases q<;>exact Ah hR)
     exact Ah hq
    .rename_i z;rw[A6 z];refine AR (fc ?_);obtain⟨k2,h3,h4⟩:=AA.mp h2;cases h4;have hz:=h3
     (
      refine AR (cx (γ:=Nat) (step:=gi c _ l) (λm=>(none,m)) (λ_=>sst kd item _ pd g) (λx m r hs R hR=> ?_) hz ?_)
      .obtain⟨q,LI,rfl⟩:=AA.mp hs;refine AR (dG hc LI ?_);cases q<;>exact Ah hR)
     exact Ah hq)
 .rw [A6 e2] at h⊢;unfold kD kC at h
  (
   refine AR (wpS_lift (C4 ⟨rfl, ?_⟩));obtain⟨t,h1,h2⟩:=A7.mp h;refine AR (cx (γ:=Array Nat×Nat×Nat) (step:=jg c l) (λt=>(none,t.2.1,t.2.2)) (λt=>sst kd item t.1 pd g) (λx t r hs R hR=> ?_) h1 ?_)
   .unfold jg at hs;obtain⟨q,LI,hs⟩:=A7.mp hs;refine AR (dG hc LI ?_);cases q with
    |true=>
     dsimp only;rw[AB rfl] at hs⊢;split at hs
     .rename_i z;rw[AB z];cases hs;exact AR (fc (Ah hR))
     .rename_i z;rw[A6 z];cases hs;exact Ah hR
    |false=>
     dsimp only;rw[A6 (by simp)] at hs⊢;obtain⟨r,hr1,hs⟩:=A7.mp hs;refine AR (dG hc hr1 ?_);cases r<;>(cases hs;exact Ah hR)
   .dsimp only;split at h2
    .rename_i z;rw[AB z];refine AR (fc ?_);refine AR (fc ?_);obtain⟨k2,h3,h4⟩:=AA.mp h2;cases h4;have hz:=h3
     (
      refine AR (cx (γ:=Nat) (step:=gi c _ l) (λm=>(none,m)) (λ_=>sst kd item _ pd g) (λx m r hs R hR=> ?_) hz ?_)
      .obtain⟨q,LI,rfl⟩:=AA.mp hs;refine AR (dG hc LI ?_);cases q<;>exact Ah hR)
     exact Ah hq
    .rename_i z;rw[A6 z];refine AR (fc ?_);obtain⟨k2,h3,h4⟩:=AA.mp h2;cases h4;have hz:=h3
     (
      refine AR (cx (γ:=Nat) (step:=gi c _ l) (λm=>(none,m)) (λ_=>sst kd item _ pd g) (λx m r hs R hR=> ?_) hz ?_)
      .obtain⟨q,LI,rfl⟩:=AA.mp hs;refine AR (dG hc LI ?_);cases q<;>exact Ah hR)
     exact Ah hq)
def bPl (c:Nat->Nat->Qc Bool) (p:Array Nat) (l k:Nat) (t:Nat×Nat):Qc (Bool×Nat×Nat):=
 if t.1>=t.2 then some (true,t.1,t.2) else(cAt c p (l+k) (l+(t.1+t.2)/2)).bind λq=>if q=true then some (false,t.1,(t.1+t.2)/2) else some (false,(t.1+t.2)/2+1,t.2)
def tD (c:Nat->Nat->Qc Bool) (l k:Nat) (p:Array Nat):Qc (Bool×Array Nat):=(aG (bPl c p l k) k (0,k)).map λt=>(false,bubble p (l+k) (l+k-(l+t.1)))
def tE (c:Nat->Nat->Qc Bool) (l n ok:Nat) (p:Array Nat):Qc (Array Nat):=jf (tD c l) (n-max ok 1) (max ok 1) p
theorem EZ (hc:dF kd prog w A s item c) {ok:Nat}(h:tE c l n ok p=some p') {Q:Bool->SortSt->Prop} (hq:Q true (sst kd item p' pd g)):wpS (model prog w) A E s (binarySort' l n ok) Q (sst kd item p pd g):=by
 (unfold wpS;wp_delta;wp_delta;wp_delta;refine(show wpS _ _ _ _ _ _ _ from ?_))
 dsimp only;refine AR (EW (γ:=Array Nat) (step:=tD c l) (λ_=>(none,())) (λp=>sst kd item p pd g) (λk p r hs R hR=> ?_) h (Ah hq));obtain⟨t,ht,rfl⟩:=AA.mp hs;refine AR (cx (γ:=Nat×Nat) (step:=bPl c p l k) (λt=>(none,t.1,t.2)) (λ_=>sst kd item p pd g) (λx t r hs R hR=> ?_) (a:=0) (b:=k) ht ?_)
 .unfold bPl at hs;dsimp only;by_cases e:t.1>=t.2
  .rw [AB e] at hs⊢;cases hs;exact Ah hR
  .rw [A6 e] at hs⊢;obtain⟨q,LI,hs⟩:=A7.mp hs;refine AR (dG hc LI ?_);cases q<;>(cases hs;exact Ah hR)
 .exact AR (EX (Ah hR))
end
section
variable {prog:P6}{w:P8}{A:P9}{E:P3->P4->Prop}{s:P4}{item:Nat->Keyed}{c:Nat->Nat->Qc Bool}{kd:SortKind}
abbrev Pd:=Array (Nat×Nat×Nat)
def lay (p:Array Nat) (o:Nat) (xs:Array Nat):Array Nat:=xs.toList.zipIdx.foldl (λa x=>a.setIfInBounds (o+x.2) x.1) p
theorem E1 (p:Array Nat) (o:Nat) (xs:Array Nat):(xs.map item).toList.zipIdx.foldl (λa x=>a.setIfInBounds (o+x.2) x.1) (p.map item)=(lay p o xs).map item:=by
 have go:∀(l:P' Nat) (k:Nat) (p:Array Nat),((l.map item).zipIdx k).foldl (λa x=>a.setIfInBounds (o+x.2) x.1) (p.map item)=((l.zipIdx k).foldl (λa x=>a.setIfInBounds (o+x.2) x.1) p).map item:=by
  intro l;induction l with
  |nil=>intro k p;rfl
  |cons x l ih=>
   intro k p;rw[AW,List.zipIdx_cons,List.zipIdx_cons,Bj,Bj];rw[show(p.map item).setIfInBounds (o+k) (item x)=(p.setIfInBounds (o+k) x).map item from(Array.map_setIfInBounds ..).symm];exact ih _ _
 rw[Array.toList_map];exact go _ 0 p
abbrev Ts:=Array Nat×Pd×Nat
def mAt (c:Nat->Nat->Qc Bool) (i:Nat) (t:Ts):Qc Ts:=
 t.2.1[i]?.bind λu=>t.2.1[i+1]?.bind λv=>t.1[v.1]?.bind λy=>(gal c false y t.1 u.1 u.2.1 0).bind λk=>
  if(u.2.1-k==0)=true then some (t.1,(t.2.1.setIfInBounds i (u.1,u.2.1+v.2.1,u.2.2)).eraseIdxIfInBounds (i+1),t.2.2)
  else t.1[u.1+k+(u.2.1-k)-1]?.bind λx=>(gal c true x t.1 v.1 v.2.1 (v.2.1-1)).bind λnb=>
   if(nb==0)=true then some (t.1,(t.2.1.setIfInBounds i (u.1,u.2.1+v.2.1,u.2.2)).eraseIdxIfInBounds (i+1),t.2.2)
   else if u.2.1-k<=nb then(mLo c (t.1.extract (u.1+k) v.1) (t.1.extract v.1 (v.1+nb)) t.2.2).bind λr=>some (lay t.1 (u.1+k) r.1,(t.2.1.setIfInBounds i (u.1,u.2.1+v.2.1,u.2.2)).eraseIdxIfInBounds (i+1),r.2)
   else(mHi c (t.1.extract (u.1+k) v.1) (t.1.extract v.1 (v.1+nb)) t.2.2).bind λr=>some (lay t.1 (u.1+k) r.1,(t.2.1.setIfInBounds i (u.1,u.2.1+v.2.1,u.2.2)).eraseIdxIfInBounds (i+1),r.2)
theorem E3 {σ:Type}{x:σ}{Q:PUnit->σ->Prop}{st:σ} (h:Q ⟨⟩ x):wpS M A E s (set x:StateT σ Sem PUnit) Q st:=by
 unfold wpS;show wpAny M A (pure ((),x)) _ E s;exact A3 ⟨rfl,h⟩
set_option maxHeartbeats 2000000 in
theorem m8 (hc:dF kd prog w A s item c) {t t':Ts} (h:mAt c i t=some t') {Q:Bool->SortSt->Prop} (hq:Q true (sst kd item t'.1 t'.2.1 t'.2.2)):wpS (model prog w) A E s (mergeAt' i) Q (sst kd item t.1 t.2.1 t.2.2):=by
 (unfold wpS;wp_delta;wp_delta;wp_delta;refine(show wpS _ _ _ _ _ _ _ from ?_))
 dsimp only;refine AR (wpS_get ?_);unfold mAt at h;obtain⟨⟨sa,na,pw⟩,hu,h⟩:=A7.mp h;obtain⟨⟨sb,nb,pw2⟩,hv,h⟩:=A7.mp h;obtain⟨y,hy,h⟩:=A7.mp h;obtain⟨k,hk,h⟩:=A7.mp h;dsimp only at*
 rw[hu,hv];dsimp only;refine AR (E3 ?_);refine AR (gW hy ?_);refine AR (tz hc rfl hk ?_);dsimp only;by_cases e1:(na-k==0)=true
 .rw [AB e1] at h;cases h;exact je e1 (Ah hq)
 rw[A6 e1] at h;refine m6 e1 ?_;obtain⟨x,hx,h⟩:=A7.mp h;obtain⟨nb2,hk2,h⟩:=A7.mp h;refine AR (gW hx ?_);refine AR (tz hc rfl hk2 ?_);by_cases e2:(nb2==0)=true
 .rw [AB e2] at h;cases h;exact je e2 (Ah hq)
 rw[A6 e2] at h;refine m6 e2 ?_;have x1:(t.1.map item).extract (sa+k) sb=(t.1.extract (sa+k) sb).map item:=by simp
 have x2:(t.1.map item).extract sb (sb+nb2)=(t.1.extract sb (sb+nb2)).map item:=by simp
 by_cases e3:na-k<=nb2
 .rw [AB e3] at h;obtain⟨r,hr,h⟩:=A7.mp h;cases h;refine je e3 (AR (by
   rw[x1,x2];refine EV hc rfl hr ?_;refine AR (DH ?_);refine AR (wpS_get (Ah ?_));dsimp only;rw[E1];exact hq))
 .rw [A6 e3] at h;obtain⟨r,hr,h⟩:=A7.mp h;cases hr
end
section
variable {prog:P6}{w:P8}{A:P9}{E:P3->P4->Prop}{s:P4}{item:Nat->Keyed}{c:Nat->Nat->Qc Bool}{kd:SortKind}
def jh (c:Nat->Nat->Qc Bool) (pw:Nat) (t:Ts):Qc (Bool×Ts):=
 match(if t.2.1.size>1 then t.2.1[t.2.1.size-2]? else none) with
 |some u=>if u.2.2<=pw then some (true,t) else(mAt c (t.2.1.size-2) t).bind λt'=>some (false,t')
 |none=>some (true,t)
def kE (c:Nat->Nat->Qc Bool) (size lo n:Nat) (t:Ts):Qc (Bool×Nat×Ts):=
 match t.2.1.back? with
 |some u=>(aG (jh c (power' size (2*u.1+u.2.1) (2*u.1+u.2.1+u.2.1+n) size)) size t).bind λt'=>
  some (false,lo+n,t'.1,(t'.2.1.modify (t'.2.1.size-1) λx=>(x.1,x.2.1,power' size (2*u.1+u.2.1) (2*u.1+u.2.1+u.2.1+n) size)).push (lo,n,0),t'.2.2)
 |none=>some (false,lo+n,t.1,t.2.1.push (lo,n,0),t.2.2)
def m9 (c:Nat->Nat->Qc Bool) (size:Nat) (g:Nat×Ts):Qc (Bool×Nat×Ts):=
 if g.1>=size then some (true,g) else(m7 c g.1 (size-g.1) g.2.1).bind λr=>
  if r.1<minRun' size size 0 then(tE c g.1 (min (size-g.1) (minRun' size size 0)) r.1 r.2).bind λp2=>kE c size g.1 (min (size-g.1) (minRun' size size 0)) (p2,g.2.2)
  else kE c size g.1 r.1 (r.2,g.2.2)
def ng (c:Nat->Nat->Qc Bool) (t:Ts):Qc (Bool×Ts):=
 if t.2.1.size<=1 then some (true,t)
 else(mAt c (if Option.any (λx=>decide (x<t.2.1[t.2.1.size-2+1]?.elim 0 λx=>x.2.1)) (if t.2.1.size-2>0 then Option.map (λx=>x.2.1) t.2.1[t.2.1.size-2-1]? else none)=true then t.2.1.size-2-1 else t.2.1.size-2) t).bind λt'=>some (false,t')
def gj (c:Nat->Nat->Qc Bool) (n:Nat):Qc (Array Nat):=
 (aG (m9 c n) n (0,List.toArray (List.range n), #[],7)).bind λg=>(aG (ng c) n g.2).map (·.1)
set_option maxHeartbeats 2000000 in
theorem E4 (hc:dF kd prog w A s item c) (h:gj c n=some p) (hq:∀pd g,Q () (sst kd item p pd g)):wpS (model prog w) A E s sortRuns' Q (sst kd item (List.toArray (List.range n)) #[] 7):=by
 rw[sortRuns'_eq];try dsimp only
 refine AR (wpS_get ?_);have hz:(arrOf (sst kd item (List.toArray (List.range n)) #[] 7)).size=n:=by
  show((List.toArray (List.range n)).map item).size=n;simp
 rw[hz];unfold gj at h;obtain⟨g,h1,h⟩:=A7.mp h;obtain⟨t,h2,rfl⟩:=AA.mp h;refine AR (cx (γ:=Nat×Ts) (step:=m9 c n) (λg=>(none,g.1)) (λg=>sst kd item g.2.1 g.2.2.1 g.2.2.2) (λx g r hs R hR=> ?_) (a:=0) (b:=n) (g:=(0,List.toArray (List.range n), #[],7)) h1 ?_)
 .unfold m9 at hs;try dsimp only
  by_cases e1:g.1>=n
  .rw [AB e1] at hs⊢;cases hs;exact Ah hR
  rw[A6 e1] at hs⊢;obtain⟨k,hk,hs⟩:=A7.mp hs;refine AR (EY hc hk ?_);try dsimp only
  by_cases e2:k.1<minRun' n n 0
  .rw [AB e2] at hs⊢;obtain⟨p2,hp,hs⟩:=A7.mp hs;refine AR (wpS_lift (C4 ⟨rfl, ?_⟩));refine AR (EZ hc hp ?_);simp only[BJ,AK,Av]
   (
    unfold kE at hs;refine AR (wpS_get ?_);try dsimp only at hs⊢
    split at hs
    .rename_i u hu;rw[hu];try dsimp only
     obtain⟨t',ht,hs⟩:=A7.mp hs;cases hs;refine AR (cx (γ:=Ts) (step:=jh c _) (λ_=>(none,())) (λt=>sst kd item t.1 t.2.1 t.2.2) (λx t r hs R hR=> ?_) (a:=0) ht ?_)
     .unfold jh at hs;refine AR (wpS_get ?_);try dsimp only
      split at hs
      .rename_i v hv;rw[hv];try dsimp only
       split at hs
       .rename_i z;rw[AB z];cases hs;exact Ah hR
       .rename_i z;rw[A6 z];obtain⟨t',hm,hs⟩:=A7.mp hs;cases hs;exact AR (m8 hc hm (Ah hR))
      .rename_i hv;rw[hv];cases hs;exact Ah hR
     .try dsimp only
      exact AR (DH (AR (DH (Ah hR))))
    .rename_i hu;rw[hu];cases hs;exact AR (DH (Ah hR)))
  .rw [A6 e2] at hs⊢
   (
    unfold kE at hs;refine AR (wpS_get ?_);try dsimp only at hs⊢
    split at hs
    .rename_i u hu;rw[hu];try dsimp only
     obtain⟨t',ht,hs⟩:=A7.mp hs;cases hs;refine AR (cx (γ:=Ts) (step:=jh c _) (λ_=>(none,())) (λt=>sst kd item t.1 t.2.1 t.2.2) (λx t r hs R hR=> ?_) (a:=0) ht ?_)
     .unfold jh at hs;refine AR (wpS_get ?_);try dsimp only
      split at hs
      .rename_i v hv;rw[hv];try dsimp only
       split at hs
       .rename_i z;rw[AB z];cases hs;exact Ah hR
       .rename_i z;rw[A6 z];obtain⟨t',hm,hs⟩:=A7.mp hs;cases hs;exact AR (m8 hc hm (Ah hR))
      .rename_i hv;rw[hv];cases hs;exact Ah hR
     .try dsimp only
      exact AR (DH (AR (DH (Ah hR))))
    .rename_i hu;rw[hu];cases hs;exact AR (DH (Ah hR)))
 .try dsimp only
  refine AR (cx (γ:=Ts) (step:=ng c) (λ_=>(none,())) (λt=>sst kd item t.1 t.2.1 t.2.2) (λx t r hs R hR=> ?_) (a:=0) (b:=n) (g:=g.2) h2 (Ah (hq _ _)));unfold ng at hs;refine AR (wpS_get ?_);try dsimp only
  by_cases e1:t.2.1.size<=1
  .rw [AB e1] at hs⊢;cases hs;exact Ah hR
  rw[A6 e1] at hs⊢;obtain⟨t',hm,hs⟩:=A7.mp hs;cases hs;exact AR (m8 hc hm (Ah hR))
end
open PySem.Spec PySem.W
section
variable {prog:P6}{w:P8}{A:P9}{E:P3->P4->Prop}{s:P4}
theorem E5 {kd:SortKind}{a:P5}{c:Nat->Nat->Qc Bool}{P:PySem.Fin->P4->Prop} (ho:s.heap.get? a=some (seqObj "list" vs.toArray n)) (h2:2<=vs.length) (hL:vs.length<=1000) (hp:p.size<=1000)
  (M6:∀(R:SortKind->P4->Prop),R kd {s with heap:=bp s.heap a vs}->wpAny (model prog w) A (keyKind' vs.toArray) R E {s with heap:=bp s.heap a vs}) (hc:dF kd prog w A {s with heap:=bp s.heap a vs} (eX vs) c) (hs:gj c vs.length=some p)
  (h:P (.done (.ret .none)) {s with heap:=sortedHeap s.heap a vs (p.map λi=>vs.getD i .none)}):wpAny (model prog w) A (Builtin.«list.sort» ⟨[.ref a],[]⟩) P E s:=by
 rw[list_sort_plain];have ha:a<s.heap.objs.size:=AL ho;refine A0 (listItems_at ho rfl ?_);refine A0 (Cn ho rfl ?_ (by rw[AF,B3];lia) (AJ _));obtain⟨e1,Lm⟩:∃e1,(s.heap.update a (Obj.mapSeq λ_=>(#[]:Array P3))).get? a=some (seqObj "list" #[] e1):=⟨_,Ch ho (λ_=> #[])⟩;refine A0 (seqEpoch_at Lm rfl ?_);refine A0 (wpAny_newTuple ?_ (by show vs.length<=_;rw[B3];lia));refine A0 (Cu ?_ (AJ _));refine Aw ?_;have MM:(bp s.heap a vs).get? a=some (seqObj "list" #[] e1):=by
  rw[BB _ _ _ (by rw[Bq,B'];exact AO (Ak ha)),BB _ _ _ (by rw[B'];exact AO ha)];exact Lm
 show wpAny (model prog w) A _ P E {s with heap:=bp s.heap a vs};dsimp only;have NN:¬vs.toArray.size<2:=by rw[AF];lia
 rw[A6 NN,A6 NN];refine A0 (M6 _ ?_);have run:=E4 (E:=E) hc hs (Q:=λ_ K'=>arrOf K'=p.map (eX vs)/\failedOf K'=none) λpd g=>⟨rfl,rfl⟩;have est:sst kd (eX vs) (List.toArray (List.range vs.length)) #[] 7=SortSt.mk' kd (vs.toArray.zip vs.toArray) #[] 7 none:=by
  show SortSt.mk' kd ((List.toArray (List.range vs.length)).map (eX vs)) #[] 7 none=_;rw[EK]
 rw[est] at run;refine A0 (BV run ?_ λ_ _ e=>e);rintro⟨⟨⟩,K'⟩ s' ⟨rfl,har,hf⟩;dsimp only at har hf⊢;have eo:(arrOf K').map (·.2)=p.map λi=>vs.getD i .none:=by
  rw[har,Array.map_map];rfl
 rw[eo];refine A0 (seqEpoch_at MM rfl ?_);refine A0 (Cn MM rfl ?_ (AJ _) (by rw[Array.size_map,B3];lia));rw[hf];simp only[Cv,AK,Av];exact A3 h
theorem E6 {kd:SortKind}{l:P5}{c:Nat->Nat->Qc Bool}{Q:P3->P4->Prop} (hl:s.heap.IsList l vs.toArray) (h2:2<=vs.length) (hL:vs.length<=1000) (hp:p.size<=1000)
  (M6:∀(R:SortKind->P4->Prop) (E:P3->P4->Prop),R kd {s with heap:=dR s.heap vs}->wpAny (model prog w) A.in1.in1 (keyKind' vs.toArray) R E {s with heap:=dR s.heap vs}) (hc:dF kd prog w A.in1.in1 {s with heap:=dR s.heap vs} (eX vs) c) (hs:gj c vs.length=some p)
  (h:Q (.ref (s.heap.objs.size+1)) {s with heap:=sortedAll s.heap vs (p.map λi=>vs.getD i .none)}):wpAny (model prog w) A (call (.builtin "sorted") [.ref l]) Q E s:=by
 refine Cr kind_sorted plain_sorted entry_sorted (args_sorted1 _) ?_;unfold Builtin.«sorted»;refine A0 (m:=checkCount "sorted" 1 1 _) (A3 ?_);refine A0 (collect_list hl ?_ (by rw[B3];lia));refine A0 (Cu ?_ (by rw[B3];lia));have hsz:((s.heap.push (seqObj "list" #[] 0)).update s.heap.objs.size (Obj.mapSeq (· ++vs.toArray))).objs.size=s.heap.objs.size+1:=by
  rw[B',Bq]
 have NM:(((s.heap.push (seqObj "list" #[] 0)).update s.heap.objs.size (Obj.mapSeq (· ++vs.toArray))).push (seqObj "list" vs.toArray 0)).get? (s.heap.objs.size+1)=some (seqObj "list" vs.toArray 0):=by
  rw[<-hsz];exact AI _ rfl
 show wpAny _ _ _ _ _ {s with heap:=((s.heap.push (seqObj "list" #[] 0)).update s.heap.objs.size (Obj.mapSeq (· ++vs.toArray))).push (seqObj "list" vs.toArray 0)};rw[hsz];refine A0 (Aw (Aj DZ ⟨_,NM,rfl⟩ DX (E5 (s:={s with heap:=((s.heap.push (seqObj "list" #[] 0)).update s.heap.objs.size (Obj.mapSeq (· ++vs.toArray))).push (seqObj "list" vs.toArray 0)}) NM h2 hL hp (λR=>M6 R _) hc hs ⟨_,rfl, ?_⟩) (Da _)));exact A3 ⟨_,rfl,h⟩
end
inductive rSorted (K:W.Frag) (vs:List V) (H:Hp) (Q:VK):Prop
 |mk (l:Addr) (rs:List V) (c:Nat->Nat->Option Bool) (p:Array Nat):vs=[.ref l]->SqL K H l rs->2<=rs.length->rs.length<=1000->p.size<=1000->((∀r∈rs,∃a ys,r= .ref a/\SqL K H a ys))->((∀i j b,c i j=some b->∃x y,rs[i]? =some x/\rs[j]? =some y/\Ask K H x y b))->gj c rs.length=some p->((∀i∈p.toList,i<rs.length))->(∀q,H q=none->Q (.ref q) (upd H q (.lst (p.toList.map λi=>rs.getD i .non))))->rSorted K vs H Q
section
variable {X:Cx}
theorem E7 {k:Nat} (hr:Room k X.A):bz X (.builtin "sorted") (rSorted X.K):=by
 intro Ku s σ H xs us Q I r h;obtain⟨l,rs,c,p,rfl,hq,h2,hL,hps,hty,Pc,hs,LY,q⟩:=h;obtain⟨u,rfl,rx⟩:=cO r;cases rx;obtain⟨Kx,r',pl,hz⟩:=I.list hq;have ln:=r'.length;have hu:=hr.un;have I2:Inv X Ku σ H {s with heap:=dR s.heap Kx}:=I.kept (t':=s.toks) λb o e=>sQ e;refine E6 (kd:=oneType') (vs:=Kx) (c:=c) (p:=p) pl.isList (by lia) (by lia) hps (λR E hR=>kas_kind (T:= .type "list") (by lia) (λv hv=> ?_) rfl rfl hR) (λi j b hb Q' hq'=> ?_) (by rw[<-ln];exact hs) ?_
 .obtain⟨i,hi,rfl⟩:=C8.mp hv;have Mr:i<rs.length:=by lia
  obtain⟨a,ys,e1,hy⟩:=hty rs[i] (List.getElem_mem Mr);obtain⟨u,Ld,ru⟩:=r'.get (A2 Mr);rw[A2 hi] at Ld;rw[e1] at ru;obtain rfl:u=Value.ref a:=ru;rw[Ae Ld];obtain⟨js,r2,p2,z2⟩:=I2.list hy;obtain⟨o,ho,hc,_⟩:=p2.isList;exact hc▸(Looks.ld ho).andThen .now
 .obtain⟨x,y,hx,hy,a1,a2,xs,ys,d,es,fs,rfl,rfl,h1,h2,hd,he,hf,rfl⟩:=Pc i j b hb;obtain⟨u,Ld,ru⟩:=r'.get hx;obtain⟨v,LJ,rv⟩:=r'.get hy;obtain rfl:u=Value.ref a1:=ru;obtain rfl:v=Value.ref a2:=rv;have g1:(eX Kx i).1= .ref a1:=by show Kx.getD i .none=_;rw[List.getD,Ld];rfl
  have g2:(eX Kx j).1= .ref a2:=by show Kx.getD j .none=_;rw[List.getD,LJ];rfl
  rw[g1,g2];exact LtR.key I2 h1 h2 he hf (by rw[cK,cK];lia) hq'
 .obtain⟨e,he⟩:=sortedAll_at s.heap Kx (p.map λi=>Kx.getD i .none);have en:(p.map λi=>Kx.getD i .none)=List.toArray (p.toList.map λi=>Kx.getD i .none):=by
   apply Array.toList_inj.mp;simp
  rw[en] at he⊢;refine⟨.ref (s.heap.objs.size+1),_,I.laid (t':=s.toks) (λ_ _=>sortedAll_old) (CH _) (show aC X.prog X.w _ _ _ (.lst (p.toList.map λi=>rs.getD i .non)) from⟨?_,_,e,kx r' p.toList LY,he⟩),rfl,q _ (I.hok.fresh (CH _))⟩;rw[A1,An,B3];lia
end
section
variable {X:Cx}
def tF (K:W.Frag):P' V->Hp->VK->Prop:=λvs H Q=>(∃(l:P5) (rs:P' V),vs=[.ref l]/\SqL K H l rs/\rs.length<2/\∀q,H q=none->Q (.ref q) (upd H q (.lst rs)))\/rSorted K vs H Q
theorem E8 {k:Nat} (hr:Room k X.A):bz X (.builtin "sorted") (tF X.K):=by
 intro Ku s σ H xs us Q I r h;rcases h with h|h
 .obtain⟨l,rs,rfl,hq,h2,q⟩:=h;obtain⟨u,rfl,rx⟩:=cO r;cases rx;obtain⟨Kx,r',pl,hz⟩:=I.list hq;have ln:=r'.length;refine sS (vs:=Kx) pl.isList (by lia) ?_;obtain⟨e,he⟩:=sortedAll_at s.heap Kx Kx.toArray;exact⟨.ref (s.heap.objs.size+1),_,I.laid (t':=s.toks) (λ_ _=>sortedAll_old) (CH _) (show aC X.prog X.w _ _ _ (.lst rs) from⟨hz,Kx,e,r',he⟩),rfl,q _ (I.hok.fresh (CH _))⟩
 .exact E7 hr Ku s σ H xs us Q I r h
end
def aM (c:Nat->Nat->Bool) {α:Type}:KasT α->α
 | .ret a=>a
 | .ask i j k=>aM c (k (c i j))
theorem gX {c:Nat->Nat->Bool}{α β:Type}{f:α->KasT β}:∀(t:KasT α),aM c (t.bind f)=aM c (f (aM c t))
 | .ret _=>rfl
 | .ask i j k=>gX (k (c i j))
structure Ordr (c:Nat->Nat->Bool):Prop where
 asym:∀a b,c a b=true->c b a=false
 tr:∀a b d,c b a=false->c d b=false->c d a=false
section
variable {c:Nat->Nat->Bool}
abbrev at0 (p:Array Nat) (i:Nat):Nat:=p.getD i 0
def Up (c:Nat->Nat->Bool) (p:Array Nat) (m:Nat):Prop:=∀i j,i<j->j<m->c (at0 p j) (at0 p i)=false
def Dn (c:Nat->Nat->Bool) (p:Array Nat) (m:Nat):Prop:=∀i j,i<j->j<m->c (at0 p i) (at0 p j)=false
theorem Up.more (O:Ordr c) (h:Up c p m) (hm:0<m) (e:c (at0 p m) (at0 p (m-1))=false):Up c p (m+1):=by
 intro i j LS hj;by_cases hjm:j<m
 .exact h i j LS hjm
 .obtain rfl:j=m:=by lia
  by_cases hi:i=j-1
  .subst hi;exact e
  .exact O.tr _ _ _ (h i (j-1) (by lia) (by lia)) e
theorem Dn.more (O:Ordr c) (h:Dn c p m) (hm:0<m) (e:c (at0 p (m-1)) (at0 p m)=false):Dn c p (m+1):=by
 intro i j LS hj;by_cases hjm:j<m
 .exact h i j LS hjm
 .obtain rfl:j=m:=by lia
  by_cases hi:i=j-1
  .subst hi;exact e
  .exact O.tr _ _ _ e (h i (j-1) (by lia) (by lia))
theorem nh (O:Ordr c) {p:Array Nat}:∀(f m:Nat),0<m->Up c p m->m<=aM c (kas_asc p f m)/\aM c (kas_asc p f m)<=m+f/\Up c p (aM c (kas_asc p f m))/\(aM c (kas_asc p f m)<m+f->c (at0 p (aM c (kas_asc p f m))) (at0 p (aM c (kas_asc p f m)-1))=true)
 |0,m,hm,h=>⟨A8 _,A8 _,h,λz=>absurd z (CF _)⟩
 |f+1,m,hm,h=>by
  unfold kas_asc aM;cases e:c (p.getD m 0) (p.getD (m-1) 0) with
  |true=>
   dsimp only;rw[AB rfl];exact⟨A8 _,by show m<=_;lia,h,λ_=>e⟩
  |false=>
   dsimp only;rw[A6 (by decide)];obtain⟨h1,h2,h3,h4⟩:=nh O f (m+1) (by lia) (h.more O hm e);exact⟨by lia,by lia,h3,λz=>h4 (by lia)⟩
theorem dS (hj:j<=p.size) (k:Nat):at0 (kas_rev p i j) k=if i<=k/\k<j then at0 p (i+j-1-k) else at0 p k:=by
 have h:=getElem?_mirror_all (xs:=p) (i:=i) hj k;have e:∀q:Array Nat,∀k,at0 q k=(q[k]?).getD 0:=λq k=>by simp[at0,Array.getD];split<;>simp[*]
 rw[e,e,e];unfold kas_rev;rw[h];split<;>rfl
def gk (p:Array Nat) (i j:Nat):(kas_rev p i j).size=p.size:=mirror_size _ _ _ _
theorem Dn.rev_all (h:Dn c p m) (hm:m<=p.size):Up c (kas_rev p 0 m) m:=by
 intro i j LS hj;rw[dS hm,dS hm,AB ⟨by lia,hj⟩,AB ⟨by lia,by lia⟩];exact h _ _ (by lia) (by lia)
theorem Up.rev_all (h:Up c p m) (hm:m<=p.size):Dn c (kas_rev p 0 m) m:=by
 intro i j LS hj;rw[dS hm,dS hm,AB ⟨by lia,by lia⟩,AB ⟨by lia,hj⟩];exact h _ _ (by lia) (by lia)
theorem Dn.rev_blk {q:Nat} (h:Dn c p m) (hm:m<=p.size) (hq:q+1<=m) (hb:∀i j,m-(q+1)<=i->i<m->m-(q+1)<=j->j<m->c (at0 p i) (at0 p j)=false):Dn c (kas_rev p (m-(q+1)) m) m:=by
 intro i j LS hj;rw[dS hm,dS hm];by_cases h1:m-(q+1)<=i
 .rw [AB ⟨h1,by lia⟩,AB ⟨by lia,hj⟩];exact hb _ _ (by lia) (by lia) (by lia) (by lia)
 .rw [A6 (by lia)];by_cases h2:m-(q+1)<=j
  .rw [AB ⟨h2,hj⟩];exact h _ _ (by lia) (by lia)
  .rw [A6 (by lia)];exact h _ _ LS hj
def Blk (c:Nat->Nat->Bool) (p:Array Nat) (m q:Nat):Prop:=q+1<=m/\∀i j,m-(q+1)<=i->i<m->m-(q+1)<=j->j<m->c (at0 p i) (at0 p j)=false
theorem kF (O:Ordr c):∀(f:Nat) (p:Array Nat) (m q:Nat),m+f<=p.size->0<m->Dn c p m->Blk c p m q->∀r,r=aM c (kas_desc f p m q)->r.1.size=p.size/\m<=r.2.1/\r.2.1<=m+f/\Dn c r.1 r.2.1/\Blk c r.1 r.2.1 r.2.2
 |0,p,m,q,_,_,hd,hb,r,e=>by
  subst e;exact⟨rfl,A8 _,A8 _,hd,hb⟩
 |f+1,p,m,q,hs,hm,hd,hb,r,e=>by
  unfold kas_desc aM at e;cases e1:c (p.getD m 0) (p.getD (m-1) 0) with
  |true=>
   rw[e1] at e;dsimp only at e;rw[AB rfl] at e;have e2:=O.asym _ _ e1;by_cases hq:q>0
   .rw [AB hq] at e;have LP:=hd.rev_blk (by lia) hb.1 hb.2;have at_m:at0 (kas_rev p (m-(q+1)) m) m=at0 p m:=by rw[dS (by lia),A6 (by lia)]
    have at_m1:at0 (kas_rev p (m-(q+1)) m) (m-1)=at0 p (m-(q+1)+m-1-(m-1)):=by rw[dS (by lia),AB ⟨by have:=hb.1;lia,by lia⟩]
    have e3:c (at0 (kas_rev p (m-(q+1)) m) (m-1)) (at0 (kas_rev p (m-(q+1)) m) m)=false:=by
     rw[at_m,at_m1];have b1:=hb.1;exact O.tr _ _ _ e2 (hb.2 _ (m-1) (by lia) (by lia) (by lia) (by lia))
    have Pe:=LP.more O hm e3;have hb3:Blk c (kas_rev p (m-(q+1)) m) (m+1) 0:=⟨by lia,λi j h1 h2 h3 h4=>by
     obtain rfl:i=m:=by lia
     obtain rfl:j=i:=by lia
     cases h:c (at0 (kas_rev p (j-(q+1)) j) j) (at0 (kas_rev p (j-(q+1)) j) j) with
     |false=>rfl
     |true=>have:=O.asym _ _ h;rw[h] at this;cases this⟩
    obtain⟨r1,r2,r3,r4,r5⟩:=kF O f _ (m+1) 0 (by rw[gk];lia) (by lia) Pe hb3 r e;exact⟨by rw[r1,gk],by lia,by lia,r4,r5⟩
   .rw [A6 hq] at e;have Pe:=hd.more O hm e2;have hb3:Blk c p (m+1) 0:=⟨by lia,λi j h1 h2 h3 h4=>by
     obtain rfl:i=m:=by lia
     obtain rfl:j=i:=by lia
     cases h:c (at0 p j) (at0 p j) with
     |false=>rfl
     |true=>have:=O.asym _ _ h;rw[h] at this;cases this⟩
    obtain⟨r1,r2,r3,r4,r5⟩:=kF O f _ (m+1) 0 (by lia) (by lia) Pe hb3 r e;exact⟨r1,by lia,by lia,r4,r5⟩
  |false=>
   rw[e1] at e;dsimp only at e;rw[A6 (by decide)] at e;unfold aM at e;cases e2:c (p.getD (m-1) 0) (p.getD m 0) with
   |true=>
    rw[e2] at e;dsimp only at e;rw[AB rfl] at e;subst e;exact⟨rfl,A8 _,by show m<=_;lia,hd,hb⟩
   |false=>
    rw[e2] at e;dsimp only at e;rw[A6 (by decide)] at e;have Pe:=hd.more O hm e2;have b1:=hb.1;have hb3:Blk c p (m+1) (q+1):=⟨by lia,λi j h1 h2 h3 h4=>by
     by_cases hi:i=m
     .by_cases hj:j=m
      .subst hi;subst hj;cases h:c (at0 p j) (at0 p j) with
       |false=>rfl
       |true=>have:=O.asym _ _ h;rw[h] at this;cases this
      .subst hi;exact O.tr _ _ _ (hb.2 _ _ (by lia) (by lia) (by lia) (by lia)) e1
     .by_cases hj:j=m
      .subst hj;exact O.tr _ _ _ e2 (hb.2 _ _ (by lia) (by lia) (by lia) (by lia))
      .exact hb.2 _ _ (by lia) (by lia) (by lia) (by lia)⟩
    obtain⟨r1,r2,r3,r4,r5⟩:=kF O f _ (m+1) (q+1) (by lia) (by lia) Pe hb3 r e;exact⟨r1,by lia,by lia,r4,r5⟩
theorem tG (O:Ordr c) (hn:n<=p.size) (hm:m<=n) (h0:0<m) (hd:Dn c p m):∀r,r=aM c (kas_tail3 m n p)->r.2.size=p.size/\0<r.1/\r.1<=n/\Up c r.2 r.1:=by
 intro r e;unfold kas_tail3 at e;rw[gX] at e;subst e;obtain⟨h1,h2,h3,_⟩:=nh O (n-m) m h0 (hd.rev_all (by lia));exact⟨gk _ _ _,by show 0<aM c _;lia,by show aM c _<=n;lia,h3⟩
theorem tH (O:Ordr c) (hn:n<=p.size) (hm:m<n) (h0:0<m) (hd:Dn c p m) (e:c (at0 p m) (at0 p (m-1))=true):∀r,r=aM c (kas_descPart m n p)->r.2.size=p.size/\0<r.1/\r.1<=n/\Up c r.2 r.1:=by
 intro r er;unfold kas_descPart at er;rw[gX] at er;have OE:=hd.more O h0 (O.asym _ _ e);have hb1:Blk c p (m+1) 0:=⟨by lia,λi j h1 h2 h3 h4=>by
  obtain rfl:i=m:=by lia
  obtain rfl:j=i:=by lia
  cases h:c (at0 p j) (at0 p j) with
  |false=>rfl
  |true=>have:=O.asym _ _ h;rw[h] at this;cases this⟩
 obtain⟨r1,r2,r3,r4,r5⟩:=kF O (n-(m+1)) p (m+1) 0 (by lia) (by lia) OE hb1 _ rfl;generalize aM c (kas_desc (n-(m+1)) p (m+1) 0)=d at*
 split at er
 .obtain⟨t1,t2,t3,t4⟩:=tG O (p:=kas_rev d.1 (d.2.1-(d.2.2+1)) d.2.1) (m:=d.2.1) (n:=n) (by rw[gk];lia) (by lia) (by lia) (r4.rev_blk (by lia) r5.1 r5.2) r er;exact⟨by rw[t1,gk,r1],t2,t3,t4⟩
 .obtain⟨t1,t2,t3,t4⟩:=tG O (p:=d.1) (m:=d.2.1) (n:=n) (by lia) (by lia) (by lia) r4 r er;exact⟨by rw[t1,r1],t2,t3,t4⟩
theorem E9 (O:Ordr c) (hn:n<=p.size) (h0:0<n):∀r,r=aM c (kas_count n p)->r.2.size=p.size/\0<r.1/\r.1<=n/\Up c r.2 r.1:=by
 intro r er;unfold kas_count at er;rw[gX] at er;obtain⟨h1,h2,h3,h4⟩:=nh O (p:=p) (n-1) 1 (by decide) (λi j a b=>absurd b (by lia));generalize aM c (kas_asc p (n-1) 1)=m at*
 by_cases hm:m=n
 .subst hm;rw[AB (by simp)] at er;subst er;exact⟨rfl,h0,A8 _,h3⟩
 .rw [A6 (by simp[hm])] at er;have st:=h4 (by lia);by_cases h5:m>1
  .rw [AB h5] at er;unfold aM at er;cases e1:c (p.getD 0 0) (p.getD (m-1) 0) with
   |true=>
    rw[e1] at er;dsimp only at er;rw[AB rfl] at er;subst er;exact⟨rfl,by show 0<m;lia,by show m<=n;lia,h3⟩
   |false=>
    rw[e1] at er;dsimp only at er;rw[A6 (by decide)] at er;have hd:=h3.rev_all (by lia:m<=p.size);obtain⟨t1,t2,t3,t4⟩:=tH O (p:=kas_rev p 0 m) (m:=m) (n:=n) (by rw[gk];exact hn) (by lia) (by lia) hd (by
     rw[dS (by lia),dS (by lia),A6 (by lia),AB ⟨by lia,by lia⟩,show 0+m-1-(m-1)=0 by lia];cases h:c (at0 p m) (at0 p 0) with
     |true=>rfl
     |false=>have:=O.tr _ _ _ e1 h;rw[st] at this;cases this) r er
    exact⟨by rw[t1,gk],t2,t3,t4⟩
  .rw [A6 h5] at er;obtain rfl:m=1:=by lia
   exact tH O hn (by lia) (by decide) (λi j a b=>absurd b (by lia)) st r er
theorem ni (O:Ordr c) {p:Array Nat}{k:Nat} (hu:Up c p k):∀(f l r:Nat),r-l<=f->l<=r->r<=k->(∀i,i<l->c (at0 p k) (at0 p i)=false)->(∀i,r<=i->i<k->c (at0 p k) (at0 p i)=true)->
  aM c (kas_place p k f l r)<=k/\(∀i,i<aM c (kas_place p k f l r)->c (at0 p k) (at0 p i)=false)/\(∀i,aM c (kas_place p k f l r)<=i->i<k->c (at0 p k) (at0 p i)=true)
 |0,l,r,hf,hl,hr,h1,h2=>by
  obtain rfl:l=r:=by lia
  exact⟨hr,h1,h2⟩
 |f+1,l,r,hf,hl,hr,h1,h2=>by
  unfold kas_place;by_cases h:l>=r
  .rw [AB h];obtain rfl:l=r:=by lia
   exact⟨hr,h1,h2⟩
  .rw [A6 h];unfold aM;cases e:c (p.getD k 0) (p.getD ((l+r)/2) 0) with
   |true=>
    dsimp only;rw[AB rfl];refine ni O hu f l ((l+r)/2) (by lia) (by lia) (by lia) h1 λi a b=> ?_;by_cases hi:i=(l+r)/2
    .subst hi;exact e
    .cases q:c (at0 p k) (at0 p i) with
     |true=>rfl
     |false=>have:=O.tr _ _ _ (hu ((l+r)/2) i (by lia) b) q;rw[e] at this;cases this
   |false=>
    dsimp only;rw[A6 (by decide)];refine ni O hu f ((l+r)/2+1) r (by lia) (by lia) hr (λi a=> ?_) h2;by_cases hi:i=(l+r)/2
    .subst hi;exact e
    .exact O.tr _ _ _ (hu i ((l+r)/2) (by lia) (by lia)) e
theorem tJ {k d:Nat} (hk:k<p.size) (hd:d<=k) (i:Nat):at0 (bubble p k d) i=if i=k-d then at0 p k else if k-d<i/\i<=k then at0 p (i-1) else at0 p i:=by
 have h:=getElem?_bubble hk d hd i;have e:∀q:Array Nat,∀k,at0 q k=(q[k]?).getD 0:=λq k=>by simp[at0,Array.getD];split<;>simp[*]
 rw[e,e,e,e,h];split
 .rfl
 .split<;>rfl
theorem tL (O:Ordr c):∀(f:Nat) (p:Array Nat) (k:Nat),0<k->k+f<=p.size->Up c p k->Up c (aM c (kas_bin f p k)) (k+f)
 |0,p,k,_,_,h=>h
 |f+1,p,k,h0,hs,hu=>by
  unfold kas_bin;rw[gX];obtain⟨a1,a2,a3⟩:=ni O hu k 0 k (by lia) (by lia) (A8 _) (λi z=>absurd z (by lia)) (λi z1 z2=>absurd z2 (by lia));generalize aM c (kas_place p k k 0 k)=l at*
  have L7:Up c (bubble p k (k-l)) (k+1):=by
   intro i j LS hj;rw[tJ (by lia) (by lia),tJ (by lia) (by lia),show k-(k-l)=l by lia];by_cases j1:j=l
   .rw [AB j1,A6 (by lia),A6 (by lia)];exact a2 i (by lia)
   .rw [A6 j1];by_cases j2:l<j/\j<=k
    .rw [AB j2];by_cases i1:i=l
     .rw [AB i1];exact O.asym _ _ (a3 (j-1) (by lia) (by lia))
     .rw [A6 i1];by_cases i2:l<i/\i<=k
      .rw [AB i2];exact hu _ _ (by lia) (by lia)
      .rw [A6 i2];exact hu _ _ (by lia) (by lia)
    .rw [A6 j2,A6 (by lia),A6 (by lia)];exact hu _ _ LS (by lia)
  have:=tL O f (bubble p k (k-l)) (k+1) (by lia) (by rw[bubble_size];lia) L7;rw[show k+(f+1)=k+1+f by lia];exact this
theorem tM (O:Ordr c) (h0:0<n):Up c (aM c (kas_sort n)) n:=by
 unfold kas_sort;rw[gX];obtain⟨r1,r2,r3,r4⟩:=E9 O (p:=List.toArray (List.range n)) (n:=n) (by simp) h0 _ rfl;generalize aM c (kas_count n (List.toArray (List.range n)))=r at*
 have sz:r.2.size=n:=by rw[r1];simp
 by_cases h:r.1<n
 .rw [AB h];have em:max r.1 1=r.1:=by lia
  rw[em];have:=tL O (n-r.1) r.2 r.1 r2 (by lia) r4;rw[show r.1+(n-r.1)=n by lia] at this;exact this
 .rw [A6 h];have:r.1=n:=by lia
  rw[this] at r4;exact r4
end
theorem bR.wpc {n:Nat}{c:Nat->Nat->Bool}{α:Type}{R:α->Prop}{cmp:Nat->Nat->(Bool->P4->Prop)->P4->Prop}{Q:α->P4->Prop}{s:P4} (hc:∀i j,i<n->j<n->∀C:Bool->P4->Prop,C (c i j) s->cmp i j C s):∀{t:KasT α},(R (aM c t)->Q (aM c t) s)->bR n R t->t.kasWp cmp Q s
 | .ret a,hq,h=>hq h
 | .ask i j k,hq,h=>hc i j h.1 h.2.1 _ (bR.wpc hc (t:=k (c i j)) hq (h.2.2 (c i j)))
theorem tN:∀{xs ys zs:P' Int},xs.length=ys.length->ys.length=zs.length->cY false ys xs=false->cY false zs ys=false->cY false zs xs=false
 |[],[],[],_,_,_,_=>rfl
 |x::xs,y::ys,z::zs,h1,h2,a,b=>by
  unfold cY at a b⊢;by_cases e1:y=x
  .rw [AB e1] at a;by_cases e2:z=y
   .rw [AB e2] at b;rw[AB (e2.trans e1)];exact tN (by simpa using h1) (by simpa using h2) a b
   .rw [A6 e2] at b;have:=CI b;rw[A6 (by lia)];exact Am (by lia)
  .rw [A6 e1] at a;have a:=CI a;by_cases e2:z=y
   .rw [A6 (by lia)];exact Am (by lia)
   .rw [A6 e2] at b;have:=CI b;rw[A6 (by lia)];exact Am (by lia)
theorem tO:∀{xs ys:P' Int},xs.length=ys.length->cY false xs ys=true->cY false ys xs=false
 |[],[],_,h=>nomatch h
 |x::xs,y::ys,hl,h=>by
  unfold cY at h⊢;by_cases e:x=y
  .rw [AB e] at h;rw[AB e.symm];exact tO (by simpa using hl) h
  .rw [A6 e] at h;have:=Ar h;rw[A6 (by lia)];exact Am (by lia)
theorem tP {xs ys:P' Int} (h:xs.length=ys.length):ltI xs ys=cY false xs ys:=by
 unfold ltI;rw[Am (by lia)]
def gY (xss:P' (P' Int)) (i:Nat):P' Int:=xss.getD i (xss.headD [])
def gZ (xss:P' (P' Int)) (i j:Nat):Bool:=ltI (gY xss i) (gY xss j)
theorem tQ (h:i<xss.length):gY xss i=xss.getD i []:=by
 unfold gY;rw[A4,A4,A2 h];rfl
theorem tR (hi:i<xss.length) (hj:j<xss.length):gZ xss i j=ltI (xss.getD i []) (xss.getD j []):=by
 unfold gZ;rw[tQ hi,tQ hj]
theorem Fa (h0:0<xss.length) (h:∀xs∈xss,xs.length=m) (i:Nat):(gY xss i).length=m:=by
 unfold gY;rw[A4];cases e:xss[i]? with
 |some x=>exact h x (AU e)
 |none=>
  cases xss with
  |nil=>cases h0
  |cons x xs=>exact h x (by simp)
theorem Fc (h0:0<xss.length) (h:∀xs∈xss,xs.length=m):Ordr (gZ xss):=by
 have k:=Fa h0 h;refine⟨λa b e=> ?_,λa b d e1 e2=> ?_⟩
 .unfold gZ at e⊢;rw[tP (by rw[k,k])] at e⊢;exact tO (by rw[k,k]) e
 .unfold gZ at e1 e2⊢;rw[tP (by rw[k,k])] at e1 e2⊢;exact tN (by rw[k,k]) (by rw[k,k]) e1 e2
section
variable {prog:P6}{w:P8}{A:P9}{E:P3->P4->Prop}{s:P4}
theorem tS {c:Nat->Nat->Bool}{kd:SortKind}{a:P5}{P:PySem.Fin->P4->Prop} (ho:s.heap.get? a=some (seqObj "list" vs.toArray n)) (h2:2<=vs.length) (h64:vs.length<64)
  (M6:∀(R:SortKind->P4->Prop),R kd {s with heap:=bp s.heap a vs}->wpAny (model prog w) A (keyKind' vs.toArray) R E {s with heap:=bp s.heap a vs})
  (hc:∀i j,i<vs.length->j<vs.length->∀C:Bool->P4->Prop,C (c i j) {s with heap:=bp s.heap a vs}->wpAny (model prog w) A (keyLt' kd (vs.getD i .none) (vs.getD j .none)) C (λ_ _=>False) {s with heap:=bp s.heap a vs})
  (h:∀p,Ord vs.length p->p=aM c (kas_sort vs.length)->P (.done (.ret .none)) {s with heap:=sortedHeap s.heap a vs (p.map λi=>vs.getD i .none)}):wpAny (model prog w) A (Builtin.«list.sort» ⟨[.ref a],[]⟩) P E s:=by
 rw[list_sort_plain];have ha:a<s.heap.objs.size:=AL ho;refine A0 (listItems_at ho rfl ?_);refine A0 (Cn ho rfl ?_ (by rw[AF,B3];lia) (AJ _));obtain⟨e1,Lm⟩:∃e1,(s.heap.update a (Obj.mapSeq λ_=>(#[]:Array P3))).get? a=some (seqObj "list" #[] e1):=⟨_,Ch ho (λ_=> #[])⟩;refine A0 (seqEpoch_at Lm rfl ?_);refine A0 (wpAny_newTuple ?_ (by show vs.length<=_;rw[B3];lia));refine A0 (Cu ?_ (AJ _));refine Aw ?_;have MM:(bp s.heap a vs).get? a=some (seqObj "list" #[] e1):=by
  rw[BB _ _ _ (by rw[Bq,B'];exact AO (Ak ha)),BB _ _ _ (by rw[B'];exact AO ha)];exact Lm
 show wpAny (model prog w) A _ P E {s with heap:=bp s.heap a vs};dsimp only;have NN:¬vs.toArray.size<2:=by rw[AF];lia
 rw[A6 NN,A6 NN];refine A0 (M6 _ ?_);have est:kas_st kd (pairsOf vs) (List.toArray (List.range vs.length))=SortSt.mk' kd (vs.toArray.zip vs.toArray) #[] 7 none:=by
  have e:=kas_range (pairsOf vs);rw[pairsOf_size] at e;show SortSt.mk' kd ((List.toArray (List.range vs.length)).map (kas_item (pairsOf vs))) #[] 7 none=SortSt.mk' kd (pairsOf vs) #[] 7 none;rw[e]
 have ask:(kas_sort vs.length).kasWp (kas_cmp prog w A kd (pairsOf vs)) (λp s'=>s'={s with heap:=bp s.heap a vs}/\Ord vs.length p/\p=aM c (kas_sort vs.length)) {s with heap:=bp s.heap a vs}:=by
  refine bR.wpc (c:=c) (λi j hi hj C hC=> ?_) (λhp=>⟨rfl,hp,rfl⟩) (EJ (by lia));rw[<-kas_ask_eq];exact hc i j hi hj C hC
 have run:=kas_runs (E:=E) (Q:=λ_ K' s'=>∃p,s'={s with heap:=bp s.heap a vs}/\(Ord vs.length p/\p=aM c (kas_sort vs.length))/\arrOf K'=p.map (kas_item (pairsOf vs))/\failedOf K'=none) h2 h64 (λp' K' s' _ a2 a3 a4=>⟨p',a4.1,a4.2,a2,a3⟩) ask;rw[est] at run;refine A0 (BV run ?_ λ_ _ e=>e);rintro⟨⟨⟩,K'⟩ s' ⟨p,rfl,⟨hp,Nh⟩,har,hf⟩;dsimp only at har hf⊢;have eo:(arrOf K').map (·.2)=p.map λi=>vs.getD i .none:=by
  rw[har,Array.map_map];refine Array.map_congr_left λi _=> ?_;show(kas_item (pairsOf vs) i).2=_;rw[kas_item_eq]
 rw[eo];refine A0 (seqEpoch_at MM rfl ?_);refine A0 (Cn MM rfl ?_ (AJ _) (by rw[Array.size_map,B3,hp.size];lia));rw[hf];simp only[Cv,AK,Av];exact A3 (h p hp Nh)
theorem Fd {c:Nat->Nat->Bool}{kd:SortKind}{l:P5}{Q:P3->P4->Prop} (hl:s.heap.IsList l vs.toArray) (h2:2<=vs.length) (h64:vs.length<64)
  (M6:∀(R:SortKind->P4->Prop) (E:P3->P4->Prop),R kd {s with heap:=dR s.heap vs}->wpAny (model prog w) A.in1.in1 (keyKind' vs.toArray) R E {s with heap:=dR s.heap vs})
  (hc:∀i j,i<vs.length->j<vs.length->∀C:Bool->P4->Prop,C (c i j) {s with heap:=dR s.heap vs}->wpAny (model prog w) A.in1.in1 (keyLt' kd (vs.getD i .none) (vs.getD j .none)) C (λ_ _=>False) {s with heap:=dR s.heap vs})
  (h:∀p,Ord vs.length p->p=aM c (kas_sort vs.length)->Q (.ref (s.heap.objs.size+1)) {s with heap:=sortedAll s.heap vs (p.map λi=>vs.getD i .none)}):wpAny (model prog w) A (call (.builtin "sorted") [.ref l]) Q E s:=by
 refine Cr kind_sorted plain_sorted entry_sorted (args_sorted1 _) ?_;unfold Builtin.«sorted»;refine A0 (m:=checkCount "sorted" 1 1 _) (A3 ?_);refine A0 (collect_list hl ?_ (by rw[B3];lia));refine A0 (Cu ?_ (by rw[B3];lia));have hsz:((s.heap.push (seqObj "list" #[] 0)).update s.heap.objs.size (Obj.mapSeq (· ++vs.toArray))).objs.size=s.heap.objs.size+1:=by
  rw[B',Bq]
 have NM:(((s.heap.push (seqObj "list" #[] 0)).update s.heap.objs.size (Obj.mapSeq (· ++vs.toArray))).push (seqObj "list" vs.toArray 0)).get? (s.heap.objs.size+1)=some (seqObj "list" vs.toArray 0):=by
  rw[<-hsz];exact AI _ rfl
 show wpAny _ _ _ _ _ {s with heap:=((s.heap.push (seqObj "list" #[] 0)).update s.heap.objs.size (Obj.mapSeq (· ++vs.toArray))).push (seqObj "list" vs.toArray 0)};rw[hsz];refine A0 (Aw (Aj DZ ⟨_,NM,rfl⟩ DX (tS (c:=c) (s:={s with heap:=((s.heap.push (seqObj "list" #[] 0)).update s.heap.objs.size (Obj.mapSeq (· ++vs.toArray))).push (seqObj "list" vs.toArray 0)}) NM h2 h64 (λR=>M6 R _) hc λp hp Nh=>⟨_,rfl, ?_⟩) (Da _)));exact A3 ⟨_,rfl,h p hp Nh⟩
end
def kG (ns:P' Int) (i j:Nat):Bool:=decide (ns.getD i 0<ns.getD j 0)
theorem Fe (ns:P' Int):Ordr (kG ns):=by
 refine⟨λa b h=> ?_,λa b d h1 h2=> ?_⟩
 .unfold kG at*
  have:=Ar h;exact Am (by lia)
 .unfold kG at*
  have:=CI h1;have:=CI h2;exact Am (by lia)
inductive rSortN (K:W.Frag) (vs:List V) (H:Hp) (Q:VK):Prop
 |mk (l:Addr) (ns:List Int):vs=[.ref l]->SqL K H l (ns.map V.int)->ns.length<64->(∀(zs:List Int) q,zs.Perm ns->(∀i j,i<j->j<zs.length->zs.getD i 0<=zs.getD j 0)->H q=none->Q (.ref q) (upd H q (.lst (zs.map V.int))))->rSortN K vs H Q
section
variable {X:Cx}
theorem Ff:bz X (.builtin "sorted") (rSortN X.K):=by
 intro Ku s σ H xs us Q I r h;obtain⟨l,ns,rfl,hq,h64,q⟩:=h;obtain⟨u,rfl,rx⟩:=cO r;cases rx;obtain⟨Kx,r',pl,hz⟩:=I.list hq;have ln:ns.length=Kx.length:=by rw[<-r'.length,A1]
 have fr:=I.hok.fresh (a:=s.heap.objs.size+1) (CH _);by_cases h2:ns.length<2
 .refine sS (vs:=Kx) pl.isList (by lia) ?_;obtain⟨e,he⟩:=sortedAll_at s.heap Kx Kx.toArray;exact⟨.ref (s.heap.objs.size+1),_,I.laid (t':=s.toks) (λ_ _=>sortedAll_old) (CH _) (show aC X.prog X.w _ _ _ (.lst (ns.map V.int)) from⟨hz,Kx,e,r',he⟩),rfl,q ns _ (List.Perm.refl _) (λi j h1 h3=>absurd h3 (by lia)) fr⟩
 .have I2:Inv X Ku σ H {s with heap:=dR s.heap Kx}:=I.kept (t':=s.toks) λb o e=>sQ e;have g:∀i,i<Kx.length->∃t,Kx.getD i .none=Value.int (ns.getD i 0) t:=λi h=>by
   obtain⟨u,Ld,ru⟩:=r'.get (i:=i) (x:= .int (ns.getD i 0)) (by rw[AE,A2 (by lia),A4,A2 (by lia)];rfl);obtain⟨t,rfl⟩:=ru;exact⟨t,by rw[A4,Ld];rfl⟩
  refine Fd (c:=kG ns) (kd:=oneType') (vs:=Kx) pl.isList (by lia) (by lia) (λR E hR=>kas_kind (T:= .type "int") (by lia) (λv hv=> ?_) rfl rfl hR) (λi j Mr hj' C hC=> ?_) λp ho Nh=> ?_
  .obtain⟨i,hi,rfl⟩:=C8.mp hv;obtain⟨t,e⟩:=g i hi;rw[A4,A2 hi] at e;rw[show Kx[i]=Value.int (ns.getD i 0) t from e];exact .now
  .obtain⟨t1,e1⟩:=g i Mr;obtain⟨t2,e2⟩:=g j hj';rw[e1,e2];exact oneLt_int hC
  .rw [<-ln] at ho Nh;have LY:∀i∈p.toList,i<ns.length:=λi hi=>ho.lt hi;obtain⟨e,he⟩:=sortedAll_at s.heap Kx (p.map λi=>Kx.getD i .none);have en:(p.map λi=>Kx.getD i .none)=List.toArray (p.toList.map λi=>Kx.getD i .none):=by
    apply Array.toList_inj.mp;simp
   rw[en] at he⊢;have vr:=kx r' p.toList (λi hi=>by rw[A1];exact LY i hi);have ev:(p.toList.map λi=>(ns.map V.int).getD i .non)=(p.toList.map λi=>ns.getD i 0).map V.int:=by
    rw[BG];refine BH λi hi=> ?_;have:=LY i hi;simp[List.getD,this]
   rw[ev] at vr;refine⟨.ref (s.heap.objs.size+1),_,I.laid (t':=s.toks) (λ_ _=>sortedAll_old) (CH _) (show aC X.prog X.w _ _ _ (.lst ((p.toList.map λi=>ns.getD i 0).map V.int)) from⟨?_,_,e,vr,he⟩),rfl,q _ _ ?_ ?_ fr⟩
   .rw [A1,A1,An,B3,ho.size];lia
   .have pp:=(CW.mp ho).map λi=>ns.getD i 0;have er:(List.range ns.length).map (λi=>ns.getD i 0)=ns:=by
     refine Ca (by simp) λi h1 h2=> ?_;simp[List.getD,h2]
    rw[show(List.range ns.length).toArray.toList=List.range ns.length from rfl,er] at pp;exact pp
   .intro i j LS hj;rw[A1,An,ho.size] at hj;have up:=tM (Fe ns) (n:=ns.length) (by lia) i j LS hj;rw[<-Nh] at up;have g:∀i,i<ns.length->(p.toList.map λi=>ns.getD i 0).getD i 0=ns.getD (at0 p i) 0:=λi h=>by
     have hs:i<p.size:=by rw[ho.size];exact h
     have e:at0 p i=p[i]:=by simp[at0,Array.getD,hs]
     rw[e,A4,AE];simp[hs]
    rw[g i (by lia),g j hj];have:=CI up;lia
end
end L2
namespace HT
open PySem PySem.Spec PyProof.Rows
section
variable {prog:P6}{w:P8}{A:P9}{E:P3->P4->Prop}{s:P4}
theorem getItem_tuple_all {t sl:P5}{items:Array P3}{vl vu:P3}{lo hi:Qc Int}{Q:P3->P4->Prop} (ht:IsTup s.heap t items) (hs:s.heap.IsSliceOf sl vl vu .none) (pl:IsPart vl lo) (pu:IsPart vu hi)
  (hw:sIx items.size 0 lo=0/\sIx items.size items.size hi=items.size) (h:Q (.ref t) s):wpAny (model prog w) A (getItem (.ref t) (.ref sl)) Q E s:=by
 obtain⟨os,O1,O2,hds⟩:=id hs;have hTs:s.TypeIs (.ref sl) "slice":=⟨os,O1,O2⟩;unfold getItem;try with_reducible refine Aw ?_
 first|refine A0 (A3 ?_)|skip
 refine A0 (wpAny_sequenceKey ht.typeIs (by decide) ?_);refine A0 (B5 (name:=Str.ofString "__getitem__") ht.typeIs BR
  (Aj BR ht.typeIs entry_tuple_getitem ?_ (args_tuple_getitem _ _)))
 show wpAny _ _ (Builtin.Tuple.tupleItemsOf (.ref t)>>=_) _ _ s;refine A0 (tupleItemsOf_ ht ?_);refine A0 (DU hTs ?_);rw[AB (by decide)];refine A0 (rD hs pl pu ?_);have hyes:(((sIx items.size 0 lo:Nat):Int)==0&&(1:Int)==1&&(sIx items.size items.size hi-sIx items.size 0 lo)==items.size)=true:=by
  rw[hw.1,hw.2];simp
 show wpAny _ _ (if(((sIx items.size 0 lo:Nat):Int)==0&&(1:Int)==1&&(sIx items.size items.size hi-sIx items.size 0 lo)==items.size)=true then _ else _) _ _ s;rw[AB hyes];unfold Builtin.Tuple.tupleIsExact;refine A0 (A0 (DU ht.typeIs (A3 ?_)));rw[AB (by decide)];refine A0 (C4 ?_);exact A3 ⟨_,rfl,A3 h⟩
end
end HT
namespace L2
open PySem PySem.Spec PyProof.Rows
variable {n:Nat}{x:V}
section
variable {X:Cx}
inductive rSlA (K:W.Frag) (x:V) (lo:Option Int) (hi:Option Int) (H:Hp) (Q:VK):Prop
 |mk a xs:x= .ref a->SqT K H a xs->(((HT.sIx xs.length 0 lo=0/\HT.sIx xs.length xs.length hi=xs.length)->Q (.ref a) H))->((¬(HT.sIx xs.length 0 lo=0/\HT.sIx xs.length xs.length hi=xs.length)->∀p,H p=none->Q (.ref p) (upd H p (.tup (cr xs lo hi)))))->rSlA K x lo hi H Q
theorem Fg:SlR X (rSlA X.K):=by
 intro Ku s σ H x v vl vu lo hi sl Q I rx hs pl pu h;obtain⟨a,xs,rfl,hx,q1,q2⟩:=h;by_cases hw:HT.sIx xs.length 0 lo=0/\HT.sIx xs.length xs.length hi=xs.length
 .cases rx;obtain⟨Kx,r,ht,hz⟩:=I.tuple hx;have Kz:Kx.toArray.size=xs.length:=by rw[AF];exact r.length.symm
  refine⟨"tuple",_,BR.lookup,ht.typeIs, ?_⟩;exact HT.getItem_tuple_all ht hs pl pu (by rw[Kz];exact hw) ⟨.ref a,H,I,rfl,q1 hw⟩
 .exact zJ Ku s σ H _ v vl vu lo hi sl Q I rx hs pl pu ⟨a,xs,rfl,hx,hw,q2 hw⟩
end
open PySem.W
section
variable {X:Cx}{Ku:P' (P5×Obj)}{σ:St}{H:Hp}{s:P4}
def bvs (bs:P' Bool):Array P3:=(bs.map Value.bool).toArray
def EqT (K:W.Frag) (H:Hp) (n:Nat) (x y:V) (e:Bool):Prop:=∀(X:Cx) (Ku:P' (P5×Obj)) (σ:St) (s:P4),X.K=K->Inv X Ku σ H s->∀(A:P9) (u v:P3),A.units+n<cLine->aw x u->aw y v->SeqAt.EqAt A s u v e
theorem EqR.told {K:W.Frag}{y:V}{e:Bool} (h:EqR K H n x y e):EqT K H n x y e:=λX Ku σ s hk I A u v hu ru rv=>by
 subst hk;exact(h.bo I (A:=A) hu ru rv).2.2
def nj (K:W.Frag) (H:Hp) (n:Nat) (xs:P' V) (x:V) (es:Nat->Bool):Prop:=n<=8/\(∀(j:Nat) z,xs[j]? =some z->(∃a,z= .ref a)/\EqT K H n z x (es j))/\∀(i j:Nat) z,xs[i]? =some z->xs[j]? =some z->es i=es j
open Classical in
theorem tT {xs:P' V}{es:Nat->Bool}{Kx:P' P3} (t:nj X.K H n xs x es) (r:ap xs Kx) {j:Nat}{u:P3} (hu:Kx[j]? =some u):fJ Kx es u=es j:=by
 have same:∀i:Nat,Kx[i]? =some u->es i=es j:=λi hi=>by
  have li:=(AG.mp hi).1;have lj:=(AG.mp hu).1;have ln:=r.length;have xi:xs[i]? =some xs[i]:=A2 (by lia);have xj:xs[j]? =some xs[j]:=A2 (by lia);obtain⟨u1,e1,r1⟩:=r.get xi;obtain⟨u2,e2,r2⟩:=r.get xj;rw[hi] at e1;rw[hu] at e2;cases e1;cases e2;obtain⟨⟨a,ea⟩,_⟩:=t.2.1 i _ xi;obtain⟨⟨b,eb⟩,_⟩:=t.2.1 j _ xj;rw[ea] at r1 xi;rw[eb] at r2 xj;obtain rfl:u=Value.ref a:=r1;have:Value.ref a=Value.ref b:=r2;cases this;exact t.2.2 i j _ xi xj
 unfold fJ;cases h:es j with
 |true=>exact BA ⟨j,hu,h⟩
 |false=>exact Am λ⟨i,hi,e⟩=>by rw[same i hi,h] at e;cases e
inductive rCountD (K:W.Frag) (o:V) (vs:List V) (H:Hp) (Q:VK):Prop
 |mk (p:Addr) (xs:List V) (x:V) (n:Nat) (es:Nat->Bool):o= .ref p->vs=[x]->SqL K H p xs->nj K H n xs x es->Q (.int (((List.range xs.length).countP es:Nat):Int)) H->rCountD K o vs H Q
theorem Fh {k:Nat} (hr:Room k X.A):MtM X "list.count" (rCountD X.K):=by
 intro Ku s σ H o vs v us Q I ro rv h;obtain⟨p,xs,x,n,es,rfl,rfl,hq,t,q⟩:=h;cases ro;obtain⟨u,rfl,ru⟩:=ap.one rv;have hu:=hr.un;have t8:=t.1;obtain⟨Kx,r,pl,hz⟩:=I.list hq;have ln:=r.length;obtain⟨⟨cls,dd,data,sl⟩,ho,hc,m,hd⟩:=pl.isList;simp only at hc hd;subst hc hd;have ec:Kx.toArray.toList.countP (fJ Kx es)=(List.range xs.length).countP es:=by
  have e1:Kx=(List.range Kx.length).map λi=>Kx.getD i .none:=by
   refine Ca (by simp) λi h1 h2=> ?_;simp[h1]
  have e2:Kx.countP (fJ Kx es)=((List.range Kx.length).map λi=>Kx.getD i .none).countP (fJ Kx es):=by rw[<-e1]
  show Kx.countP (fJ Kx es)=_;rw[e2,List.countP_map,ln];refine List.countP_congr λi hi=> ?_;have Mr:i<Kx.length:=by simpa using hi
  have:fJ Kx es (Kx.getD i .none)=es i:=tT t r (by rw[A4,A2 Mr];rfl);simp only[Function.comp_apply,this]
 refine DV F.slot_list_count ⟨_,ho,rfl⟩ F.entry_list_count (F.args_list_count_2 _ _) (SeqAt.list_countAt p Kx.toArray m dd sl u (fJ Kx es)) ⟨ho,λy hy=> ?_, ?_⟩
 .obtain⟨j,hj,e⟩:=C8.mp (by simpa using hy);have ej:Kx[j]? =some y:=by rw[A2 hj,e]
  have xj:xs[j]? =some xs[j]:=A2 (by lia);obtain⟨u2,e2,r2⟩:=r.get xj;rw[ej] at e2;cases e2;rw[tT t r ej];exact(t.2.1 j _ xj).2 X Ku σ s rfl I _ _ _ (by rw[cK];lia) r2 ru
 rw[ec];exact⟨.int _,H,I.tok _,⟨_,rfl⟩,q⟩
end
end L2
namespace L2
open PySem PySem.SetTable PySem.Spec PyProof.Rows
variable {Q:Bool->P4->Prop}{S a b it x:P5}{ad:Nat->P5}{ep i m n p slot:Nat}{es:Array (Int×P3)}{h h':Qb}{kk:Nat->P' Int}{ks:Array (P' Int)}{o:Obj}{vs:P' P3}{xs:Array Nat}{xss:P' (P' Int)}
def Ris (xs:Array Nat):Prop:=∀i j,i<j->j<xs.size->xs.getD i 0<xs.getD j 0
theorem tU (h:i<xs.size) (a b:Nat):xs.getD i a=xs.getD i b:=by simp[Array.getD,h]
theorem nk {xs:Array Nat}{j:Nat} (r:Ris xs):∀(f lo hi:Nat),hi-lo<=f->lo<=hi->hi<=xs.size->(∀i,i<lo->xs.getD i 0<j)->(∀i,hi<=i->i<xs.size->j<=xs.getD i 0)->
  lo<=below.go xs j f lo hi/\below.go xs j f lo hi<=hi/\(∀i,i<below.go xs j f lo hi->xs.getD i 0<j)/\(∀i,below.go xs j f lo hi<=i->i<xs.size->j<=xs.getD i 0)
 |0,lo,hi,hf,hl,hh,h1,h2=>by
  unfold below.go;have:lo=hi:=by lia
  subst this;exact⟨A8 _,A8 _,h1,h2⟩
 |f+1,lo,hi,hf,hl,hh,h1,h2=>by
  unfold below.go;by_cases c:lo<hi
  .rw [AB c];dsimp only;have hm:(lo+hi)/2<xs.size:=by lia
   by_cases c2:xs.getD ((lo+hi)/2) j<j
   .rw [AB c2];rw[tU hm j 0] at c2;obtain⟨a,b,c,d⟩:=nk r f ((lo+hi)/2+1) hi (by lia) (by lia) hh (λi Mr=>by
     by_cases e:i=(lo+hi)/2
     .rw [e];exact c2
     .exact Nat.lt_trans (r i _ (by lia) hm) c2) h2
    exact⟨by lia,b,c,d⟩
   .rw [A6 c2];rw[tU hm j 0] at c2;obtain⟨a,b,c,d⟩:=nk r f lo ((lo+hi)/2) (by lia) (by lia) (by lia) h1 (λi h3 h4=>by
     by_cases e:i=(lo+hi)/2
     .rw [e];lia
     .have:=r ((lo+hi)/2) i (by lia) h4;lia)
    exact⟨a,by lia,c,d⟩
  .rw [A6 c];have:lo=hi:=by lia
   subst this;exact⟨A8 _,A8 _,h1,h2⟩
theorem Fi (r:Ris xs) (j:Nat):below xs j<=xs.size/\(∀i,i<below xs j->xs.getD i 0<j)/\(∀i,below xs j<=i->i<xs.size->j<=xs.getD i 0):=by
 obtain⟨_,b,c,d⟩:=nk (j:=j) r xs.size 0 xs.size (by lia) (AJ _) (A8 _) (λi h=>absurd h (by lia)) (λi h1 h2=>by lia);exact⟨b,c,d⟩
def hAt (es:Array (Int×P3)) (i:Nat):Int:=(es[i]?.map (·.1)).getD 0
structure Tb (t:SetTable) (es:Array (Int×P3)):Prop where
 size:t.place.size=es.size
 dum:t.dummies= #[]
 ris:Ris t.place
 few:es.size<64
theorem tV {α:Type}{xs:Array α}{a:α} (h:xs[i]? =some a):i<xs.size:=by
 rcases Bp i xs.size with c|c
 .exact c
 .rw [BK c] at h;exact nomatch h
theorem kH {t:SetTable} (b:Tb t es) (hs:es.size<=t.mask):t.fits es.size=true:=by
 have h1:t.fill<=t.mask:=by
  unfold SetTable.fill;rw[b.dum,b.size];exact hs
 unfold SetTable.fits;rw[b.size,BA h1];simp
def hK (k:P' Int):Int:=reduceHash (Builtin.Tuple.tupleHashOf (k.map hashInt))
def okT (t:SetTable) (n:Nat):Bool:=t.fits n&& !t.gaveWay&&t.plain
def srE (t:SetTable) (ks:Array (P' Int)) (k:P' Int):Nat->Probe->Qc (Qc Nat)
 |0,_=>none
 |f+1,p=>match t.probe (λi=>(ks[i]?.map hK).getD 0) (hK k) p with
  |some (.empty j none)=>some (some j)
  |some (.candidate j i next)=>match ks[i]? with
   |some k'=>if k'=k then some none else if t.slot j= .live i then srE t ks k f next else none
   |none=>none
  |_=>none
abbrev Ks:=SetTable×Array (P' Int)
variable {y:Ks}
def reE (t:SetTable) (ks:Array (P' Int)):Qc Ks:=(t.relaid (ks.map hK) (grown ks.size)).bind λr=>
 if(r.2.filterMap (ks[·]?)).size=ks.size/\sizeAbove (grown ks.size)<=4096 then some (r.1,r.2.filterMap (ks[·]?)) else none
def puE (t:SetTable) (ks:Array (P' Int)) (k:P' Int) (j:Nat):Qc Ks:=
 if(t.put j).2<=ks.size/\ks.size<64/\okT (t.put j).1 (ks.size+1)=true then
  if(t.put j).1.tooFull=true then reE (t.put j).1 (insertAt ks (t.put j).2 k) else some ((t.put j).1,insertAt ks (t.put j).2 k)
 else none
def adE (x:Ks) (k:P' Int):Qc Ks:=if okT x.1 x.2.size=true then(srE x.1 x.2 k 300 (x.1.probeStart (hK k))).bind λr=>match r with
  |none=>some x
  |some j=>puE x.1 x.2 k j
 else none
def stE (x:Ks):P' (P' Int)->Qc Ks
 |[]=>some x
 |k::r=>(adE x k).bind λy=>stE y r
theorem tW {x y:Ks}:∀{l:P' (P' Int)}{i:Nat}{k:P' Int},stE x (l.take i)=some y->l[i]? =some k->stE x (l.take (i+1))=adE y k
 |[],i,k,_,h=>by simp at h
 |a::l,0,k,h,hk=>by
  cases hk;cases h;show(adE x a).bind (λy=>stE y [])=_;cases adE x a<;>rfl
 |a::l,i+1,k,h,hk=>by
  rw[BM,stE] at h⊢;obtain⟨z,hz,h⟩:=A7.mp h;rw[hz,Option.bind_some];exact tW (l:=l) h hk
theorem tX {x y:Ks}:∀{l:P' (P' Int)},stE x l=some y->∀i,∃z,stE x (l.take i)=some z
 |[],_,i=>⟨x,by simp[stE]⟩
 |a::l,h,0=>⟨x,rfl⟩
 |a::l,h,i+1=>by
  rw[stE] at h;obtain⟨z,hz,h⟩:=A7.mp h;obtain⟨u,hu⟩:=tX (l:=l) h i;exact⟨u,by rw[BM,stE,hz];exact hu⟩
structure EsK (kk:Nat->P' Int) (ad:Nat->P5) (n:Nat) (es:Array (Int×P3)) (ks:Array (P' Int)):Prop where
 size:es.size=ks.size
 bo:∀(i:Nat) (k:List Int),ks[i]? =some k->∃j,j<n/\kk j=k/\es[i]? =some (hK k, .ref (ad j))
theorem EsK.hash (e:EsK kk ad n es ks):hAt es=λi=>(ks[i]?.map hK).getD 0:=by
 funext i
 unfold hAt;cases h:ks[i]? with
 |none=>
  have:es[i]? =none:=by rw[Bx,e.size,<-Bx];exact h
  rw[this];rfl
 |some k=>
  obtain⟨j,_,_,h2⟩:=e.bo i k h;rw[h2];rfl
theorem EsK.of (e:EsK kk ad n es ks) {v:Int×P3} (h:es[i]? =some v):∃j,j<n/\ks[i]? =some (kk j)/\v=(hK (kk j), .ref (ad j)):=by
 have hi:i<ks.size:=by rw[<-e.size];exact tV h
 obtain⟨j,h1,h2,h3⟩:=e.bo i _ (Ac hi);rw[h] at h3;cases h3;exact⟨j,h1,by rw[Ac hi,h2],by rw[h2]⟩
def EsK.mono (e:EsK kk ad n es ks) (h:n<=m):EsK kk ad m es ks:=⟨e.size,λi k hk=>let ⟨j,h1,h2⟩:=e.bo i k hk;⟨j,Ai h1 h,h2⟩⟩
theorem tY {α:Type}{xs:Array α}(hp:p<=xs.size) (x:α) (i:Nat):(insertAt xs p x)[i]? =if i<p then xs[i]? else if i=p then some x else xs[i-1]? :=by
 unfold insertAt;have s1:(xs.extract 0 p).size=p:=by simp;lia
 have s2:((xs.extract 0 p).push x).size=p+1:=by simp;lia
 by_cases h1:i<p
 .rw [AB h1,Array.getElem?_append_left (by rw[s2];lia),Array.getElem?_push,A6 (by rw[s1];lia)];simp[Array.getElem?_extract];lia
 .rw [A6 h1];by_cases h2:i=p
  .rw [AB h2,Array.getElem?_append_left (by rw[s2];lia),Array.getElem?_push,AB (by rw[s1];exact h2)]
  .rw [A6 h2,Array.getElem?_append_right (by rw[s2];lia),s2];simp only[Array.getElem?_extract];by_cases h3:i-(p+1)<xs.size-p
   .rw [AB (by lia)];congr 1
    lia
   .rw [A6 (by lia)];symm;rw[Bx];lia
theorem nu {α:Type}{xs:Array α}(hp:p<=xs.size) (x:α):(insertAt xs p x).size=xs.size+1:=by
 unfold insertAt;simp;lia
section
variable {prog:P6}{w:P8}{A:P9}{E:P3->P4->Prop}{s:P4}
theorem tZ {k:P' Int}(h:ItemsAre (intKind prog w) k vs):∀v∈vs,∃n t,v= .int n t:=by
 induction h with
 |nil=>intro v hv;simp at hv
 | @cons k v' ks vs h1 _ ih=>
  intro v hv;rcases AM.mp hv with rfl|hv
  .cases v with
   |int n t=>exact⟨n,t,rfl⟩
   |_=>exact absurd h1 (by simp[intKind,Value.isInt])
  .exact ih v hv
theorem uc {k:P' Int}(hx:IsTupleKey (intKind prog w) s.heap k x) (h:Q false s):
  wpAny (model prog w) A (ofAClassStatement 8 (.ref x)) Q E s:=by
 have hT:=hx.typeIs;obtain⟨o,items,n,ho,hc,hd,hi⟩:=hx;unfold ofAClassStatement;refine A0 (DU hT ?_);show wpAny _ _ ((if("tuple"=="tuple")=true then pure true else isSubtype (.type "tuple") (.type "tuple"))>>=_) _ _ s;refine A0 (A3 ?_);simp only[BJ,AK,Av];refine A0 (Bm ho hd ?_);refine A0 ?_;show wpAny _ _ (forIn items _ _) _ _ s;rw[<-Cp];refine C0 _ (λaN r s'=>r.1=none/\s'=s/\∀v∈aN,∃n t,v=Value.int n t) _ ?_ ?_ _ _ ⟨rfl,rfl,tZ hi⟩
 .rintro v aN r s' ⟨hr,rfl,Lc⟩;obtain⟨n,t,rfl⟩:=Lc v AS;refine A0 (DS (show ofAClassStatement 7 (.int n t)=pure false from by unfold ofAClassStatement;rfl) (A3 ?_));simp only[AK,Av];exact⟨trivial,trivial,λu Pf=>Lc u (AN _ Pf)⟩
 .rintro⟨r1,r2⟩ s' ⟨hr,rfl,_⟩;simp only at hr;subst hr;exact A3 h
theorem Fj {k:P' Int}(hx:IsTupleKey (intKind prog w) s.heap k x) (ys:P' P3)
  (hy:∀y∈ys,∃b j,y= .ref b/\IsTupleKey (intKind prog w) s.heap j b) (h:Q false s):
  wpAny (model prog w) A (searchCouldBeSeen (.ref x) ys) Q E s:=by
 unfold searchCouldBeSeen;refine A0 ?_;refine C0 _ (λaN r s'=>r.1=none/\s'=s/\∀v∈aN,∃b j,v=Value.ref b/\IsTupleKey (intKind prog w) s.heap j b) _ ?_ ?_ _ _ ⟨rfl,rfl,hy⟩
 .rintro v aN r s' ⟨hr,rfl,Lc⟩;obtain⟨b,j,rfl,hj⟩:=Lc v AS;have OF:∀u∈aN,∃b j,u=Value.ref b/\IsTupleKey (intKind prog w) s'.heap j b:=λu Pf=>Lc u (AN _ Pf);dsimp only;split
  .exact A3 ⟨rfl,rfl,OF⟩
  .refine A0 (wpAny_eqIsQuiet_tuple hx ?_);simp only[BJ,AK,Av];refine A0 (wpAny_eqIsQuiet_tuple hj ?_);simp only[BJ,AK,Av];refine A0 (uc hx ?_);simp only[AK,Av];refine A0 (uc hj ?_);simp only[AK,Av];exact A3 ⟨rfl,rfl,OF⟩
 .rintro⟨r1,r2⟩ s' ⟨hr,rfl,_⟩;simp only at hr;subst hr;exact A3 h
def Fk (a:Addr) (x:Value) (h:Int) (Lr:Bool) (LK:Nat) (LL:Option Probe):setSearchFrom a x h Lr (LK+1) LL=(do
  let (es,_,t)<-setState a
  if t.gaveWay then unsupported "set:on-a-table-that-gave-way"
  let some met:=t.probe (hAt es) h (LL.getD (t.probeStart h))|unsupported "internal:set-table-without-an-empty-slot"
  match met with
  | .empty j dummy=>
   match dummy with
   |none=>return .free j false
   |some d=>
    if Lr&&t.slot d != .dummy then rule "set.search.the-dummy-was-taken";return<-setSearchFrom a x h Lr LK none
    return .free d true
  | .candidate j i next=>
   if !t.led then
    if<-searchCouldBeSeen x ((es.filter (·.1==h)).toList.map (·.2)) then unsupported "set:the-search-would-show-the-table"
   let some (_,y):=es[i]? |unsupported "internal:set-entry"
   let Mt<-holding [y] (eqBool y x)
   let (Lb,_,t')<-setState a
   if Lr&&Mt then return .there none
   let some same:=t'.sameMemory t.moves t.mask|unsupported "set.changed-during-lookup:is-the-new-block-at-the-old-address"
   let Ni<-match(if same then t'.slot j else .empty) with
    | .live i'=>match Lb[i']? with
     |some (_,y')=>do pure (if<-isSame y' y then some i' else none)
     |none=>pure none
    |_=>pure none
   match Ni with
   |none=>rule "set.search.anew";setSearchFrom a x h Lr LK none
   |some i'=>if Mt then return .there (some i') else setSearchFrom a x h Lr LK (some next)):=rfl
theorem ud {a:Addr}{o:Obj}{es:Array (Int×Value)}{ks:Array (List Int)}{ep:Nat}{t:SetTable}{kk:Nat->List Int}{ad:Nat->Addr}{n:Nat} (ho:s.heap.get? a=some o) (hd:o.data= .set es ep t) (hf:t.fits es.size=true) (hw:t.gaveWay=false)
  (hu:A.units<cLine) (ek:EsK kk ad n es ks) (hkk:∀j,j<n->IsTupleKey (intKind prog w) s.heap (kk j) (ad j)) {k:List Int}{x:Addr} (hx:IsTupleKey (intKind prog w) s.heap k x) {Q:SetFound->Shared->Prop}{r:Option Nat}
  (hQ:Q (match r with|none=> .there none|some j=> .free j false) s):
  ∀(m LK:Nat) (LL:Option Probe),srE t ks k m (LL.getD (t.probeStart (hK k)))=some r->m<=LK->
   wpAny (model prog w) A (setSearchFrom a (.ref x) (hK k) true LK LL) Q E s
 |0,_,_,h,_=>nomatch h
 |m+1,0,_,_,h=>absurd h (by lia)
 |m+1,LK+1,LL,h,hm=>by
  rw[Fk];refine A0 (BS ho hd hf ?_);dsimp only;rw[hw];simp only[AK,Av];rw[srE] at h;rw[ek.hash];generalize hp:t.probe (λi=>(ks[i]?.map hK).getD 0) (hK k) (LL.getD (t.probeStart (hK k)))=met at h⊢
  match met,h with
  |some (.empty j none),h=>
   cases h;exact A3 hQ
  |some (.candidate j i next),h=>
   dsimp only at h⊢;cases hk:ks[i]? with
   |none=>rw[hk] at h;cases h
   |some k'=>
    rw[hk] at h;dsimp only at h;obtain⟨jj,j1,rfl,ey⟩:=ek.bo i k' hk;have hy:=hkk jj j1;have hSeen:∀y∈(es.filter (λe=>e.1==hK k)).toList.map (·.2),∃b j,y=Value.ref b/\IsTupleKey (intKind prog w) s.heap j b:=by
     intro y hy;obtain⟨e,he,rfl⟩:=At.mp hy;have N9:e∈es:=(Array.mem_filter.mp (Array.mem_toList_iff.mp he)).1;obtain⟨i,hi,ei⟩:=Array.mem_iff_getElem.mp N9;obtain⟨q,q1,_,q3⟩:=ek.of (Ac hi);rw[ei] at q3;subst q3;exact⟨_,_,rfl,hkk q q1⟩
    have OG:wpAny (model prog w) A (do
      let some (_,y):=es[i]? |unsupported "internal:set-entry"
      let Mt<-holding [y] (eqBool y (.ref x))
      let (Lb,_,t')<-setState a
      if true&&Mt then return SetFound.there none
      let some same:=t'.sameMemory t.moves t.mask|unsupported "set.changed-during-lookup:is-the-new-block-at-the-old-address"
      let Ni<-match(if same then t'.slot j else .empty) with
       | .live i'=>match Lb[i']? with
        |some (_,y')=>do pure (if<-isSame y' y then some i' else none)
        |none=>pure none
       |_=>pure none
      match Ni with
      |none=>rule "set.search.anew";setSearchFrom a (.ref x) (hK k) true LK none
      |some i'=>if Mt then return SetFound.there (some i') else setSearchFrom a (.ref x) (hK k) true LK (some next)) Q E s:=by
     rw[ey];dsimp only;refine A0 (Aw (wpAny_eqBool_tuple hu hy hx ?_));refine A0 (BS ho hd hf ?_);dsimp only;by_cases Md:kk jj=k
     .rw [AB Md] at h;cases h;rw[BA Md];simp only[Bool.true_and,C5];exact A3 hQ
     .rw [A6 Md] at h;rw[Am Md];simp only[CV,AK,Av];have hsm:t.sameMemory t.moves t.mask=some true:=by unfold SetTable.sameMemory;simp
      rw[hsm];dsimp only;by_cases hs:t.slot j= .live i
      .rw [AB hs] at h;rw[AB rfl,hs];dsimp only;rw[ey];dsimp only;refine A0 ?_;refine wpAny_isSame_ref_self ?_;simp only[C5];exact ud ho hd hf hw hu ek hkk hx hQ m LK (some next) h (by lia)
      .rw [A6 hs] at h;cases h
    cases hl:t.led with
    |true=>simpa only[BJ,AK,Av] using OG
    |false=>
     simp only[Cw,C5];refine A0 (Fj hx _ hSeen ?_);simp only[AK,Av];exact OG
theorem ue {es:Array (Int×P3)}{ep:Nat}{t:SetTable} (ho:h.get? a=some {cls:= .type "set",dict:=none,data:= .set es ep t}) (Lb:Array (Int×P3)) (t':SetTable):
  (h.update a (Obj.putSet Lb t')).get? a=some {cls:= .type "set",dict:=none,data:= .set Lb (ep+1) t'}:=by
 have:=CB (Obj.putSet Lb t') ho (by rw[putSet_of Lb t' rfl];rfl);rw[putSet_of Lb t' rfl] at this;exact this
theorem Fm {k:P' Int}(hx:IsTupleKey (intKind prog w) s.heap k x) (h:Q true s):
  wpAny (model prog w) A (hashByValue 8 (.ref x)) Q E s:=by
 have hT:=hx.typeIs;obtain⟨o,items,n,ho,hc,hd,hi⟩:=hx;unfold hashByValue;refine A0 (CS hT DB.lookup ?_);dsimp only;refine A0 (Bm ho hd ?_);refine A0 ?_;show wpAny _ _ (forIn items _ _) _ _ s;rw[<-Cp];refine C0 _ (λaN r s'=>r.1=none/\s'=s/\∀v∈aN,∃n t,v=Value.int n t) _ ?_ ?_ _ _ ⟨rfl,rfl,tZ hi⟩
 .rintro v aN r s' ⟨hr,rfl,Lc⟩;obtain⟨n,t,rfl⟩:=Lc v AS;refine A0 (DS (show hashByValue 7 (.int n t)=pure true from by unfold hashByValue;rfl) (A3 ?_));simp only[BJ,AK,Av];exact⟨trivial,trivial,λu Pf=>Lc u (AN _ Pf)⟩
 .rintro⟨r1,r2⟩ s' ⟨hr,rfl,_⟩;simp only at hr;subst hr;exact A3 h
def Fo (a:Addr) (MD:Nat):setRelay a MD=(do
  let (es,_,t)<-setState a
  if SetTable.sizeAbove MD>sizeLine then unsupported "set:memory"
  let (es,t)<-(do
   let some (t,order):=t.relaid (es.map (·.1)) MD|unsupported "internal:set-table-without-room"
   let Lb:=order.filterMap (es[·]?)
   if Lb.size !=es.size then unsupported "internal:set-table-lost-an-element"
   pure (Lb,t):Sem (Array (Int×Value)×SetTable))
  storeSet a es t):=rfl
def dU (h:Qb) (S:P5) (t:SetTable) (es:Array (Int×P3)):Prop:=∃ep,h.get? S=some {cls:= .type "set",dict:=none,data:= .set es ep t}
theorem EsK.ins {kk:Nat->P' Int}{ad:Nat->P5}{n:Nat}{es:Array (Int×P3)}{ks:Array (P' Int)} (e:EsK kk ad n es ks) {p:Nat} (hp:p<=ks.size):EsK kk ad (n+1) (insertAt es p (hK (kk n), .ref (ad n))) (insertAt ks p (kk n)):=by
 have LA:p<=es.size:=by rw[e.size];exact hp
 refine⟨by rw[nu LA,nu hp,e.size],λi k h=> ?_⟩;rw[tY hp] at h;rw[tY LA];have Mm:∀i,ks[i]? =some k->∃j,j<n+1/\kk j=k/\es[i]? =some (hK k,Value.ref (ad j)):=λi h=>let ⟨j,h1,h2⟩:=e.bo i k h;⟨j,by lia,h2⟩;split at h
 .rename_i c;rw[AB c];exact Mm _ h
 .rename_i c;rw[A6 c];split at h
  .rename_i c2;rw[AB c2];cases h;exact⟨n,by lia,rfl,rfl⟩
  .rename_i c2;rw[A6 c2];exact Mm _ h
theorem uf {α β:Type}{xs:Array α}{ys:Array β} (e:xs.size=ys.size):∀(l:P' Nat),(l.filterMap (xs[·]?)).length=(l.filterMap (ys[·]?)).length/\∀(i:Nat) (v:β),(l.filterMap (ys[·]?))[i]? =some v->∃q:Nat,ys[q]? =some v/\(l.filterMap (xs[·]?))[i]? =xs[q]?
 |[]=>⟨rfl,λi v h=>by simp at h⟩
 |q::l=>by
  obtain⟨h1,h2⟩:=uf e l;rw[Cf,Cf];rcases Bp q xs.size with c|c
  .rw [Ac c,Ac (by lia:q<ys.size)];refine⟨by simp only[AZ];lia,λi v h=> ?_⟩;cases i with
   |zero=>exact⟨q,by rw[Ac (by lia:q<ys.size)];simpa using h,by rw[Ac c];rfl⟩
   |succ i=>exact h2 i v (by simpa using h)
  .rw [BK c,BK (by lia)];exact⟨h1,h2⟩
theorem EsK.re (e:EsK kk ad n es ks) (od:Array Nat):EsK kk ad n (od.filterMap (es[·]?)) (od.filterMap (ks[·]?)):=by
 obtain⟨h1,h2⟩:=uf e.size od.toList;rw[<-Array.toList_filterMap,<-Array.toList_filterMap] at h1;refine⟨by rw[<-An,<-An];exact h1,λi k h=> ?_⟩;rw[<-BN,Array.toList_filterMap] at h⊢;obtain⟨q,q1,q2⟩:=h2 i k h;rw[q2];exact e.bo q k q1
theorem Fp {t:SetTable}(hS:dU s.heap S t es) (ek:EsK kk ad n es ks)
  (hkk:∀j,j<n+1->IsTupleKey (intKind prog w) s.heap (kk j) (ad j)) (hu:A.units<cLine) (h:adE (t,ks) (kk n)=some y) 
  (k:∀b h' Lb,Heap.SameBut S s.heap h'->dU h' S y.1 Lb->EsK kk ad (n+1) Lb y.2->Q b {s with heap:=h'}):
  wpAny (model prog w) A (setAddHashed S (.ref (ad n)) (hK (kk n))) Q E s:=by
 have hS0:=hS;obtain⟨ep,ho⟩:=hS;have hx:=hkk n (by lia);unfold adE at h;split at h
 .rename_i hok;unfold okT at hok;simp only[AD,Bool.not_eq_true'] at hok;obtain⟨⟨hf,hw⟩,hp⟩:=hok;have hf:t.fits es.size=true:=by rw[ek.size];exact hf
  obtain⟨r,hr,h⟩:=A7.mp h;unfold setAddHashed setAddHashedIn;refine Aw (A0 (BS ho rfl hf ?_));dsimp only;have hsc:byScan (.ref (ad n)) es=false:=by unfold byScan;rfl
  rw[hsc];simp only[AK,Av];unfold setSearch;refine A0 (ud ho rfl hf hw hu ek (λj hj=>hkk j (by lia)) hx (r:=r) ?_ 300 100000 none hr (by lia));cases r with
  |none=>
   cases h;exact A3 (k false s.heap es (Heap.SameBut.refl _ _) hS0 (ek.mono (by lia)))
  |some j=>
   dsimp only at h⊢;unfold puE at h;split at h
   .rename_i c;obtain⟨c1,c2,c3⟩:=c;unfold okT at c3;simp only[AD,Bool.not_eq_true'] at c3;obtain⟨⟨f1,w1⟩,p1⟩:=c3;refine A0 (BS ho rfl hf ?_);dsimp only;generalize t.put j=tp at c1 f1 w1 p1 h⊢;obtain⟨t1,p⟩:=tp;dsimp only at c1 f1 w1 p1 h⊢;rw[AB p1];refine A0 (Fm hx ?_);simp only[C5];have Pg:=ek.ins c1;have z1:(insertAt es p (hK (kk n),Value.ref (ad n))).size=es.size+1:=nu (by rw[ek.size];exact c1) _;have e64:es.size<64:=by rw[ek.size];exact c2
    have hsl:sizeLine>=4096:=by rw[B3];decide
    have f1':t1.fits (insertAt es p (hK (kk n),Value.ref (ad n))).size=true:=by rw[z1,ek.size];exact f1
    refine A0 (wpAny_storeSet_of ho rfl ?_ (by rw[z1];lia));have Lm:=ue ho (insertAt es p (hK (kk n),Value.ref (ad n))) t1;have sb1:=BE s.heap S (Obj.putSet (insertAt es p (hK (kk n),Value.ref (ad n))) t1);generalize s.heap.update S (Obj.putSet (insertAt es p (hK (kk n),Value.ref (ad n))) t1)=h1 at Lm sb1⊢;rw[<-z1];generalize insertAt es p (hK (kk n),Value.ref (ad n))=es1 at Pg f1' Lm z1⊢;generalize insertAt ks p (kk n)=ks1 at Pg h;cases full:t1.tooFull with
    |true=>
     rw[full,AB rfl] at h;simp only[Cw,Bool.and_self,C5];unfold reE at h;obtain⟨q,hq,h⟩:=A7.mp h;split at h
     .rename_i c4;cases h;have eh:es1.map (·.1)=ks1.map hK:=by
       refine Array.ext_getElem? λi=> ?_;rw[Array.getElem?_map,Array.getElem?_map];cases e:ks1[i]? with
       |none=>
        have:es1[i]? =none:=by rw[Bx,Pg.size,<-Bx];exact e
        rw[this];rfl
       |some k0=>
        obtain⟨_,_,_,e2⟩:=Pg.bo i k0 e;rw[e2];rfl
      rw[Fo];refine A0 ?_;refine A0 (BS (s:={s with heap:=h1}) Lm rfl f1' ?_);dsimp only;have zk:es1.size=ks1.size:=Pg.size;rw[A6 (by rw[zk];lia),eh,zk,hq];dsimp only;have ek2:=Pg.re q.2;rw[show((q.2.filterMap (es1[·]?)).size !=ks1.size)=false from by rw[ek2.size,c4.1];simp];simp only[AK,Av];refine A0 (A3 ?_);refine wpAny_storeSet_of (s:={s with heap:=h1}) Lm rfl ?_ (by rw[ek2.size,c4.1,<-zk,z1];lia);have LF:=ue Lm (q.2.filterMap (es1[·]?)) q.1;have sb2:=BE h1 S (Obj.putSet (q.2.filterMap (es1[·]?)) q.1);generalize h1.update S _=h2 at LF sb2⊢;exact A3 (k true h2 _ (sb1.trans sb2) ⟨_,LF⟩ ek2)
     .cases h
    |false=>
     rw[full,A6 (by simp)] at h;cases h;simp only[Cw,CV,AK,Av];exact A3 (k true h1 _ sb1 ⟨_,Lm⟩ Pg)
   .cases h
 .cases h
def dU.mv {t:SetTable}(a:dU h S t es) (e:∀o,h.get? S=some o->h'.get? S=some o):dU h' S t es:=let ⟨ep,ho⟩:=a;⟨ep,e _ ho⟩
theorem nv {k:P' Int}(q:IsTupleKey (intKind prog w) h k x) (e:∀o,h.get? x=some o->h'.get? x=some o):IsTupleKey (intKind prog w) h' k x:=by
 obtain⟨o,items,n,ho,r⟩:=q;exact⟨o,items,n,e _ ho,r⟩
theorem Fq {R:Result->P4->Prop}{I:P5}{fp wr:P' P5}{G:Array GenState->Array GenState->Prop}{P:Nat->P3->Prop}{St:Nat->P4->Prop}
  (Wq:WalksS prog w A.in1 I fp wr G n P St) (S:P5) (hSf:S∉fp) (hu:A.in1.units<cLine)
  (kk:Nat->P' Int) (ad:Nat->P5) (hval:∀i v,P i v->v= .ref (ad i)) (hwr:∀i,i<n->ad i∉wr) {x0:Ks}{l:P' (P' Int)} (hlk:∀i,i<n->l[i]? =some (kk i)) (hse:∀i,∃y,stE x0 (l.take i)=some y):
  ∀(k i:Nat) (s:P4) (es:Array (Int×P3)) (y:Ks),n-i=k->i<=n->St i s->dU s.heap S y.1 es->EsK kk ad i es y.2->stE x0 (l.take i)=some y->(∀j,j<n->IsTupleKey (intKind prog w) s.heap (kk j) (ad j))->
   (∀s' Lb y',Moved (S::wr) G s s'->dU s'.heap S y'.1 Lb->EsK kk ad n Lb y'.2->stE x0 (l.take n)=some y'->R (.ok (.ret .none)) s')->
   codeAny (model prog w) A (.builtin "set.update.loop" ⟨[.ref S, .ref I],[]⟩) R s:=by
 have hSw:S∉wr:=λh=>hSf (Wq.sub _ h);have MU:∀b∈wr,b∈S::wr:=λb hb=>AN _ hb;intro k;induction k with
 |zero=>
  intro i s es y hk hi LO hS ek hy hkk hR;have hin:i=n:=by lia
  subst hin;refine Bv F.entry_set_update_loop ?_;rw[Bu F.plain_set_update_loop _];show wpAny _ A.in1 (pyNext (.ref I)>>=_) _ _ s;refine A0 (Wq.done s _ _ LO λs' hm=> ?_);show wpAny _ A.in1 (ret Value.none) _ _ s';exact A3 (hR s' es y (hm.mono MU) (hS.mv λo e=>hm.heap S o hSw e) ek hy)
 |succ k ih=>
  intro i s es y hk hi LO hS ek hy hkk hR;have KD:i<n:=by lia
  refine Bv F.entry_set_update_loop ?_;rw[Bu F.plain_set_update_loop _];show wpAny _ A.in1 (pyNext (.ref I)>>=_) _ _ s;refine A0 (Wq.item i s _ _ KD LO λv s' hP hst' hm=> ?_);obtain rfl:=hval i v hP;have Oa:dU s'.heap S y.1 es:=hS.mv λo e=>hm.heap S o hSw e;have Md:∀j,j<n->IsTupleKey (intKind prog w) s'.heap (kk j) (ad j):=λj hj=>nv (hkk j hj) λo e=>hm.heap _ o (hwr j hj) e;obtain⟨y2,hy2⟩:=hse (i+1);have OH:=hy2;rw[tW hy (hlk i KD)] at OH;show wpAny _ A.in1 (holding [Value.ref (ad i)] (setAdd S (.ref (ad i)))>>=_) _ _ s';refine A0 (Aw ?_);unfold setAdd;refine Aw ?_;refine A0 (wpAny_pyHash_tuple hu (Md i KD) ?_);refine Fp (s:={s' with toks:=s'.toks+((kk i).length+1)}) Oa ek (λj hj=>Md j (by lia)) hu (y:=y2) OH λb h' Lb hsb hS2 ek2=> ?_;have hkS:∀j,j<n->ad j≠S:=by
   intro j hj e;obtain⟨o,items,m,ho,_,hd,_⟩:=Md j hj;obtain⟨ep,LN⟩:=Oa;rw[e,LN,Option.some.injEq] at ho;subst ho;exact nomatch hd
  refine A3 ⟨DR F.plain_set_update_loop _,ih (i+1) _ Lb y2 (by lia) KD (Wq.frame _ s' _ _ hst' (Nat.le_add_right _ _) λb hb o e=> ?_) hS2 ek2 hy2 (λj hj=>nv (Md j hj) λo e=> ?_) λMS es'' Ph hm'' hS'' ek'' Nj=> ?_⟩
  .rw [hsb.2 b (λh:b=S=>hSf (by rw[<-h];exact hb))];exact e
  .show h'.get? _=_;rw[hsb.2 _ (hkS j hj)];exact e
  .refine hR MS es'' Ph (Moved.trans Wq.gtrans ((hm.mono MU).then_heap (Nat.le_add_right _ _) λb o hb e=> ?_) hm'') hS'' ek'' Nj;rw[hsb.2 b (λh:b=S=>hb (by rw[h];exact AS))];exact e
theorem Fs (a:P3) {Q₁:P3->P4->Prop}
  (h:Q₁ (.ref s.heap.objs.size) {s with heap:=s.heap.push {cls:= .type "set",dict:=none,data:= .set #[] 0 (.fresh 0 0 (!w.params.followText "set-order"))}}):
  codeAny (model prog w) A (.call (.builtin "set.__new__") ⟨[.type "set",a],[]⟩) (wants Q₁ E) s:=by
 refine codeAny_of_tree ?_;show wpAny _ A.in1 (do checkBuiltinCall "set.__new__" ⟨[.type "set",a],[]⟩;again (.builtin "set.__new__" ⟨[.type "set",a],[]⟩)) _ _ s;refine A0 (DS (F.newCall_set_1 a) (A3 ⟨DR F.plain_set_new _,Bv F.entry_set_new ?_⟩));rw[Bu F.plain_set_new _];unfold Builtin.«set.__new__» Builtin.Frozenset.newClass;have MU:=sub_set_self;obtain⟨hp,g,d,tk,os⟩:=s;dsimp only
 wp_walk
 refine DN (A3 ?_);dsimp only;simp only[newObj];refine A0 (wpAny_alloc (A3 ?_));exact A3 h
set_option maxHeartbeats 3200000 in
theorem Ft {l:P5}{items:Array P3}{Q:P3->P4->Prop}
  (hh:A.handled=none) (hu:A.units+8<cLine) (hl:s.heap.IsList l items) {xs:P' (P' Int)} (hxs:∀i,i<items.size->xs[i]? =some (kk i)) (hxl:xs.length=items.size) (LO:stE (.fresh 0 0 (!w.params.followText "set-order"), #[]) xs=some y)
  (hk:∀i,i<items.size->items[i]? =some (.ref (ad i))/\IsTupleKey (intKind prog w) s.heap (kk i) (ad i))
  (h:∀(h':Qb) (tk:Nat) (es:Array (Int×P3)),dU h' s.heap.objs.size y.1 es->EsK kk ad items.size es y.2->
   (∀b o,b<s.heap.objs.size->s.heap.get? b=some o->h'.get? b=some o)->Q (.ref s.heap.objs.size) {s with heap:=h',toks:=tk}):
  wpAny (model prog w) A (call (.type "set") [.ref l]) Q E s:=by
 obtain⟨c,tl,hmro⟩:=Co.mro;have hmade:=Co.made;have MU:=Co.sub;refine wpAny_call (codeAny_of_tree ?_);show wpAny _ _ (callAny (.type "set") _) _ _ _;refine A3 ⟨Code.quiet_builtin _ (by ac_nf),Bv F.entry_type_call ?_⟩;rw[Around.under_plain (weight_type_call_type "set" [.ref l] []) rfl];have h1:=Co.notType;have h2:=Co.canCreate;have hct:=F.typeCall_set_1 (.ref l)
 repeat (any_goals (first|assumption|wp_step))
 refine D7 (Fs (.ref l) (E:=E) (Q₁:=λobj s₁=>obj= .ref s.heap.objs.size/\s₁={s with heap:=s.heap.push {cls:= .type "set",dict:=none,data:= .set #[] 0 (.fresh 0 0 (!w.params.followText "set-order"))}}) ⟨rfl,rfl⟩) λr s₁ hr=> ?_;generalize (!w.params.followText "set-order")=led at LO hr;cases r with
 |error e=>exact hr
 |ok fl=>
  cases fl with
  |ret obj=>
   obtain⟨rfl,rfl⟩:=hr;have hS:(s.heap.push {cls:= .type "set",dict:=none,data:= .set #[] 0 (.fresh 0 0 led)}).get? s.heap.objs.size=some {cls:= .type "set",dict:=none,data:= .set #[] 0 (.fresh 0 0 led)}:=AI _ rfl;have hT:Shared.TypeIs {s with heap:=s.heap.push {cls:= .type "set",dict:=none,data:= .set #[] 0 (.fresh 0 0 led)}} (.ref s.heap.objs.size) "set":=⟨_,hS,rfl⟩;have Nk:=Co.init.lookup;have Ob:=Co.init.bind (.ref s.heap.objs.size)
   repeat (any_goals (first|assumption|wp_step))
   refine D7 (codeAny_call_builtin (R:=wants (λr s₂=>r= .none/\∃h' tk es,s₂={s with heap:=h',toks:=tk}/\
     dU h' s.heap.objs.size y.1 es/\EsK kk ad items.size es y.2/\
     (∀b o,b<s.heap.objs.size->s.heap.get? b=some o->h'.get? b=some o)) E) Co.init.plain F.entry_set_init (check_set_init_1 hT ?_)) λr₂ s₂ hr₂=> ?_
   .obtain⟨ol,hol,N4,nl,Pi⟩:=hl;obtain⟨ocls,odict,odata,Pj⟩:=ol;simp only at N4 Pi;subst N4;subst Pi;have hol':(s.heap.push {cls:= .type "set",dict:=none,data:= .set #[] 0 (.fresh 0 0 led)}).get? l=some {cls:= .type "list",dict:=odict,data:= .seq items nl,slots:=Pj}:=A5 _ hol;have hsls:=F.sub_list_set;have hslf:=F.sub_list_frozenset;have Lp:(Value.type "list"==Value.type "dict")=false:=by decide
    have L8:(s.heap.push {cls:= .type "set",dict:=none,data:= .set #[] 0 (.fresh 0 0 led)}).IsList l items:=⟨_,hol',rfl,nl,rfl⟩;unfold Builtin.«set.__init__» noKeywords Builtin.Frozenset.updateFrom;generalize hPI:pyIter=PI
    wp_walk
    subst hPI;refine wpAny_pyIter_list L8 ?_;refine A0 (wpAny_runValue ?_);have hlS:l<s.heap.objs.size:=AL hol;have hh3:A.in1.in1.in1.handled=none:=by simp[hh]
    have hneI:l≠(s.heap.push {cls:= .type "set",dict:=none,data:= .set #[] 0 (.fresh 0 0 led)}).objs.size:=by
     rw[B7];exact AO (Ak hlS)
    have hSf:s.heap.objs.size∉[(s.heap.push {cls:= .type "set",dict:=none,data:= .set #[] 0 (.fresh 0 0 led)}).objs.size,l]:=by
     rw[B7];simp only[AM,Aq,B1,Bs,not_or];exact⟨AO (BU _),BZ hlS⟩
    refine Fq ((Walks.list hh3 _ l hneI items).toS) s.heap.objs.size
     hSf ?hu kk ad ?hval ?hwr hxs (tX LO) (items.size-0) 0 _ #[] _ (by lia) (AJ _)
     ⟨⟨_,AI _ rfl,rfl,rfl⟩,(L8.push _)⟩ ?hS0 ?hE0 rfl ?hkk ?hR
    case hu=>show A.units+3<cLine;lia
    case hval=>
     intro i v hv;have hi:i<items.size:=tV hv;rw[(hk i hi).1,Option.some.injEq] at hv;exact hv.symm
    case hwr=>
     intro i hi;obtain⟨o,_,_,ho,_⟩:=(hk i hi).2;have:=AL ho;rw[B7];simp only[AM,B1,Bs];exact AO (Ak this)
    case hS0=>exact⟨_,A5 _ hS⟩
    case hE0=>exact⟨rfl,λi k e=>by simp at e⟩
    case hkk=>exact λj hj=>nv (hk j hj).2 λo e=>A5 _ (A5 _ e)
    case hR=>
     intro s' Lb y' hm Oa ek' LZ;rw[<-hxl,AQ,LO] at LZ;cases LZ;obtain⟨h',g',d',tk',O0⟩:=s';have eg:g'=s.gens:=hm.gens;have ed:d'=s.drawn:=hm.drawn;have eo:O0=s.os:=hm.os;subst eg;subst ed;subst eo;show wpAny _ _ _ _ _ _;refine A3 ?_;show wpAny _ _ (ret Value.none) _ _ _;refine A3 ⟨rfl,h',tk',Lb,rfl,Oa,ek',λb o hb e=> ?_⟩;have hb1:b≠s.heap.objs.size:=AO hb;have hb2:b≠(s.heap.push {cls:= .type "set",dict:=none,data:= .set #[] 0 (.fresh 0 0 led)}).objs.size:=by
      rw[B7];exact AO (Ak hb)
     exact hm.heap b o (by simp only[AM,Aq,B1,Bs,not_or];exact⟨hb1,hb2⟩) (A5 _ (A5 _ e))
   .cases r₂ with
    |error e=>exact hr₂
    |ok fl₂=>
     cases fl₂ with
     |ret r=>
      obtain⟨rfl,h',tk,es,rfl,Oa,ek',Mz⟩:=hr₂
      repeat (any_goals (first|assumption|wp_step))
      exact h _ _ _ Oa ek' Mz
     |_=>exact hr₂.elim
  |_=>exact hr.elim
end
theorem Fu:entryFor table "set.__iter__"=some Builtin.«frozenset.__iter__»:=
 entryFor_alias (id':="frozenset.__iter__") (by kernel_rfl) rfl (by ac_nf) (by kernel_rfl)
theorem ug:Slot "set_iterator" "__iter__" "set_iterator.__iter__":=
 .of (owner:="set_iterator") (n:="__iter__") (by rw[typeLookup_type,builtinLookup_eq_fast];kernel_rfl) (by ac_nf) (by ac_nf) (by ac_nf)
  (by first|exact .inl (by ac_nf)|exact .inr (by ac_nf)) (by rw[isSubtype_type];kernel_rfl)
theorem Fv:entryFor table "set_iterator.__iter__"=some Builtin.«dict_keyiterator.__iter__»:=
 entryFor_alias (id':="dict_keyiterator.__iter__") (by kernel_rfl) rfl (by ac_nf) (by kernel_rfl)
theorem Fw (a:P3):argsOk "set_iterator.__iter__" ⟨[a],[]⟩:=by unfold argsOk;kernel_rfl
theorem g7:Slot "set_iterator" "__next__" "set_iterator.__next__":=
 .of (owner:="set_iterator") (n:="__next__") (by rw[typeLookup_type,builtinLookup_eq_fast];kernel_rfl) (by ac_nf) (by ac_nf) (by ac_nf)
  (by first|exact .inl (by ac_nf)|exact .inr (by ac_nf)) (by rw[isSubtype_type];kernel_rfl)
theorem uh:entryFor table "set_iterator.__next__"=some Builtin.«set_iterator.__next__»:=entryFor_of_tree (by kernel_rfl)
theorem ui (a:P3):argsOk "set_iterator.__next__" ⟨[a],[]⟩:=by unfold argsOk;kernel_rfl
theorem uj {α:Type}:∀(l:P' α) (i:Nat) (h:i<l.length),([l[i]]++l.eraseIdx i).Perm l
 |[],i,h=>absurd h (by simp)
 |a::l,0,h=>by simp
 |a::l,i+1,h=>by
  have hi:i<l.length:=by simpa using h
  have:=uj l i hi;simp only[List.getElem_cons_succ,List.eraseIdx_cons_succ,List.singleton_append] at this⊢;exact(List.Perm.swap a l[i] _).trans (this.cons a)
theorem uk {α:Type} (next:Nat->Nat):∀(f k:Nat) (left:P' α) (KU:Array α),left.length=f->(pickOrder.go next f k left KU).toList.Perm (KU.toList++left)
 |0,k,left,KU,e=>by
  have:left=[]:=BQ.mp e;subst this;unfold pickOrder.go;simp
 |f+1,k,left,KU,e=>by
  have hp:next k%left.length<left.length:=Nat.mod_lt _ (by lia);unfold pickOrder.go;rw[A2 hp];dsimp only;refine(uk next f (k+1) _ _ (by rw[List.length_eraseIdx_of_lt hp];lia)).trans ?_;rw[Array.toList_push,B0];refine List.Perm.append_left _ ?_;exact uj left _ hp
theorem Fx {α:Type} (next:Nat->Nat) (xs:Array α):(pickOrder next xs).toList.Perm xs.toList:=by
 unfold pickOrder;simpa using uk next xs.size 0 xs.toList #[] (by simp)
def fe (w:P8) (a:P5) (ep:Nat) (es:Array (Int×P3)):Array (Int×P3):=if w.params.followText "set-order" then pickOrder (w.params.setOrder a ep) es else es
theorem um (w:P8) (a:P5) (ep:Nat) (es:Array (Int×P3)):(fe w a ep es).toList.Perm es.toList:=by
 unfold fe;split
 .exact Fx _ _
 .exact List.Perm.refl _
theorem ny (w:P8) (a:P5) (ep:Nat) (es:Array (Int×P3)):(fe w a ep es).size=es.size:=by
 have:=(um w a ep es).length_eq;simpa using this
def bL (w:P8) (t:SetTable) (i:Nat):Nat:=if w.params.followText "set-order" then 0 else if i=0 then 0 else t.place.getD (i-1) 0+1
theorem uo (r:Ris xs) {j:Nat} (hp:p<=xs.size) (h1:∀i,i<p->xs.getD i 0<j) (h2:∀i,p<=i->i<xs.size->j<=xs.getD i 0):below xs j=p:=by
 obtain⟨a1,a2,a3⟩:=Fi r j;rcases Nat.lt_trichotomy (below xs j) p with c|c|c
 .have:=h1 _ c;have:=a3 _ (A8 _) (by lia);lia
 .exact c
 .have:=a2 _ c;have:=h2 p (A8 _) (by lia);lia
theorem Fy {t:SetTable} (r:Ris t.place) (hi:i<=t.place.size):below t.place (if i=0 then 0 else t.place.getD (i-1) 0+1)=i:=by
 by_cases z:i=0
 .subst z;exact uo r (AJ _) (λi h=>absurd h (by lia)) λi _ _=>AJ _
 .rw [A6 z];refine uo r hi (λj hj=> ?_) λj h1 h2=> ?_
  .rcases Bp j (i-1) with c|c
   .have:=r j (i-1) c (by lia);lia
   .have:j=i-1:=by lia
    subst this;lia
  .have:=r (i-1) j (by lia) h2;lia
section
variable {prog:P6}{w:P8}{A:P9}{E:P3->P4->Prop}{s:P4}
def Fz (a:Addr) (slot given epochThen:Nat):setNext a slot given epochThen=(do
  let (es,epoch,t)<-setState a
  if<-setsByText then
   if epoch !=epochThen then unsupported "set_iterator.__next__:elements-changed"
   return ((<-setWalk a)[given]?).map λe=>(e.2,slot)
  if !t.plain&&es.size>1 then unsupported "set_iterator.__next__:the-table-is-plain-no-more"
  (do if !t.led&& !es.isEmpty then unsupported "set:maker-not-led":Sem Unit)
  let i:=SetTable.below t.place slot
  return match es[i]?,t.place[i]? with
   |some (_,x),some j=>some (x,j+1)
   |_,_=>none):=rfl
theorem uq {es:Array (Int×P3)}{ep:Nat}{t:SetTable}{i:Nat}{Q:Qc (P3×Nat)->P4->Prop}
  (ho:s.heap.get? S=some {cls:= .type "set",dict:=none,data:= .set es ep t}) (b:Tb t es) (hs:es.size<=t.mask) (hl:t.led= !w.params.followText "set-order") (hp:t.plain=true) (hi:i<=es.size)
  (h:Q (((fe w S ep es)[i]?).map λe=>(e.2,bL w t (i+1))) s):wpAny (model prog w) A (setNext S (bL w t i) i ep) Q E s:=by
 have hf:=kH b hs;rw[Fz];refine A0 (BS ho rfl hf ?_);dsimp only;unfold setsByText;refine A0 (A0 (DN (A3 ?_)));show wpAny _ _ (if(w.params.followText "set-order")=true then _ else _) _ _ s;unfold fe bL at h;unfold bL;cases ht:w.params.followText "set-order" with
 |true=>
  rw[ht] at h;simp only[C5] at h⊢;simp only[Cv,AK,Av];unfold setWalk;refine A0 (A0 (BS ho rfl hf ?_));dsimp only;unfold setsByText;refine A0 (A0 (DN (A3 ?_)));show wpAny _ _ (if(w.params.followText "set-order")=true then _ else _) _ _ s;rw[ht];simp only[C5];refine A0 (DN (A3 ?_));exact A3 h
 |false=>
  rw[ht] at h hl;simp only[AK,Av] at h⊢;rw[hp,hl];simp only[BJ,Cw,Bool.false_and,AK,Av];refine A0 (A3 ?_);rw[Fy b.ris (by rw[b.size];exact hi)];refine A3 ?_;rcases Bp i es.size with c|c
  .have c':i<t.place.size:=by rw[b.size];exact c
   have e2:t.place.getD (i+1-1) 0=t.place[i]:=by simp[Array.getD,c']
   rw[Ac c] at h⊢;rw[Ac c'];rw[A6 (by lia),e2] at h;exact h
  .rw [BK c] at h⊢;exact h
def dW (h:Qb) (it S:P5) (slot i n ep:Nat):Prop:=∃o,h.get? it=some o/\o.cls= .type "set_iterator"/\o.data= .fields #[.int slot 0, .int i 0, .ref S, .int n 0, .int ep 0]
def dW.typeIs (x:dW s.heap it S slot i n ep):s.TypeIs (.ref it) "set_iterator":=let ⟨o,ho,hc,_⟩:=x;⟨o,ho,hc⟩
def dW.mv (x:dW h it S slot i n ep) (e:∀o,h.get? it=some o->h'.get? it=some o):dW h' it S slot i n ep:=let ⟨o,ho,r⟩:=x;⟨o,e _ ho,r⟩
theorem FA {es:Array (Int×P3)}{ep:Nat}{t:SetTable}{Q:P3->P4->Prop}
  (ho:s.heap.get? S=some {cls:= .type "set",dict:=none,data:= .set es ep t}) (b:Tb t es) (hs:es.size<=t.mask) (hp:t.plain=true)
  (h:Q (.ref s.heap.objs.size) {s with heap:=s.heap.push {cls:= .type "set_iterator",data:= .fields #[.int (bL w t 0:Nat) 0, .int (0:Nat) 0, .ref S, .int es.size 0, .int ep 0]}}):
  wpAny (model prog w) A (pyIter (.ref S)) Q E s:=by
 have hT:s.TypeIs (.ref S) "set":=⟨_,ho,rfl⟩;have hf:=kH b hs;refine wpAny_pyIter_slot hT F.slot_set_iter (Aj F.slot_set_iter hT Fu ?_ (F.args_set_iter_1 _));unfold Builtin.«frozenset.__iter__» Builtin.Frozenset.slot0 slotArgs;simp only[List.isEmpty_nil,BJ,AK,↓reduceIte,bind_assoc,C2,Cv];unfold Builtin.Frozenset.addrOf Builtin.Frozenset.sizeOf setEntries;refine A0 (A3 ?_);try dsimp only
 refine A0 (A3 ?_);refine A0 (A0 (A0 (BS ho rfl hf (A3 (A3 ?_)))));have hdr:∀{Q':Bool->P4->Prop},Q' false s->wpAny (model prog w) A.in1 (setDrawn S) Q' E s:=by
  intro Q' q;unfold setDrawn;refine A0 (BS ho rfl hf ?_);dsimp only;unfold setsByText;refine A0 (A0 (DN (A3 ?_)));refine A3 ?_;have:(!t.plain&&decide (es.size>1))=false:=by rw[hp];rfl
  show Q' (!w.params.followText "set-order"&&(!t.plain&&decide (es.size>1))) s;rw[this,CV];exact q
 refine A0 (hdr ?_);simp only[AK,Av];refine A0 (A3 ?_);refine A0 (wpAny_setEpoch_of ho rfl hf ?_);unfold newFields;refine A0 (Au (A3 ⟨_,rfl,"set_iterator",_,⟨_,AI _ rfl,rfl⟩,g7.lookup, ?_⟩));have e0:bL w t 0=0:=by unfold bL;split<;>rfl
 rw[e0] at h;simpa[rawInt] using h
def ur {vs:Array P3} (ho:h.get? a=some o) (hd:o.data= .fields vs) (f:Array P3->Array P3):
  ∃o',(h.update a (Obj.mapFields f)).get? a=some o'/\o'.cls=o.cls/\o'.data= .fields (f vs):=
 ⟨_,CB _ ho (DI (Br hd _)),Obj.cls_mapFields ..,Br hd _⟩
theorem FB {t:SetTable}{e:Int×P3}{Q:Qc P3->P4->Prop} (KI:dW s.heap it S (bL w t i) i es.size ep)
  (ho:s.heap.get? S=some {cls:= .type "set",dict:=none,data:= .set es ep t}) (b:Tb t es) (hs:es.size<=t.mask) (hl:t.led= !w.params.followText "set-order") (hp:t.plain=true) (hi:i<es.size)
  (he:(fe w S ep es)[i]? =some e) (hQ:∀h',dW h' it S (bL w t (i+1)) (i+1) es.size ep->Heap.SameBut it s.heap h'->Q (some e.2) {s with heap:=h'}):
  wpAny (model prog w) A (pyNext (.ref it)) Q E s:=by
 obtain⟨o,hoi,hc,hd⟩:=id KI;have hf:=kH b hs;unfold pyNext;refine A0 (By (B5 (name:=Str.ofString "__next__") KI.typeIs g7
  (Aj g7 KI.typeIs uh ?_ (ui _))))
 show wpAny _ _ (fieldsOf (.ref it)>>=_) _ _ s;refine A0 (D6 hoi hd ?_);dsimp only;unfold setEntries;refine A0 (A0 (BS ho rfl hf (A3 ?_)));dsimp only;rw[A6 (by simp)];simp only[AV];refine A0 (uq ho b hs hl hp (AT hi) ?_);rw[he];dsimp only[Option.map_some];refine A0 (C3 hoi hd (by simp) ?_);obtain⟨o1,Lm,NP,OE⟩:=ur hoi hd (·.setIfInBounds 0 (rawInt (bL w t (i+1):Nat)));have sb1:=BE s.heap it (Obj.mapFields (·.setIfInBounds 0 (rawInt (bL w t (i+1):Nat))));generalize s.heap.update it (Obj.mapFields (·.setIfInBounds 0 (rawInt (bL w t (i+1):Nat))))=h1 at Lm sb1⊢;refine A0 (C3 (s:={s with heap:=h1}) Lm OE (by simp) ?_);obtain⟨o2,LF,Lo,LP⟩:=ur Lm OE (·.setIfInBounds 1 (rawInt ((i:Int)+1)));have sb2:=BE h1 it (Obj.mapFields (·.setIfInBounds 1 (rawInt ((i:Int)+1))));dsimp only;generalize h1.update it (Obj.mapFields (·.setIfInBounds 1 (rawInt ((i:Int)+1))))=h2 at LF sb2⊢;refine A3 ⟨_,rfl,A3 (hQ _ ⟨o2,LF,by rw[Lo,NP,hc], ?_⟩ (sb1.trans sb2))⟩;rw[LP];simp[rawInt]
theorem FC {t:SetTable}{Q:Qc P3->P4->Prop} (hh:A.handled=none) (KI:dW s.heap it S (bL w t es.size) es.size es.size ep)
  (ho:s.heap.get? S=some {cls:= .type "set",dict:=none,data:= .set es ep t}) (b:Tb t es) (hs:es.size<=t.mask) (hl:t.led= !w.params.followText "set-order") (hp:t.plain=true)
  (hQ:∀h',Heap.ExtBut it s.heap h'->Q none {s with heap:=h'}):
  wpAny (model prog w) A (pyNext (.ref it)) Q E s:=by
 obtain⟨o,hoi,hc,hd⟩:=id KI;have hf:=kH b hs;unfold pyNext;refine A0 (By (B5 (name:=Str.ofString "__next__") KI.typeIs g7
  (Aj g7 KI.typeIs uh ?_ (ui _))))
 show wpAny _ _ (fieldsOf (.ref it)>>=_) _ _ s;refine A0 (D6 hoi hd ?_);dsimp only;unfold setEntries;refine A0 (A0 (BS ho rfl hf (A3 ?_)));dsimp only;rw[A6 (by simp)];simp only[AV];refine A0 (uq ho b hs hl hp (A8 _) ?_);rw[BK (by rw[ny];exact A8 _)];dsimp only[Option.map_none];refine A0 (C3 hoi hd (by simp) ?_);show wpAny _ _ (newExc (.type "StopIteration") []>>=_) _ _ _;refine A0 ?_;simp only[newExc,newTuple];refine A0 (Au ?_ (by size_fits));refine A0 (m:=firstArgMember _ _) (DS (a:=Value.none) (by first|rfl|(simp only[firstArgMember];rfl)) ?_);refine Au ?_ (by size_fits);simp -iota only[raiseNew];refine A0 (wpAny_handled ?_);rw[show A.in1.handled=none from hh];refine A0 (A3 (wpAny_throw ?_));refine A0 (Bz (T:="StopIteration") (b:=true) ⟨_,AI _ rfl,rfl⟩ isSubtype_stop ?_);exact A3 (hQ _ (((BE ..).extBut.push _).push _))
theorem FD (hh:A.handled=none) (I S:P5) (Lp:S≠I) {t:SetTable} (b:Tb t es) (hs:es.size<=t.mask) (hl:t.led= !w.params.followText "set-order") (hp:t.plain=true):
  Walks prog w A I [I,S] [I] es.size (λi v=>∃e,(fe w S ep es)[i]? =some e/\v=e.2) (λi h=>dW h I S (bL w t i) i es.size ep/\h.get? S=some {cls:= .type "set",dict:=none,data:= .set es ep t}) where
 sub:=λb hb=>by simp at hb;simp[hb]
 frame:=λ_ _ _ st hk=>⟨st.1.mv λo e=>hk I (by simp) o e,hk S (by simp) _ st.2⟩
 item:=λi s Q E hi st hQ=>by
  have Mr:i<(fe w S ep es).size:=by rw[ny];exact hi
  refine FB st.1 st.2 b hs hl hp hi (Ac Mr) λh' MC Pa=> ?_;exact hQ _ h' s.toks ⟨_,Ac Mr,rfl⟩ ⟨MC,Pa.extBut S _ Lp st.2⟩ λb o hb e=>Pa.extBut b o (λh=>hb (by simp[h])) e
 done:=λs Q E st hQ=>FC hh st.1 st.2 b hs hl hp λh' N9=>hQ h' s.toks λb o hb e=>N9 b o (λh=>hb (by simp[h])) e
 self:=λ_ s _ _ st hQ=>by
  refine wpAny_pyIter_slot st.1.typeIs ug (Aj ug st.1.typeIs Fv ?_ (Fw _));show wpAny _ _ (ret (.ref I)) _ _ s;exact A3 ⟨_,rfl,"set_iterator",_,st.1.typeIs,g7.lookup,hQ⟩
end
open PySem.W
section
variable {prog:P6}{w:P8}{A:P9}{E:P3->P4->Prop}{s:P4}
theorem FE {es:Array (Int×P3)}{ep:Nat}{t:SetTable}{Q:P' P3->P4->Prop} (hh:A.handled=none)
  (ho:s.heap.get? S=some {cls:= .type "set",dict:=none,data:= .set es ep t}) (b:Tb t es) (hs:es.size<=t.mask) (hl:t.led= !w.params.followText "set-order") (hp:t.plain=true)
  (hQ:∀h' tk vs,(∀b o,s.heap.get? b=some o->h'.get? b=some o)->s.heap.objs.size<=h'.objs.size->vs.Perm (es.toList.map (·.2))->Q vs {s with heap:=h',toks:=tk}):
  wpAny (model prog w) A (collect (.ref S)) Q E s:=by
 unfold collect;refine A0 (wpAny_runValue (Bv F.entry_proto_collect ?_));rw[Bu F.plain_proto_collect _];show wpAny _ A.in1 (newList []>>=λl=>again (.builtin "list.__iadd__" ⟨[l, .ref S],[]⟩)) _ _ s;refine A0 (Au ?_);refine A3 ⟨DR F.plain_list_iadd _,Bv F.entry_list_iadd ?_⟩;rw[Bu F.plain_list_iadd _];show wpAny _ A.in1 (Builtin.List.listExtendWith (.ref s.heap.objs.size) (.ref S) (.ref s.heap.objs.size)) _ _ _;have hS:S<s.heap.objs.size:=AL ho;have Lm:(s.heap.push {cls:= .type "list",data:= .seq ([]:P' P3).toArray}).get? S=some {cls:= .type "set",dict:=none,data:= .set es ep t}:=A5 _ ho;have hT:Shared.TypeIs {s with heap:=s.heap.push {cls:= .type "list",data:= .seq ([]:P' P3).toArray}} (.ref S) "set":=⟨_,Lm,rfl⟩;unfold Builtin.List.listExtendWith;refine A0 (DU hT ?_);have h1:Builtin.List.listSameRef (.ref s.heap.objs.size) (.ref S)=false:=by
  show(s.heap.objs.size==S)=false;exact Ce.mpr (BZ hS)
 have h2:(Value.type "set"==Value.type "list")=false:=by decide
 have h3:(Value.type "set"==Value.type "tuple")=false:=by decide
 simp only[h1,h2,h3,Bool.or_false,AK,Av];refine A0 (FA Lm b hs hp ?_);refine A0 (Aw ?_);unfold Builtin.List.listLengthHint;generalize hH:s.heap.push {cls:= .type "list",data:= .seq ([]:P' P3).toArray}=H at Lm hT⊢;have hHs:H.objs.size=s.heap.objs.size+1:=by rw[<-hH,B7]
 have O':Shared.TypeIs {s with heap:=H.push {cls:= .type "set_iterator",data:= .fields #[.int (bL w t 0:Nat) 0, .int (0:Nat) 0, .ref S, .int es.size 0, .int ep 0]}} (.ref S) "set":=⟨_,A5 _ Lm,rfl⟩;refine A0 (CS O' F.slot_set_len.lookup ?_)
 wp_delta
 refine A0 (Bz (b:=true) O' (by rw[isSubtype_type];kernel_rfl) ?_);show wpAny _ A.in1 (typeOf (.ref S)>>=_) _ _ _;refine A0 (DU O' ?_);refine A3 ?_;rw[AB (by decide)];refine A0 (C4 ?_);unfold Builtin.List.listTouch;have Lp:S≠H.objs.size:=by rw[hHs];exact AO (Ak hS)
 have hI0:dW (H.push {cls:= .type "set_iterator",data:= .fields #[.int (bL w t 0:Nat) 0, .int (0:Nat) 0, .ref S, .int es.size 0, .int ep 0]}) H.objs.size S (bL w t 0) 0 es.size ep:=⟨_,AI _ rfl,rfl,rfl⟩;have hL:(H.push {cls:= .type "set_iterator",data:= .fields #[.int (bL w t 0:Nat) 0, .int (0:Nat) 0, .ref S, .int es.size 0, .int ep 0]}).get? s.heap.objs.size=some (seqObj "list" #[] 0):=A5 _ (hH▸AI _ rfl);have hS2:(H.push {cls:= .type "set_iterator",data:= .fields #[.int (bL w t 0:Nat) 0, .int (0:Nat) 0, .ref S, .int es.size 0, .int ep 0]}).get? S=some {cls:= .type "set",dict:=none,data:= .set es ep t}:=A5 _ Lm;have hold:∀b o,s.heap.get? b=some o->(H.push {cls:= .type "set_iterator",data:= .fields #[.int (bL w t 0:Nat) 0, .int (0:Nat) 0, .ref S, .int es.size 0, .int ep 0]}).get? b=some o:=λb o e=>A5 _ (hH▸A5 _ e);have hsz:(H.push {cls:= .type "set_iterator",data:= .fields #[.int (bL w t 0:Nat) 0, .int (0:Nat) 0, .ref S, .int es.size 0, .int ep 0]}).objs.size=s.heap.objs.size+2:=by rw[B7,hHs]
 generalize H.push {cls:= .type "set_iterator",data:= .fields #[.int (bL w t 0:Nat) 0, .int (0:Nat) 0, .ref S, .int es.size 0, .int ep 0]}=H1 at hI0 hL hS2 hold hsz⊢;refine A0 (A0 (Cn (s:={s with heap:=H1}) hL rfl ?_ (AJ _) (by decide)));have Pk:=Ch hL (λx=>x.push Value.none);have Ld:∀b,b≠s.heap.objs.size->(H1.update s.heap.objs.size (Obj.mapSeq λx=>x.push Value.none)).get? b=H1.get? b:=(BE H1 s.heap.objs.size _).2;dsimp only;generalize H1.update s.heap.objs.size (Obj.mapSeq λx=>x.push Value.none)=H2 at Pk Ld⊢;refine Cn (s:={s with heap:=H2}) Pk rfl ?_ (by simp[B3]) (by simp);have hL2:=Ch Pk (λx=>x.pop);have L7:∀b,b≠s.heap.objs.size->(H2.update s.heap.objs.size (Obj.mapSeq λx=>x.pop)).get? b=H2.get? b:=(BE H2 s.heap.objs.size _).2;dsimp only;generalize H2.update s.heap.objs.size (Obj.mapSeq λx=>x.pop)=H3 at hL2 L7⊢;have hk3:∀b o,b≠s.heap.objs.size->H1.get? b=some o->H3.get? b=some o:=λb o hb e=>by rw[L7 b hb,Ld b hb];exact e
 have hSf:s.heap.objs.size∉[H.objs.size,S]:=by
  rw[hHs];simp only[AM,B1,Bs,not_or];exact⟨AO (BU _),BZ hS⟩
 have hSn:S≠s.heap.objs.size:=AO hS;have hHn:H.objs.size≠s.heap.objs.size:=by rw[hHs];exact BZ (BU _)
 refine A3 ⟨DR F.plain_extend_loop _,codeAny_extend_loopS (FD (A:=A.in1) (ep:=ep) hh H.objs.size S Lp b hs hl hp).toS ?_ _ hSf _ es.size 0 _ _ _ rfl (AJ _) ⟨hI0.mv λo e=>hk3 _ o hHn e,hk3 S _ hSn hS2⟩ hL2 (ItemsOf.nil _) λs' Pl c' hm Oa Ky=> ?_⟩
 .have:=b.few;rw[B3];lia
 show wpAny _ A (load s.heap.objs.size>>=_) _ _ s';refine A0 (wpAny_load Oa ?_);obtain⟨h',g',d',tk',O0⟩:=s';have eg:g'=s.gens:=hm.gens;have ed:d'=s.drawn:=hm.drawn;have eo:O0=s.os:=hm.os;subst eg;subst ed;subst eo;refine A3 (hQ h' tk' Pl.toList (λb o e=> ?_) (AT (AL Oa)) ?_)
 .have KD:=AL e;refine hm.heap b o (λhb=> ?_) (hk3 b o (AO KD) (hold b o e));simp only[AM,B1,Bs] at hb;rcases hb with hb|hb
  .exact absurd KD (by rw[hb];exact CF _)
  .rw [hb,hHs] at KD;exact absurd KD (Nat.not_lt.mpr (CH _))
 .have:Pl.toList=(fe w S ep es).toList.map (·.2):=by
   apply List.ext_getElem?;intro i;rw[AE,BN,BN];rcases Bp i es.size with c|c
   .have hi:i<Pl.size:=by rw[Ky.1];exact c
    obtain⟨e,he,hv⟩:=Ky.2 i _ (Ac hi);rw[Ac hi,hv,he];rfl
   .rw [BK (by rw[Ky.1];exact c),BK (by rw[ny];exact c)];rfl
  rw[this];exact(um w S ep es).map _
abbrev lsH (h:Qb) (vs:P' P3):Qb:=h.push (seqObj "list" vs.toArray 0)
def jk (h:Qb) (vs:P' P3):(lsH h vs).get? h.objs.size=some (seqObj "list" vs.toArray 0):=AI _ rfl
theorem nz (hb:h.get? b=some o):(bp (lsH h vs) h.objs.size vs).get? b=some o:=by
 have KD:b<h.objs.size:=AL hb;have n0:b≠h.objs.size:=AO KD;have n1:b≠h.objs.size+1:=AO (Ak KD);have n2:b≠h.objs.size+1+1:=AO (Ak (Ak KD));rw[BB _ _ _ (by rw[Bq,B',Bq];exact n2),BB _ _ _ (by rw[B',Bq];exact n1),DT _ _ _ _ n0,BB _ _ _ n0];exact hb
theorem ut {KU:Array P3}(hb:h.get? b=some o):(sortedHeap (lsH h vs) h.objs.size vs KU).get? b=some o:=by
 unfold sortedHeap;rw[DT _ _ _ _ (AO (AL hb))];exact nz hb
theorem uv (h:Qb) (vs:P' P3) (KU:Array P3):∃e,(sortedHeap (lsH h vs) h.objs.size vs KU).get? h.objs.size=some (seqObj "list" KU e):=by
 obtain⟨e1,Lm⟩:∃e1,((lsH h vs).update h.objs.size (Obj.mapSeq λ_=>(#[]:Array P3))).get? h.objs.size=some (seqObj "list" #[] e1):=⟨_,Ch (jk h vs) (λ_=> #[])⟩;have MM:(bp (lsH h vs) h.objs.size vs).get? h.objs.size=some (seqObj "list" #[] e1):=by
  rw[BB _ _ _ (by rw[Bq,B',Bq];exact AO (Ak (BU _))),BB _ _ _ (by rw[B',Bq];exact AO (BU _))];exact Lm
 exact⟨_,Ch MM (λ_=>KU)⟩
theorem FF {v:P3}{g8:P' P3->P4->Prop}{Q:P3->P4->Prop} (hcol:wpAny (model prog w) A.in1 (collect v) g8 E s)
  (h:∀vs s1,g8 vs s1->vs.length<64/\(vs.length<2->Q (.ref s1.heap.objs.size) {s1 with heap:=sortedHeap (lsH s1.heap vs) s1.heap.objs.size vs vs.toArray})/\
   (2<=vs.length->∃(c:Nat->Nat->Bool) (kd:SortKind),
    (∀(R:SortKind->P4->Prop) (E:P3->P4->Prop),R kd {s1 with heap:=bp (lsH s1.heap vs) s1.heap.objs.size vs}->wpAny (model prog w) A.in1.in1 (keyKind' vs.toArray) R E {s1 with heap:=bp (lsH s1.heap vs) s1.heap.objs.size vs})/\
    (∀i j,i<vs.length->j<vs.length->∀C:Bool->P4->Prop,C (c i j) {s1 with heap:=bp (lsH s1.heap vs) s1.heap.objs.size vs}->wpAny (model prog w) A.in1.in1 (keyLt' kd (vs.getD i .none) (vs.getD j .none)) C (λ_ _=>False) {s1 with heap:=bp (lsH s1.heap vs) s1.heap.objs.size vs})/\
    ∀p,Ord vs.length p->p=aM c (kas_sort vs.length)->Q (.ref s1.heap.objs.size) {s1 with heap:=sortedHeap (lsH s1.heap vs) s1.heap.objs.size vs (p.map λi=>vs.getD i .none)})):
  wpAny (model prog w) A (call (.builtin "sorted") [v]) Q E s:=by
 refine Cr kind_sorted plain_sorted entry_sorted (args_sorted1 _) ?_;unfold Builtin.«sorted»;refine A0 (m:=checkCount "sorted" 1 1 _) (A3 ?_);refine A0 (thn hcol λvs s1 g=> ?_);obtain⟨h64,few,many⟩:=h vs s1 g;refine A0 (Cu ?_ (by rw[B3];lia));show wpAny _ _ _ _ _ {s1 with heap:=lsH s1.heap vs};by_cases h2:vs.length<2
 .refine A0 (Aw (Aj DZ ⟨_,jk s1.heap vs,rfl⟩ DX (sR (s:={s1 with heap:=lsH s1.heap vs}) (jk s1.heap vs) h2 ⟨_,rfl, ?_⟩) (Da _)));exact A3 ⟨_,rfl,few h2⟩
 .obtain⟨c,kd,M6,hc,hq⟩:=many (by lia);refine A0 (Aw (Aj DZ ⟨_,jk s1.heap vs,rfl⟩ DX (tS (c:=c) (s:={s1 with heap:=lsH s1.heap vs}) (jk s1.heap vs) (by lia) h64 (λR=>M6 R _) hc λp hp Nh=>⟨_,rfl, ?_⟩) (Da _)));exact A3 ⟨_,rfl,hq p hp Nh⟩
end
section
variable {X:Cx}{Ku:P' (P5×Obj)}{σ:St}{H:Hp}{s:P4}
theorem uw:∀{xs:P' Int}{vs:P' P3},ap (xs.map V.int) vs->∀(prog:P6) (w:P8),ItemsAre (intKind prog w) xs vs
 |[],_, .nil,_,_=> .nil
 |x::xs,_, .cons r1 r2,prog,w=>by
  obtain⟨t,rfl⟩:=r1;exact .cons (intKind_is prog w x t) (uw r2 prog w)
theorem FG (I:Inv X Ku σ H s) {xs:P' Int} (h:SqT X.K H a (xs.map V.int)):IsTupleKey (intKind X.prog X.w) s.heap xs a:=by
 obtain⟨Kx,r,p,z⟩:=I.tuple h;obtain⟨o,ho,hc,n,hd⟩:=p;exact⟨o,_,n,ho,hc,hd,uw r _ _⟩
theorem FH {A:P9}{k:Nat} (hr:Room k A):A.units+8<cLine:=Nat.lt_of_le_of_lt (Nat.add_le_add_left (by decide:8<=64) _) hr.units
def ssB (xss:P' (P' Int)):Bool:=[true,false].all λled=>match stE (.fresh 0 0 led, #[]) xss with
 |some y=>y.1.fits y.2.size&&decide (y.1.dummies= #[])&&decide (y.1.place.toList.Pairwise (· < ·))&&(y.1.led==led)&&y.1.plain&&decide (y.2.size<=y.1.mask)&&decide (y.2.size<64)&&decide y.2.toList.Nodup&&y.2.toList.all (xss.contains ·)&&xss.all (y.2.toList.contains ·)
 |none=>false
theorem FI (h:ssB xss=true) (led:Bool):∃y,stE (.fresh 0 0 led, #[]) xss=some y/\(∀es:Array (Int×P3),es.size=y.2.size->Tb y.1 es)/\y.1.led=led/\y.1.plain=true/\y.2.size<=y.1.mask/\y.2.size<64/\y.2.toList.Nodup/\∀z,z∈y.2.toList↔z∈xss:=by
 have h:=Ao.mp h led (by cases led<;>simp)
 generalize stE (.fresh 0 0 led, #[]) xss=r at h⊢;cases r with
 |none=>cases h
 |some y=>
  simp only[AD,Af,Ao,List.contains_iff_mem,CJ] at h;obtain⟨⟨⟨⟨⟨⟨⟨⟨⟨h1,h2⟩,h3⟩,h4⟩,h5⟩,h6⟩,h7⟩,h8⟩,h9⟩,h10⟩:=h;refine⟨y,rfl,λes e=>⟨?_,h2,λi j LS hj=> ?_,by lia⟩,h4,h5,h6,h7,h8,λz=>⟨h9 z,h10 z⟩⟩
  .unfold SetTable.fits at h1;simp only[AD,CJ] at h1;rw[h1.1,e]
  .have:=List.pairwise_iff_getElem.mp h3 i j (by simp;lia) (by simpa using hj) LS;simpa[Array.getD,hj,Nat.lt_trans LS hj] using this
inductive rSSet (vs:List V) (H:Hp) (Q:VK):Prop
 |mk (v:V) (xss:List (List Int)) (m:Nat):vs=[v]->Is H (.l (xss.map tI)) v->0<m->((∀xs∈xss,xs.length=m))->ssB xss=true->(∀(LM:List (List Int)) (q:Addr) (H':Hp),LM.Nodup->(∀z,z∈LM↔z∈xss)->(∀i j,i<j->j<LM.length->ltI (LM.getD j []) (LM.getD i [])=false)->H q=none->ag H H'->Is H' (.l (LM.map tI)) (.ref q)->Q (.ref q) H')->rSSet vs H Q
theorem FJ (I:Inv X Ku σ H s) {rs:P' V}(hi:Iss H (xss.map tI) rs) (r':ap rs vs) (hm:0<m) (Oc:∀xs∈xss,xs.length=m) (Kz:xss.length<64) {Q:VK}
  (q:∀(LM:P' (P' Int)) (q:P5) (H':Hp),LM.Perm xss->(∀i j,i<j->j<LM.length->ltI (LM.getD j []) (LM.getD i [])=false)->H q=none->ag H H'->Is H' (.l (LM.map tI)) (.ref q)->Q (.ref q) H') (A:P9):
  vs.length<64/\(vs.length<2->EP X Ku σ Q (.ref s.heap.objs.size) {s with heap:=sortedHeap (lsH s.heap vs) s.heap.objs.size vs vs.toArray})/\
   (2<=vs.length->∃(c:Nat->Nat->Bool) (kd:SortKind),
    (∀(R:SortKind->P4->Prop) (E:P3->P4->Prop),R kd {s with heap:=bp (lsH s.heap vs) s.heap.objs.size vs}->wpAny (model X.prog X.w) A.in1.in1 (keyKind' vs.toArray) R E {s with heap:=bp (lsH s.heap vs) s.heap.objs.size vs})/\
    (∀i j,i<vs.length->j<vs.length->∀C:Bool->P4->Prop,C (c i j) {s with heap:=bp (lsH s.heap vs) s.heap.objs.size vs}->wpAny (model X.prog X.w) A.in1.in1 (keyLt' kd (vs.getD i .none) (vs.getD j .none)) C (λ_ _=>False) {s with heap:=bp (lsH s.heap vs) s.heap.objs.size vs})/\
    ∀p,Ord vs.length p->p=aM c (kas_sort vs.length)->EP X Ku σ Q (.ref s.heap.objs.size) {s with heap:=sortedHeap (lsH s.heap vs) s.heap.objs.size vs (p.map λi=>vs.getD i .none)}):=by
 have Lp:∀xs∈xss,xs≠[]:=λxs hx z=>by have:=Oc xs hx;rw[z] at this;exact absurd this (by show¬0=m;lia)
 have hrs:rs.length=xss.length:=by rw[hi.length,A1]
 have ln:=r'.length;have lns:vs.length=xss.length:=by lia
 refine⟨by lia,λh2=> ?_,λh2=>⟨gZ xss,tuples' true,λR E hR=> ?_,λi j Mr hj' C hC=> ?_,λp ho Nh=> ?_⟩⟩
 .obtain⟨e,he⟩:=uv s.heap vs vs.toArray;have fr:=I.hok.fresh (a:=s.heap.objs.size) (A8 _);exact⟨.ref s.heap.objs.size,_,I.laid (t':=s.toks) (λ_ _=>ut) (A8 _) (show aC X.prog X.w _ _ _ (.lst rs) from⟨by rw[B3];lia,vs,e,r',he⟩),rfl,q xss _ _ (List.Perm.refl _) (λi j a b=>absurd b (by lia)) fr (ag.new fr) (aI am (hi.mono (ag.new fr)))⟩
 .have I2:Inv X Ku σ H {s with heap:=bp (lsH s.heap vs) s.heap.objs.size vs}:=I.kept (t':=s.toks) λb o e=>nz e;obtain⟨fs,k1,k2,k3⟩:=sW I2 hi r' Lp;exact kat_kind (T:= .type "int") k1 (by lia) (λf hf=>by obtain⟨z,t,rfl⟩:=k3 f hf;exact .now) rfl hR
 .have I2:Inv X Ku σ H {s with heap:=bp (lsH s.heap vs) s.heap.objs.size vs}:=I.kept (t':=s.toks) λb o e=>nz e;have g:∀i,i<xss.length->∃a,vs.getD i .none= .ref a/\SqT X.K H a ((xss.getD i []).map V.int):=λi h=>by
   have hr:i<rs.length:=by lia
   obtain⟨d,hd,h1⟩:=hi.of_get (A2 hr);rw[AE,A2 h] at hd;cases hd;obtain⟨a,ea,ha⟩:=bY h1;obtain⟨u,Ld,ru⟩:=r'.get (A2 hr);rw[ea] at ru;obtain rfl:u=Value.ref a:=ru;refine⟨a, ?_, ?_⟩
   .rw [A4,Ld];rfl
   .rw [A4,A2 h];exact SqT.of ha
  obtain⟨a1,e1,s1⟩:=g i (by lia);obtain⟨a2,e2,s2⟩:=g j (by lia);rw[e1,e2];rw[tR (by lia) (by lia)] at hC;exact EM I2 s1 s2 hC
 .rw [lns] at ho Nh;have LY:∀i∈p.toList,i<xss.length:=λi hi=>ho.lt hi;obtain⟨e,he⟩:=uv s.heap vs (p.map λi=>vs.getD i .none);have en:(p.map λi=>vs.getD i .none)=List.toArray (p.toList.map λi=>vs.getD i .none):=by
   apply Array.toList_inj.mp;simp
  rw[en] at he⊢;have fr:=I.hok.fresh (a:=s.heap.objs.size) (A8 _);refine⟨.ref s.heap.objs.size,_,I.laid (t':=s.toks) (λ_ _=>ut) (A8 _) (show aC X.prog X.w _ _ _ (.lst (p.toList.map λi=>rs.getD i .non)) from⟨?_,_,e,kx r' p.toList (λi hi=>by rw[hrs];exact LY i hi),he⟩),rfl,q (p.toList.map λi=>xss.getD i []) _ _ ?_ ?_ fr (ag.new fr) (aI am ((sV hi p.toList LY).mono (ag.new fr)))⟩
  .rw [A1,An,B3,ho.size];lia
  .have pp:=(CW.mp ho).map λi=>xss.getD i [];rw[show(List.range xss.length).toArray.toList=List.range xss.length from rfl,EL] at pp;exact pp
  .intro i j LS hj;rw[A1,An,ho.size] at hj;have up:=tM (Fc (xss:=xss) (m:=m) (by lia) Oc) (n:=xss.length) (by lia) i j LS hj;rw[<-Nh] at up;have g:∀i,i<xss.length->(p.toList.map λi=>xss.getD i []).getD i []=xss.getD (at0 p i) []/\at0 p i<xss.length:=λi h=>by
    have hs:i<p.size:=by rw[ho.size];exact h
    have e:at0 p i=p[i]:=by simp[at0,Array.getD,hs]
    rw[e];refine⟨?_,ho.lt (by simp)⟩;rw[A4,AE];simp[hs]
   obtain⟨g1,g2⟩:=g i (by lia);obtain⟨g3,g4⟩:=g j hj;rw[g1,g3];rw[tR g4 g2] at up;exact up
theorem nC {α β:Type}{f:β->α}{P:β->Prop}:∀(vs:P' α),(∀v∈vs,∃j,P j/\v=f j)->∃js:P' β,vs=js.map f/\∀j∈js,P j
 |[],_=>⟨[],rfl,λ_ h=>nomatch h⟩
 |v::vs,h=>by
  obtain⟨j,pj,e⟩:=h v (by simp);obtain⟨js,es,ps⟩:=nC vs λu hu=>h u (by simp[hu]);exact⟨j::js,by rw[e,es];rfl,λi hi=>by rcases AM.mp hi with rfl|hi;exact pj;exact ps i hi⟩
theorem ux (ad:Nat->P5):∀js:P' Nat,ap (js.map λj=>V.ref (ad j)) (js.map λj=>Value.ref (ad j))
 |[]=> .nil
 |j::js=> .cons rfl (ux ad js)
theorem uy {H:Hp} (kk:Nat->P' Int) (ad:Nat->P5):∀js:P' Nat,(∀j∈js,H (ad j)=some (.tup ((kk j).map V.int)))->Iss H ((js.map kk).map tI) (js.map λj=>V.ref (ad j))
 |[],_=>aA
 |j::js,h=>ax (eV (h j (by simp))) (uy kk ad js λi hi=>h i (by simp[hi]))
theorem FK {α β:Type}{f:α->β}{L:P' α}{vs:P' β} (h:vs.Perm (L.map f)):∃js:P' α,js.Perm L/\vs=js.map f:=by
 generalize hm:L.map f=ms at h;induction h generalizing L with
 |nil=>exact⟨[],by rw[List.map_eq_nil_iff.mp hm],rfl⟩
 | @cons x l1 l2 p ih=>
  cases L with
  |nil=>cases hm
  |cons a L=>
   rw[AW] at hm;injection hm with h1 h2;obtain⟨js,p,e⟩:=ih h2;exact⟨a::js,p.cons a,by rw[AW,h1,e]⟩
 |swap x y l=>
  match L,hm with
  |a::b::L,hm=>
   simp only[AW,Cm] at hm;obtain⟨rfl,rfl,rfl⟩:=hm;exact⟨b::a::L,List.Perm.swap ..,rfl⟩
 |trans p1 p2 ih1 ih2=>
  obtain⟨js,q1,e1⟩:=ih2 hm;obtain⟨ks,q2,e2⟩:=ih1 e1.symm;exact⟨ks,q2.trans q1,e2⟩
theorem FL (ek:EsK kk ad n es ks) (hp:vs.Perm (es.toList.map (·.2))):
  ∃js:P' Nat,vs=js.map (λj=>Value.ref (ad j))/\(∀j∈js,j<n)/\(js.map kk).Perm ks.toList:=by
 have hl:es.toList.length=ks.toList.length:=by simp[ek.size]
 obtain⟨L,eL,pL⟩:=nC (f:=λj=>((hK (kk j),Value.ref (ad j)),kk j)) (P:=λj=>j<n) (es.toList.zip ks.toList) λv hv=>by
  obtain⟨i,hi,e⟩:=C8.mp hv;rw[List.getElem_zip] at e;rw[List.length_zip] at hi;have OD:i<es.size:=by simp at hi;lia
  obtain⟨j,j1,j2,j3⟩:=ek.of (Ac OD);have hk:ks[i]? =some ks.toList[i]:=by rw[<-BN,A2]
  rw[hk,Option.some.injEq] at j2;refine⟨j,j1, ?_⟩;rw[<-e,j2];exact Prod.ext (by simpa using j3) rfl
 have e1:es.toList=L.map λj=>(hK (kk j),Value.ref (ad j)):=by
  have:=BF (List.map Prod.fst) eL;rw[List.map_fst_zip (by lia),BG] at this;exact this
 have e2:ks.toList=L.map kk:=by
  have:=BF (List.map Prod.snd) eL;rw[List.map_snd_zip (by lia),BG] at this;exact this
 rw[e1,BG] at hp;obtain⟨js,p,e⟩:=FK hp;exact⟨js,e,λj hj=>pL j (p.mem_iff.mp hj),by rw[e2];exact p.map kk⟩
theorem FM {e:Qa}{ta:TA}{p p2 pos Nl:Pos} (hu:X.A.units+8<cLine) (hh:X.A.handled=none) (hg:Gl X "sorted") (hm:X.mg "sorted"=none) (hg2:Gl X "set") (hm2:X.mg "set"=none)
  (ha:PA X [e] ta) (he:starEach [e] X.env=(false,eval e X.env)::starEach [] X.env:=by rfl)
  (N6:starEach [Expr.Call (.Name "set" p2) [e] [] Nl] X.env=(false,eval (Expr.Call (.Name "set" p2) [e] [] Nl) X.env)::starEach [] X.env:=by rfl):
  PE X (.Call (.Name "sorted" p) [.Call (.Name "set" p2) [e] [] Nl] [] pos) (tCB rSSet ta):=by
 intro Ku s σ H Q I h;refine BL (dy I hg hm (by first|exact boot_sorted|rfl|ac_nf) ?_ (by decide) (by decide));refine D2 ?_ N6 (by rfl);rw[N6];show wpAny _ _ (spliced ((false,eval (Expr.Call (.Name "set" p2) [e] [] Nl) X.env)::backTo pos (starEach [] X.env))) _ _ s;refine CA ?_;refine BL (dy I hg2 hm2 (by first|rfl|ac_nf) ?_ (by decide) (by decide));refine BO (thn (ha Nl Ku s σ H _ I h) λus s1 zu58=> ?_) he (by rfl);obtain⟨vs,H1,I1,r1,q1⟩:=zu58;obtain⟨v,xss,m,rfl,hv,hm',Oc,Pm,q⟩:=q1;obtain⟨y,LO,htb,tl,tp,tm,t64,knd,MV⟩:=FI Pm (!X.w.params.followText "set-order");obtain⟨l,rs,rfl,hl,hi⟩:=aH hv;have hrs:rs.length=xss.length:=by rw[hi.length,A1]
 obtain⟨u,rfl,rx⟩:=cO r1;cases rx;obtain⟨Kx,r',pl,hz⟩:=I1.list (SqL.of (K:=X.K) hl);have ln:=r'.length;have g:∀i,∃a,i<xss.length->Kx[i]? =some (.ref a)/\rs[i]? =some (.ref a)/\H1 a=some (.tup ((xss.getD i []).map V.int)):=λi=>by
  by_cases h:i<xss.length
  .have hr:i<rs.length:=by lia
   obtain⟨d,hd,h1⟩:=hi.of_get (A2 hr);rw[AE,A2 h] at hd;cases hd;obtain⟨a,ea,ha⟩:=bY h1;obtain⟨u,Ld,ru⟩:=r'.get (A2 hr);rw[ea] at ru;obtain rfl:u=Value.ref a:=ru;refine⟨a,λ_=>⟨Ld,by rw[A2 hr,ea], ?_⟩⟩;rw[A4,A2 h];exact ha
  .exact⟨0,λc=>absurd c h⟩
 let ad:Nat->P5:=λi=>Classical.choose (g i)
 have hg:∀i,i<xss.length->Kx[i]? =some (.ref (ad i))/\rs[i]? =some (.ref (ad i))/\H1 (ad i)=some (.tup ((xss.getD i []).map V.int)):=λi hi=>Classical.choose_spec (g i) hi;generalize ad=ad at hg;refine Ft (kk:=λi=>xss.getD i []) (ad:=ad) (items:=Kx.toArray) hh (by lia) pl.isList (xs:=xss) (λi hi=> ?_) (by rw[AF];lia) LO (λi hi=> ?_) λh' tk es hS ek hk=> ?_
 .rw [AF] at hi;rw[A4,A2 (by lia)];rfl
 .rw [AF] at hi;have hg':=hg i (by lia);exact⟨by rw[List.getElem?_toArray];exact hg'.1,FG I1 (SqT.of hg'.2.2)⟩
 .have I2:Inv X Ku σ H1 {s1 with heap:=h',toks:=tk}:=I1.kept λb o e=>hk b o (AL e) e;refine A3 ?_;show wpAny _ _ (call (.builtin "sorted") [.ref s1.heap.objs.size]) _ _ {s1 with heap:=h',toks:=tk};obtain⟨ep,ho⟩:=hS;have ez:=ek.size;refine FF (FE (s:={s1 with heap:=h',toks:=tk}) (A:=X.A.in1) hh ho (htb es ez) (by lia) tl tp λh'' tk' vs Mz hsz hp=> ?_) λvs s' g=>g;obtain⟨js,ev,lt,pk⟩:=FL ek hp;have I3:Inv X Ku σ H1 {s1 with heap:=h'',toks:=tk'}:=I2.kept Mz;have lt':∀j∈js,j<xss.length:=λj hj=>by have:=lt j hj;rw[AF] at this;lia
  subst ev;have mem:∀z,z∈js.map (λi=>xss.getD i [])↔z∈xss:=λz=>by rw[pk.mem_iff];exact MV z
  have bound:(js.map λi=>xss.getD i []).length=y.2.size:=by rw[pk.length_eq,An]
  have nd:=pk.nodup_iff.mpr knd;refine FJ I3 (rs:=js.map λj=>V.ref (ad j)) (xss:=js.map λi=>xss.getD i []) (uy _ ad js λj hj=>(hg j (lt' j hj)).2.2) (ux ad js) hm' (λxs hx=>Oc xs ((mem xs).mp hx)) (by lia) (λLM q' H' pm srt hq sm his=> ?_) X.A;exact q LM q' H' (pm.nodup_iff.mpr nd) (λz=>by rw[pm.mem_iff];exact mem z) srt hq sm his
end
end L2
namespace L2
open PySem PySem.Spec PyProof.Rows PySem.W
variable {H H':Hp}{Kv:P' (P' Key×V)}{P:P6}{Q:Qc P3->P4->Prop}{d it:P5}{e:DictEntry}{ep i:Nat}{es:Array DictEntry}{o:Obj}{w:P8}
section
variable {prog:P6}{w:P8}{A:P9}{E:P3->P4->Prop}{s:P4}
theorem uz {Q:P3->P4->Prop} (hd:(d==sysModules)=false) (ho:s.heap.get? d=some o) (hc:o.ExactDict) (Mu:o.data= .dict es ep)
  (hQ:Q (.ref s.heap.objs.size) {s with heap:=s.heap.push {cls:= .type "dict_keyiterator",data:= .fields #[.ref d, .int 0 0, .int es.size 0, .int ep 0]}}):
  wpAny (model prog w) A (pyIter (.ref d)) Q E s:=by
 have hT:s.TypeIs (.ref d) "dict":=⟨o,ho,hc.1⟩;refine wpAny_pyIter_slot hT PySem.F.slot_dict_iter (Aj PySem.F.slot_dict_iter hT PySem.F.entry_dict_iter ?_ (PySem.F.args_dict_iter_1 _));unfold Builtin.«dict.__iter__»;refine A0 ?_;unfold Builtin.Dict.dictSlotNone;refine A0 (wpAny_notOrdered_dict hT ?_);show wpAny _ _ (pure (Value.ref d)) _ _ s;refine A3 ?_;show wpAny _ _ (Builtin.Dict.showsAll d>>=_) _ _ s;unfold Builtin.Dict.showsAll;rw[A6 (by rw[hd];exact AX)];refine A0 (A3 ?_);refine A0 (Cc ho Mu ?_);refine A0 (Cz ho Mu ?_);refine A0 (Au (A3 ⟨_,rfl,"dict_keyiterator",_,⟨_,AI _ rfl,rfl⟩,Bd.lookup, ?_⟩));simpa[rawInt] using hQ
theorem uA (KI:s.heap.IsKeyIter it d i es.size ep) (Nm:s.heap.get? d=some o) (No:o.data= .dict es ep) (he:es[i]? =some e)
  (hQ:∀h',h'.IsKeyIter it d (i+1) es.size ep->Heap.SameBut it s.heap h'->Q (some e.key) {s with heap:=h'}):wpAny (model prog w) A (pyNext (.ref it)) Q E s:=by
 obtain⟨oi,ho,hc,hd⟩:=id KI;have KD:i<es.size:=(Array.getElem?_eq_some_iff.mp he).1;unfold pyNext;refine A0 (By (B5 (name:=Str.ofString "__next__") KI.typeIs Bd (Aj Bd KI.typeIs PySem.F.entry_dict_keyiterator_next ?_ (PySem.F.args_dict_keyiterator_next_1 _))));refine A0 (A3 ?_);refine A0 ?_;refine A0 ?_;first|refine A0 (CP KI.typeIs (A3 ?_));skip|refine A0 (Ct KI.typeIs (A3 ?_));skip
 refine A0 (D6 ho hd ?_);have Me:Builtin.Dict_items.ownsTuple "dict_keyiterator"=false:=by decide
 simp -iota only[Me,AK,Av];show wpAny _ _ (if(Value.ref d==Value.none)=true then _ else _) _ _ s;rw[A6 (show¬((Value.ref d==Value.none)=true) from AX)];refine A0 (A3 ?_);refine A0 (Cc Nm No ?_);rw[A6 (by simp)];refine A0 (A3 ?_);refine A0 (Cz Nm No ?_);rw[A6 (by simp)];refine A3 ?_;simp only[show¬((i:Int)<0) from by lia,Av,AV,he];refine A0 ?_;first|refine A0 (CP KI.typeIs (A3 ?_));skip|refine A0 (Ct KI.typeIs (A3 ?_));skip
 refine A0 (wpAny_isOneOf_keyiter KI.typeIs ?_);show wpAny _ _ (setField (.ref it) 1 (rawInt ((i:Int)+1))>>=_) _ _ s;refine A0 (C3 ho hd (by simp) ?_);have K':(s.heap.update it (Obj.mapFields (·.setIfInBounds 1 (rawInt ((i:Int)+1))))).IsKeyIter it d (i+1) es.size ep:=⟨_,CB _ ho (DI (Br hd _)),(Obj.cls_mapFields ..).trans hc,by rw[Br hd];simp[rawInt]⟩;refine A0 (Aw ?_);refine A0 (wpAny_isOneOf_keyiter (s:={s with heap:=s.heap.update it (Obj.mapFields (·.setIfInBounds 1 (rawInt ((i:Int)+1))))}) K'.typeIs ?_);show wpAny _ _ (pure e.key) _ _ _;exact A3 (A3 ⟨_,rfl,A3 (hQ _ K' (BE ..))⟩)
theorem uB (hh:A.handled=none) (KI:s.heap.IsKeyIter it d i es.size ep) (Nm:s.heap.get? d=some o) (No:o.data= .dict es ep) (he:es.size<=i)
  (hQ:∀h',Heap.ExtBut it s.heap h'->Q none {s with heap:=h'}):wpAny (model prog w) A (pyNext (.ref it)) Q E s:=by
 obtain⟨oi,ho,hc,hd⟩:=id KI;unfold pyNext;refine A0 (By (B5 (name:=Str.ofString "__next__") KI.typeIs Bd (Aj Bd KI.typeIs PySem.F.entry_dict_keyiterator_next ?_ (PySem.F.args_dict_keyiterator_next_1 _))));refine A0 (A3 ?_);refine A0 ?_;refine A0 ?_;first|refine A0 (CP KI.typeIs (A3 ?_));skip|refine A0 (Ct KI.typeIs (A3 ?_));skip
 refine A0 (D6 ho hd ?_);have Me:Builtin.Dict_items.ownsTuple "dict_keyiterator"=false:=by decide
 simp -iota only[Me,AK,Av];show wpAny _ _ (if(Value.ref d==Value.none)=true then _ else _) _ _ s;rw[A6 (show¬((Value.ref d==Value.none)=true) from AX)];refine A0 (A3 ?_);refine A0 (Cc Nm No ?_);rw[A6 (by simp)];refine A0 (A3 ?_);refine A0 (Cz Nm No ?_);rw[A6 (by simp)];refine A3 ?_;simp only[show¬((i:Int)<0) from by lia,Av,AV,BK he];refine A0 ?_;first|refine A0 (CP KI.typeIs (A3 ?_));skip|refine A0 (Ct KI.typeIs (A3 ?_));skip
 show wpAny _ _ (setField (.ref it) 0 .none>>=_) _ _ s;refine A0 (C3 ho hd (by simp) ?_);show wpAny _ _ (newExc (.type "StopIteration") []>>=_) _ _ _;refine A0 ?_;simp only[newExc,newTuple];refine A0 (Au ?_ (by size_fits));refine A0 (m:=firstArgMember _ _) (DS (a:=Value.none) (by first|rfl|(simp only[firstArgMember];rfl)) ?_);refine Au ?_ (by size_fits);simp -iota only[raiseNew];refine A0 (wpAny_handled ?_);rw[show A.in1.handled=none from hh];refine A0 (A3 (wpAny_throw ?_));refine A0 (Bz (T:="StopIteration") (b:=true) ⟨_,AI _ rfl,rfl⟩ isSubtype_stop ?_);exact A3 (hQ _ (((BE ..).extBut.push _).push _))
end
section
variable {prog:P6}{w:P8}{A:P9}{E:P3->P4->Prop}{s:P4}
theorem FN {Q:P3->P4->Prop} (hd:(d==sysModules)=false) (ho:s.heap.get? d=some o) (hc:o.ExactDict)
  (hQ:Q (.ref s.heap.objs.size) {s with heap:=s.heap.push {cls:= .type "dict_values",data:= .fields #[.ref d]}}):wpAny (model prog w) A (call (.builtin "dict.values") [.ref d]) Q E s:=by
 have hT:s.TypeIs (.ref d) "dict":=⟨o,ho,hc.1⟩;refine Aj PySem.F.slot_dict_values hT PySem.F.entry_dict_values ?_ (PySem.F.args_dict_values_1 _);refine A0 ?_;unfold Builtin.Dict.noArgs;refine A0 (wpAny_notOrdered_dict hT ?_);show wpAny _ _ (pure d) _ _ s;refine A3 ?_;show wpAny _ _ (Builtin.Dict.showsAll d>>=_) _ _ s;unfold Builtin.Dict.showsAll;rw[A6 (by rw[hd];exact AX)];refine A0 (A3 ?_);exact A0 (Au (A3 ⟨_,rfl,hQ⟩))
theorem FO {v:P5}{Q:P3->P4->Prop} (hv:s.heap.IsValuesView v d) (ho:s.heap.get? d=some o) (Mu:o.data= .dict es ep)
  (hQ:Q (.ref s.heap.objs.size) {s with heap:=s.heap.push {cls:= .type "dict_valueiterator",data:= .fields #[.ref d, .int 0 0, .int es.size 0, .int ep 0]}}):
  wpAny (model prog w) A (pyIter (.ref v)) Q E s:=by
 obtain⟨ov,hov,hcv,hdv⟩:=id hv;refine wpAny_pyIter_slot hv.typeIs PySem.F.slot_dict_values_iter (Aj PySem.F.slot_dict_values_iter hv.typeIs PySem.F.entry_dict_values_iter ?_ (PySem.F.args_dict_values_iter_1 _));unfold Builtin.«dict_values.__iter__»;refine A0 (A3 ?_);refine A0 ?_;unfold Builtin.Dict_items.dictOf;refine A0 (Bc hov hdv (x:= .ref d) rfl (A3 ?_));refine A0 ?_;unfold Builtin.Dict_items.newIterator;refine A0 (Cc ho Mu ?_);refine A0 (Cz ho Mu ?_);have Me:Builtin.Dict_items.ownsTuple "dict_valueiterator"=false:=by decide
 simp -iota only[Me,AK,Av];refine Au (A3 ⟨_,rfl,"dict_valueiterator",_,⟨_,AI _ rfl,rfl⟩,BW.lookup, ?_⟩);simpa[rawInt] using hQ
theorem FP (KI:s.heap.IsValIter it d i es.size ep) (Nm:s.heap.get? d=some o) (No:o.data= .dict es ep) (he:es[i]? =some e)
  (hQ:∀h',h'.IsValIter it d (i+1) es.size ep->Heap.SameBut it s.heap h'->Q (some e.val) {s with heap:=h'}):wpAny (model prog w) A (pyNext (.ref it)) Q E s:=by
 obtain⟨oi,ho,hc,hd⟩:=id KI;have KD:i<es.size:=(Array.getElem?_eq_some_iff.mp he).1;unfold pyNext;refine A0 (By (B5 (name:=Str.ofString "__next__") KI.typeIs BW (Aj BW KI.typeIs PySem.F.entry_dict_valueiterator_next ?_ (PySem.F.args_dict_valueiterator_next_1 _))));refine A0 (A3 ?_);refine A0 ?_;refine A0 ?_;first|refine A0 (CO KI.typeIs (A3 ?_));skip|refine A0 (Cs KI.typeIs (A3 ?_));skip
 refine A0 (D6 ho hd ?_);have Me:Builtin.Dict_items.ownsTuple "dict_valueiterator"=false:=by decide
 simp -iota only[Me,AK,Av];show wpAny _ _ (if(Value.ref d==Value.none)=true then _ else _) _ _ s;rw[A6 (show¬((Value.ref d==Value.none)=true) from AX)];refine A0 (A3 ?_);refine A0 (Cc Nm No ?_);rw[A6 (by simp)];refine A0 (A3 ?_);refine A0 (Cz Nm No ?_);rw[A6 (by simp)];refine A3 ?_;simp only[show¬((i:Int)<0) from by lia,Av,AV,he];refine A0 ?_;first|refine A0 (CO KI.typeIs (A3 ?_));skip|refine A0 (Cs KI.typeIs (A3 ?_));skip
 refine A0 (wpAny_isOneOf_valiter KI.typeIs ?_);show wpAny _ _ (setField (.ref it) 1 (rawInt ((i:Int)+1))>>=_) _ _ s;refine A0 (C3 ho hd (by simp) ?_);have K':(s.heap.update it (Obj.mapFields (·.setIfInBounds 1 (rawInt ((i:Int)+1))))).IsValIter it d (i+1) es.size ep:=⟨_,CB _ ho (DI (Br hd _)),(Obj.cls_mapFields ..).trans hc,by rw[Br hd];simp[rawInt]⟩;refine A0 (Aw ?_);refine A0 (wpAny_isOneOf_valiter (s:={s with heap:=s.heap.update it (Obj.mapFields (·.setIfInBounds 1 (rawInt ((i:Int)+1))))}) K'.typeIs ?_);refine A0 (wpAny_isOneOf_valiter (s:={s with heap:=s.heap.update it (Obj.mapFields (·.setIfInBounds 1 (rawInt ((i:Int)+1))))}) K'.typeIs ?_);show wpAny _ _ (pure e.val) _ _ _;exact A3 (A3 ⟨_,rfl,A3 (hQ _ K' (BE ..))⟩)
theorem FQ (hh:A.handled=none) (KI:s.heap.IsValIter it d i es.size ep) (Nm:s.heap.get? d=some o) (No:o.data= .dict es ep) (he:es.size<=i)
  (hQ:∀h',Heap.ExtBut it s.heap h'->Q none {s with heap:=h'}):wpAny (model prog w) A (pyNext (.ref it)) Q E s:=by
 obtain⟨oi,ho,hc,hd⟩:=id KI;unfold pyNext;refine A0 (By (B5 (name:=Str.ofString "__next__") KI.typeIs BW (Aj BW KI.typeIs PySem.F.entry_dict_valueiterator_next ?_ (PySem.F.args_dict_valueiterator_next_1 _))));refine A0 (A3 ?_);refine A0 ?_;refine A0 ?_;first|refine A0 (CO KI.typeIs (A3 ?_));skip|refine A0 (Cs KI.typeIs (A3 ?_));skip
 refine A0 (D6 ho hd ?_);have Me:Builtin.Dict_items.ownsTuple "dict_valueiterator"=false:=by decide
 simp -iota only[Me,AK,Av];show wpAny _ _ (if(Value.ref d==Value.none)=true then _ else _) _ _ s;rw[A6 (show¬((Value.ref d==Value.none)=true) from AX)];refine A0 (A3 ?_);refine A0 (Cc Nm No ?_);rw[A6 (by simp)];refine A0 (A3 ?_);refine A0 (Cz Nm No ?_);rw[A6 (by simp)];refine A3 ?_;simp only[show¬((i:Int)<0) from by lia,Av,AV,BK he];refine A0 ?_;first|refine A0 (CO KI.typeIs (A3 ?_));skip|refine A0 (Cs KI.typeIs (A3 ?_));skip
 show wpAny _ _ (setField (.ref it) 0 .none>>=_) _ _ s;refine A0 (C3 ho hd (by simp) ?_);show wpAny _ _ (newExc (.type "StopIteration") []>>=_) _ _ _;refine A0 ?_;simp only[newExc,newTuple];refine A0 (Au ?_ (by size_fits));refine A0 (m:=firstArgMember _ _) (DS (a:=Value.none) (by first|rfl|(simp only[firstArgMember];rfl)) ?_);refine Au ?_ (by size_fits);simp -iota only[raiseNew];refine A0 (wpAny_handled ?_);rw[show A.in1.handled=none from hh];refine A0 (A3 (wpAny_throw ?_));refine A0 (Bz (T:="StopIteration") (b:=true) ⟨_,AI _ rfl,rfl⟩ isSubtype_stop ?_);exact A3 (hQ _ (((BE ..).extBut.push _).push _))
theorem FR (hh:A.handled=none) (I d:P5) (Lp:d≠I) (Mu:o.data= .dict es ep):
  Walks prog w A I [I,d] [I] es.size (λi v=>∃e,es[i]? =some e/\v=e.val) (λi h=>h.IsValIter I d i es.size ep/\h.get? d=some o) where
 sub:=λb hb=>by simp at hb;simp[hb]
 frame:=λ_ _ _ st hk=>⟨st.1.at λo e=>hk I (by simp) o e,hk d (by simp) _ st.2⟩
 item:=λi s Q E hi st hQ=>FP st.1 st.2 Mu (Ac hi) λh' MC Pa=>hQ _ h' s.toks ⟨_,Ac hi,rfl⟩ ⟨MC,Pa.extBut d _ Lp st.2⟩ λb o hb e=>Pa.extBut b o (λh=>hb (by simp[h])) e
 done:=λs Q E st hQ=>FQ hh st.1 st.2 Mu (A8 _) λh' N9=>hQ h' s.toks λb o hb e=>N9 b o (λh=>hb (by simp[h])) e
 self:=λ_ _ _ _ st hQ=>wpAny_pyIter_valiter st.1 hQ
theorem uC (ns:P' Int):∀k,k<=ns.length->preSum (λi=>ns.getD i 0) k=(ns.take k).sum
 |0,_=>by simp[preSum]
 |k+1,h=>by
  have hk:k<ns.length:=by lia
  have g:ns.getD k 0=ns[k]:=by simp[List.getD,hk]
  rw[preSum,uC ns k (by lia),AY,A2 hk,List.sum_append];show _+ns.getD k 0=_+[ns[k]].sum;rw[g];simp
end
theorem kJ {α β:Type}{R:α->β->Prop}:∀{xs:P' α}{ys:P' β}{i:Nat}{x:α},Paired R xs ys->xs[i]? =some x->∃y,ys[i]? =some y/\R x y
 |_,_,i,x, .nil,h=>by simp at h
 |_,_,0,x, .cons r _,h=>by simp at h;subst h;exact⟨_,rfl,r⟩
 |_,_,i+1,x, .cons _ t,h=>by simp at h;obtain⟨y,e,r⟩:=kJ t h;exact⟨y,by simpa using e,r⟩
def Itk (d:P5) (o:Obj) (Kv:P' (P' Key×V)):It:=
 ⟨λi H=>H d=some (.frz o (.dT Kv))/\i<Kv.length,λi H x H'=>H'=H/\∃b k v,x= .ref b/\Kv[i]? =some (k,v)/\H b=some (.tup (k.map kV)),λi H=>H d=some (.frz o (.dT Kv))/\Kv.length<=i⟩
inductive iDict_ (R:(It->Hp->Prop)) (x:V) (H1:Hp):Prop
 |mk (d:Addr) (Kv:List (List Key×V)):x= .ref d->Rd H1 d (.dT Kv)->(∀(o:Obj) (H2:Hp),H2 d=some (.frz o (.dT Kv))->(∀b,b≠d->H2 b=H1 b)->R (Itk d o Kv) H2)->iDict_ R x H1
def FS (td:TE):TI:=λσ H R=>td σ H λx H1=>iDict_ R x H1
theorem FT {K:W.Frag}{tg:Qa} (d it:P5) (o:Obj) (Kv:P' (P' Key×V)) (ep:Nat) (hep:∀Lb L',o.data= .dict Lb L'->L'=ep):Turn P w K tg (Itk d o Kv) [it] it (λi h=>h.IsKeyIter it d i Kv.length ep) where
 mem:=by simp
 obj:=λi h st b hb=>by
  have e:b=it:=by simpa using hb
  subst e;obtain⟨o,e,c,d⟩:=st;exact⟨o,e,λv z=>by rw[d] at z;cases z⟩
 keep:=λi h h' st k=>st.at λo e=>k it (by simp) o e
 item:=by
  intro X hP hw hK hc i Ku s σ H E I hf st hg;subst hP hw hK;obtain⟨hq,hi⟩:=hg;obtain⟨ho,z,y,xs,KO,o',es,L',h1,h2,h3,h4,h5⟩:=(show aC X.prog X.w H s.heap d (.frz o (.dT Kv)) from I.hok d _ hq);obtain rfl:o=o':=Ae (ho.symm.trans h1);obtain rfl:L'=ep:=hep _ _ h3;have hx:Kv[i]? =some Kv[i]:=A2 hi;obtain⟨q,LI,e1,e2,e3⟩:=kJ KO hx;have hsz:es.size=Kv.length:=by rw[<-An,h4,A1,<-Be KO]
  have he:es[i]? =some (entryOfKey (tupleKind (bU X.prog X.w)) q):=by rw[<-BN,h4,AE,LI];rfl
  obtain⟨f0,f1,f2,f3,f4,f5⟩:=hf it (by simp);rw[<-hsz] at st;refine uA st ho h3 he λh' K' sb=> ?_;have I1:Inv X Ku σ H {s with heap:=h'}:=I.turned (t':=s.toks) (λb o hb e=>(sb.2 b hb).trans e) f0 f1 f3 f4 f5;obtain⟨oo,e,c,d'⟩:=id K';rw[hsz] at K';exact⟨_,rfl,go_of (s:={s with heap:=h'}) e c d' (by decide) ⟨.ref q.2.1,H,I1,rfl,⟨rfl,q.2.1,Kv[i].1,Kv[i].2,rfl,hx,e2⟩,K',λb hb=>(hf b hb).1⟩⟩
 done:=by
  intro X hP hw hK hc i Ku s σ H E I hf st hg;subst hP hw hK;obtain⟨hq,hi⟩:=hg;obtain⟨ho,z,y,xs,KO,o',es,L',h1,h2,h3,h4,h5⟩:=(show aC X.prog X.w H s.heap d (.frz o (.dT Kv)) from I.hok d _ hq);obtain rfl:o=o':=Ae (ho.symm.trans h1);obtain rfl:L'=ep:=hep _ _ h3;have hsz:es.size=Kv.length:=by rw[<-An,h4,A1,<-Be KO]
  obtain⟨f0,f1,f2,f3,f4,f5⟩:=hf it (by simp);rw[<-hsz] at st;exact uB (I.ok.hd hc) st ho h3 (by lia) λh' eb=>⟨rfl,I.turned (t':=s.toks) (λb o hb e=>eb b o hb e) f0 f1 f3 f4 f5⟩
 self:=λ_ _ _ _ _ st h=>wpAny_pyIter_keyiter st h
section
variable {X:Cx}{tg:Qa}
theorem FU {h:Qb}(q:aC P w H h d (.dT Kv)) (k:∀b ys,H b=some (.tup ys)->H' b=some (.tup ys)):aC P w H' h d (.dT Kv):=by
 obtain⟨z,y,xs,KO,r⟩:=q;exact⟨z,y,xs,KT.keeps KO λc ys ec=>k c ys ec,r⟩
theorem FV {l:Qa}{tl:TE} (hl:PE X l tl):PI X tg l (FS tl):=by
 intro Ku s σ H R I h;refine thn (hl Ku s σ H _ I h) λv s1 zu59=> ?_;obtain⟨x,H1,I1,r1,q1⟩:=zu59;obtain⟨d,Kv,rfl,hq,q⟩:=q1;cases r1;have N8:aC X.prog X.w H1 s1.heap d (.dT Kv):=iW I1.hok hq;obtain⟨z,y,xs,KO,o,es,ep,h1,h2,h3,h4,h5⟩:=id N8;have hsz:es.size=Kv.length:=by rw[<-An,h4,A1,<-Be KO]
 obtain⟨H2,I2,e2,k2⟩:∃H2,Inv X Ku σ H2 s1/\H2 d=some (.frz o (.dT Kv))/\∀b,b≠d->H2 b=H1 b:=by
  rcases hq with hq|⟨o',hq⟩
  .exact⟨_,gO (t':=s1.toks) I1 (by rw[hq];exact True.intro) (Heap.SameBut.refl _ _) ⟨o,h1⟩ (show aC X.prog X.w (upd H1 d (.frz o (.dT Kv))) s1.heap d (.frz o (.dT Kv)) from⟨h1,FU N8 λb ys e=>by rw[au (jR e hq (λz=>nomatch z))];exact e⟩),am,λb hb=>au hb⟩
  .obtain⟨LN,_⟩:=(show aC X.prog X.w H1 s1.heap d (.frz o' (.dT Kv)) from I1.hok d _ hq);obtain rfl:o'=o:=Ae (LN.symm.trans h1);exact⟨H1,I1,hq,λ_ _=>rfl⟩
 refine uz y h1 h2 h3 ?_;rw[hsz];refine⟨s1.heap.objs.size,[s1.heap.objs.size],_,_,_,rfl,I2.kept (t':=s1.toks) λb o e=>A5 _ e,FT d _ o Kv ep (λLb L' e=>by rw[h3] at e;cases e;rfl),⟨_,AI _ rfl,rfl,rfl⟩,λb hb=> ?_,q o H2 e2 k2⟩;have e:b=s1.heap.objs.size:=by simpa using hb
 subst e;exact I2.fpOk (A8 _) (I2.hok.fresh (A8 _))
theorem FW {g:TG}{tb:TS}{D:Ends}{σ:St}(Pv:Nat->St->Hp->Prop) (h0:Pv 0 σ H) (hl:∀i σ H,i<=Kv.length->Pv i σ H->H d=some (.frz o (.dT Kv)))
  (hs:∀i k v b σ H,Kv[i]? =some (k,v)->Pv i σ H->H b=some (.tup (k.map kV))->g (.ref b) σ H λσ2 H2=>tb (eLp D (Pv (i+1))) σ2 H2) (hd:∀σ H,Pv Kv.length σ H->D.nx σ H):
  ∃Wq:Nat->Nat->St->Hp->Prop,(∃m,Wq 0 m σ H)/\∀i m σ H,Wq i m σ H->
   ((Itk d o Kv).stop i H/\D.nx σ H)\/((Itk d o Kv).go i H/\∃N:St->Hp->Prop,(∀σ' H',N σ' H'->∃m',m'<m/\Wq (i+1) m' σ' H')/\∀x H',(Itk d o Kv).yld i H x H'->g x σ H' λσ2 H2=>tb (eLp D (N)) σ2 H2):=by
 refine⟨λi m σ H=>m=Kv.length-i/\i<=Kv.length/\Pv i σ H,⟨Kv.length,by simp,AJ _,h0⟩, ?_⟩;rintro i m σ H ⟨rfl,hi,p⟩;have q:=hl i σ H hi p;by_cases KD:i<Kv.length
 .refine .inr ⟨⟨q,KD⟩,Pv (i+1),λσ' H' p'=>⟨Kv.length-(i+1),by lia,rfl,KD,p'⟩, ?_⟩;rintro x H' ⟨rfl,b,k,v,rfl,e,hb⟩;exact hs i k v b σ _ e p hb
 .obtain rfl:i=Kv.length:=by lia
  exact .inl ⟨⟨q,A8 _⟩,hd σ H p⟩
def FX (tk tv:TE):TE:=λσ H Q=>∀p,H p=none->tk σ (upd H p (.dT [])) λx H1=>tv σ H1 λy H2=>H2 p=some (.dT [])/\∃k b,x= .ref b/\H2 b=some (.tup (k.map kV))/\Q (.ref p) (upd H2 p (.dT (aQ [] k y)))
theorem FY {ek ev:Qa}{tk tv:TE}{pos:Pos} (hu:X.A.units+1<cLine) (hk:PE X ek tk) (hv:PE X ev tv):PE X (.Dict [some ek] [ev] pos) (FX tk tv):=by
 intro Ku s σ H Q I q;have hn:=I.hok.fresh (A8 s.heap.objs.size);have I1:=I.laid (a:=s.heap.objs.size) (o:= .dT []) (h':=s.heap.push {cls:= .type "dict",data:= .dict #[]}) (t':=s.toks) (λ_ _ q=>A5 _ q) (A8 _) (rW s.heap I.big);rw[arm_eval_Dict,zip_pairTrees [some ek] [ev] X.env pos rfl rfl,dictDisplay_pairs (pairTrees [some ek] [ev] X.env pos) (by intro z;cases z) (show 1<17 by decide)];refine A0 (DQ (A0 ?_));unfold subDict;refine A0 (wpAny_alloc ?_);refine A0 (Aw ?_);rw[AB (show(pairTrees [some ek] [ev] X.env pos).length<=15 from(by decide:1<=15))];refine A0 (pairTrees_cons_walk (thn (hk Ku _ σ _ _ I1 (q _ hn)) λu s1 zu60=> ?_));obtain⟨x,H1,I2,rx,q1⟩:=zu60;refine thn (hv Ku s1 σ H1 _ I2 q1) λw2 s2 zu61=> ?_;obtain⟨y,H2,I3,ry,e,k,b,ex,eb,q2⟩:=zu61;refine pairTrees_nil_walk ?_;subst ex;cases (show u=Value.ref b from rx);obtain⟨z,hd,xs,KO,dd⟩:=rV I3.hok e;cases KO;refine wpAny_holding (wpAny_bind ?_);rw[List.forIn_cons];dsimp only;refine A0 (A0 (wpAny_dictSet_heap (knd:=tupleKind (bU X.prog X.w)) (show X.A.units<cLine by lia) (iY I3.hok eb) dd (λh' NO hs=>A3 ?_) (AJ _)));dsimp only;rw[List.forIn_nil];refine wpAny_pure (wpAny_pure (wpAny_pure (wpAny_pure ?_)));obtain⟨o,es,ep,hq,h2,h3,h4,_,h5⟩:=NO;refine⟨.ref s.heap.objs.size,_,gO I3 (by rw[e];exact True.intro) hs ⟨o,hq⟩ (show aC X.prog X.w (upd H2 s.heap.objs.size (.dT (aQ [] k y))) h' s.heap.objs.size (.dT (aQ [] k y)) from⟨(by show 1<=sizeLine;decide),hd,_,KT.keeps (KT.put .nil k eb ry) λc ys ec=> ?_,o,es,ep,hq,h2,h3,h4,h5⟩),rfl,q2⟩;rw[au (jR ec e (λz=>nomatch z))];exact ec
inductive tSumV_ (Q:VK) (x:V) (H1:Hp):Prop
 |mk (d:Addr) (Kv:List (List Key×V)) (ns:List Int):x= .ref d->Rd H1 d (.dT Kv)->Kv.map (·.2)=ns.map V.int->Q (.int ns.sum) H1->tSumV_ Q x H1
def FZ (td:TE):TE:=λσ H Q=>td σ H λx H1=>tSumV_ Q x H1
theorem F' {e:Qa}{td:TE}{p KR KH pos:Pos} (hc:X.calm=true) (hg:Gl X "sum") (hm:X.mg "sum"=none) (he:PE X e td)
  (N6:starEach [Expr.Call (.Attribute e "values" KR) [] [] KH] X.env=(false,eval (Expr.Call (.Attribute e "values" KR) [] [] KH) X.env)::starEach [] X.env:=by rfl)
  (Mp:attributeBase e "values" X.env (eval e X.env)=eval e X.env:=by rfl) (Mq:(KR.endLine==KH.line)=true:=by rfl):
  PE X (.Call (.Name "sum" p) [.Call (.Attribute e "values" KR) [] [] KH] [] pos) (FZ td):=by
 intro Ku s σ H Q I h;refine BL (dy I hg hm (by first|exact DW|rfl|ac_nf) ?_ (by decide) (by decide));refine D2 ?_ N6 (by rfl);rw[N6];show wpAny _ _ (spliced ((false,eval (Expr.Call (.Attribute e "values" KR) [] [] KH) X.env)::backTo pos (starEach [] X.env))) _ _ s;refine CA ?_;refine wpAny_Call_method0_late Mp Mq (thn (he Ku s σ H _ I h) λv s1 zu62=> ?_);obtain⟨x,H1,I1,r1,q1⟩:=zu62;obtain⟨d,Kv,ns,rfl,hrd,Oz,q⟩:=q1;cases r1;obtain⟨hT,NR,hsys⟩:=rX I1 (.inr ⟨Kv,hrd⟩);obtain⟨z,y,xs,KO,o,es,ep,h1,h2,h3,h4,h5⟩:=(show aC X.prog X.w H1 s1.heap d (.dT Kv) from iW I1.hok hrd);refine⟨"dict","dict.values",PySem.F.plainAttrs_dict,PySem.F.slot_dict_values,PySem.F.type_dict_values,hT,NR,DC rfl (PySem.evalArgs_none (FN hsys h1 h2 (A3 ?_)))⟩;show wpAny _ _ (call (.builtin "sum") [.ref s1.heap.objs.size]) _ _ _;have h1':(s1.heap.push {cls:= .type "dict_values",data:= .fields #[.ref d]}).get? d=some o:=A5 _ h1;have Pi:d<s1.heap.objs.size:=AL h1;have hsz:es.size=Kv.length:=by rw[<-An,h4,A1,<-Be KO]
 have hnl:ns.length=Kv.length:=by have:=BF List.length Oz;simpa using this.symm
 refine call_sum_walkAnyS (FO (s:={s1 with heap:=s1.heap.push {cls:= .type "dict_values",data:= .fields #[.ref d]}}) ⟨_,AI _ rfl,rfl,rfl⟩ h1' h3 ?_);refine⟨_,_,_,_,_,_,_,λi=>ns.getD i 0,rfl,(FR (A:=X.A.in1) (I.ok.hd hc) (s1.heap.push {cls:= .type "dict_values",data:= .fields #[.ref d]}).objs.size d (by rw[B7];exact AO (Ak Pi)) h3).toS,⟨⟨_,AI _ rfl,rfl,rfl⟩,A5 _ h1'⟩, ?_, ?_, ?_⟩
 .intro b hb;simp only[AM,B1,Bs] at hb;rcases hb with rfl|rfl
  .show _<(Heap.push (s1.heap.push _) _).objs.size;rw[B7 (s1.heap.push _)];exact BU _
  .show _<(Heap.push (s1.heap.push _) _).objs.size;rw[B7,B7];exact Ak (Ak Pi)
 .rintro i v ⟨e,hei,rfl⟩;rw[<-BN,h4,AE] at hei;obtain⟨q',hq',rfl⟩:=AA.mp hei;have hi:i<Kv.length:=by rw[Be KO];exact(AG.mp hq').1
  obtain⟨q2,hq2,e1,e2,e3⟩:=kJ KO (A2 hi);rw[hq'] at hq2;cases hq2;have:Kv[i].2=V.int (ns.getD i 0):=by
   have z1:(Kv.map (·.2))[i]? =some Kv[i].2:=by rw[AE,A2 hi];rfl
   rw[Oz,AE,A2 (by lia)] at z1;simp only[Ci,Option.some.injEq] at z1;rw[<-z1,A4,A2 (by lia)];rfl
  rw[this] at e3;exact e3
 .intro s' t' hm';obtain⟨h',g',d',tk',O0⟩:=s';have eg:g'=s1.gens:=hm'.gens;have ed:d'=s1.drawn:=hm'.drawn;have eo:O0=s1.os:=hm'.os;subst eg;subst ed;subst eo;have es:preSum (λi=>ns.getD i 0) es.size=ns.sum:=by rw[hsz,<-hnl,uC ns ns.length (A8 _),AQ]
  rw[es];refine⟨.int ns.sum,H1,I1.kept λb o e=>hm'.heap b o (λhb=> ?_) (A5 _ (A5 _ e)),⟨t',rfl⟩,q⟩;simp only[AM,B1,Bs] at hb;have:=AL e;rw[hb,B7] at this;exact absurd this (Nat.not_lt.mpr (CH _))
end
section
variable {X:Cx}
theorem nD:OpR X (binaryOp .Add) (λx y H Q=>∃xs ys,Is H (.t xs) x/\Is H (.t ys) y/\xs.length+ys.length<=sizeLine/\∀v H2,ag H H2->Is H2 (.t (xs++ys)) v->Q v H2):=by
 intro Ku s σ H x y v u Q I rx ry h;obtain⟨xs,ys,hx,hy,hz,q⟩:=h;obtain⟨a,vs,rfl,ha,ra⟩:=bP hx;obtain⟨b,ws,rfl,hb,rb⟩:=bP hy;have l1:=ra.length;have l2:=rb.length;by_cases h1:vs=[]
 .subst h1;have hx0:xs=[]:=BQ.mp (by rw[<-l1];rfl);subst hx0;cases rx;cases ry;obtain⟨Kx,r1,p1,_⟩:=I.tuple (SqT.of (K:=X.K) ha);obtain⟨Mb,r2,p2,_⟩:=I.tuple (SqT.of (K:=X.K) hb);cases r1;obtain⟨⟨cls,dd,data,sl⟩,ho,hc,n,hd⟩:=p1;obtain⟨⟨N1,Mi,data2,Mo⟩,LF,Lo,n2,LP⟩:=p2;simp only at hc hd Lo LP;subst hc hd Lo LP;exact concat_meets ⟨_,ho,rfl⟩ ⟨_,LF,rfl⟩ noFill_tuple_add seq_tuple_add PySem.F.slot_tuple_add PySem.F.entry_tuple_add (PySem.F.args_tuple_add_2 _ _) (tuple_addW0 a b _ _ n n2 dd Mi sl Mo (by simp)) ⟨ho,LF,⟨.ref b,H,I,rfl,q _ H (ag.refl H) hy⟩⟩
 .refine zK Ku s σ H (.ref a) (.ref b) v u Q I rx ry ⟨a,b,vs,ws,rfl,rfl,SqT.of ha,SqT.of hb,h1,by lia,λe=> ?_,λ_ p np=> ?_⟩
  .have:ys=[]:=BQ.mp (by rw[<-l2,e];rfl);subst this;exact q _ H (ag.refl H) (by rw[B8];exact hx)
  .exact q _ _ (ag.new np) (bO am ((ra.append rb).mono (ag.new np)))
theorem uD:SlR X (λx lo hi H Q=>∃xs Ng,Is H (.t xs) x/\(∀(H':Hp) (vs:P' V),Iss H' xs vs->Iss H' Ng (cr vs lo hi))/\(∀vs:P' V,vs.length=xs.length->(HT.sIx vs.length 0 lo=0/\HT.sIx vs.length vs.length hi=vs.length)->Ng=xs)/\∀v H2,ag H H2->Is H2 (.t Ng) v->Q v H2):=by
 intro Ku s σ H x v vl vu lo hi sl Q I rx hs pl pu h;obtain⟨xs,Ng,hx,hc,hw,q⟩:=h;obtain⟨a,vs,rfl,ha,ra⟩:=bP hx;refine Fg Ku s σ H (.ref a) v vl vu lo hi sl Q I rx hs pl pu ⟨a,vs,rfl,SqT.of ha,λe=> ?_,λe p np=> ?_⟩
 .have:=hw vs ra.length e;subst this;exact q _ H (ag.refl H) hx
 .exact q _ _ (ag.new np) (bO am ((hc _ _ ra).mono (ag.new np)))
end
def LTS (H H':Hp):Prop:=(∀b xs,H b=some (.lst xs)->H' b=some (.lst xs))/\∀b xs,H b=some (.tup xs)->H' b=some (.tup xs)
theorem LTS.dict {o:HO} (h:H d=some (.dT Kv)):LTS H (upd H d o):=
 ⟨λb xs e=>by rw[au (by rintro rfl;rw[h] at e;cases e)];exact e,λb xs e=>by rw[au (by rintro rfl;rw[h] at e;cases e)];exact e⟩
theorem LTS.rd (h:Rd H d (.dT Kv)) (k:∀b,b≠d->H' b=H b):LTS H H':=by
 have nd:∀b o,H b=some o->(∀Kv,o≠ .dT Kv)->(∀ob u,o≠ .frz ob u)->b≠d:=by
  rintro b o e n1 n2 rfl;rcases h with h|⟨ob,h⟩
  .rw [h] at e;cases e;exact n1 _ rfl
  .rw [h] at e;cases e;exact n2 _ _ rfl
 exact⟨λb xs e=>by rw[k b (nd b _ e (λ_ z=>nomatch z) λ_ _ z=>nomatch z)];exact e,λb xs e=>by rw[k b (nd b _ e (λ_ z=>nomatch z) λ_ _ z=>nomatch z)];exact e⟩
mutual
theorem Is.lts {H H':Hp} (s:LTS H H'):∀{d:D}{v:V},Is H d v->Is H' d v
 | .i _,_,h=>by rw[aX h];exact aU
 | .l xs,_,h=>by
  obtain⟨a,vs,e,q,r⟩:=aH h;rw[e];exact aI (s.1 _ _ q) (Iss.lts s r)
 | .t xs,_,h=>by
  obtain⟨a,vs,e,q,r⟩:=bP h;rw[e];exact bO (s.2 _ _ q) (Iss.lts s r)
theorem Iss.lts {H H':Hp} (s:LTS H H'):∀{xs:P' D}{vs:P' V},Iss H xs vs->Iss H' xs vs
 |[],_,h=>by rw[bQ h];exact aA
 |x::xs,_,h=>by
  obtain⟨u,us,e,q,r⟩:=aR h;rw[e];exact ax (Is.lts s q) (Iss.lts s r)
end
section
variable {X:Cx}{Ku:P' (P5×Obj)}{σ:St}{H:Hp}{s:P4}
theorem Inv.goesK {i:Nat}{n:Str}{h':Qb}{m:Str->Qc P3}{t':Nat}{w:Qc P3} (I:Inv X Ku σ H s) (hN:X.N.Nodup) (hi:X.N[i]? =some n) (hn0:s.heap.Ns X.env.locals m) (hl:∀(i:Nat) (x:Str) (v:V),X.N[i]? =some x->σ[i]? =some (some v)->Vis X.env.scope x->∃u,aw v u/\qE X.env s.heap m x u)
  (hn:h'.Ns X.env.locals (λx=>if x=n then w else m x)) (hs:Heap.SameBut X.env.locals s.heap h'):Inv X Ku (σ.set i none) H {s with heap:=h',toks:=t'}:=by
 have lt:∀{b:P5}{o:Obj},X.s₀.heap.get? b=some o->b≠X.env.locals:=λe=>AO (Ai (AL e) I.ok.above);refine⟨I.ok,I.os,I.bare,⟨λb o e n hb hx=> ?_,λb o e n hb hx=> ?_,I.base.free,λb o e hx=> ?_,I.base.tups,I.base.frzs,I.base.tbls⟩,⟨_,hn,λj y v' e1 e2 e3=> ?_⟩,λy c e=> ?_,I.free,I.freeC,λp hp=> ?_,λb ob e=> ?_, ?_⟩
 .exact(hs.2 b (lt e)).trans (I.base.keep b o e n hb hx)
 .obtain⟨sl,e1⟩:=I.base.slot b o e n hb hx;exact⟨sl,(hs.2 b (lt e)).trans e1⟩
 .obtain⟨o',e1⟩:=I.base.there b o e hx;exact⟨o',(hs.2 b (lt e)).trans e1⟩
 .by_cases hj:j=i
  .subst hj;rw[List.getElem?_set_self'] at e2;cases e:σ[j]? with
   |none=>rw[e] at e2;cases e2
   |some a=>rw[e] at e2;cases e2
  .rw [C9 (D4 hj)] at e2;obtain⟨u',r',q⟩:=hl j y v' e1 e2 e3;refine⟨u',r', ?_⟩;rcases q with⟨k,e⟩|⟨k,c,e,z⟩
   .refine .inl ⟨k, ?_⟩;have:y≠n:=λe=>hj (l6 hN e1 (e▸hi));simp[this,e]
   .exact .inr ⟨k,c,e,z.sameBut hs (I.cne y c e)⟩
 .obtain⟨w',q⟩:=I.cell y c e;exact⟨w',q.sameBut hs (I.cne y c e)⟩
 .obtain⟨e,n,ne,nf,d⟩:=I.pin p hp;exact⟨(hs.2 p.1 ne).trans e,n,ne,nf,d⟩
 .refine(I.hok b ob e).stay (λc v hc q=>(hs.2 c λec=> ?_).trans q) (λ_ q=>q) λ_ _ q=>q;have fr:=I.free;rw[<-ec] at fr;rcases hc with rfl|hc
  .rw [fr] at e;cases e
  .rw [fr] at hc;cases hc
 .rw [Bi];exact I.len
end
def PSx (X:Cx) (st:P' Qd) (t:XK->TS):Prop:=
 ∀(E:XK) (Ku:P' (P5×Obj)) (s:P4) (σ:St) (H:Hp) (D:Ends),Inv X Ku σ H s->t E D σ H->wpAny (model X.prog X.w) X.A (execs st X.env) (SP X Ku D) (λe s'=>∃H1 s1,Inv X Ku σ H1 s1/\CX1 X.prog X.w X.stack H1 s1 E e s') s
section
variable {X:Cx}{k:Nat}{f:P5}{fd:P7}{ps:P' Str}{sp:Sp}{Lw:P' V}{ds:P' P3}{x:Str}{p pos KP:Pos}{e:Qa}{es:P' Qa}{t:TA}
theorem Ga (F:FnOk X.prog X.w X.K X.mg X.base (CX1 X.prog X.w) k f fd ps sp) (hr:Room k X.A) (hg:Gl X x) (hm:X.mg x=some (.ref f)) (hk:W.keepIn X.K (.ref f)=true) (hb:fB X.K fd ps ds) (hd:ap Lw ds)
  (ha:∀pn z,PA (X.inTry pn z) (e::es) t) (Mn:(x==("__debug__":Str))=false:=by decide) (he:starEach (e::es) X.env=(false,eval e X.env)::starEach es X.env:=by rfl) (LY:(backTo pos (starEach es X.env)).any (·.1)=false:=by rfl)
  (hs:swapsWith (.Call (.Name x p) (e::es) [] pos) none KP.line X.env=pure false:=by rfl):
  PSx X [.Expr (.Call (.Name x p) (e::es) [] pos) KP] λE=>qL (j7 sp Lw E t):=by
 intro E Ku s σ H D I h;refine wpAny_execs_cons (thn (Q:=SP X Ku D) ?_ λf s1 q=> ?_)
 rotate_left 1
 .cases f with
  |next=>exact Cy q
  |ret v=>exact q
  |brk=>exact q
  |cont=>exact q
 refine wpAny_Expr_any (thn (Q:=EP X Ku σ λ_ H1=>D.nx σ H1) ?_ λv s1 KJ=>by obtain⟨y,H1,I1,r1,q1⟩:=KJ;exact⟨σ,H1,I1,q1⟩) I.quiet hs;refine BL (f' I hg hm ?_ Mn);have J:Inv (X.inTry (X.pn++Ku) λe s'=>∃H1 s1,Inv X Ku σ H1 s1/\CX1 X.prog X.w X.stack H1 s1 E e s') [] σ H s:=I.toTry;refine W.callWith_K (h₀:=X.base) I.ok.mod.kin hk (thn (ha _ _ pos [] s σ H _ J h) λus s1 zu63=> ?_) he LY;obtain⟨vs,H1,I1',r,q⟩:=zu63;refine⟨I1'.kIn, ?_⟩;have I1:Inv X Ku σ H1 s1:=I1'.unTry;have r2:ap (vs++Lw) (us++ds):=r.append hd;have hl:(us++ds).length=ps.length:=by rw[<-r2.length];exact F.len _ _ _ _ q
 refine wpAny_call (D7 (F.run X.A X.stack s1 H1 ⟨us,[]⟩ (us++ds) (vs++Lw) _ E hr I1.env0 (hb s1 us I1.kIn hl) r2 q) λr s' hq=> ?_);cases r with
 |error e=>exact⟨H1,s1,I1,hq⟩
 |ok fl=>
  cases fl with
  |ret u=>exact I1.after hq
  |next=>exact False.elim hq
  |brk=>exact False.elim hq
  |cont=>exact False.elim hq
end
def Ends.del (D:Ends) (i:Nat):Ends:={nx:=λσ H=>D.nx (σ.set i none) H,rt:=D.rt,bk:=λσ H=>D.bk (σ.set i none) H,ct:=λσ H=>D.ct (σ.set i none) H}
inductive tTry2t (K:Frag) (hc:Addr) (Lo:Addr) (i:Nat) (tb:XK->TS) (ts:TS) (D:Ends) (σ:St) (H:Hp):Prop
 |mk (E:XK):tb E D σ H->(∀(C e:Addr) (H':Hp),E (.ref C) none H'->H' e=none->exmAny K (.ref C) [.ref hc, .ref Lo]=some true/\ts (D.del i) (σ.set i (some (.ref e))) (upd H' e (dQ C e)))->tTry2t K hc Lo i tb ts D σ H
theorem Gb {X:Cx}{x y n:Str}{hc Lo:P5}{kk:Nat}{i:Nat}{body OI:P' Qd}{b₀:Qd}{tb:XK->TS}{ts:TS}{np np2 Lv Ly pos:Pos} (F:Fnc X) (hN:X.N.Nodup) (hi:X.N[i]? =some n) (hx:Loc X.env.scope n) (hloc:X.env.kindOf n=some .local) (hg:Gl X x) (hm:X.mg x=some (.ref hc)) (hg2:Gl X y) (hm2:X.mg y=some (.ref Lo))
  (hb:PSx X body tb) (hs:∀e,PSs (X.inSuite e) (b₀::OI) ts) (hf:X.fn n=true\/X.env.scope.names.lookup n=some .local:=by first|exact .inl rfl|exact .inr rfl) (Mn:(x==("__debug__":Str))=false:=by decide) (hdb2:(y==("__debug__":Str))=false:=by decide):
  PS X (.Try body [.ExceptHandler (some (.Tuple [.Name x np, .Name y np2] kk Lv)) (some n) (b₀::OI) Ly] [] [] pos) (tTry2t X.K hc Lo i tb ts):=by
 intro Ku s σ H D I ⟨E,hw,hE⟩;refine wpAny_Try_except (BV (hb E Ku s σ H D I hw) (λf s1 q=> ?_) λev s1 q=> ?_)
 .cases f with
  |next=>exact Cy q
  |ret u=>exact q
  |brk=>exact q
  |cont=>exact q
 obtain⟨H1,s0,I0,a,C,H',B,a0,rfl,hEE,os,bare,u,hB,hn,fl,kB,tB⟩:=q;obtain⟨hmt,hts⟩:=hE C a H' hEE hn;have nfr:a∉frs X.stack:=λz=>by
  obtain⟨_,o,e1,d⟩:=fl.2.2.1.mem z;obtain⟨oe,vs,e2,_,dd,_⟩:=fl.first;rw[e1] at e2;cases e2;exact d _ dd
 have bo:∀{h5:Qb},B.StaysIn h5->s1.heap.UpToSlots h5->Inv X Ku σ H' {s1 with heap:=h5}:=fun{h5} st up=>
  I0.call' (s':={s1 with heap:=h5}) (ch:=[]) os (mR u fl.2.2.1 kB tB st up) (hB.kept st) bare λ_ z=>absurd z (by simp)
 have bn:=fl.2.1;have Pn:s0.heap.get? a=none:=by
  cases q:s0.heap.get? a with
  |none=>rfl
  |some o=>
   obtain⟨o',z⟩:=tB a o q nfr;rw[bn] at z;cases z
 have hnL:a≠X.env.locals:=λz=>nfr (by rw[F.stk,z];exact sw (AS ..) F.fr);have new:X.s₀.heap.get? a=none/\(∀x c,X.env.cells.lookup x=some c->c≠a)/\(∀p∈X.pn++Ku,p.1≠a):=by
  refine⟨?_,λy c q z=> ?_,λp hp z=> ?_⟩
  .cases q:X.s₀.heap.get? a with
   |none=>rfl
   |some o=>
    obtain⟨o',z⟩:=I0.base.there a o q (by rw[F.ex];simp);rw[Pn] at z;cases z
  .obtain⟨v,o,q1,_⟩:=I0.cell y c q;rw[z,Pn] at q1;cases q1
  .have q1:=(I0.pin p hp).1;rw[z,Pn] at q1;cases q1
 refine wpAny_looks_onW (by rw[I.ok.frames,F.stk]) F.fr (by rw[<-F.stk];exact fl) λh4 held4 up4=> ?_;refine wpAny_landsW held4 λh5 fl5 up5=> ?_;have I5:Inv (X.inSuite a) Ku σ H' {s1 with heap:=h5}:=(bo fl5.1 (up4.trans up5)).toSuite;refine wpAny_handleBy_cons (codeAny_handlers_test (wpAny_Tuple_spliced ?_)) (by intro q;cases q);refine CA (f' I5 hg hm ?_ Mn);refine CA (f' I5 hg2 hm2 ?_ hdb2);refine Calls.spliced_nil ⟨(by show 2<=sizeLine;decide), ?_⟩;have kp:∀(b:P5) (o:Obj),h5.get? b=some o->(h5.push {cls:=Value.type "tuple",data:=Data.seq [Value.ref hc, .ref Lo].toArray}).get? b=some o:=λb u e=>A5 _ e;have fl5':=flying_keeps fl5 kp;obtain⟨ob,ho,N4⟩:=fl5'.there;refine(exm_tup2 (K:=X.K) (I5.kIn.keeps kp) (mT ho N4) (AI _ rfl) hmt).here ?_;refine codeAny_handlers_suite_as ?_;refine lands_againW fl5' λh6 fl6 up6=> ?_;obtain⟨ob6,MM,hcl6⟩:=fl6.there;have I6:Inv X Ku σ (upd H' a (dQ C a)) {s1 with heap:=h6}:=(bo fl6.1 ((up4.trans up5).trans ((Heap.UpToSlots.of_keeps kp).trans up6))).hold hn hnL new ⟨ob6,MM,hcl6⟩;refine fZ (X:=X.inSuite a) (v:= .ref a) I6.toSuite hN hi hx rfl (λs7 I7=> ?_) hf;refine BV (hs a Ku s7 _ _ _ I7 hts) (λf s8 q=> ?_) λ_ _ z=>z.elim;have go:∀{σ8:St}{H8:Hp},Inv (X.inSuite a) Ku σ8 H8 s8->(∀s9,Inv X Ku (σ8.set i none) H8 s9->SP X Ku D f s9)->
   wpAny (model X.prog X.w) X.A (do bindName X.env n .none;unbindBehindTheSuite X.env n Ly) (λ_ s9=>SP X Ku D f s9) X.xe s8:=fun{σ8 H8} I8 k=>by
  obtain⟨m,Oz,hlk⟩:=I8.loc;refine wpAny_nameGoes_keeps hloc Oz (by rw[I.ok.kind];rfl) λh9 v9 hn9 hs9=> ?_;exact k _ ((Inv.unSuite I.ok.hd I8).goesK (t':=s8.toks+1) hN hi Oz hlk hn9 hs9)
 cases f with
 |next=>obtain⟨σ8,H8,I8,q⟩:=q;exact go I8 λs9 J=>⟨_,_,J,q⟩
 |brk=>obtain⟨σ8,H8,I8,q⟩:=q;exact go I8 λs9 J=>⟨_,_,J,q⟩
 |cont=>obtain⟨σ8,H8,I8,q⟩:=q;exact go I8 λs9 J=>⟨_,_,J,q⟩
 |ret u=>obtain⟨v,σ8,H8,I8,r,q⟩:=q;exact go I8 λs9 J=>⟨v,_,_,J,r,q⟩
theorem Gc {k:Key}{v:P3} (h:fy k v=true):aw (kV k) v:=by
 rcases dO h with⟨i,t,rfl,rfl⟩|⟨x,t,rfl,rfl⟩
 .exact⟨t,rfl⟩
 .exact⟨t,rfl⟩
theorem kK {P:P6}{w:P8}:∀{es:P' DictEntry}{vs:P' (Key×P3)},Pairs (bU P w) es vs->es.length=vs.length
 |_,_, .nil=>rfl
 |_,_, .cons _ _ t=>by rw[AZ,AZ,kK t]
theorem uE {P:P6}{w:P8}:∀{es:P' DictEntry}{vs:P' (Key×P3)}{i:Nat}{x:Key×P3},Pairs (bU P w) es vs->vs[i]? =some x->∃e,es[i]? =some e/\fy x.1 e.key=true
 |_,_,i,x, .nil,h=>by simp at h
 |_,_,0,x, .cons k _ _,h=>by simp at h;subst h;exact⟨_,rfl,k⟩
 |_,_,i+1,x, .cons _ _ t,h=>by simp at h;obtain⟨e,q,r⟩:=uE t h;exact⟨e,by simpa using q,r⟩
def Iti (d:P5) (o:Obj) (Kv:P' (Key×V)):It:=
 ⟨λi H=>H d=some (.frz o (.dK Kv))/\i<Kv.length,λi H x H'=>H'=H/\∃k v,x=kV k/\Kv[i]? =some (k,v),λi H=>H d=some (.frz o (.dK Kv))/\Kv.length<=i⟩
inductive iDictI_ (R:(It->Hp->Prop)) (x:V) (H1:Hp):Prop
 |mk (d:Addr) (Kv:List (Key×V)):x= .ref d->Rd H1 d (.dK Kv)->(∀(o:Obj) (H2:Hp),H2 d=some (.frz o (.dK Kv))->(∀b,b≠d->H2 b=H1 b)->R (Iti d o Kv) H2)->iDictI_ R x H1
def Gd (td:TE):TI:=λσ H R=>td σ H λx H1=>iDictI_ R x H1
theorem Ge {P:P6}{w:P8}{K:W.Frag}{tg:Qa} (d it:P5) (o:Obj) (Kv:P' (Key×V)) (ep:Nat) (hep:∀Lb L',o.data= .dict Lb L'->L'=ep):Turn P w K tg (Iti d o Kv) [it] it (λi h=>h.IsKeyIter it d i Kv.length ep) where
 mem:=by simp
 obj:=λi h st b hb=>by
  have e:b=it:=by simpa using hb
  subst e;obtain⟨o,e,c,d⟩:=st;exact⟨o,e,λv z=>by rw[d] at z;cases z⟩
 keep:=λi h h' st k=>st.at λo e=>k it (by simp) o e
 item:=by
  intro X hP hw hK hc i Ku s σ H E I hf st hg;subst hP hw hK;obtain⟨hq,hi⟩:=hg;obtain⟨ho,z,y,vs,KO,o',es,L',h1,h2,h3,hk,h4,h5⟩:=(show aC X.prog X.w H s.heap d (.frz o (.dK Kv)) from I.hok d _ hq);obtain rfl:o=o':=Ae (ho.symm.trans h1);obtain rfl:L'=ep:=hep _ _ h3;have hx:Kv[i]? =some Kv[i]:=A2 hi;obtain⟨q,LI,e1,e2⟩:=kJ KO hx;obtain⟨en,N9,NZ⟩:=uE h4 LI;have hsz:es.size=Kv.length:=by rw[<-An,kK h4,<-Be KO]
  have he:es[i]? =some en:=by rw[<-BN];exact N9
  obtain⟨f0,f1,f2,f3,f4,f5⟩:=hf it (by simp);rw[<-hsz] at st;refine uA st ho h3 he λh' K' sb=> ?_;have I1:Inv X Ku σ H {s with heap:=h'}:=I.turned (t':=s.toks) (λb o hb e=>(sb.2 b hb).trans e) f0 f1 f3 f4 f5;obtain⟨oo,e,c,d'⟩:=id K';rw[hsz] at K';rw[<-e1] at NZ;exact⟨_,rfl,go_of (s:={s with heap:=h'}) e c d' (by decide) ⟨kV Kv[i].1,H,I1,Gc NZ,⟨rfl,Kv[i].1,Kv[i].2,rfl,hx⟩,K',λb hb=>(hf b hb).1⟩⟩
 done:=by
  intro X hP hw hK hc i Ku s σ H E I hf st hg;subst hP hw hK;obtain⟨hq,hi⟩:=hg;obtain⟨ho,z,y,vs,KO,o',es,L',h1,h2,h3,hk,h4,h5⟩:=(show aC X.prog X.w H s.heap d (.frz o (.dK Kv)) from I.hok d _ hq);obtain rfl:o=o':=Ae (ho.symm.trans h1);obtain rfl:L'=ep:=hep _ _ h3;have hsz:es.size=Kv.length:=by rw[<-An,kK h4,<-Be KO]
  obtain⟨f0,f1,f2,f3,f4,f5⟩:=hf it (by simp);rw[<-hsz] at st;exact uB (I.ok.hd hc) st ho h3 (by lia) λh' eb=>⟨rfl,I.turned (t':=s.toks) (λb o hb e=>eb b o hb e) f0 f1 f3 f4 f5⟩
 self:=λ_ _ _ _ _ st h=>wpAny_pyIter_keyiter st h
section
variable {X:Cx}{tg:Qa}
theorem nE {l:Qa}{tl:TE} (hl:PE X l tl):PI X tg l (Gd tl):=by
 intro Ku s σ H R I h;refine thn (hl Ku s σ H _ I h) λv s1 zu64=> ?_;obtain⟨x,H1,I1,r1,q1⟩:=zu64;obtain⟨d,Kv,rfl,hq,q⟩:=q1;cases r1;have N8:aC X.prog X.w H1 s1.heap d (.dK Kv):=iW I1.hok hq;obtain⟨z,y,vs,KO,o,es,ep,h1,h2,h3,hk,h4,h5⟩:=id N8;have hsz:es.size=Kv.length:=by rw[<-An,kK h4,<-Be KO]
 obtain⟨H2,I2,e2,k2⟩:∃H2,Inv X Ku σ H2 s1/\H2 d=some (.frz o (.dK Kv))/\∀b,b≠d->H2 b=H1 b:=by
  rcases hq with hq|⟨o',hq⟩
  .exact⟨_,gO (t':=s1.toks) I1 (by rw[hq];exact True.intro) (Heap.SameBut.refl _ _) ⟨o,h1⟩ (show aC X.prog X.w (upd H1 d (.frz o (.dK Kv))) s1.heap d (.frz o (.dK Kv)) from⟨h1,N8⟩),am,λb hb=>au hb⟩
  .obtain⟨LN,_⟩:=(show aC X.prog X.w H1 s1.heap d (.frz o' (.dK Kv)) from I1.hok d _ hq);obtain rfl:o'=o:=Ae (LN.symm.trans h1);exact⟨H1,I1,hq,λ_ _=>rfl⟩
 refine uz y h1 h2 h3 ?_;rw[hsz];refine⟨s1.heap.objs.size,[s1.heap.objs.size],_,_,_,rfl,I2.kept (t':=s1.toks) λb o e=>A5 _ e,Ge d _ o Kv ep (λLb L' e=>by rw[h3] at e;cases e;rfl),⟨_,AI _ rfl,rfl,rfl⟩,λb hb=> ?_,q o H2 e2 k2⟩;have e:b=s1.heap.objs.size:=by simpa using hb
 subst e;exact I2.fpOk (A8 _) (I2.hok.fresh (A8 _))
theorem uF {d:P5}{o:Obj}{Kv:P' (Key×V)}{g:TG}{tb:TS}{D:Ends}{σ:St}{H:Hp} (Pv:Nat->St->Hp->Prop) (h0:Pv 0 σ H) (hl:∀i σ H,i<=Kv.length->Pv i σ H->H d=some (.frz o (.dK Kv)))
  (hs:∀i k v σ H,Kv[i]? =some (k,v)->Pv i σ H->g (kV k) σ H λσ2 H2=>tb (eLp D (Pv (i+1))) σ2 H2) (hd:∀σ H,Pv Kv.length σ H->D.nx σ H):
  ∃Wq:Nat->Nat->St->Hp->Prop,(∃m,Wq 0 m σ H)/\∀i m σ H,Wq i m σ H->
   ((Iti d o Kv).stop i H/\D.nx σ H)\/((Iti d o Kv).go i H/\∃N:St->Hp->Prop,(∀σ' H',N σ' H'->∃m',m'<m/\Wq (i+1) m' σ' H')/\∀x H',(Iti d o Kv).yld i H x H'->g x σ H' λσ2 H2=>tb (eLp D (N)) σ2 H2):=by
 refine⟨λi m σ H=>m=Kv.length-i/\i<=Kv.length/\Pv i σ H,⟨Kv.length,by simp,AJ _,h0⟩, ?_⟩;rintro i m σ H ⟨rfl,hi,p⟩;have q:=hl i σ H hi p;by_cases KD:i<Kv.length
 .refine .inr ⟨⟨q,KD⟩,Pv (i+1),λσ' H' p'=>⟨Kv.length-(i+1),by lia,rfl,KD,p'⟩, ?_⟩;rintro x H' ⟨rfl,k,v,rfl,e⟩;exact hs i k v σ _ e p
 .obtain rfl:i=Kv.length:=by lia
  exact .inl ⟨⟨q,A8 _⟩,hd σ H p⟩
end
theorem Gf {d:P5}{o:Obj}{Kv:P' (Key×V)}{own:Nat}{js:P' Nat}{g:TG}{ti:TT}{te:TE}{σ:St}{H1:Hp}{acc:P5}{Q:VK} (Pv:Nat->Hp->Prop) (h0:Pv 0 (upd H1 acc (.lst []))) (hl:∀i H2,i<=Kv.length->Pv i H2->H2 d=some (.frz o (.dK Kv)))
  (hs:∀i k v H2,Kv[i]? =some (k,v)->Pv i H2->g (kV k) (cX own js σ) H2 λσ4 H4=>ti σ4 H4 λb H5=>if b=true then te σ4 H5 λy H6=>rAppend (.ref acc) [y] H6 λ_ H7=>Pv (i+1) H7 else Pv (i+1) H5) (hd:∀H2,Pv Kv.length H2->Q (.ref acc) H2)
  (mono:∀σ H (R R':St->Hp->Prop) x,(∀σ' H',R σ' H'->R' σ' H')->g x σ H R->g x σ H R') (Lj:∀σ H (R R':Bool->Hp->Prop),(∀b H',R b H'->R' b H')->ti σ H R->ti σ H R') (Lk:∀σ H (R R':VK),(∀v H',R v H'->R' v H')->te σ H R->te σ H R'):
  gQ (Iti d o Kv) own js g ti te σ H1 acc Q:=by
 refine⟨λi m H2=>m=Kv.length-i/\i<=Kv.length/\Pv i H2,⟨Kv.length,by simp,AJ _,h0⟩, ?_⟩;rintro i m H2 ⟨rfl,hi,p⟩;have q:=hl i H2 hi p;by_cases KD:i<Kv.length
 .refine .inr ⟨⟨q,KD⟩,λx H3 y=> ?_⟩;obtain⟨e1,k,v,e2,hk⟩:=y;subst e1 e2;refine mono _ _ _ _ _ (λσ4 H4 q=>Lj _ _ _ _ (λb H5 q=> ?_) q) (hs i k v _ hk p);cases b with
  |true=>
   refine Lk _ _ _ _ (λv H6 q=> ?_) q;obtain⟨l,xs,y,a1,a2,a3,a4,a5⟩:=q;exact⟨l,xs,y,a1,a2,a3,a4,_,by lia,rfl,KD,a5⟩
  |false=>exact⟨_,by lia,rfl,KD,q⟩
 .have e:i=Kv.length:=by lia
  subst e;exact .inl ⟨⟨q,A8 _⟩,hd H2 p⟩
section
variable {prog:P6}{w:P8}{K:Type} [DecidableEq K] {knd:KeyKind prog w K}
variable {A:P9}{E:P3->P4->Prop}{s:P4}
theorem Gg {ks:P' K}{a:P5}{n:Nat}{Q:Bool->P4->Prop} (hk:IsTupleKey knd s.heap ks a) (h:Q true s):wpAny (model prog w) A (eqIsQuiet (n+1) (.ref a)) Q E s:=by
 have hT:=hk.typeIs;obtain⟨o,items,n,ho,_,hd,hi⟩:=hk;unfold eqIsQuiet;refine A0 (CS hT F.slot_tuple_eq.lookup ?_);show wpAny _ _ (isInstance (.ref a) (.type "tuple")>>=_) _ _ s;refine A0 (Bz hT isSubtype_tuple_tuple ?_);simp only[BJ,AK,Av];refine A0 (Bm ho hd ?_);refine A0 ?_;show wpAny _ _ (forIn items _ _) _ _ s;rw[<-Cp];refine C0 _ (λaN r s'=>r.1=none/\s'=s/\∀v∈aN,carriedByValue v=true) _ ?_ ?_ _ _ ⟨rfl,rfl,hi.byValue⟩
 .rintro v aN r s' ⟨hr,rfl,Lc⟩;rw[eqIsQuiet_byValue _ (Lc v AS)];refine A0 (A3 ?_);simp only[BJ,AK,Av];exact A3 ⟨rfl,rfl,λu Pf=>Lc u (AN _ Pf)⟩
 .rintro⟨r1,r2⟩ s' ⟨hr,rfl,_⟩;simp only at hr;subst hr;exact A3 h
end
theorem nF {A:P9}{k:Nat} (hr:Room k A):A.units+2<cLine:=by have:=hr.un;lia
class KOk {P:P6}{w:P8}{κ:Type} [DecidableEq κ] (hk:HeapKind P w κ) (IK:Hp->κ->V->Prop):Prop where
 of:∀{H:Hp}{h:Qb}{k:κ}{a:P5},HOk P w H h->IK H k (.ref a)->hk.is h k a
 ref:∀{H:Hp}{k:κ}{y:V},IK H k y->∃b,y= .ref b
 keeps:∀{H H':Hp},(∀b ys,H b=some (.tup ys)->H' b=some (.tup ys))->∀{k:κ}{v:V},IK H k v->IK H' k v
 room1:∀{A:P9},A.units+1<cLine->hk.room A
section
variable {P:P6}{w:P8}{κ:Type} [DecidableEq κ] {hk:HeapKind P w κ}{IK:Hp->κ->V->Prop}{H:Hp}{h:Qb}{a:P5}
theorem KOk.room (F:KOk hk IK) {A:P9} (hu:A.units+2<cLine):hk.room A.in1:=F.room1 (by rw[cK];lia)
theorem KOk.rf (F:KOk hk IK) {k:κ}{y:V}{u:P3} (h:IK H k y) (r:aw y u):∃b,y= .ref b/\u= .ref b:=by
 obtain⟨b,rfl⟩:=F.ref h;exact⟨b,rfl,r⟩
def gE (hk:HeapKind P w κ) (xs:P' (κ×P5×P3)) (a:P5) (h:Qb):Prop:=
 ∃o es ep,h.get? a=some o/\o.ExactDict/\o.data= .dict es ep/\es.toList=xs.map (entryOfKey hk)/\(xs.map (·.1)).Nodup
abbrev GT (IK:Hp->κ->V->Prop) (H:Hp):P' (κ×V)->P' (κ×P5×P3)->Prop:=Paired λp q=>p.1=q.1/\IK H p.1 (.ref q.2.1)/\aw p.2 q.2.2
def DG (hk:HeapKind P w κ) (IK:Hp->κ->V->Prop) (H:Hp) (a:P5) (Kv:P' (κ×V)):Prop:=Kv.length<=sizeLine/\(a==sysModules)=false/\∃xs,GT IK H Kv xs/\H a=some (.ext (gE hk xs a))
theorem kL [F:KOk hk IK] {Kv:P' (κ×V)} (ok:HOk P w H h) (e:DG hk IK H a Kv):Kv.length<=sizeLine/\(a==sysModules)=false/\∃xs,GT IK H Kv xs/\H a=some (.ext (gE hk xs a))/\h.DictOfH hk a xs:=by
 obtain⟨z,y,xs,r,e⟩:=e;obtain⟨⟨o,es,ep,h1,h2,h3,h4,h5⟩,_,_⟩:=(show aC P w H h a (.ext (gE hk xs a)) from ok a _ e);refine⟨z,y,xs,r,e,o,es,ep,h1,h2,h3,h4,λx hx=> ?_,h5⟩;have all:∀{l:P' (κ×V)}{m:P' (κ×P5×P3)},GT IK H l m->∀x∈m,hk.is h x.1 x.2.1:=by
  intro l m q;induction q with
  |nil=>intro x hx;exact nomatch hx
  | @cons p q ps qs hq t ih=>
   intro x hx;rcases AM.mp hx with e|hx
   .subst e;exact F.of ok (by rw[<-hq.1];exact hq.2.1)
   .exact ih x hx
 exact all r x hx
theorem uG {xs:P' (κ×P5×P3)}{H':Hp} (d:∃o es ep,h.get? a=some o/\o.ExactDict/\o.data= .dict es ep/\es.toList=xs.map (entryOfKey hk)/\(xs.map (·.1)).Nodup):aC P w H' h a (.ext (gE hk xs a)):=by
 refine⟨d,let ⟨o,_,_,h1,_⟩:=d;⟨o,h1⟩,λh1 h2 f k=> ?_⟩;obtain⟨o,es,ep,e1,r⟩:=f;exact⟨o,es,ep,k o e1,r⟩
theorem GT.val {Kv:P' (κ×V)}{xs:P' (κ×P5×P3)} (r:GT IK H Kv xs) (k:κ):cG (aP Kv k) ((atKey xs k).map (·.2)):=by
 induction r with
 |nil=>exact True.intro
 | @cons p q ps qs h t ih=>
  obtain⟨h1,_,h2⟩:=h;by_cases e:p.1=k
  .have e':q.1=k:=h1.symm.trans e;have b:atKey (q::qs) k=some q.2:=by simp[atKey,Bb,e']
   rw[cU e,b];exact h2
  .have e':¬q.1=k:=λz=>e (h1.trans z);have b:atKey (q::qs) k=atKey qs k:=by simp[atKey,Bb,e']
   rw[cV e,b];exact ih
theorem GT.repl {Kv:P' (κ×V)}{xs:P' (κ×P5×P3)} (r:GT IK H Kv xs) (k:κ) {y:V}{u:P3} (ry:aw y u):
  GT IK H (Kv.map λkv=>if kv.1=k then(kv.1,y) else kv) (xs.map (putAt k u)):=by
 induction r with
 |nil=>exact .nil
 | @cons p q ps qs h t ih=>
  rw[AW,AW];refine .cons ?_ ih;obtain⟨h1,h2,h3⟩:=h;unfold putAt;by_cases e:p.1=k
  .rw [AB e,AB (h1.symm.trans e)];exact⟨h1,h2,ry⟩
  .rw [A6 e,A6 (λz=>e (h1.trans z))];exact⟨h1,h2,h3⟩
theorem GT.put {Kv:P' (κ×V)}{xs:P' (κ×P5×P3)} (r:GT IK H Kv xs) (k:κ) {b:P5}{y:V}{u:P3} (hb:IK H k (.ref b)) (ry:aw y u):
  GT IK H (aQ Kv k y) (storedH xs k b u):=by
 have e:(Kv.any λkv=>decide (kv.1=k))=(atKey xs k).isSome:=by
  rw[fF,(r.val k).isSome_eq,Option.isSome_map]
 unfold aQ storedH;rw[e];by_cases q:(atKey xs k).isSome=true
 .rw [AB q,AB q];exact r.repl k ry
 .rw [A6 q,A6 q];exact Paired.snoc r ⟨rfl,hb,ry⟩
theorem GT.keeps (F:KOk hk IK) {H':Hp}{Kv:P' (κ×V)}{xs:P' (κ×P5×P3)} (r:GT IK H Kv xs) (ht:∀b ys,H b=some (.tup ys)->H' b=some (.tup ys)):GT IK H' Kv xs:=
 Paired.mapP r λ_ _ z=>⟨z.1,F.keeps ht z.2.1,z.2.2⟩
theorem DG.mono [F:KOk hk IK] {H':Hp}{Kv:P' (κ×V)} (s:ag H H') (d:DG hk IK H a Kv):DG hk IK H' a Kv:=by
 obtain⟨z,y,xs,r,e⟩:=d;exact⟨z,y,xs,r.keeps F λb ys=>s b _,s _ _ e⟩
theorem DG.mut {Kv:P' (κ×V)} (d:DG hk IK H a Kv):Mut (H a):=by
 obtain⟨_,_,xs,_,e⟩:=d;rw[e];exact True.intro
theorem DG.ntup {Kv:P' (κ×V)} (d:DG hk IK H a Kv) {b:P5}{ys:P' V} (e:H b=some (.tup ys)):b≠a:=by
 obtain⟨_,_,xs,_,e2⟩:=d;rintro rfl;rw[e2] at e;cases e
theorem Gh {p:P5} (hp:p=h.objs.size) (hb:sysModules<h.objs.size):DG hk IK (upd H p (.ext (gE hk [] p))) p []:=by
 subst hp;exact⟨AJ _,Ce.mpr (D4 (AO hb)),[], .nil,am⟩
def Gi (h:Qb):aC P w H (h.push {cls:= .type "dict",data:= .dict #[]}) h.objs.size (.ext (gE hk [] h.objs.size)):=
 uG ⟨_, #[],0,AI _ rfl,⟨rfl,rfl,rfl⟩,rfl,rfl,List.nodup_nil⟩
end
section
variable {X:Cx}{κ:Type} [DecidableEq κ] {hk:HeapKind X.prog X.w κ}{IK:Hp->κ->V->Prop}{Ku:P' (P5×Obj)}{σ:St}{H:Hp}{s:P4}{a b:P5}{v:V}{r:P3}{A:P9}{E:P3->P4->Prop}{Kv:P' (κ×V)}{ks:κ}
theorem Gj [F:KOk hk IK] {Q:P3->P4->Prop} (hu:A.units+2<cLine) (I:Inv X Ku σ H s) (d:DG hk IK H a Kv) (k:IK H ks (.ref b)) (l:aP Kv ks=some v) (h:∀w' s',Inv X Ku σ H s'->aw v w'->Q w' s'):
  wpAny (model X.prog X.w) A (getItem (.ref a) (.ref b)) Q E s:=by
 obtain⟨z,hd,xs,KO,_,dd⟩:=kL I.hok d;obtain⟨w',hw,LD⟩:=cG.some_of (v:=v) (o:=(atKey xs ks).map (·.2)) (by rw[<-l];exact KO.val ks);obtain⟨p,hp,N3⟩:=AA.mp hw;refine wpAny_getItem_heap (F.room hu) (F.of I.hok k) dd hp ?_;rw[N3];exact h w' _ (I.tok _) LD
theorem Gk [F:KOk hk IK] {Q:P3->P4->Prop} (hu:A.units+2<cLine) (I:Inv X Ku σ H s) (d:DG hk IK H a Kv) (k:IK H ks (.ref b)) (h:∀s',Inv X Ku σ H s'->Q (.bool (!(aP Kv ks).isSome)) s'):
  wpAny (model X.prog X.w) A (compareOp .NotIn (.ref b) (.ref a)) Q E s:=by
 obtain⟨z,hd,xs,KO,_,dd⟩:=kL I.hok d;refine wpAny_notIn_heap (F.room hu) (F.of I.hok k) hd dd ?_;have q:=(KO.val ks).isSome_eq;rw[Option.isSome_map] at q;rw[<-q];exact h _ (I.tok _)
theorem Gm [F:KOk hk IK] {Q:Unit->P4->Prop} (hu:A.units+2<cLine) (I:Inv X Ku σ H s) (d:DG hk IK H a Kv) (k:IK H ks (.ref b)) (hl:Kv.length<sizeLine) (rv:aw v r)
  (h:∀H' s',DG hk IK H' a (aQ Kv ks v)->(∀b,b≠a->H' b=H b)->Inv X Ku σ H' s'->Q () s'):wpAny (model X.prog X.w) A (setItem (.ref a) (.ref b) r) Q E s:=by
 obtain⟨z,hd,xs,KO,e,dd⟩:=kL I.hok d;have hz:xs.length<=sizeLine:=by rw[<-Be KO];exact z
 have Ln:(aQ Kv ks v).length<=sizeLine:=by have:=my Kv ks v;lia
 refine wpAny_setItem_heap (hsz:=hz) (F.room hu) (F.of I.hok k) dd λh' NO hs=> ?_;obtain⟨q,es,ep,hq,h2,h3,h4,_,h5⟩:=NO;refine h (upd H a (.ext (gE hk (storedH xs ks b r) a))) _ ⟨Ln,hd,_,(KO.put ks k rv).keeps F λc ys ec=> ?_,am⟩ (λc hc=>au hc) (gO I d.mut hs ⟨q,hq⟩ (uG ⟨q,es,ep,hq,h2,h3,h4,h5⟩));rw[au (d.ntup ec)];exact ec
theorem Gn [F:KOk hk IK] (I:Inv X Ku σ H s) (d:DG hk IK H a Kv):s.TypeIs (.ref a) "dict"/\(∀b,Value.ref a= .ref b->∃ob,s.heap.get? b=some ob/\ob.dict=none)/\(a==sysModules)=false:=by
 obtain⟨_,hd,xs,_,_,dd⟩:=kL I.hok d;refine⟨dd.typeIs,λb q=> ?_,hd⟩;cases q;obtain⟨ob,_,_,h1,h2,_⟩:=dd;exact⟨ob,h1,h2.2.1⟩
end
section
variable {P:P6}{w:P8}{κ:Type} [DecidableEq κ]
inductive tGGet_ (hk:HeapKind P w κ) (IK:Hp->κ->V->Prop) (Q:VK) (x:V) (y:V) (H2:Hp):Prop
 |mk a Kv ks v:x= .ref a->DG hk IK H2 a Kv->IK H2 ks y->aP Kv ks=some v->Q v H2->tGGet_ hk IK Q x y H2
def uH (hk:HeapKind P w κ) (IK:Hp->κ->V->Prop) (td ty:TE):TE:=λσ H Q=>td σ H λx H1=>ty σ H1 λy H2=>tGGet_ hk IK Q x y H2
inductive tGNotIn_ (hk:HeapKind P w κ) (IK:Hp->κ->V->Prop) (Q:VK) (y:V) (x:V) (H2:Hp):Prop
 |mk a Kv ks:x= .ref a->DG hk IK H2 a Kv->IK H2 ks y->Q (.bl (!(aP Kv ks).isSome)) H2->tGNotIn_ hk IK Q y x H2
def uI (hk:HeapKind P w κ) (IK:Hp->κ->V->Prop) (ty td:TE):TE:=λσ H Q=>ty σ H λy H1=>td σ H1 λx H2=>tGNotIn_ hk IK Q y x H2
inductive sGPut_ (hk:HeapKind P w κ) (IK:Hp->κ->V->Prop) (D:Ends) (σ:St) (v:V) (x:V) (y:V) (H3:Hp):Prop
 |mk a Kv ks:x= .ref a->DG hk IK H3 a Kv->IK H3 ks y->Kv.length<sizeLine->(∀H4,DG hk IK H4 a (aQ Kv ks v)->(∀b,b≠a->H4 b=H3 b)->D.nx σ H4)->sGPut_ hk IK D σ v x y H3
def uJ (hk:HeapKind P w κ) (IK:Hp->κ->V->Prop) (td ty tv:TE):TS:=λD σ H=>tv σ H λv H1=>td σ H1 λx H2=>ty σ H2 λy H3=>sGPut_ hk IK D σ v x y H3
def uK (hk:HeapKind P w κ) (IK:Hp->κ->V->Prop):TE:=λ_ H Q=>∀p H',H p=none->DG hk IK H' p []->(∀b,b≠p->H' b=H b)->Q (.ref p) H'
end
section
variable {X:Cx}{κ:Type} [DecidableEq κ] {hk:HeapKind X.prog X.w κ}{IK:Hp->κ->V->Prop}{o i e f value ek ev:Qa}{pos KP KR KH:Pos}{td ty tv tx tk:TE}
theorem Go [F:KOk hk IK] (hu:X.A.units+2<cLine) (ho:PE X o td) (hi:PE X i ty) (hs:i0 i):PE X (.Subscript o i pos) (uH hk IK td ty):=by
 intro Ku s σ H Q I h;refine mz PySem.F.slot_dict_getitem.lookup hs (thn (ho Ku s σ H _ I h) λu s1 zu65=> ?_);obtain⟨x,H1,I1,rx,q1⟩:=zu65;refine thn (hi Ku s1 σ H1 _ I1 q1) λiv s2 zu66=> ?_;obtain⟨y,H2,I2,ry,a,Kv,ks,v,ex,d,k,l,q2⟩:=zu66;subst ex;obtain rfl:u=Value.ref a:=rx;obtain⟨b,rfl,rfl⟩:=F.rf k ry;exact⟨(Gn I2 d).1,Gj hu I2 d k l λw' s3 I3 LD=>⟨v,H2,I3,LD,q2⟩⟩
theorem Gp [F:KOk hk IK] (hu:X.A.units+2<cLine) (hi:PE X i ty) (ho:PE X o td):PC X .NotIn i o (uI hk IK ty td):=by
 intro Ku s σ H Q I h;refine thn (hi Ku s σ H _ I h) λiv s1 zu67=> ?_;obtain⟨y,H1,I1,ry,q1⟩:=zu67;refine thn (ho Ku s1 σ H1 _ I1 q1) λu s2 zu68=> ?_;obtain⟨x,H2,I2,rx,a,Kv,ks,ex,d,k,q2⟩:=zu68;subst ex;obtain rfl:u=Value.ref a:=rx;obtain⟨b,rfl,rfl⟩:=F.rf k ry;exact Gk hu I2 d k λs3 I3=>⟨.bl _,H2,I3,rfl,q2⟩
theorem Gq [F:KOk hk IK] (hu:X.A.units+2<cLine) (ho:PE X o td) (hi:PE X i ty) (hv:PE X value tv) (hs:swapsWith value (some (.Subscript o i KP)) pos.line X.env=pure false):
  PS X (.Assign [.Subscript o i KP] value pos) (uJ hk IK td ty tv):=by
 intro Ku s σ H D I h;refine wpAny_Assign_Subscript (thn (hv Ku s σ H _ I h) λr s1 zu69=> ?_) hs;obtain⟨v,H1,I1,rv,q1⟩:=zu69;refine thn (ho Ku s1 σ H1 _ I1 q1) λu s2 zu70=> ?_;obtain⟨x,H2,I2,rx,q2⟩:=zu70;refine thn (hi Ku s2 σ H2 _ I2 q2) λiv s3 zu71=> ?_;obtain⟨y,H3,I3,ry,a,Kv,ks,ex,d,k,hl,q3⟩:=zu71;subst ex;obtain rfl:u=Value.ref a:=rx;obtain⟨b,rfl,rfl⟩:=F.rf k ry;exact Gm hu I3 d k hl rv λH4 s4 d4 k4 I4=>⟨σ,H4,I4,q3 H4 d4 k4⟩
def Gr:PE X (.Dict [] [] pos) (uK hk IK):=λKu s σ H Q I h=>
 wpAny_Dict_empty ⟨.ref s.heap.objs.size,_,I.laid (a:=s.heap.objs.size) (o:= .ext (gE hk [] s.heap.objs.size)) (t':=s.toks) (λ_ _ q=>A5 _ q) (A8 _) (Gi s.heap),rfl,h _ _ (I.hok.fresh (A8 _)) (Gh rfl I.big) (λb hb=>au hb)⟩
end
section
variable {P:P6}{w:P8}{H:Hp}{h:Qb}{a:P5}
theorem uL:∀{ks:P' Int}{us:P' P3},ap (ks.map V.int) us->ItemsAre (intKind P w) ks us
 |[],_,r=>by rw[DP] at r;cases r;exact .nil
 |k::ks,_,r=>by
  rw[AW] at r;cases r with
  |cons h t=>
   obtain⟨t',rfl⟩:=h;exact .cons (show Value.isInt k (.int k t')=true by simp[Value.isInt]) (uL t)
theorem Gs {ks:P' Int} (ok:HOk P w H h) (e:H a=some (.tup (ks.map V.int))):IsTupleKey (intKind P w) h ks a:=by
 obtain⟨_,Kx,r,o,h1,h2,n,h3⟩:=(show aC P w H h a (.tup (ks.map V.int)) from ok a _ e);exact⟨o,Kx.toArray,n,h1,h2,h3,by simpa using uL r⟩
end
end L2
namespace PySem.SeqAt
open AutoSeq1 (wpAny_loadPart')
open MeetsSeq MeetsSeq2 MeetsSeq3 SeqRoads2
end PySem.SeqAt
namespace L2
open PySem PySem.Spec PyProof.Rows
variable {H H1:Hp}{K:W.Frag}{Lx:P' Qa}{P:P6}{Q:P3->P4->Prop}{X:Cx}{a acc b i1 i2 it l1 l2 z:P5}{g:TG}{i k1 own:Nat}{js:P' Nat}{pos:Pos}{tb:TS}{te:TE}{vs ys:Array P3}{w:P8}{x:P3}{xs:P' V}
variable {X:Cx}
open PySem.W
abbrev Mx (K:Type):=Sum K (P' K)
variable {ks:P' (Mx Int)}
def isL {K:Type}:Mx K->Bool
 | .inl _=>true
 | .inr _=>false
section
variable {prog:P6}{w:P8}{K:Type} [DecidableEq K] {knd:KeyKind prog w K}
inductive ItemsM (knd:KeyKind prog w K) (h:Heap):List (Mx K)->List Value->Prop
 |nil:ItemsM knd h [] []
 |val {k:K}{v:Value}{ks:List (Mx K)}{vs:List Value}:knd.is k v=true->ItemsM knd h ks vs->ItemsM knd h (.inl k::ks) (v::vs)
 |tup {k:List K}{a:Addr}{ks:List (Mx K)}{vs:List Value}:IsTupleKey knd h k a->ItemsM knd h ks vs->ItemsM knd h (.inr k::ks) (.ref a::vs)
def cL (knd:KeyKind prog w K) (sh:P' Bool) (h:Qb) (ks:P' (Mx K)) (a:P5):Prop:=ks.map isL=sh/\∃o items n,h.get? a=some o/\o.cls= .type "tuple"/\o.data= .seq items n/\ItemsM knd h ks items.toList
theorem ItemsM.inj {h:Qb}{x y:P' (Mx K)}{vs:P' P3} (hx:ItemsM knd h x vs) (hy:ItemsM knd h y vs) (e:x.map isL=y.map isL):x=y:=by
 induction hx generalizing y with
 |nil=>cases hy;rfl
 |val h1 _ ih=>
  cases hy with
  |val h2 t2=>rw[knd.inj _ _ _ h1 h2,ih t2 (by simpa[isL] using e)]
  |tup h2 t2=>simp[isL] at e
 |tup h1 _ ih=>
  cases hy with
  |val h2 t2=>simp[isL] at e
  |tup h2 t2=>rw[h1.inj h2,ih t2 (by simpa[isL] using e)]
theorem ItemsM.keeps {h h':Qb}{x:P' (Mx K)}{vs:P' P3}{d:P5}{o:Obj}{es ep} (hx:ItemsM knd h x vs) (ho:h.get? d=some o) (hd:o.data= .dict es ep) (hs:Heap.SameBut d h h'):ItemsM knd h' x vs:=by
 induction hx with
 |nil=>exact .nil
 |val h1 _ ih=>exact .val h1 ih
 |tup h1 _ ih=>exact .tup (h1.keeps ho hd hs) ih
variable {sh:P' Bool}
def cL.typeIs {s:P4}{ks:P' (Mx K)}(x:cL knd sh s.heap ks a):s.TypeIs (.ref a) "tuple":=let ⟨_,o,_,_,ho,hc,_⟩:=x;⟨o,ho,hc⟩
theorem cL.inj {h:Qb}{a:P5}{x y:P' (Mx K)} (hx:cL knd sh h x a) (hy:cL knd sh h y a):x=y:=by
 obtain⟨e1,o,items,n,ho,_,hd,hi⟩:=hx;obtain⟨e2,o',items',n',LN,_,M5,Mr⟩:=hy;obtain rfl:o=o':=Ae (ho.symm.trans LN);rw[hd] at M5;injection M5 with h1 _;subst h1;exact hi.inj Mr (e1.trans e2.symm)
theorem cL.keeps {h h':Qb}{ks:P' (Mx K)}{a d:P5}{o:Obj}{es ep} (x:cL knd sh h ks a) (ho:h.get? d=some o) (hd:o.data= .dict es ep) (hs:Heap.SameBut d h h'):cL knd sh h' ks a:=by
 obtain⟨e,o',items,n,LN,hc,M5,hi⟩:=x;have Lp:a≠d:=by
  rintro rfl;obtain rfl:o'=o:=Ae (LN.symm.trans ho);rw[hd] at M5;exact nomatch M5
 exact⟨e,o',items,n,(hs.2 a Lp).trans LN,hc,M5,hi.keeps ho hd hs⟩
def dX (knd:KeyKind prog w K):Mx K->Int
 | .inl k=>knd.hash k
 | .inr ks=>tupleKeyHash knd ks
def g9 {K:Type}:Mx K->Nat
 | .inl _=>1
 | .inr ks=>ks.length+1
def nH (knd:KeyKind prog w K) (ks:P' (Mx K)):Int:=reduceHash (Builtin.Tuple.tupleHashOf (ks.map (dX knd)))
def nI (ks:P' (Mx K)):Nat:=(ks.map g9).sum+1
variable {A:P9}{E:P3->P4->Prop}{s:P4}
theorem Gu {ks:P' (Mx K)}{Q:Int->P4->Prop} (hu:A.units+1<cLine) (hk:cL knd sh s.heap ks a) (h:Q (nH knd ks) {s with toks:=s.toks+nI ks}):
  wpAny (model prog w) A (pyHash (.ref a)) Q E s:=by
 have hT:=hk.typeIs;obtain⟨_,o,items,n,ho,_,hd,hi⟩:=hk;unfold pyHash;first|unfold pyHashByItsType|skip
 first|refine A0 (wpAny_cRoomFor_or (.inr (by lia)) ?_)|skip
 refine A0 (CS hT DB.lookup ?_);show wpAny _ _ (if(some (Value.builtin "tuple.__hash__")==some Value.none)=true then _ else _) Q E s;rw[A6 (by rw[beq_builtin_none];exact AX)];refine A0 (CS hT DB.lookup ?_);show wpAny _ _ (callSpecialIfBoundUnlessNone? (.ref a) "__hash__" _>>=_) Q E s;refine A0 (wpAny_callSpecialIfBoundUnlessNone?_slot hT DB (Aj DB hT F.entry_tuple_hash ?_ (F.args_tuple_hash_1 _)));show wpAny _ _ (Builtin.Tuple.tupleItemsOf (.ref a)>>=_) _ _ s;refine A0 (wpAny_tupleItemsOf ho hd ?_);refine A0 ?_;rw[<-Cp];refine C0 _
  (λaN (b:Array Int) s'=>∃done left,ks=done++left/\ItemsM knd s.heap left aN/\b.toList=done.map (dX knd)/\s'={s with toks:=s.toks+(done.map g9).sum})
  _ ?_ ?_ _ _ ⟨[],ks,rfl,hi,rfl,rfl⟩
 .rintro x aN b s' ⟨done,left,rfl,hl,hb,rfl⟩;cases hl with
  | @val k v1 ks' _ h1 Ln=>
   refine A0 (knd.pyHash h1 ?_);first
    |exact A3 ⟨done++[.inl k],ks',by simp,Ln,by simp[hb,dX],by simp[D5,g9]⟩
    |exact A0 (A3 (A3 ⟨done++[.inl k],ks',by simp,Ln,by simp[hb,dX],by simp[D5,g9]⟩))
  | @tup k a1 ks' _ h1 Ln=>
   refine A0 (wpAny_pyHash_tuple (knd:=knd) (ks:=k) (by first|exact hu|(rw[cK];lia)|(simp;lia)) h1 ?_);first
    |exact A3 ⟨done++[.inr k],ks',by simp,Ln,by simp[hb,dX],by simp[D5,g9]⟩
    |exact A0 (A3 (A3 ⟨done++[.inr k],ks',by simp,Ln,by simp[hb,dX],by simp[D5,g9]⟩))
 .rintro b s' ⟨done,left,rfl,hl,hb,rfl⟩;cases hl;rw[B8] at h;show wpAny _ _ (retInt (Builtin.Tuple.tupleHashOf b.toList)) _ _ _;rw[hb];refine wpAny_ret_mkInt ?_;show wpAny _ _ (if(decide (-(2:Int)^63<=Builtin.Tuple.tupleHashOf (done.map (dX knd)))&&decide (Builtin.Tuple.tupleHashOf (done.map (dX knd))<2^63))=true then _ else _) Q E _;unfold nH reduceHash nI at h;by_cases hr:(decide (-(2:Int)^63<=Builtin.Tuple.tupleHashOf (done.map (dX knd)))&&decide (Builtin.Tuple.tupleHashOf (done.map (dX knd))<2^63))=true
  .rw [AB hr];rw[AB hr] at h;exact A3 (by simpa[D5] using h)
  .rw [A6 hr];rw[A6 hr] at h;exact A0 (C4 (A3 (by simpa[D5] using h)))
theorem Gv {x y:P' (Mx K)}{P:Fin->P4->Prop} (hu:A.units<cLine) (hx:cL knd sh s.heap x a) (hy:cL knd sh s.heap y b) (h:P (.done (.ret (.bool (decide (x=y))))) s):
  wpAny (model prog w) A (Builtin.«tuple.__eq__» ⟨[.ref a, .ref b],[]⟩) P E s:=by
 have hTb:=hy.typeIs;obtain⟨sx,oa,xs,na,hoa,_,NS,hia⟩:=hx;obtain⟨sy,ob,ys,nb,N8,_,Mn,hib⟩:=hy;show wpAny _ _ (isInstance (.ref b) (.type "tuple")>>=_) _ _ s;refine A0 (Bz hTb isSubtype_tuple_tuple ?_);simp only[BJ,AK,Av];refine A0 (wpAny_tupleItemsOf hoa NS ?_);refine A0 (wpAny_tupleItemsOf N8 Mn ?_);refine A0 ?_;refine C0 _
  (λaN r s'=>r.1=none/\s'=s/\∃x' y' Ng ys',aN=List.zip Ng ys'/\ItemsM knd s.heap x' Ng/\ItemsM knd s.heap y' ys'/\decide (x'=y')=decide (x=y)/\x'.map isL=y'.map isL/\(Ng.length==ys'.length)=(xs.size==ys.size))
  _ ?_ ?_ _ _ ⟨rfl,rfl,x,y,xs.toList,ys.toList,rfl,hia,hib,rfl,sx.trans sy.symm,by simp⟩
 .rintro⟨u,v⟩ aN r s' ⟨hr,rfl,x',y',Ng,ys',hz,KW,LZ,MW,O6,Kz⟩;cases KW with
  |nil=>simp at hz
  | @val k1 v1 x'' xs'' h1 hx''=>
   cases LZ with
   |nil=>simp at hz
   |tup _ _=>simp[isL] at O6
   | @val k2 v2 Ph ys'' h2 Nj=>
    simp only[List.zip_cons_cons,Cm,Prod.mk.injEq] at hz;obtain⟨⟨rfl,rfl⟩,rfl⟩:=hz;refine A0 (knd.eqBool h1 h2 ?_);by_cases hk:k1=k2
    .subst hk;rw[BA rfl];simp only[BJ,AK,Av];refine A3 ⟨rfl,rfl,x'',Ph,xs'',ys'',rfl,hx'',Nj, ?_,by simpa using O6,by simpa using Kz⟩;rw[<-MW];by_cases hxy:x''=Ph
     .simp [hxy]
     .simp [hxy]
    .rw [Am hk];simp only[Cw,C5];have hf:decide (x=y)=false:=by rw[<-MW];simp[hk]
     rw[hf] at h;exact A0 (A3 (A3 (A3 h)))
  | @tup k1 a1 x'' xs'' h1 hx''=>
   cases LZ with
   |nil=>simp at hz
   |val _ _=>simp[isL] at O6
   | @tup k2 a2 Ph ys'' h2 Nj=>
    simp only[List.zip_cons_cons,Cm,Prod.mk.injEq] at hz;obtain⟨⟨rfl,rfl⟩,rfl⟩:=hz;refine A0 (wpAny_eqBool_tuple (knd:=knd) (x:=k1) (y:=k2) (by first|exact hu|(rw[cK];lia)|(simp;lia)) h1 h2 ?_);by_cases hk:k1=k2
    .subst hk;rw[BA rfl];simp only[BJ,AK,Av];refine A3 ⟨rfl,rfl,x'',Ph,xs'',ys'',rfl,hx'',Nj, ?_,by simpa using O6,by simpa using Kz⟩;rw[<-MW];by_cases hxy:x''=Ph
     .simp [hxy]
     .simp [hxy]
    .rw [Am hk];simp only[Cw,C5];have hf:decide (x=y)=false:=by rw[<-MW];simp[hk]
     rw[hf] at h;exact A0 (A3 (A3 (A3 h)))
 .rintro⟨r1,r2⟩ s' ⟨hr,rfl,x',y',Ng,ys',hz,KW,LZ,MW,O6,Kz⟩;simp only at hr;subst hr;refine A3 ?_;have hfin:(xs.size==ys.size)=decide (x=y):=by
   rw[<-MW,<-Kz];cases KW with
   |nil=>
    cases LZ with
    |nil=>simp
    |val _ _=>simp
    |tup _ _=>simp
   |val _ _=>
    cases LZ with
    |nil=>simp
    |val _ _=>simp at hz
    |tup _ _=>simp at hz
   |tup _ _=>
    cases LZ with
    |nil=>simp
    |val _ _=>simp at hz
    |tup _ _=>simp at hz
  show P (.done (.ret (.bool (xs.size==ys.size)))) s';rw[hfin];exact h
theorem Gw {x y:P' (Mx K)}{Q:Bool->P4->Prop} (hu:A.units+1<cLine) (hx:cL knd sh s.heap x a) (hy:cL knd sh s.heap y b) (h:Q (decide (x=y)) s):
  wpAny (model prog w) A (eqBool (.ref a) (.ref b)) Q E s:=by
 unfold eqBool;try with_reducible refine Aw ?_
 show wpAny _ _ (if(Value.ref a==Value.ref b)=true then _ else _) Q E s;by_cases hab:(Value.ref a==Value.ref b)=true
 .rw [AB hab];have e:a=b:=by have:=eq_of_beq hab;injection this
  subst e;obtain rfl:=hx.inj hy;exact A0 (C4 (A3 (by simpa using h)))
 .rw [A6 hab];exact A0 (wpAny_richCompare_same_room (op:= .Eq) hx.typeIs hy.typeIs F.slot_tuple_eq
   (Aj F.slot_tuple_eq hx.typeIs F.entry_tuple_eq (Gv (by first|lia|(rw[cK];lia)|(simp;lia)) hx hy ⟨_,rfl,(λe=>nomatch e),Bl h⟩) (F.args_tuple_eq_2 _ _)) (by lia))
theorem Gx {ks:P' (Mx K)}{Q:Bool->P4->Prop} (hk:cL knd sh s.heap ks a) (h:Q true s):wpAny (model prog w) A (eqIsQuiet 8 (.ref a)) Q E s:=by
 have hT:=hk.typeIs;obtain⟨_,o,items,n,ho,_,hd,hi⟩:=hk;unfold eqIsQuiet;refine A0 (CS hT F.slot_tuple_eq.lookup ?_);show wpAny _ _ (isInstance (.ref a) (.type "tuple")>>=_) _ _ s;refine A0 (Bz hT isSubtype_tuple_tuple ?_);simp only[BJ,AK,Av];refine A0 (Bm ho hd ?_);refine A0 ?_;show wpAny _ _ (forIn items _ _) _ _ s;rw[<-Cp];refine C0 _ (λaN r s'=>r.1=none/\s'=s/\∃x,ItemsM knd s.heap x aN) _ ?_ ?_ _ _ ⟨rfl,rfl,ks,hi⟩
 .rintro v aN r s' ⟨hr,rfl,x,Lc⟩;cases Lc with
  |val h1 ht=>
   rw[eqIsQuiet_byValue _ (knd.byValue _ _ h1)];refine A0 (A3 ?_);simp only[BJ,AK,Av];exact A3 ⟨rfl,rfl,_,ht⟩
  |tup h1 ht=>
   refine A0 (Gg h1 ?_);simp only[BJ,AK,Av];exact A3 ⟨rfl,rfl,_,ht⟩
 .rintro⟨r1,r2⟩ s' ⟨hr,rfl,_⟩;simp only at hr;subst hr;exact A3 h
end
def uM {prog:P6}{K:Type} [DecidableEq K] (knd:KeyKind prog w K) (sh:P' Bool):HeapKind prog w (P' (Mx K)) where
 is:=cL knd sh
 hash:=nH knd
 draws:=nI
 room:=λA=>A.units+1<cLine
 inj:=λhx hy=>hx.inj hy
 keeps:=λx ho hd hs=>x.keeps ho hd hs
 pyHash:=λhu hk h=>Gu hu hk h
 eqBool:=λhu hx hy h=>Gw hu hx hy h
 quiet:=λhk h=>Gx hk h
def mD:Mx Int->D
 | .inl i=> .i i
 | .inr t=>tI t
def qsh:P' Bool:=[true,true,false,false]
def mK (ks:P' (Mx Int)):D:= .t (ks.map mD)
def IsK (H:Hp) (ks:P' (Mx Int)) (v:V):Prop:=ks.map isL=qsh/\Is H (mK ks) v
section
variable {P:P6}{w:P8}{H:Hp}{h:Qb}{a:P5}
theorem nJ (ok:HOk P w H h):∀{ks:P' (Mx Int)}{vs:P' V}{us:P' P3},Iss H (ks.map mD) vs->ap vs us->ItemsM (intKind P w) h ks us
 |[],_,_,i,r=>by rw[bQ i] at r;cases r;exact .nil
 | .inl k::ks,_,_,i,r=>by
  obtain⟨u,us,rfl,q,i2⟩:=aR i;obtain rfl:=aX q;cases r with
  |cons h t=>
   obtain⟨t',rfl⟩:=h;exact .val (show Value.isInt k (.int k t')=true by simp[Value.isInt]) (nJ ok i2 t)
 | .inr k::ks,_,_,i,r=>by
  obtain⟨u,us,rfl,q,i2⟩:=aR i;obtain⟨b,rfl,hb⟩:=bY q;cases r with
  |cons h t=>
   cases h;exact .tup (Gs ok hb) (nJ ok i2 t)
theorem Gy (ok:HOk P w H h) (e:IsK H ks (.ref a)):(uM (intKind P w) qsh).is h ks a:=by
 obtain⟨sh,e⟩:=e;obtain⟨b,vs,eb,hb,hi⟩:=bP e;cases eb;obtain⟨_,Kx,r,o,h1,h2,n,h3⟩:=(show aC P w H h a (.tup vs) from ok a _ hb);exact⟨sh,o,Kx.toArray,n,h1,h2,h3,by simpa using nJ ok hi r⟩
theorem Gz {H':Hp} (ht:∀b ys,H b=some (.tup ys)->H' b=some (.tup ys)) {v:V} (h:IsK H ks v):IsK H' ks v:=by
 obtain⟨sh,h⟩:=h;obtain⟨b,vs,rfl,hb,hi⟩:=bP h;have go:∀{xs:P' (Mx Int)}{vs:P' V},Iss H (xs.map mD) vs->Iss H' (xs.map mD) vs:=by
  intro xs;induction xs with
  |nil=>intro vs h;rw[bQ h];exact aA
  |cons x xs ih=>
   intro vs h;obtain⟨u,us,rfl,q,r⟩:=aR h;cases x with
   |inl k=>rw[show u= .int k from aX q];exact ax aU (ih r)
   |inr k=>
    obtain⟨c,rfl,hc⟩:=bY q;exact ax (eV (ht _ _ hc)) (ih r)
 exact⟨sh,bO (ht _ _ hb) (go hi)⟩
abbrev hkM (P:P6) (w:P8):=uM (intKind P w) qsh
instance mOk:KOk (hkM P w) IsK:=⟨Gy,λh=>let ⟨b,_,e,_⟩:=bP h.2;⟨b,e⟩,λht _ _=>Gz ht,λh=>h⟩
abbrev DM (P:P6) (w:P8):Hp->P5->P' (P' (Mx Int)×V)->Prop:=DG (hkM P w) IsK
end
abbrev GA (P:P6) (w:P8):TE->TE->TE:=uH (hkM P w) IsK
abbrev GB (P:P6) (w:P8):TE->TE->TE:=uI (hkM P w) IsK
abbrev GC (P:P6) (w:P8):TE->TE->TE->TS:=uJ (hkM P w) IsK
abbrev GD (P:P6) (w:P8):TE:=uK (hkM P w) IsK
section
variable {X:Cx}{o i e f value ek ev:Qa}{pos KP KR KH:Pos}{td ty tv tx tk:TE}
def GE (hu:X.A.units+2<cLine) (ho:PE X o td) (hi:PE X i ty) (hs:i0 i):PE X (.Subscript o i pos) (GA X.prog X.w td ty):=Go hu ho hi hs
def GF (hu:X.A.units+2<cLine) (hi:PE X i ty) (ho:PE X o td):PC X .NotIn i o (GB X.prog X.w ty td):=Gp hu hi ho
def GG (hu:X.A.units+2<cLine) (ho:PE X o td) (hi:PE X i ty) (hv:PE X value tv) (hs:swapsWith value (some (.Subscript o i KP)) pos.line X.env=pure false):
  PS X (.Assign [.Subscript o i KP] value pos) (GC X.prog X.w td ty tv):=Gq hu ho hi hv hs
def GH:PE X (.Dict [] [] pos) (GD X.prog X.w):=Gr
end
section
variable {prog:P6}{w:P8}{A:P9}{E:P3->P4->Prop}{s:P4}
theorem nM {t:P5}(KI:s.heap.IsTupleIter it t i) (ht:s.heap.IsTuple t vs) (hx:vs[i]? =some x) (hQ:∀h',h'.IsTupleIter it t (i+1)->Heap.SameBut it s.heap h'->Q x {s with heap:=h'}):
  wpAny (model prog w) A (Builtin.SmallTypes.nextOf (.ref it)) Q E s:=by
 obtain⟨o,ho,hc,hd⟩:=id KI;obtain⟨q,hq,_,nq,hdq⟩:=ht;unfold Builtin.SmallTypes.nextOf;refine A0 (B5 (name:=Str.ofString "__next__") KI.typeIs Cg (Aj Cg KI.typeIs F.entry_tuple_iterator_next ?_ (F.args_tuple_iterator_next_1 _)));show wpAny _ _ (field (.ref it) 0>>=_) _ _ s;refine A0 (Bc ho hd (x:= .ref t) rfl ?_);show wpAny _ _ (if(Value.ref t==Value.none)=true then _ else _) _ _ s;rw[A6 (show¬((Value.ref t==Value.none)=true) from AX)];show wpAny _ _ (field (.ref it) 1>>=_) _ _ s;refine A0 (Bc ho hd (x:= .int i 0) rfl ?_);show wpAny _ _ (seqItems? (.ref t)>>=_) _ _ s;refine A0 (Bm hq hdq ?_);simp only[AV,hx];refine A0 (C3 ho hd (by simp) (A3 ⟨x,rfl,A3 (hQ _ ⟨_,CB _ ho (DI (Br hd _)),(Obj.cls_mapFields ..).trans hc,by rw[Br hd];simp[rawInt]⟩ (BE ..))⟩))
theorem uN {t:P5}{Q:P3->P4->Prop} (hh:A.handled=none) (KI:s.heap.IsTupleIter it t i) (ht:s.heap.IsTuple t vs) (hx:vs[i]? =none)
  (hE:∀h' e,Heap.ExtBut it s.heap h'->(∃o,h'.get? e=some o/\o.cls= .type "StopIteration")->E (.ref e) {s with heap:=h'}):wpAny (model prog w) A (Builtin.SmallTypes.nextOf (.ref it)) Q E s:=by
 obtain⟨o,ho,hc,hd⟩:=id KI;obtain⟨q,hq,_,nq,hdq⟩:=ht;unfold Builtin.SmallTypes.nextOf;refine A0 (B5 (name:=Str.ofString "__next__") KI.typeIs Cg (Aj Cg KI.typeIs F.entry_tuple_iterator_next ?_ (F.args_tuple_iterator_next_1 _)));show wpAny _ _ (field (.ref it) 0>>=_) _ _ s;refine A0 (Bc ho hd (x:= .ref t) rfl ?_);show wpAny _ _ (if(Value.ref t==Value.none)=true then _ else _) _ _ s;rw[A6 (show¬((Value.ref t==Value.none)=true) from AX)];show wpAny _ _ (field (.ref it) 1>>=_) _ _ s;refine A0 (Bc ho hd (x:= .int i 0) rfl ?_);show wpAny _ _ (seqItems? (.ref t)>>=_) _ _ s;refine A0 (Bm hq hdq ?_);simp only[AV,hx];refine A0 (C4 (A0 (C3 ho hd (by simp) ?_)));show wpAny _ _ (newExc (.type "StopIteration") []>>=_) _ _ _;refine A0 ?_;simp only[newExc,newTuple];refine A0 (Au ?_ (by size_fits));refine A0 (m:=firstArgMember _ _) (DS (a:=Value.none) (by first|rfl|(simp only[firstArgMember];rfl)) (Au ?_ (by size_fits)));simp -iota only[raiseNew];refine A0 (wpAny_handled ?_);(first|rw[show A.in1.handled=none from hh]|rw[hh]);exact A0 (A3 (wpAny_throw (hE _ _ (((BE ..).extBut.push _).push _) ⟨_,AI _ rfl,rfl⟩)))
theorem uO (hh:A.handled=none) (it t:P5) (Lp:t≠it) (vs:Array P3):Draws prog w A it [it,t] vs.size (λi v=>vs[i]? =some v) (λi h=>h.IsTupleIter it t i/\h.IsTuple t vs) where
 live:=λ_ _ st=>let ⟨⟨o,ho,_⟩,_⟩:=st;⟨o,ho⟩
 frame:=λ_ _ _ KJ hk=>by obtain⟨st1,MR⟩:=KJ;exact⟨st1.at λo e=>hk it (by simp) o e,MR.at λo e=>hk t (by simp) o e⟩
 item:=λi s Q E hi KJ hQ=>by obtain⟨st1,MR⟩:=KJ;exact nM st1 MR (x:=vs[i]) (by simp[hi]) λh' a b=>hQ _ h' s.toks (by simp[hi]) ⟨a,MR.extBut b.extBut Lp⟩ b
 done:=λs Q E KJ hE=>by obtain⟨st1,MR⟩:=KJ;exact uN hh st1 MR (by simp) hE
theorem GI {t:P5}(hL:s.heap.IsTuple t vs)
  (h:∀h',IsEnum h' (s.heap.objs.size+1) s.heap.objs.size 0 .none->h'.IsTupleIter s.heap.objs.size t 0->h'.objs.size=s.heap.objs.size+2->(∀b o,s.heap.get? b=some o->h'.get? b=some o)->Q (.ref (s.heap.objs.size+1)) {s with heap:=h'}):
  wpAny (model prog w) A (call (.type "enumerate") [.ref t]) Q E s:=by
 have mt:Meets (Builtin.«enumerate.__new__» ⟨[.type "enumerate", .ref t],[]⟩) (λ_ R s=>s.heap.IsTuple t vs/\R (.ok (.ret (.ref (s.heap.push {cls:= .type "tuple_iterator",data:= .fields #[.ref t, .int 0 0]}).objs.size))) {s with heap:=(s.heap.push {cls:= .type "tuple_iterator",data:= .fields #[.ref t, .int 0 0]}).push {cls:= .type "enumerate",data:= .fields #[.none, .bool false, .ref s.heap.objs.size,rawInt 0, .none, .none]}}):=
  .of_wp λprog w A R s h=>by
   obtain⟨hp,g,d,tk,os⟩:=s;obtain⟨hL,h⟩:=h;have MU:=sub_enumerate;obtain⟨⟨c,dct,dt,sl⟩,hl,hc,n,hd⟩:=id hL;have hc:c= .type "tuple":=hc;have hd:dt= .seq vs n:=hd;subst hc hd
   wp_walk using AutoSeq1.wpAny_loadPart' hl
   refine wpAny_stack_any λst=>A3 ?_;split
   .next c _ _ _ _ _=>cases (c==Value.type "enumerate")<;>(wp_walk using AutoSeq1.wpAny_loadPart' hl,D1 hL;exact⟨_,rfl,h⟩)
   .wp_walk using AutoSeq1.wpAny_loadPart' hl,D1 hL;exact⟨_,rfl,h⟩
 refine callType_new F.called_enumerate (by decide) (F.typeCall_enumerate_1 _) (F.newCall_enumerate_1 _) (λobj=>F.args_object_init_2 obj _) F.entry_enumerate_new mt ⟨hL, ?_⟩;have hz:(s.heap.push {cls:= .type "tuple_iterator",data:= .fields #[.ref t, .int 0 0]}).objs.size=s.heap.objs.size+1:=B7 ..
 show _/\_;rw[hz];have he:=AI (s.heap.push {cls:= .type "tuple_iterator",data:= .fields #[.ref t, .int 0 0]}) (o:={cls:= .type "enumerate",data:= .fields #[.none, .bool false, .ref s.heap.objs.size,rawInt 0, .none, .none]}) rfl;rw[hz] at he;exact⟨⟨_,he,rfl⟩,h _ he ⟨_,A5 _ (AI _ rfl),rfl,rfl⟩ (by rw[B7,hz]) λb o x=>A5 _ (A5 _ x)⟩
end
def gm (K:W.Frag) (a:P5):It:=
 ⟨λi H=>∃xs x,SqT K H a xs/\xs[i]? =some x,λi H v H'=>∃x p,(∀xs,SqT K H a xs->xs[i]? =some x)/\v= .ref p/\H p=none/\H'=upd H p (.tup [.int i,x]),λi H=>∃xs,SqT K H a xs/\xs.length=i⟩
theorem GJ {k:Nat}(a e it:P5) (Lp:e≠it) (OJ:a≠it) (hae:e≠a):
  Turn P w K (.Tuple Lx k pos) (gm K a) [e,it] e (λi h=>(∃Mm,IsEnum h e it (i:Nat) Mm)/\h.IsTupleIter it a i) where
 mem:=by simp
 obj:=λi h st b hb=>by
  obtain⟨⟨Mm,h1⟩,o,h2,h3,h4⟩:=st;simp only[AM,B1,Bs] at hb;rcases hb with rfl|rfl
  .exact⟨_,h1,λv y=>by cases y⟩
  .exact⟨o,h2,λv y=>by rw[h4] at y;cases y⟩
 keep:=λi h h' KJ kk=>by obtain⟨⟨Mm,z⟩,MR⟩:=KJ;exact⟨⟨Mm,kk e (by simp) _ z⟩,MR.at λo z=>kk it (by simp) o z⟩
 item:=by
  intro X hP hw hK hc i Ku s σ H E I hf st hg;subst hP hw hK;obtain⟨xs,x,hq,hx⟩:=hg;obtain⟨Kx,rv,p,hz⟩:=I.tuple hq;obtain⟨u,hu,ru⟩:=rv.get hx;obtain⟨⟨Mm,he⟩,KI⟩:=st;have ltE:e<s.heap.objs.size:=AL he;have KD:i<Kx.toArray.size:=by have:=(AG.mp hu).1;simpa using this
  refine wpAny_pyNext_enum_itemD (uO (A:=X.A.in1) (show X.A.in1.handled=none from I.ok.hd hc) it a OJ Kx.toArray) he ⟨KI,p⟩ KD Lp (by simp[Lp,hae]) λx' h' tk px ho zu72 hT hsz hk=> ?_;obtain⟨MC,_⟩:=zu72;refine⟨.ref s.heap.objs.size,rfl, ?_⟩;obtain rfl:x'=u:=by
   have px:Kx.toArray[i]? =some x':=px;have:Kx[i]? =some x':=by simpa using px
   rw[hu] at this;exact(Ae this).symm
  refine wpAny_letOwnedTupleGo_enum ho λh2 N6 sb=> ?_;have k2:∀b o,b∉[e,it]->s.heap.get? b=some o->h2.get? b=some o:=λb o n z=>by
   simp only[AM,B1,Bs,not_or] at n;exact(sb.2 b n.1).trans (hk b o n.1 n.2 z)
  have O':h2.get? s.heap.objs.size=some {cls:= .type "tuple",data:= .seq #[.int i tk,x']}:=(sb.2 _ (BZ ltE)).trans hT;refine⟨.ref s.heap.objs.size,upd H s.heap.objs.size (.tup [.int i,x]),I.turnNew (t':=tk+1) hf k2 ⟨by show 2<=sizeLine;decide,[.int i tk,x'], .cons ⟨_,rfl⟩ (.cons ru .nil),⟨_,O',rfl,_,rfl⟩⟩,rfl,⟨x,_,λys hy=>by rw[I.tuple_inj hy hq];exact hx,rfl,I.hok.fresh (A8 _),rfl⟩,⟨⟨x',by simpa using N6⟩,MC.at λo z=>(sb.2 it Lp.symm).trans z⟩,λb hb=> ?_⟩;have there:∃o,s.heap.get? b=some o:=by
   simp only[AM,B1,Bs] at hb;rcases hb with rfl|rfl
   .exact⟨_,he⟩
   .exact KI.imp λo q=>q.1
  obtain⟨o,q⟩:=there;rw[au (AO (AL q))];exact(hf b hb).1
 done:=by
  intro X hP hw hK hc i Ku s σ H E I hf st hg;subst hP hw hK;obtain⟨xs,hq,hx⟩:=hg;obtain⟨Kx,rv,p,hz⟩:=I.tuple hq;obtain⟨⟨Mm,he⟩,KI⟩:=st;have hl:=rv.length;obtain⟨f0,f1,f2,f3,f4,f5⟩:=hf it (by simp);have hn:i=Kx.toArray.size:=by simp;lia
  exact wpAny_pyNext_enum_endD (uO (A:=X.A.in1) (show X.A.in1.handled=none from I.ok.hd hc) it a OJ Kx.toArray) he ⟨hn▸KI,p⟩ λh' eb=>⟨rfl,I.turned (t':=s.toks) (λb o hb z=>eb b o hb z) f0 f1 f3 f4 f5⟩
 self:=λ_ _ _ _ _ st h=>let ⟨⟨_,z⟩,_⟩:=st;wpAny_pyIter_enum z h
section
variable {X:Cx}{Lx:P' Qa}{k:Nat}{Lv p pos:Pos}{e:Qa}{te:TE}
def GK (K:W.Frag) (tl:TE):TI:=λσ H R=>tl σ H λx H1=>∃a,x= .ref a/\(∃xs,SqT K H1 a xs)/\R (gm K a) H1
theorem nN (hg:Gl X "enumerate") (hm:X.mg "enumerate"=none) (hl:PE X e te) (he:starEach [e] X.env=[(false,eval e X.env)]:=by rfl):PI X (.Tuple Lx k Lv) (.Call (.Name "enumerate" p) [e] [] pos) (GK X.K te):=by
 intro Ku s σ H R I h;refine BL (dy I hg hm boot_enumerate ?_);refine BO (thn ((ae hl af he) _ Ku s σ H (λvs H1=>match vs with|[x]=>(∃a,x= .ref a/\(∃xs,SqT X.K H1 a xs)/\R (gm X.K a) H1)|_=>False) I h) λus s1 zu73=> ?_) he (by rfl);obtain⟨vs,H1,I1,r1,q1⟩:=zu73
 match vs,q1,r1 with
 |[x],q1,r1=>
 obtain⟨a,rfl,⟨xs,hq⟩,q⟩:=q1;obtain⟨u,rfl,ru⟩:=cO r1;obtain rfl:u=Value.ref a:=ru;obtain⟨Kx,rv,pl,hz⟩:=I1.tuple hq;have la:a<s1.heap.objs.size:=let ⟨_,q,_⟩:=pl;AL q;refine GI (show s1.heap.IsTuple a Kx.toArray from pl) λh' hen KI hsz hk=> ?_;refine wpAny_pyIter_enum hen ?_;refine⟨_,[_,_],_,_,H1,rfl,I1.kept (t':=s1.toks) hk,GJ a _ _ (BZ (BU _)) (AO la) (BZ (Ak la)),⟨⟨_,by simpa using hen⟩,KI⟩,λb hb=> ?_,q⟩;have fr:∀b,s1.heap.objs.size<=b->cq X Ku H1 b:=λb z=>I1.fpOk z (I1.hok.fresh z);simp only[AM,B1,Bs] at hb;rcases hb with rfl|rfl<;>exact fr _ (by lia)
end
theorem uP {D:Ends}{σ:St}(Pv:Nat->St->Hp->Prop) (h0:Pv 0 σ H) (hl:∀i σ H,i<=xs.length->Pv i σ H->SqT K H a xs)
  (hs:∀i x σ H p,xs[i]? =some x->Pv i σ H->H p=none->g (.ref p) σ (upd H p (.tup [.int i,x])) λσ2 H2=>tb (eLp D (Pv (i+1))) σ2 H2) (hd:∀σ H,Pv xs.length σ H->D.nx σ H):
  ∃Wq:Nat->Nat->St->Hp->Prop,(∃m,Wq 0 m σ H)/\∀i m σ H,Wq i m σ H->
   ((gm K a).stop i H/\D.nx σ H)\/((gm K a).go i H/\∃N:St->Hp->Prop,(∀σ' H',N σ' H'->∃m',m'<m/\Wq (i+1) m' σ' H')/\∀x H',(gm K a).yld i H x H'->g x σ H' λσ2 H2=>tb (eLp D (N)) σ2 H2):=by
 refine⟨λi m σ H=>m=xs.length-i/\i<=xs.length/\Pv i σ H,⟨xs.length,by simp,AJ _,h0⟩, ?_⟩;rintro i m σ H ⟨rfl,hi,p⟩;have q:=hl i σ H hi p;by_cases KD:i<xs.length
 .refine .inr ⟨⟨xs,xs[i],q,by simp[KD]⟩,Pv (i+1),λσ' H' p'=>⟨xs.length-(i+1),by lia,rfl,KD,p'⟩,λx H' y=> ?_⟩;obtain⟨z,pp,e1,e2,e3,e4⟩:=y;subst e2 e4;exact hs i z σ H pp (e1 xs q) p e3
 .obtain rfl:i=xs.length:=by lia
  exact .inl ⟨⟨xs,q,rfl⟩,hd σ H p⟩
theorem GL {ti:TT}{σ:St}{Q:VK} (Pv:Nat->Hp->Prop) (h0:Pv 0 (upd H1 acc (.lst []))) (hl:∀i H2,i<=xs.length->Pv i H2->SqT K H2 a xs)
  (hs:∀i x H2 p,xs[i]? =some x->Pv i H2->H2 p=none->g (.ref p) (cX own js σ) (upd H2 p (.tup [.int i,x])) λσ4 H4=>ti σ4 H4 λb H5=>if b=true then te σ4 H5 λy H6=>rAppend (.ref acc) [y] H6 λ_ H7=>Pv (i+1) H7 else Pv (i+1) H5) (hd:∀H2,Pv xs.length H2->Q (.ref acc) H2)
  (mono:∀σ H (R R':St->Hp->Prop) x,(∀σ' H',R σ' H'->R' σ' H')->g x σ H R->g x σ H R') (Lj:∀σ H (R R':Bool->Hp->Prop),(∀b H',R b H'->R' b H')->ti σ H R->ti σ H R') (Lk:∀σ H (R R':VK),(∀v H',R v H'->R' v H')->te σ H R->te σ H R'):
  gQ (gm K a) own js g ti te σ H1 acc Q:=by
 refine⟨λi m H2=>m=xs.length-i/\i<=xs.length/\Pv i H2,⟨xs.length,by simp,AJ _,h0⟩, ?_⟩;rintro i m H2 ⟨rfl,hi,p⟩;have qa:=hl i H2 hi p;by_cases KD:i<xs.length
 .refine .inr ⟨⟨xs,xs[i],qa,by simp[KD]⟩,λv H3 z=> ?_⟩;obtain⟨x,pp,e1,e3,e4,e5⟩:=z;subst e3 e5;refine mono _ _ _ _ _ (λσ4 H4 q=>Lj _ _ _ _ (λb H5 q=> ?_) q) (hs i x _ pp (e1 xs qa) p e4);cases b with
  |true=>
   refine Lk _ _ _ _ (λv H6 q=> ?_) q;obtain⟨l,zs,y,a1,a2,a3,a4,a5⟩:=q;exact⟨l,zs,y,a1,a2,a3,a4,_,by lia,rfl,KD,a5⟩
  |false=>exact⟨_,by lia,rfl,KD,q⟩
 .obtain rfl:i=xs.length:=by lia
  exact .inl ⟨⟨xs,qa,rfl⟩,hd H2 p⟩
theorem GM {ti:TT}{σ:St}{Q:VK} (Pv:Nat->Hp->Prop) (h0:Pv 0 (upd H1 acc (.lst []))) (hl:∀i H2,i<=xs.length->Pv i H2->SqL K H2 a xs)
  (hs:∀i x H2 p,xs[i]? =some x->Pv i H2->H2 p=none->g (.ref p) (cX own js σ) (upd H2 p (.tup [.int i,x])) λσ4 H4=>ti σ4 H4 λb H5=>if b=true then te σ4 H5 λy H6=>rAppend (.ref acc) [y] H6 λ_ H7=>Pv (i+1) H7 else Pv (i+1) H5) (hd:∀H2,Pv xs.length H2->Q (.ref acc) H2)
  (mono:∀σ H (R R':St->Hp->Prop) x,(∀σ' H',R σ' H'->R' σ' H')->g x σ H R->g x σ H R') (Lj:∀σ H (R R':Bool->Hp->Prop),(∀b H',R b H'->R' b H')->ti σ H R->ti σ H R') (Lk:∀σ H (R R':VK),(∀v H',R v H'->R' v H')->te σ H R->te σ H R'):
  gQ (Ite K a) own js g ti te σ H1 acc Q:=by
 refine⟨λi m H2=>m=xs.length-i/\i<=xs.length/\Pv i H2,⟨xs.length,by simp,AJ _,h0⟩, ?_⟩;rintro i m H2 ⟨rfl,hi,p⟩;have qa:=hl i H2 hi p;by_cases KD:i<xs.length
 .refine .inr ⟨⟨xs,xs[i],qa,by simp[KD]⟩,λv H3 z=> ?_⟩;obtain⟨x,pp,e1,e3,e4,e5⟩:=z;subst e3 e5;refine mono _ _ _ _ _ (λσ4 H4 q=>Lj _ _ _ _ (λb H5 q=> ?_) q) (hs i x _ pp (e1 xs qa) p e4);cases b with
  |true=>
   refine Lk _ _ _ _ (λv H6 q=> ?_) q;obtain⟨l,zs,y,a1,a2,a3,a4,a5⟩:=q;exact⟨l,zs,y,a1,a2,a3,a4,_,by lia,rfl,KD,a5⟩
  |false=>exact⟨_,by lia,rfl,KD,q⟩
 .obtain rfl:i=xs.length:=by lia
  exact .inl ⟨⟨xs,qa,A8 _⟩,hd H2 p⟩
theorem uQ (hc:X.calm=true):bz X (.builtin "sum") (λxs H Q=>∃(p:P5) (ns:P' Int),xs=[.ref p]/\SqT X.K H p (ns.map V.int)/\Q (.int ns.sum) H):=by
 intro Ku s σ H xs us Q I r h;obtain⟨p,ns,rfl,hq,q⟩:=h;obtain⟨u,rfl,rx⟩:=cO r;cases rx;obtain⟨Kx,r',pl,hz⟩:=I.tuple hq;have hi:IntsAre Kx ns:=mw r';obtain⟨ys,e⟩:=hi.allInts.items;have hl:s.heap.IsTuple p Kx.toArray:=pl;rw[e] at hl;have n1:=hi.numsOf;rw[show Kx=Kx.toArray.toList from rfl,e,nums_intItems] at n1;have lt:p<s.heap.objs.size:=let ⟨_,q,_⟩:=hl;AL q;refine call_sum_walkG (D1 hl ?_);refine⟨_,_,_,_,_,_,numAt ys,rfl,Walks.tuple (A:=X.A.in1) (show X.A.in1.handled=none from I.ok.hd hc) _ p (AO lt) (intItems ys),⟨⟨_,AI _ rfl,rfl,rfl⟩,hl.push _⟩,λb hb=> ?_,λ_ _=>intItems_at,λh' tk t' hk=> ?_⟩
 .simp only[AM,B1,Bs] at hb;rw[B7];rcases hb with rfl|rfl
  .exact BU _
  .exact Ak lt
 .refine⟨.int ns.sum,H,I.kept λb o z=>hk b o (λy=> ?_) (A5 _ z),⟨t', ?_⟩,q⟩
  .simp only[AM,B1,Bs] at y;exact absurd (AL z) (by rw[y];exact CF _)
  .rw [preSum_eq,CK (by simp[intItems]),n1]
section
variable {prog:P6}{w:P8}{A:P9}{E:P3->P4->Prop}{s:P4}
theorem GN {TI TO:P5}{k2:Nat}{xs:Array P3}{y a b:P3}{Q:Qc P3->P4->Prop} (D:ZipApart z TI TO i1 i2 l1 l2) (hz:IsZip s.heap z TI TO .none) (Np:IsPair s.heap TI (.ref i1) (.ref i2)) (Od:IsPair s.heap TO a b)
  (h1:s.heap.IsTupleIter i1 l1 k1) (h2:s.heap.IsTupleIter i2 l2 k2) (L8:s.heap.IsTuple l1 xs) (KQ:s.heap.IsTuple l2 ys) (hx:xs[k1]? =some x) (hy:ys[k2]? =some y)
  (hQ:∀h',IsZip h' z TI TO (rawInt s.heap.objs.size)->IsPair h' TO x y->h'.IsTupleIter i1 l1 (k1+1)->h'.IsTupleIter i2 l2 (k2+1)->IsPair h' s.heap.objs.size x y->h'.objs.size=s.heap.objs.size+1->(∀c o,c≠z->c≠TO->c≠i1->c≠i2->s.heap.get? c=some o->h'.get? c=some o)->Q (some (.ref s.heap.objs.size)) {s with heap:=h'}):
  wpAny (model prog w) A (pyNext (.ref z)) Q E s:=by
 have hT:s.TypeIs (.ref z) "zip":=⟨_,hz,rfl⟩;unfold pyNext;refine A0 (By (B5 (name:=Str.ofString "__next__") hT F.slot_zip_next (Aj F.slot_zip_next hT F.entry_zip_next ?_ (F.args_zip_next_1 _))));show wpAny _ _ (field (.ref z) 2>>=_) _ _ _;refine A0 (Bc hz rfl (x:= .bool false) rfl ?_);show wpAny _ _ (field (.ref z) 3>>=_) _ _ _;refine A0 (Bc hz rfl (x:= .ref TI) rfl (A0 (Bm Np rfl ?_)));show wpAny _ _ (Builtin.SmallTypes.ownedTupleIsFree (.ref z)>>=_) _ _ _;refine A0 ?_;unfold Builtin.SmallTypes.ownedTupleIsFree;refine A0 (Bc hz rfl (x:= .none) rfl (A3 ?_));simp only[C5];refine A0 (C4 (A0 (Bc hz rfl (x:= .ref TO) rfl (A0 (D0 hz (by simp) λa1 Nq s1=> ?_)))));have Nq:IsZip a1 z TI TO .ellipsis:=Nq;refine A0 ?_;simp only[List.zipIdx_cons,List.zipIdx_nil,Ck,List.forIn_nil];refine A0 (A0 (wpAny_onRaise ?_));show wpAny _ _ (Builtin.SmallTypes.nextOf (.ref i1)>>=_) _ _ _;refine A0 (nM (h1.extBut s1.extBut D.i1z) (L8.extBut s1.extBut D.l1z) hx λa2 g1 s2=>A3 ?_);have o2:IsPair a2 TO a b:=s2.extBut _ _ D.TOi1 (s1.extBut _ _ D.TOz Od);refine A0 (Bm o2 rfl (A0 (wpAny_updateSeq_pair o2 λa3 o3 s3=> ?_)));have o3:IsPair a3 TO x b:=o3;refine A0 (wpAny_letGo (A3 ?_));refine A0 (A0 (wpAny_onRaise ?_));show wpAny _ _ (Builtin.SmallTypes.nextOf (.ref i2)>>=_) _ _ _;refine A0 (nM (((h2.extBut s1.extBut D.i2z).extBut s2.extBut D.i12.symm).extBut s3.extBut D.TOi2.symm) (((KQ.extBut s1.extBut D.l2z).extBut s2.extBut D.l2i1).extBut s3.extBut D.l2TO) hy λa4 g2 s4=>A3 ?_);have o4:IsPair a4 TO x b:=s4.extBut _ _ D.TOi2 o3;refine A0 (Bm o4 rfl (A0 (wpAny_updateSeq_pair o4 λa5 o5 s5=> ?_)));have o5:IsPair a5 TO x y:=o5;refine A0 (wpAny_letGo (A3 (A3 ?_)));refine A0 (Bm o5 rfl (A0 (wpAny_newTuple ?_)));have sz:a5.objs.size=s.heap.objs.size:=by rw[s5.1,s4.1,s3.1,s2.1,s1.1]
 have z5:IsZip a5 z TI TO .ellipsis:=s5.extBut _ _ D.TOz.symm (s4.extBut _ _ D.i2z.symm (s3.extBut _ _ D.TOz.symm (s2.extBut _ _ D.i1z.symm Nq)));have k5:∀c o,c≠z->c≠TO->c≠i1->c≠i2->s.heap.get? c=some o->a5.get? c=some o:=λc o c1 c2 c3 c4 e=>s5.extBut _ _ c2 (s4.extBut _ _ c4 (s3.extBut _ _ c2 (s2.extBut _ _ c3 (s1.extBut _ _ c1 e))));have m1:a5.IsTupleIter i1 l1 (k1+1):=((g1.extBut s3.extBut D.TOi1.symm).extBut s4.extBut D.i12).extBut s5.extBut D.TOi1.symm;have m2:a5.IsTupleIter i2 l2 (k2+1):=g2.extBut s5.extBut D.TOi2.symm;have zl:z<a5.objs.size:=AL z5;show wpAny _ _ (Builtin.SmallTypes.ownedTupleHandOut (.ref z) (.ref a5.objs.size)>>=_) _ _ _;refine A0 ?_;unfold Builtin.SmallTypes.ownedTupleHandOut;have z6:IsZip (a5.push {cls:= .type "tuple",data:= .seq #[x,y]}) z TI TO .ellipsis:=A5 _ z5;refine A0 (D0 z6 (by simp) λa7 z7 s7=> ?_);have z7:IsZip a7 z TI TO (rawInt a5.objs.size):=z7;refine D0 z7 (by simp) λa8 z8 s8=> ?_;have z8:IsZip a8 z TI TO (rawInt a5.objs.size):=z8;have up:∀c o,c≠z->a5.get? c=some o->a8.get? c=some o:=λc o c1 e=>s8.extBut _ _ c1 (s7.extBut _ _ c1 (A5 _ e));have t8:IsPair a8 a5.objs.size x y:=s8.extBut _ _ (BZ zl) (s7.extBut _ _ (BZ zl) (AI _ rfl));have e8:a8.objs.size=a5.objs.size+1:=by rw[s8.1,s7.1,B7]
 rw[sz] at z8 t8 e8;refine A3 ⟨_,rfl,A3 ?_⟩;show Q (some (.ref a5.objs.size)) _;rw[sz];exact hQ a8 z8 (up _ _ D.TOz o5) (m1.at λo e=>up _ o D.i1z e) (m2.at λo e=>up _ o D.i2z e) t8 e8 λc o c1 c2 c3 c4 e=>up c o c1 (k5 c o c1 c2 c3 c4 e)
theorem GO {TI TO:P5}{xs:Array P3}{a b:P3}{Q:Qc P3->P4->Prop} (hh:A.handled=none) (D:ZipApart z TI TO i1 i2 l1 l2) (hz:IsZip s.heap z TI TO .none) (Np:IsPair s.heap TI (.ref i1) (.ref i2)) (Od:IsPair s.heap TO a b)
  (h1:s.heap.IsTupleIter i1 l1 k1) (L8:s.heap.IsTuple l1 xs) (hx:xs[k1]? =none) (hQ:∀h',(∀c o,c≠z->c≠TO->c≠i1->c≠i2->s.heap.get? c=some o->h'.get? c=some o)->Q none {s with heap:=h'}):wpAny (model prog w) A (pyNext (.ref z)) Q E s:=by
 have hT:s.TypeIs (.ref z) "zip":=⟨_,hz,rfl⟩;unfold pyNext;refine A0 (By (B5 (name:=Str.ofString "__next__") hT F.slot_zip_next (Aj F.slot_zip_next hT F.entry_zip_next ?_ (F.args_zip_next_1 _))));show wpAny _ _ (field (.ref z) 2>>=_) _ _ _;refine A0 (Bc hz rfl (x:= .bool false) rfl ?_);show wpAny _ _ (field (.ref z) 3>>=_) _ _ _;refine A0 (Bc hz rfl (x:= .ref TI) rfl (A0 (Bm Np rfl ?_)));show wpAny _ _ (Builtin.SmallTypes.ownedTupleIsFree (.ref z)>>=_) _ _ _;refine A0 ?_;unfold Builtin.SmallTypes.ownedTupleIsFree;refine A0 (Bc hz rfl (x:= .none) rfl (A3 ?_));simp only[C5];refine A0 (C4 (A0 (Bc hz rfl (x:= .ref TO) rfl (A0 (D0 hz (by simp) λa1 Nq s1=> ?_)))));have Nq:IsZip a1 z TI TO .ellipsis:=Nq;refine A0 ?_;simp only[List.zipIdx_cons,List.zipIdx_nil,Ck,List.forIn_nil];refine A0 (A0 (wpAny_onRaise ?_));show wpAny _ _ (Builtin.SmallTypes.nextOf (.ref i1)>>=_) _ _ _;refine A0 (uN hh (h1.extBut s1.extBut D.i1z) (L8.extBut s1.extBut D.l1z) hx λa2 e s2 he=> ?_);obtain⟨oe,hoe,hce⟩:=he;have z2:IsZip a2 z TI TO .ellipsis:=s2 _ _ D.i1z.symm Nq;have ez:e≠z:=λx=>by subst x;rw[z2] at hoe;cases hoe;simp at hce
 refine D0 z2 (by simp) λa3 _ s3=> ?_;refine A0 (Bz (T:="StopIteration") (b:=true) ⟨oe,s3.extBut _ _ ez hoe,hce⟩ isSubtype_stop (A3 (hQ _ λc o c1 _ c3 _ x=>s3.extBut _ _ c1 (s2 _ _ c3 (s1.extBut _ _ c1 x)))))
end
section
variable {prog:P6}{w:P8}{A:P9}{E:P3->P4->Prop}{s:P4}
abbrev tz1 (h:Qb) (a:P5):Qb:=h.push {cls:= .type "tuple_iterator",data:= .fields #[.ref a, .int 0 0]}
abbrev tz2 (h:Qb) (a b:P5):Qb:=(tz1 h a).push {cls:= .type "tuple_iterator",data:= .fields #[.ref b, .int 0 0]}
abbrev tz3 (h:Qb) (a b:P5):Qb:=(tz2 h a b).push {cls:= .type "tuple",data:= .seq #[.ref h.objs.size, .ref (tz1 h a).objs.size]}
abbrev tz4 (h:Qb) (a b:P5):Qb:=(tz3 h a b).push {cls:= .type "tuple",data:= .seq #[.none, .none]}
abbrev tz5 (h:Qb) (a b:P5):Qb:=(tz4 h a b).push {cls:= .type "zip",data:= .fields #[.none, .bool false, .bool false, .ref (tz2 h a b).objs.size, .ref (tz3 h a b).objs.size]}
theorem GP {xs:Array P3}(ha:s.heap.IsTuple a xs) (hb:s.heap.IsTuple b ys)
  (h:∀h',IsZip h' (s.heap.objs.size+4) (s.heap.objs.size+2) (s.heap.objs.size+3) .none->IsPair h' (s.heap.objs.size+2) (.ref s.heap.objs.size) (.ref (s.heap.objs.size+1))->IsPair h' (s.heap.objs.size+3) .none .none->h'.IsTupleIter s.heap.objs.size a 0->h'.IsTupleIter (s.heap.objs.size+1) b 0->(∀c o,s.heap.get? c=some o->h'.get? c=some o)->Q (.ref (s.heap.objs.size+4)) {s with heap:=h'}):
  wpAny (model prog w) A (call (.type "zip") [.ref a, .ref b]) Q E s:=by
 have mt:Meets (Builtin.«zip.__new__» ⟨[.type "zip", .ref a, .ref b],[]⟩) (λ_ R s=>s.heap.IsTuple a xs/\s.heap.IsTuple b ys/\R (.ok (.ret (.ref (tz4 s.heap a b).objs.size))) {s with heap:=tz5 s.heap a b}):=
  .of_wp λprog w A R s h=>by
   obtain⟨hp,g,d,tk,os⟩:=s;obtain⟨h1,h2,h⟩:=h;have MU:=sub_zip;have Pk:Heap.IsTuple (Shared.heap ⟨hp,g,d,tk,os⟩) a xs:=h1;have hL2:Heap.IsTuple (Shared.heap ⟨hp.push {cls:= .type "tuple_iterator",data:= .fields #[.ref a, .int 0 0]},g,d,tk,os⟩) b ys:=Heap.IsTuple.push h2 _
   wp_walk using wpAny_pyIter_tuple Pk,D1 hL2
   exact⟨_,rfl,h⟩
 refine callType_new F.called_zip (by decide) (F.typeCall_zip_2 _ _) (F.newCall_zip_2 _ _) (λobj=>F.args_object_init_3 obj _ _) F.entry_zip_new mt ⟨ha,hb, ?_⟩;have z1:(tz1 s.heap a).objs.size=s.heap.objs.size+1:=B7 ..
 have z2:(tz2 s.heap a b).objs.size=s.heap.objs.size+2:=by rw[B7,z1]
 have z3:(tz3 s.heap a b).objs.size=s.heap.objs.size+3:=by rw[B7,z2]
 have z4:(tz4 s.heap a b).objs.size=s.heap.objs.size+4:=by rw[B7,z3]
 have g5:(tz5 s.heap a b).get? (tz4 s.heap a b).objs.size=some _:=AI _ rfl;have g4:(tz5 s.heap a b).get? (tz3 s.heap a b).objs.size=some _:=A5 _ (AI _ rfl);have g3:(tz5 s.heap a b).get? (tz2 s.heap a b).objs.size=some _:=A5 _ (A5 _ (AI _ rfl));have g2:(tz5 s.heap a b).get? (tz1 s.heap a).objs.size=some _:=A5 _ (A5 _ (A5 _ (AI _ rfl)));have g1:(tz5 s.heap a b).get? s.heap.objs.size=some _:=A5 _ (A5 _ (A5 _ (A5 _ (AI _ rfl))));show _/\_;rw[z2,z3,z4] at g5;rw[z1,z2] at g3;rw[z3] at g4;rw[z1] at g2;rw[z4];exact⟨⟨_,g5,rfl⟩,h _ g5 g3 g4 ⟨_,g1,rfl,rfl⟩ ⟨_,g2,rfl,rfl⟩ λc o x=>A5 _ (A5 _ (A5 _ (A5 _ (A5 _ x))))⟩
end
def ItzT (K : W.Frag) (a b : P5) : It :=
  ⟨λi H => ∃ xs x ys y, SqT K H a xs /\ SqT K H b ys /\ xs[i]? = some x /\ ys[i]? = some y,
   λi H v H' => ∃ x y p, (∀ xs, SqT K H a xs -> xs[i]? = some x) /\ (∀ ys, SqT K H b ys -> ys[i]? = some y) /\ v = .ref p /\ H p = none /\ H' = upd H p (.tup [x, y]),
   λi H => ∃ xs, SqT K H a xs /\ xs.length <= i⟩
theorem GQ {k:Nat}{TI TO:P5} (D:ZipApart z TI TO i1 i2 a b):
  Turn P w K (.Tuple Lx k pos) (ItzT K a b) [z,TI,TO,i1,i2] z (λi h=>IsZip h z TI TO .none/\IsPair h TI (.ref i1) (.ref i2)/\(∃x y,IsPair h TO x y)/\h.IsTupleIter i1 a i/\h.IsTupleIter i2 b i) where
 mem:=by simp
 obj:=λi h st c hc=>by
  obtain⟨h1,h2,⟨x,y,h3⟩,⟨o4,h4,_,d4⟩,⟨o5,h5,_,d5⟩⟩:=st;simp only[AM,B1,Bs] at hc;rcases hc with rfl|rfl|rfl|rfl|rfl
  .exact⟨_,h1,λv q=>by cases q⟩
  .exact⟨_,h2,λv q=>by cases q⟩
  .exact⟨_,h3,λv q=>by cases q⟩
  .exact⟨_,h4,λv q=>by rw[d4] at q;cases q⟩
  .exact⟨_,h5,λv q=>by rw[d5] at q;cases q⟩
 keep:=λi h h' st kk=>⟨kk z (by simp) _ st.1,kk TI (by simp) _ st.2.1,st.2.2.1.imp λx q=>q.imp λy q=>kk TO (by simp) _ q,st.2.2.2.1.at λo q=>kk i1 (by simp) o q,st.2.2.2.2.at λo q=>kk i2 (by simp) o q⟩
 item:=by
  intro X hP hw hK hc i Ku s σ H E I hf st hg;subst hP hw hK;obtain⟨xs,x,ys,y,hqa,hqb,hx,hy⟩:=hg;obtain⟨as,ra,pa,za⟩:=I.tuple hqa;obtain⟨bs,rb,pb,zb⟩:=I.tuple hqb;obtain⟨u,hu,ru⟩:=ra.get hx;obtain⟨v,hv,rv⟩:=rb.get hy;obtain⟨hz,Np,⟨_,_,Od⟩,h1,h2⟩:=st;have ltz:z<s.heap.objs.size:=AL hz;refine GN D hz Np Od h1 h2 (show s.heap.IsTuple a as.toArray from pa) (show s.heap.IsTuple b bs.toArray from pb) (x:=u) (y:=v) (by simpa using hu) (by simpa using hv) λh' hz' hTO' h1' h2' hT hsz hk=>⟨.ref s.heap.objs.size,rfl, ?_⟩;refine wpAny_letOwnedTupleGo_zip hz' λh3 hz3 sb=> ?_;have kk:∀c o,c∉[z,TI,TO,i1,i2]->s.heap.get? c=some o->h3.get? c=some o:=λc o n e=>by
   simp only[AM,B1,Bs,not_or] at n;exact(sb.2 c n.1).trans (hk c o n.1 n.2.2.1 n.2.2.2.1 n.2.2.2.2 e)
  have hT3:h3.get? s.heap.objs.size=some {cls:= .type "tuple",data:= .seq #[u,v]}:=(sb.2 _ (BZ ltz)).trans hT;have hTI3:IsPair h3 TI (.ref i1) (.ref i2):=(sb.2 _ D.TIz).trans (hk _ _ D.TIz D.TITO D.TIi1 D.TIi2 Np);refine⟨.ref s.heap.objs.size,upd H s.heap.objs.size (.tup [x,y]),I.turnNew (t':=s.toks) hf kk ⟨by show 2<=sizeLine;decide,[u,v], .cons ru (.cons rv .nil),⟨_,hT3,rfl,_,rfl⟩⟩,rfl,
   ⟨x,y,_,λzs LZ=>by rw[I.tuple_inj LZ hqa];exact hx,λzs LZ=>by rw[I.tuple_inj LZ hqb];exact hy,rfl,I.hok.fresh (A8 _),rfl⟩,
   ⟨hz3,hTI3,⟨_,_,(sb.2 _ D.TOz).trans hTO'⟩,h1'.at λo q=>(sb.2 _ D.i1z).trans q,h2'.at λo q=>(sb.2 _ D.i2z).trans q⟩,λc hc=> ?_⟩
  have there:∃o,s.heap.get? c=some o:=by
   simp only[AM,B1,Bs] at hc;rcases hc with rfl|rfl|rfl|rfl|rfl
   .exact⟨_,hz⟩
   .exact⟨_,Np⟩
   .exact⟨_,Od⟩
   .exact h1.imp λo q=>q.1
   .exact h2.imp λo q=>q.1
  obtain⟨o,q⟩:=there;rw[au (AO (AL q))];exact(hf c hc).1
 done:=by
  intro X hP hw hK hc i Ku s σ H E I hf st hg;subst hP hw hK;obtain⟨xs,hqa,hx⟩:=hg;obtain⟨as,ra,pa,za⟩:=I.tuple hqa;obtain⟨hz,Np,⟨_,_,Od⟩,h1,h2⟩:=st;have la:=ra.length;refine GO (I.ok.hd hc) D hz Np Od h1 (show s.heap.IsTuple a as.toArray from pa) (by simp;lia) λh' hk=>⟨rfl,I.turnAll (t':=s.toks) hf λc o n e=> ?_⟩;simp only[AM,B1,Bs,not_or] at n;exact hk c o n.1 n.2.2.1 n.2.2.2.1 n.2.2.2.2 e
 self:=λ_ _ _ _ _ st h=>wpAny_pyIter_zip st.1 h
section
variable {X:Cx}{Lx:P' Qa}{k:Nat}{Lv p pos:Pos}{e f:Qa}{te tf:TE}
inductive iZipT_ (K:W.Frag) (R:(It->Hp->Prop)) (vs:List V) (H1:Hp):Prop
 |mk a b:vs=[.ref a, .ref b]->((∃xs,SqT K H1 a xs))->((∃ys,SqT K H1 b ys))->R (ItzT K a b) H1->iZipT_ K R vs H1
def GR (K:W.Frag) (ta:TA):TI:=λσ H R=>ta σ H λvs H1=>iZipT_ K R vs H1
theorem GS {ta:TA} (hg:Gl X "zip") (hm:X.mg "zip"=none) (hl:PA X [e,f] ta) (he:starEach [e,f] X.env=(false,eval e X.env)::starEach [f] X.env:=by rfl) (hp:(backTo pos (starEach [f] X.env)).any (·.1)=false:=by rfl):
  PI X (.Tuple Lx k Lv) (.Call (.Name "zip" p) [e,f] [] pos) (GR X.K ta):=by
 intro Ku s σ H R I h;refine BL (dy I hg hm PyProof.Rows.Boot.«zip» ?_);refine BO (thn (hl _ Ku s σ H _ I h) λus s1 zu74=> ?_) he hp;obtain⟨vs,H1,I1,r1,a,b,ev,⟨xs,hqa⟩,⟨ys,hqb⟩,q⟩:=zu74;subst ev;obtain⟨u,v,rfl,ru,rv⟩:=iQ r1;obtain rfl:u=Value.ref a:=ru;obtain rfl:v=Value.ref b:=rv;obtain⟨as,ra,pa,za⟩:=I1.tuple hqa;obtain⟨bs,rb,pb,zb⟩:=I1.tuple hqb;have la:a<s1.heap.objs.size:=let ⟨_,q,_⟩:=pa;AL q;have lb:b<s1.heap.objs.size:=let ⟨_,q,_⟩:=pb;AL q;refine GP (show s1.heap.IsTuple a as.toArray from pa) (show s1.heap.IsTuple b bs.toArray from pb) λh' hz Np Od h1 h2 hk=> ?_;refine wpAny_pyIter_zip hz ?_;refine⟨_,[_,_,_,_,_],_,_,H1,rfl,I1.kept (t':=s1.toks) hk,GQ (zipApart_new la lb),⟨hz,Np,⟨_,_,Od⟩,h1,h2⟩,λc hc=> ?_,q⟩;have fr:∀c,s1.heap.objs.size<=c->cq X Ku H1 c:=λc z=>I1.fpOk z (I1.hok.fresh z);simp only[AM,B1,Bs] at hc;rcases hc with rfl|rfl|rfl|rfl|rfl<;>exact fr _ (by lia)
end
theorem GU {ys:P' V}{D:Ends}{σ:St}(hn:xs.length=ys.length) (Pv:Nat->St->Hp->Prop) (h0:Pv 0 σ H) (hl:∀i σ H,i<=xs.length->Pv i σ H->SqT K H a xs/\SqT K H b ys)
  (hs:∀i x y σ H p,xs[i]? =some x->ys[i]? =some y->Pv i σ H->H p=none->g (.ref p) σ (upd H p (.tup [x,y])) λσ2 H2=>tb (eLp D (Pv (i+1))) σ2 H2) (hd:∀σ H,Pv xs.length σ H->D.nx σ H):
  ∃Wq:Nat->Nat->St->Hp->Prop,(∃m,Wq 0 m σ H)/\∀i m σ H,Wq i m σ H->
   ((ItzT K a b).stop i H/\D.nx σ H)\/((ItzT K a b).go i H/\∃N:St->Hp->Prop,(∀σ' H',N σ' H'->∃m',m'<m/\Wq (i+1) m' σ' H')/\∀x H',(ItzT K a b).yld i H x H'->g x σ H' λσ2 H2=>tb (eLp D (N)) σ2 H2):=by
 refine⟨λi m σ H=>m=xs.length-i/\i<=xs.length/\Pv i σ H,⟨xs.length,by simp,AJ _,h0⟩, ?_⟩;rintro i m σ H ⟨rfl,hi,p⟩;obtain⟨qa,qb⟩:=hl i σ H hi p;by_cases KD:i<xs.length
 .have ly:i<ys.length:=by lia
  refine .inr ⟨⟨xs,xs[i],ys,ys[i],qa,qb,by simp[KD],by simp[ly]⟩,Pv (i+1),λσ' H' p'=>⟨xs.length-(i+1),by lia,rfl,KD,p'⟩,λv H' z=> ?_⟩;obtain⟨x,y,pp,e1,e2,e3,e4,e5⟩:=z;subst e3 e5;exact hs i x y σ H pp (e1 xs qa) (e2 ys qb) p e4
 .obtain rfl:i=xs.length:=by lia
  exact .inl ⟨⟨xs,qa,A8 _⟩,hd σ H p⟩
inductive tNotL_ (K:W.Frag) (Q:VK) (x:V) (H1:Hp):Prop
 |mk p xs:x= .ref p->SqL K H1 p xs->Q (.bl xs.isEmpty) H1->tNotL_ K Q x H1
def GV (K:W.Frag) (ta:TE):TE:=λσ H Q=>ta σ H λx H1=>tNotL_ K Q x H1
theorem GW {a:Qa}{ta:TE}(ha:PE X a ta):PE X (.UnaryOp .Not a pos) (GV X.K ta):=by
 intro Ku s σ H Q I h;refine UnaryOp_ (thn (ha Ku s σ H _ I h) λv s1 zu75=> ?_);obtain⟨x,H1,I1,r1,q1⟩:=zu75;obtain⟨p,xs,rfl,hx,q⟩:=q1;cases r1;obtain⟨Kx,r,pl,hz⟩:=I1.list hx;have Kz:=r.length;have hn:=gc;exact not_of (wpAny_truthy_list pl.isList (by simp only[AF];lia) ⟨.bl xs.isEmpty,H1,I1.tok _,by rw[mo r,Bool.not_not];rfl,q⟩)
end L2
local macro_rules | `(tactic| ac_rfl) => `(tactic| (intro _ _ _ _ h; repeat (first | (cases h; subst_vars; rfl) | (obtain ⟨e, _⟩ := h; subst e; rfl) | (obtain ⟨_, h⟩ := h))))
namespace Mine
open PySem L2 PyProof.Rows
variable {H H' H'' H0 H1 H2:Hp}{K:W.Frag}{KG Mv lo:Int}{Kv:P' (P' (Mx Int)×V)}{L d fi i j m n w:Nat}{ME b e fr h kp ks l ns row xs ys zs:P' Int}{Oe vs:P' V}{P:P6}{Q:VK}{X:Cx}{a f:P5}{fd:P7}{mg:Str->Qc P3}{o:HO}{ps:P' Str}{r:P' Nat}{sp:Sp}{st:Qd}{u v:V}{x:P' Int×Int}
def top (i:Nat):Qd:=PySem.Challenge.pw_floorcurves_k72_ends_shaded.main.body.getD i (.Pass ⟨0,0,0,0⟩)
abbrev nO:Qd:=top 7
theorem GX:FnScope ["thing"] ["thing"] (ao nO):=by and_intros
abbrev nP:Qd:=top 8
theorem GY:FnScope ["thing","least","greatest"] ["thing","least","greatest"] (ao nP):=by and_intros
abbrev nQ:Qd:=top 9
theorem GZ:FnScope ["d","k"] ["d","k"] (ao nQ):=by and_intros
abbrev nR:Qd:=top 10
theorem G0:FnScope ["d"] ["d"] (ao nR):=by and_intros
abbrev nS:Qd:=top 12
theorem kM:FnScope ["number","chosen","found","place"] ["number","chosen"] (ao nS):=by and_intros
abbrev nT:Qd:=top 14
theorem uR:FnScope ["thing","number"] ["thing"] (ao nT):=by and_intros
abbrev jm:Qd:=top 15
theorem uS:FnScope ["row"] ["row"] (ao jm):=by and_intros
abbrev nU:Qd:=top 16
theorem G1:FnScope ["d","held","free"] ["d","held","free"] (ao nU):=by and_intros
abbrev nV:Qd:=top 18
theorem uT:FnScope ["numbers","kept"] ["numbers"] (ao nV):=by and_intros
abbrev nW:Qd:=top 19
theorem jn:FnScope ["one","other","total","numbers","place","number"] ["one","other"] (ao nW):=by and_intros
abbrev nX:Qd:=top 20
theorem hJ:FnScope ["one","other","total","place","number","further","factor"] ["one","other"] (ao nX):=by and_intros
abbrev nY:Qd:=top 21
theorem G2:FnScope ["numbers","place","more"] ["numbers","place","more"] (ao nY):=by and_intros
abbrev nZ:Qd:=top 23
theorem G3:FnScope ["row","length"] ["row","length"] (ao nZ):=by and_intros
abbrev kN:Qd:=top 24
theorem hU:FnScope ["row","found","number","longer","begun"] ["row"] (ao kN):=by and_intros
abbrev og:Qd:=top 25
theorem kO:FnScope ["row","weight","first","missing","found","place"] ["row","weight","first"] (ao og):=by and_intros
abbrev oh:Qd:=top 26
theorem jo:FnScope ["row","chosen","product","number","part"] ["row","chosen"] (ao oh):=by and_intros
abbrev oj:Qd:=top 27
theorem kP:FnScope ["row","fuller","found","place","number"] ["row","fuller"] (ao oj):=by and_intros
abbrev om:Qd:=top 28
theorem jp:FnScope ["d","k","held","free","found","place","number","lesser"] ["d","k","held","free"] (ao om):=by and_intros
abbrev on:Qd:=top 29
theorem jq:FnScope ["d","k","held","free","found","kept","freed","lesser"] ["d","k","held","free"] (ao on):=by and_intros
abbrev oq:Qd:=top 30
theorem jr:FnScope ["asked","d","k","held","free"] ["asked"] (ao oq):=by and_intros
abbrev ot:Qd:=top 31
theorem G4:FnScope ["d","k","held","free"] ["d","k","held","free"] (ao ot):=by and_intros
abbrev ou:Qd:=top 33
theorem jt:FnScope ["d","drawing","ends","i","j","w"] ["d","drawing"] (ao ou):=by and_intros
abbrev ow:Qd:=top 34
theorem G5:FnScope ["d","drawing"] ["d","drawing"] (ao ow):=by and_intros
abbrev ox:Qd:=top 35
theorem G6:FnScope ["lift"] ["lift"] (ao ox):=by and_intros
abbrev oy:Qd:=top 36
theorem kQ:FnScope ["d","floor","weight","spare","found","j","w"] ["d","floor","weight","spare"] (ao oy):=by and_intros
abbrev oz:Qd:=top 37
theorem ju:FnScope ["lifts","weight","spare","found","place","lift","rest"] ["lifts","weight","spare"] (ao oz):=by and_intros
abbrev jv:Qd:=top 38
theorem hV:FnScope ["d","floor","drawing","spare","there","found","lifts","ends","left"] ["d","floor","drawing","spare"] (ao jv):=by and_intros
abbrev kR:Qd:=top 39
theorem gp:FnScope ["d","k","begun","floor","longer","drawing","spare"] ["d","k"] (ao kR):=by and_intros
abbrev oA:Qd:=top 41
theorem G7:FnScope ["d","drawing"] ["d","drawing"] (ao oA):=by and_intros
abbrev oB:Qd:=top 42
theorem kS:FnScope ["d","drawing","found","place","number"] ["d","drawing"] (ao oB):=by and_intros
abbrev oC:Qd:=top 43
theorem ic:FnScope ["numbers","first","last","alike","found","here","choices","fuller","others"] ["numbers","first","last","alike"] (ao oC):=by and_intros
abbrev oD:Qd:=top 44
theorem fK:FnScope ["d","marks","known","mark","fuller","numbers","further","choices"] ["d","marks"] (ao oD):=by and_intros
abbrev oE:Qd:=top 45
theorem G8:FnScope ["d","drawing"] ["d","drawing"] (ao oE):=by and_intros
abbrev oF:Qd:=top 47
theorem kT:FnScope ["low","numbers","kept","first"] ["low","numbers"] (ao oF):=by and_intros
abbrev oG:Qd:=top 48
theorem uU:FnScope ["one","other","low"] ["one","other"] (ao oG):=by and_intros
abbrev oH:Qd:=top 49
theorem G9:FnScope ["one","other"] ["one","other"] (ao oH):=by and_intros
abbrev kU:Qd:=top 50
theorem G':FnScope ["w"] ["w"] (ao kU):=by and_intros
abbrev oI:Qd:=top 52
theorem Hb:FnScope ["number"] ["number"] (ao oI):=by and_intros
abbrev oJ:Qd:=top 53
theorem kW:FnScope ["weights","product","weight"] ["weights"] (ao oJ):=by and_intros
abbrev kX:Qd:=top 54
theorem jw:FnScope ["d","k","total","drawing","weights"] ["d","k"] (ao kX):=by and_intros
abbrev oK:Qd:=top 55
theorem gq:FnScope ["asked","known","total","number","weights","lesser","factor"] ["asked","known"] (ao oK):=by and_intros
abbrev oM:Qd:=top 56
theorem Hc:FnScope ["d","k","held","free"] ["d","k","held","free"] (ao oM):=by and_intros
abbrev oN:Qd:=top 58
theorem Hd:FnScope ["_law_script","_law_k"] ["_law_script","_law_k"] (ao oN):=by and_intros
abbrev oO:Qd:=top 59
theorem jx:FnScope ["_law_script","_law_k","_law_cell","_law_one","_law_other"] ["_law_script","_law_k"] (ao oO):=by and_intros
abbrev oP:Qd:=top 60
theorem jy:FnScope ["_law_found","_law_k","_law_d"] [] (ao oP):=by and_intros
abbrev oQ:Qd:=top 61
theorem gr:FnScope ["_law_d","_law_x","_law_rows_here","_law_left","_law_w"] ["_law_d","_law_x"] (ao oQ):=by and_intros
abbrev oR:Qd:=top 62
theorem uV:FnScope ["_law_row","_law_some"] ["_law_row"] (ao oR):=by and_intros
abbrev kY:Qd:=top 63
theorem He:FnScope ["_law_row"] ["_law_row"] (ao kY):=by and_intros
abbrev oS:Qd:=top 64
theorem kZ:FnScope ["_law_things","_law_taken","_law_due_here","_law_j"] ["_law_things","_law_taken"] (ao oS):=by and_intros
abbrev oT:Qd:=top 65
theorem dY:FnScope ["_law_due_here","_law_told","_law_stretches","_law_often","_law_powers","_law_at","_law_w","_law_wider","_law_j","_law_power"] ["_law_due_here","_law_told","_law_stretches","_law_often"] (ao oT):=by and_intros
abbrev k7:Qd:=top 66
theorem fL:FnScope ["_law_free","_law_spare","_law_rows_here","_law_at","_law_more","_law_row","_law_left","_law_j"] ["_law_free","_law_spare"] (ao k7):=by and_intros
abbrev oU:Qd:=top 67
theorem gs:FnScope ["_law_held","_law_rows_here","_law_many","_law_more","_law_row","_law_j"] ["_law_held"] (ao oU):=by and_intros
abbrev oV:Qd:=top 68
theorem k8:FnScope ["_law_due_here","_law_d","_law_k","_law_held","_law_free","_law_at","_law_one","_law_other"] ["_law_due_here","_law_d","_law_k","_law_held","_law_free"] (ao oV):=by and_intros
abbrev oW:Qd:=top 69
theorem dZ:FnScope ["_law_due_here","_law_d","_law_k","_law_held","_law_free","_law_a","_law_spare","_law_b","_law_left","_law_often","_law_stretches","_law_at"] ["_law_due_here","_law_d","_law_k","_law_held","_law_free"] (ao oW):=by and_intros
abbrev oX:Qd:=top 70
theorem uW:FnScope ["_law_d","_law_k","_law_held","_law_free","_law_due_here"] ["_law_d","_law_k","_law_held","_law_free"] (ao oX):=by and_intros
abbrev jz:Qd:=top 71
theorem oY:FnScope ["_law_told","_law_due_here","_law_powers","_law_numbers"] ["_law_told","_law_due_here"] (ao jz):=by and_intros
abbrev oZ:Qd:=top 72
theorem uX:FnScope ["_law_d","_law_k","_law_held","_law_free","_law_bound","e"] ["_law_d","_law_k","_law_held","_law_free","_law_bound"] (ao oZ):=by and_intros
abbrev o0:Qd:=top 73
theorem k9:FnScope ["_law_d","_law_x","_law_some"] ["_law_d","_law_x"] (ao o0):=by and_intros
abbrev o6:Qd:=top 74
theorem fM:FnScope ["_law_script","_law_d","_law_k","_law_held","_law_free","_law_one","_law_other","_law_found","_law_odd"] ["_law_script"] (ao o6):=by and_intros
set_option genInjectivity false
set_option genSizeOfSpec false
set_option genSizeOf false
structure Fb (K:W.Frag) (mg:Str->Qc P3) (n:Str) (st:Qd) (ps:P' Str) (f:P5) (d:P7):Prop where
 F:Fun K n n st f d
 B:fB K d ps []
 m:mg n=some (.ref f)
structure Fns (K:W.Frag) (mg:Str->Qc P3) where
 f0:Addr
 d0:FuncData
 f1:Addr
 d1:FuncData
 f2:Addr
 d2:FuncData
 f3:Addr
 d3:FuncData
 f4:Addr
 d4:FuncData
 f5:Addr
 d5:FuncData
 f6:Addr
 d6:FuncData
 f7:Addr
 d7:FuncData
 f8:Addr
 d8:FuncData
 f9:Addr
 d9:FuncData
 f10:Addr
 d10:FuncData
 f11:Addr
 d11:FuncData
 f12:Addr
 d12:FuncData
 f13:Addr
 d13:FuncData
 f14:Addr
 d14:FuncData
 f15:Addr
 d15:FuncData
 f16:Addr
 d16:FuncData
 f17:Addr
 d17:FuncData
 f18:Addr
 d18:FuncData
 f19:Addr
 d19:FuncData
 f20:Addr
 d20:FuncData
 f21:Addr
 d21:FuncData
 f22:Addr
 d22:FuncData
 f23:Addr
 d23:FuncData
 f24:Addr
 d24:FuncData
 f25:Addr
 d25:FuncData
 f26:Addr
 d26:FuncData
 f27:Addr
 d27:FuncData
 f28:Addr
 d28:FuncData
 f29:Addr
 d29:FuncData
 f30:Addr
 d30:FuncData
 f31:Addr
 d31:FuncData
 f32:Addr
 d32:FuncData
 f33:Addr
 d33:FuncData
 f34:Addr
 d34:FuncData
 f35:Addr
 d35:FuncData
 f36:Addr
 d36:FuncData
 f37:Addr
 d37:FuncData
 f38:Addr
 d38:FuncData
 f39:Addr
 d39:FuncData
 f40:Addr
 d40:FuncData
 f41:Addr
 d41:FuncData
 f42:Addr
 d42:FuncData
 f43:Addr
 d43:FuncData
 f44:Addr
 d44:FuncData
 f45:Addr
 d45:FuncData
 f46:Addr
 d46:FuncData
 f47:Addr
 d47:FuncData
 f48:Addr
 d48:FuncData
 f49:Addr
 d49:FuncData
 f50:Addr
 d50:FuncData
 f51:Addr
 d51:FuncData
 f52:Addr
 d52:FuncData
 f53:Addr
 d53:FuncData
 f54:Addr
 d54:FuncData
 f55:Addr
 d55:FuncData
 f56:Addr
 d56:FuncData
 f57:Addr
 d57:FuncData
 f58:Addr
 d58:FuncData
 X0:Fb K mg "is_whole" nO ["thing"] f0 d0
 X1:Fb K mg "need_between" nP ["thing","least","greatest"] f1 d1
 X2:Fb K mg "need_wide" nQ ["d","k"] f2 d2
 X3:Fb K mg "need_degree" nR ["d"] f3 d3
 X4:Fb K mg "choose" nS ["number","chosen"] f4 d4
 X5:Fb K mg "is_row" nT ["thing"] f5 d5
 X6:Fb K mg "row_weight" jm ["row"] f6 d6
 X7:Fb K mg "need_rows" nU ["d","held","free"] f7 d7
 X8:Fb K mg "without_last_noughts" nV ["numbers"] f8 d8
 X9:Fb K mg "sum_by_place" nW ["one","other"] f9 d9
 X10:Fb K mg "product_by_place" nX ["one","other"] f10 d10
 X11:Fb K mg "with_more" nY ["numbers","place","more"] f11 d11
 X12:Fb K mg "filled_up" nZ ["row","length"] f12 d12
 X13:Fb K mg "rows_within" kN ["row"] f13 d13
 X14:Fb K mg "rows_beyond" og ["row","weight","first"] f14 d14
 X15:Fb K mg "choices" oh ["row","chosen"] f15 d15
 X16:Fb K mg "weights_gained" oj ["row","fuller"] f16 d16
 X17:Fb K mg "with_one_held" om ["d","k","held","free"] f17 d17
 X18:Fb K mg "with_one_degree_fewer" on ["d","k","held","free"] f18 d18
 X19:Fb K mg "summands" oq ["asked"] f19 d19
 X20:Fb K mg "asked_of" ot ["d","k","held","free"] f20 d20
 X21:Fb K mg "ends_at" ou ["d","drawing"] f21 d21
 X22:Fb K mg "sound" ow ["d","drawing"] f22 d22
 X23:Fb K mg "lost" ox ["lift"] f23 d23
 X24:Fb K mg "lifts_from" oy ["d","floor","weight","spare"] f24 d24
 X25:Fb K mg "leaving" oz ["lifts","weight","spare"] f25 d25
 X26:Fb K mg "with_floor" jv ["d","floor","drawing","spare"] f26 d26
 X27:Fb K mg "drawings" kR ["d","k"] f27 d27
 X28:Fb K mg "need_sound" oA ["d","drawing"] f28 d28
 X29:Fb K mg "end_marks" oB ["d","drawing"] f29 d29
 X30:Fb K mg "put_between" oC ["numbers","first","last","alike"] f30 d30
 X31:Fb K mg "how_many_orders" oD ["d","marks"] f31 d31
 X32:Fb K mg "how_many" oE ["d","drawing"] f32 d32
 X33:Fb K mg "shade" oF ["low","numbers"] f33 d33
 X34:Fb K mg "added" oG ["one","other"] f34 d34
 X35:Fb K mg "mixed" oH ["one","other"] f35 d35
 X36:Fb K mg "stretch" kU ["w"] f36 d36
 X37:Fb K mg "of_number" oI ["number"] f37 d37
 X38:Fb K mg "stretched" oJ ["weights"] f38 d38
 X39:Fb K mg "shade_by_floors" kX ["d","k"] f39 d39
 X40:Fb K mg "ends_shade" oK ["asked","known"] f40 d40
 X41:Fb K mg "shade_by_ends" oM ["d","k","held","free"] f41 d41
 X42:Fb K mg "_law_cell_at" oN ["_law_script","_law_k"] f42 d42
 X43:Fb K mg "_law_number" oO ["_law_script","_law_k"] f43 d43
 X44:Fb K mg "_law_pairs" oP [] f44 d44
 X45:Fb K mg "_law_rows" oQ ["_law_d","_law_x"] f45 d45
 X46:Fb K mg "_law_cut" oR ["_law_row"] f46 d46
 X47:Fb K mg "_law_weight" kY ["_law_row"] f47 d47
 X48:Fb K mg "_law_choose" oS ["_law_things","_law_taken"] f48 d48
 X49:Fb K mg "_law_add" oT ["_law_due_here","_law_told","_law_stretches","_law_often"] f49 d49
 X50:Fb K mg "_law_greater" k7 ["_law_free","_law_spare"] f50 d50
 X51:Fb K mg "_law_lesser" oU ["_law_held"] f51 d51
 X52:Fb K mg "_law_held_more" oV ["_law_due_here","_law_d","_law_k","_law_held","_law_free"] f52 d52
 X53:Fb K mg "_law_floor_less" oW ["_law_due_here","_law_d","_law_k","_law_held","_law_free"] f53 d53
 X54:Fb K mg "_law_due" oX ["_law_d","_law_k","_law_held","_law_free"] f54 d54
 X55:Fb K mg "_law_same" jz ["_law_told","_law_due_here"] f55 d55
 X56:Fb K mg "_law_refused" oZ ["_law_d","_law_k","_law_held","_law_free","_law_bound"] f56 d56
 X57:Fb K mg "_law_odd_rows" o0 ["_law_d","_law_x"] f57 d57
 X58:Fb K mg "law" o6 ["_law_script"] f58 d58
 n_isinstance:mg "isinstance"=none
 n_int:mg "int"=none
 n_bool:mg "bool"=none
 n_range:mg "range"=none
 n_list:mg "list"=none
 n_sum:mg "sum"=none
 n_enumerate:mg "enumerate"=none
 n_max:mg "max"=none
 n_len:mg "len"=none
 n_tuple:mg "tuple"=none
 n_min:mg "min"=none
 n_zip:mg "zip"=none
 n_sorted:mg "sorted"=none
 n_set:mg "set"=none
 n_abs:mg "abs"=none
 n_ValueError:mg "ValueError"=none
 n_str:mg "str"=none
 a_WIDE:Addr
 m_WIDE:mg "WIDE"=some (.ref a_WIDE)
 D_WIDE:kA K a_WIDE [(1,6),(2,6),(3,6),(4,6),(5,3)]=true
 c_NoBound:Addr
 m_NoBound:mg "NoBound"=some (.ref c_NoBound)
 c_NoEnds:Addr
 m_NoEnds:mg "NoEnds"=some (.ref c_NoEnds)
 c_NoDrawing:Addr
 m_NoDrawing:mg "NoDrawing"=some (.ref c_NoDrawing)
 x_NoBound:W.excIn K c_NoBound bmV "ValueError.__new__"=true
 X_NoBound:XC K c_NoBound
 x_NoEnds:W.excIn K c_NoEnds bmV "ValueError.__new__"=true
 X_NoEnds:XC K c_NoEnds
 x_NoDrawing:W.excIn K c_NoDrawing bmV "ValueError.__new__"=true
 X_NoDrawing:XC K c_NoDrawing
 e_NoBound_NoBound_or_NoEnds:W.exmAny K (.ref c_NoBound) [.ref c_NoBound, .ref c_NoEnds]=some true
 e_NoEnds_NoBound_or_NoEnds:W.exmAny K (.ref c_NoEnds) [.ref c_NoBound, .ref c_NoEnds]=some true
 k_NoBound_ValueError:W.kitOne K (.ref c_NoBound) (.type "ValueError")=some true
 k_NoBound_NoBound:W.kitOne K (.ref c_NoBound) (.ref c_NoBound)=some true
 k_NoEnds_ValueError:W.kitOne K (.ref c_NoEnds) (.type "ValueError")=some true
 k_NoEnds_NoBound:W.kitOne K (.ref c_NoEnds) (.ref c_NoBound)=some false
 k_NoDrawing_ValueError:W.kitOne K (.ref c_NoDrawing) (.type "ValueError")=some true
 k_NoDrawing_NoBound:W.kitOne K (.ref c_NoDrawing) (.ref c_NoBound)=some false
theorem pcq {k:Nat}{x:Str}{e:Qa}{es:P' Qa}{t:TA}{p pos:Pos} (F:FnOk X.prog X.w X.K X.mg X.base CX0 k f fd ps sp) (hr:Room n X.A) (B:Fb X.K X.mg x st ps f fd) (ha:PA X (e::es) t) (hk:k<=n:=by decide) (hg:Gl X x:=by rfl) (Mn:(x==("__debug__":Str))=false:=by decide) (he:starEach (e::es) X.env=(false,eval e X.env)::starEach es X.env:=by rfl) (LY:(backTo pos (starEach es X.env)).any (·.1)=false:=by rfl):PE X (.Call (.Name x p) (e::es) [] pos) (j7 sp [] E0 t):=cP F (hr.mono hk) hg B.m B.F.kp B.B .nil gN ha Mn he LY
theorem pSA {x:Str}{e:Qa}{te:TE}{pos KP:Pos} (hN:X.N.Nodup) (he:PE X e te) (hi:X.N[i]? =some x:=by rfl) (hx:Loc X.env.scope x:=by first|exact Or.inl rfl|exact Or.inr rfl) (hs:swapsWith e (some (.Name x KP)) pos.line X.env=pure false:=by rfl) (hf:X.fn x=true\/X.env.scope.names.lookup x=some .local:=by first|exact .inl rfl|exact .inr rfl|assumption):PS X (.Assign [.Name x KP] e pos) (iN te (cn i)):=yV hN hi hx he hs hf
theorem pGA {x:Str}{pos:Pos} (hN:X.N.Nodup) (hi:X.N[i]? =some x:=by rfl) (hx:Loc X.env.scope x:=by first|exact Or.inl rfl|exact Or.inr rfl) (hf:X.fn x=true\/X.env.scope.names.lookup x=some .local:=by first|exact .inl rfl|exact .inr rfl|assumption):PG X (.Name x pos) (cn i):=cg hN hi hx hf
def zB (h:Nat.ble n sizeLine=true):n<=sizeLine:=Nat.le_of_ble_eq_true h
theorem FbO {w:P8}{base:Qb}{x:Str}{N:P' Str}{k:Nat}(B:Fb K mg x st ps f fd) (S:FnScope N ps (ao st)) (Lh:∀(KM:P3) (A:P9) (outer:P' Env) (s:P4) (H:Hp) (vs:P' V) (Q:VK) (E:XK),Room k (A.deeper (envOfC x (ao st) s.heap.objs.size f KM))->sp vs H Q E->∃t,PSs (cT CX0 P w K mg base N x (ao st) f KM A outer s H E).nox (cI st) t/\t {nx:=λ_ H'=>Q .non H',rt:=Q} (start N vs) H) (len:∀vs H Q E,sp vs H Q E->vs.length=ps.length:=by ac_rfl):FnOk P w K mg base CX0 (k+1) f fd ps sp:=B.F.ok S len Lh
abbrev OKQ {K:PySem.W.Frag}{mg:Str->Qc P3}{n:Str}{st:Qd}{ps:P' Str}{f:P5}{d:P7} (_:Fb K mg n st ps f d) (P:P6) (w:P8) (base:Qb) (k:Nat) (sp:Sp):Prop:=FnOk P w K mg base CX0 k f d ps sp
theorem bA {α:Type}{f:α->D}{L:P' α}(h:Iss H (L.map f) vs) (hi:vs[i]? =some v):∃x,L[i]? =some x/\Is H (f x) v:=by
 have⟨d,hd,h⟩:=h.of_get hi;rw[AE] at hd;obtain⟨x,hx,rfl⟩:=AA.mp hd;exact⟨x,hx,h⟩
abbrev Lf:=Int×Int×Int
variable {p:Lf}
def cZ (e:P' Int) (p:Lf):P' Int:=(e.set (p.1-1).toNat (e.getD (p.1-1).toNat 0-p.2.2)).set (p.2.1-1).toNat ((e.set (p.1-1).toNat (e.getD (p.1-1).toNat 0-p.2.2)).getD (p.2.1-1).toNat 0+p.2.2)
def bH (n:Nat) (ps:P' Lf):P' Int:=ps.foldl cZ (List.replicate n 1)
def gu (ps:P' Lf) (f:Int):Int:=((ps.filter λp=>decide (p.2.1=f)).map (·.2.2)).sum
def gv (ps:P' Lf) (f:Int):Int:=((ps.filter λp=>decide (p.1=f)).map (·.2.2)).sum
def Okl (n:Nat) (p:Lf):Prop:=1<=p.1/\p.1<=n/\1<=p.2.1/\p.2.1<=n
theorem o7 {v:Int} (h:i<l.length):(l.set i v).getD j 0=if i=j then v else l.getD j 0:=by
 rw[List.getD,List.getElem?_set];by_cases e:i=j
 .subst e;rw[AB rfl,AB rfl,AB h];rfl
 .rw [A6 e,A6 e];rfl
theorem Hg :(cZ e p).length=e.length:=by unfold cZ;rw[Bi,Bi]
theorem Hh (he:e.length=n) (hp:Okl n p) (i:Nat):(cZ e p).getD i 0=e.getD i 0+(if p.2.1=1+(i:Int) then p.2.2 else 0)-(if p.1=1+(i:Int) then p.2.2 else 0):=by
 obtain⟨h1,h2,h3,h4⟩:=hp;unfold cZ;have a1:(p.1-1).toNat<e.length:=by lia
 rw[o7 (by rw[Bi];lia),o7 a1];by_cases c1:(p.2.1-1).toNat=i
 .have d1:p.2.1=1+(i:Int):=by lia
  rw[AB c1,AB d1,c1];by_cases c2:(p.1-1).toNat=i
  .have d2:p.1=1+(i:Int):=by lia
   rw[AB c2,AB d2,c2];lia
  .have d2:¬p.1=1+(i:Int):=by lia
   rw[A6 c2,A6 d2];lia
 .have d1:¬p.2.1=1+(i:Int):=by lia
  rw[A6 c1,A6 d1,o7 a1];by_cases c2:(p.1-1).toNat=i
  .have d2:p.1=1+(i:Int):=by lia
   rw[AB c2,AB d2,c2];lia
  .have d2:¬p.1=1+(i:Int):=by lia
   rw[A6 c2,A6 d2];lia
theorem Hi (p:Lf) (ps:P' Lf) (f:Int):gu (p::ps) f=(if p.2.1=f then p.2.2 else 0)+gu ps f:=by
 unfold gu;rw[List.filter_cons];by_cases h:p.2.1=f<;>simp[h]
theorem Hj (p:Lf) (ps:P' Lf) (f:Int):gv (p::ps) f=(if p.1=f then p.2.2 else 0)+gv ps f:=by
 unfold gv;rw[List.filter_cons];by_cases h:p.1=f<;>simp[h]
theorem lg {n:Nat}:∀(ps:P' Lf) (e:P' Int),e.length=n->(∀p∈ps,Okl n p)->(ps.foldl cZ e).length=n/\∀i:Nat,(ps.foldl cZ e).getD i 0=e.getD i 0+gu ps (1+(i:Int))-gv ps (1+(i:Int))
 |[],e,he,_=>⟨he,λi=>by simp[gu,gv]⟩
 |p::ps,e,he,h=>by
  rw[Bj];obtain⟨h1,h2⟩:=lg ps (cZ e p) (by rw[Hg];exact he) λq hq=>h q (by simp[hq]);refine⟨h1,λi=> ?_⟩;rw[h2 i,Hh he (h p (by simp)) i,Hi,Hj];lia
theorem lm (n:Nat) (ps:P' Lf) (h:∀p∈ps,Okl n p):(bH n ps).length=n:=(lg ps _ (by simp) h).1
def back (xs:P' Int):Lf:=(xs.getD 0 0,xs.getD 1 0,xs.getD 2 0)
def bZ (p:Lf):P' Int:=[p.1,p.2.1,p.2.2]
def uY (p:Lf):back (bZ p)=p:=rfl
theorem o8 (h:i<ks.length):(ks.map V.int)[i]? =some (.int (ks.getD i 0)):=by rw[AE,A2 h];simp[List.getD,h]
theorem map_set {l:P' Int}{i:Nat}{v:Int}:(l.set i v).map V.int=(l.map V.int).set i (.int v):=by rw[List.map_set]
def lf (p:Lf):D:=tI (bZ p)
def lfs (ps:P' Lf):D:= .l (ps.map lf)
def fN (h:Is H (lf p) v):∃a,v= .ref a/\H a=some (.tup [.int p.1, .int p.2.1, .int p.2.2]):=bY h
def jA (h:H a=some (.tup [.int p.1, .int p.2.1, .int p.2.2])):Is H (lf p) (.ref a):=eV (xs:=bZ p) h
theorem uZ (ps:P' Lf):lfs ps= .l ((ps.map bZ).map tI):=by unfold lfs;rw[BG];rfl
def aF (H H':Hp):Prop:=∀a xs,H a=some (.tup xs)->H' a=some (.tup xs)
def aF.of_same (s:ag H H'):aF H H':=λa xs e=>s _ _ e
def aF.trans (s:aF H H') (t:aF H' H''):aF H H'':=λa xs e=>t _ _ (s _ _ e)
theorem aF.upd {H:Hp}{b:P5}{zs ys:P' V} (hb:H b=some (.lst zs)):aF H (L2.upd H b (.lst ys)):=λa xs e=>by
 rw[au (by rintro rfl;rw[hb] at e;cases e)];exact e
theorem lp {H H':Hp} (t:aF H H'):∀{ps:P' Lf}{vs:P' V},Iss H (ps.map lf) vs->Iss H' (ps.map lf) vs
 |[],_,h=>by rw[bQ h];exact aA
 |p::ps,_,h=>by
  obtain⟨u,us,rfl,h1,h2⟩:=aR h;obtain⟨a,rfl,ha⟩:=fN h1;exact ax (jA (t _ _ ha)) (lp t h2)
def bB (p q:Lf):Bool:=if p.1=q.1 then(if p.2.1=q.2.1 then decide (p.2.2<q.2.2) else decide (p.2.1<q.2.1)) else decide (p.1<q.1)
def gw:P' Lf->P' Lf->Bool
 |_,[]=>false
 |[],_::_=>true
 |x::xs,y::ys=>if x=y then gw xs ys else bB x y
theorem u7 {q:Lf}{w:V} (h:Is H (lf p) v) (k:Is H (lf q) w):EqR K H 1 v w (decide (p=q)):=by
 have e:=h.eqr (K:=K) (n:=1) (by simp[lf,tI,bZ,dep,cw]) (by simp[lf,tI,bZ,Kin,cb]) k;have:eqD (lf p) (lf q)=decide (p=q):=by
  obtain⟨a,b,c⟩:=p;obtain⟨d,e,f⟩:=q;simp[lf,tI,bZ,eqD,cj,Bool.and_assoc]
 rwa [this] at e
theorem Hk {q:Lf}{w:V} (h:Is H (lf p) v) (k:Is H (lf q) w):LtR K H 1 v w (bB p q):=by
 obtain⟨a,rfl,ha⟩:=fN h;obtain⟨b,rfl,hb⟩:=fN k;have e:=LtR.tuples (K:=K) (H:=H) (d:=0) (a:=a) (b:=b) (λj=>if j=0 then decide (p.1=q.1) else if j=1 then decide (p.2.1=q.2.1) else decide (p.2.2=q.2.2)) (λj=>if j=0 then decide (p.1<q.1) else if j=1 then decide (p.2.1<q.2.1) else decide (p.2.2<q.2.2)) (SqT.of ha) (SqT.of hb) (λj x y hx hy=> ?_) (λj x y hx hy _=> ?_)
 .have e2:SeqAt.lex (λj=>if j=0 then decide (p.1=q.1) else if j=1 then decide (p.2.1=q.2.1) else decide (p.2.2=q.2.2)) (λj=>if j=0 then decide (p.1<q.1) else if j=1 then decide (p.2.1<q.2.1) else decide (p.2.2<q.2.2)) 3 3 3 0=bB p q:=by
   unfold bB;by_cases e0:p.1=q.1
   .by_cases e1:p.2.1=q.2.1
    .by_cases e2:p.2.2=q.2.2
     .simp [SeqAt.lex,e0,e1,e2]
     .simp [SeqAt.lex,e0,e1,e2]
    .simp [SeqAt.lex,e0,e1]
   .simp [SeqAt.lex,e0]
  exact e2▸e
 .match j,hx,hy with
  |0,hx,hy=>cases hx;cases hy;exact EqR.int 0 _ _
  |1,hx,hy=>cases hx;cases hy;exact EqR.int 0 _ _
  |2,hx,hy=>cases hx;cases hy;exact EqR.int 0 _ _
  |j+3,hx,_=>simp at hx
 .match j,hx,hy with
  |0,hx,hy=>cases hx;cases hy;exact LtR.int 0 _ _
  |1,hx,hy=>cases hx;cases hy;exact LtR.int 0 _ _
  |2,hx,hy=>cases hx;cases hy;exact LtR.int 0 _ _
  |j+3,hx,_=>simp at hx
theorem u8 (p q:P' Lf):∀(k i:Nat),min p.length q.length-i=k->i<=min p.length q.length->SeqAt.lex (λj=>decide (p.getD j (0,0,0)=q.getD j (0,0,0))) (λj=>bB (p.getD j (0,0,0)) (q.getD j (0,0,0))) p.length q.length k i=gw (p.drop i) (q.drop i)
 |0,i,hk,hi=>by
  rw[SeqAt.lex];rcases(by lia:q.length=i\/(p.length=i/\i<q.length)) with e|⟨e,e2⟩
  .rw [List.drop_of_length_le (l:=q) (by lia)];have:¬p.length<q.length:=by lia
   cases p.drop i<;>simp[gw,this]
  .rw [List.drop_of_length_le (l:=p) (by lia),Bk e2];have:p.length<q.length:=by lia
   simp[gw,this]
 |k+1,i,hk,hi=>by
  have h1:i<p.length:=by lia
  have h2:i<q.length:=by lia
  have g1:p.getD i (0,0,0)=p[i]:=by simp[List.getD,h1]
  have g2:q.getD i (0,0,0)=q[i]:=by simp[List.getD,h2]
  rw[SeqAt.lex,Bk h1,Bk h2,gw,g1,g2];by_cases e:p[i]=q[i]
  .rw [AB (BA e),AB e];exact u8 p q k (i+1) (by lia) (by lia)
  .rw [A6 (by simpa using e),A6 e]
theorem Hl {p q:P' Lf}{ws:P' V} (h:Iss H (p.map lf) vs) (k:Iss H (q.map lf) ws):
  (∀(j:Nat) x y,vs[j]? =some x->ws[j]? =some y->EqR K H 1 x y (decide (p.getD j (0,0,0)=q.getD j (0,0,0))))/\(∀(j:Nat) x y,vs[j]? =some x->ws[j]? =some y->decide (p.getD j (0,0,0)=q.getD j (0,0,0))=false->LtR K H 1 x y (bB (p.getD j (0,0,0)) (q.getD j (0,0,0)))):=by
 have go:∀(j:Nat) x y,vs[j]? =some x->ws[j]? =some y->Is H (lf (p.getD j (0,0,0))) x/\Is H (lf (q.getD j (0,0,0))) y:=λj x y hx hy=>by
  obtain⟨d,hd,h1⟩:=h.of_get hx;obtain⟨e,he,h2⟩:=k.of_get hy;rw[AE] at hd he;obtain⟨d',M5,rfl⟩:=AA.mp hd;obtain⟨e',N9,rfl⟩:=AA.mp he;rw[List.getD,M5,List.getD,N9];exact⟨h1,h2⟩
 exact⟨λj x y hx hy=>u7 (go j x y hx hy).1 (go j x y hx hy).2,λj x y hx hy _=>Hk (go j x y hx hy).1 (go j x y hx hy).2⟩
theorem Hm {p q:P' Lf}{w:V} (h:Is H (lfs p) v) (k:Is H (lfs q) w):Ask K H v w (gw p q):=by
 obtain⟨a,vs,rfl,ha,h⟩:=aH h;obtain⟨b,ws,rfl,hb,k⟩:=aH k;obtain⟨e1,e2⟩:=Hl (K:=K) h k;refine⟨a,b,vs,ws,1,_,_,rfl,rfl,SqL.of ha,SqL.of hb,by decide,e1,e2, ?_⟩;rw[h.length,k.length,A1,A1,u8 p q _ 0 (Nat.sub_zero _) (AJ _),List.drop_zero,List.drop_zero]
def nw (H0 H:Hp):Hp:=λb=>match H0 b with|some (.lst _)=>none|_=>H b
theorem bC :ag (nw H0 H) H:=λb o e=>by
 unfold nw at e;split at e
 .cases e
 .exact e
theorem gx (s:ag H H'):ag (nw H0 H) (nw H0 H'):=λb o e=>by
 unfold nw at e⊢;split at e
 .cases e
 .exact s _ _ e
theorem jB (s:ag H0 H1):ag (nw H1 H) (nw H0 H):=λb o e=>by
 unfold nw at e⊢;split at e
 .cases e
 .rename_i h;split
  .rename_i xs h0;exact absurd (s _ _ h0) (h xs)
  .exact e
theorem lq {xs:P' V} (s:ag H0 H1) (ha:H1 a=some (.lst xs)):ag (nw H1 H) (hid (nw H0 H) a):=λb o e=>by
 have hb:b≠a:=by
  rintro rfl;unfold nw at e;rw[ha] at e;cases e
 rw[mP hb];exact jB s b o e
theorem cM (h:H0 a=none):nw H0 H a=H a:=by unfold nw;rw[h]
theorem lr {xs:P' V} (s:ag H0 H) (h:H a=some (.tup xs)):nw H0 H a=some (.tup xs):=by
 unfold nw;split
 .rename_i ys e;rw[s _ _ e] at h;cases h
 .exact h
def Hn {ps:P' Lf}(s:ag H0 H) (h:Iss H (ps.map lf) vs):Iss (nw H0 H) (ps.map lf) vs:=lp (λa xs e=>lr s e) h
theorem u9 {ps:P' Lf}(s:ag H0 H) (n:H0 a=none) (h:Is H (lfs ps) (.ref a)):Is (nw H0 H) (lfs ps) (.ref a):=by
 obtain⟨_,vs,e,ha,hi⟩:=aH h;cases e;exact aI (by rw[cM n];exact ha) (Hn s hi)
def Acc (H0 H:Hp) (a:P5) (xs:P' D):Prop:=∃vs,H a=some (.lst vs)/\Iss (hid (nw H0 H) a) xs vs
def Acc.start (h:H a=some (.lst [])):Acc H0 H a []:=⟨[],h,aA⟩
theorem Acc.mono {H0 H H':Hp}{a:P5}{xs:P' D} (s:ag H H') (g:Acc H0 H a xs):Acc H0 H' a xs:=let ⟨vs,e,h⟩:=g;⟨vs,s _ _ e,h.mono (i9 (gx s))⟩
theorem vb :hid (nw H0 (upd H a o)) a=hid (nw H0 H) a:=by
 funext b
 unfold hid;split
 .rfl
 .rename_i h;unfold nw;rw[au h]
theorem Acc.add {xs:P' D}{x:D}(s01:ag H0 H1) (s12:ag H1 H2) (ha:H1 a=some (.lst vs)) (h:Iss (hid (nw H0 H1) a) xs vs) (k:Is (nw H1 H2) x v):Acc H0 (upd H2 a (.lst (vs++[v]))) a (xs++[x]):=
 ⟨vs++[v],am,by rw[vb];exact(h.mono (i9 (gx s12))).append (ax (k.mono (lq s01 ha)) aA)⟩
theorem Acc.adds {xs ys:P' D}{us:P' V} (s01:ag H0 H1) (s12:ag H1 H2) (ha:H1 a=some (.lst vs)) (h:Iss (hid (nw H0 H1) a) xs vs) (k:Iss (nw H1 H2) ys us):Acc H0 (upd H2 a (.lst (vs++us))) a (xs++ys):=
 ⟨vs++us,am,by rw[vb];exact(h.mono (i9 (gx s12))).append (k.mono (lq s01 ha))⟩
theorem Acc.is {xs:P' D} (n:H0 a=none) (g:Acc H0 H a xs):Is (nw H0 H) (.l xs) (.ref a):=let ⟨_,e,h⟩:=g;aI (by rw[cM n];exact e) (h.mono Ee)
def cc (p:Lf):Int:=(p.2.1-p.1)*p.2.2-1
def ee (f j:Int) (n:Nat) (sp:Int):P' Lf:=((List.range n).map λw:Nat=>((f,j,1+(w:Int)):Lf)).filter λp=>decide (cc p<=sp)
def db (f:Int) (m n:Nat) (sp:Int):P' Lf:=(List.range m).flatMap λi:Nat=>ee f (f+1+(i:Int)) n sp
def cy:Nat->P' Lf->Int->Int->P' (P' Lf)
 |0,_,_,_=>[[]]
 |n+1,ls,wt,sp=>[[]]++(List.range ls.length).flatMap λi=>match ls[i]? with
  |none=>[]
  |some p=>if p.2.2<=wt/\cc p<=sp then(cy n (ls.drop i) (wt-p.2.2) (sp-cc p)).map (p:: ·) else []
def de (n:Nat) (ls:P' Lf) (wt sp:Int) (i:Nat):P' (P' Lf):=match ls[i]? with
  |none=>[]
  |some p=>if p.2.2<=wt/\cc p<=sp then(cy n (ls.drop i) (wt-p.2.2) (sp-cc p)).map (p:: ·) else []
def o9 (n:Nat) (ls:P' Lf) (wt sp:Int):cy (n+1) ls wt sp=[[]]++(List.range ls.length).flatMap (de n ls wt sp):=rfl
def thF (d f:Nat) (ps:P' Lf):Int:=(bH d ps).getD (f-1) 0
def fg (d f:Nat) (th sp:Int) (ls:P' Lf):Int:=sp-(ls.map cc).sum-(th-(ls.map (·.2.2)).sum)*((d:Int)-(f:Int))
def gy (d f:Nat) (th sp:Int):P' (P' Lf):=cy 8 (db f (d-f) th.toNat sp) th sp
def dH (d f:Nat) (ps:P' Lf) (sp:Int):P' (P' Lf×Int):=((gy d f (thF d f ps) sp).filter λls=>decide (0<=fg d f (thF d f ps) sp ls)).map λls=>(ps++ls,fg d f (thF d f ps) sp ls)
def bS (d:Nat) (k:Int):Nat->P' (P' Lf×Int)
 |0=>[([],k)]
 |f+1=>(bS d k f).flatMap λx=>dH d (f+1) x.1 x.2
def cz (d k:Nat):P' (P' Lf):=((bS d k d).filter λx=>decide (x.2=0)).map (·.1)
def jC (d:Nat) (p:Lf):Bool:=decide (1<=p.1)&&decide (p.1<p.2.1)&&decide (p.2.1<=d)&&decide (1<=p.2.2)&&decide (p.2.2<=8)
def stB (d f:Nat) (x:P' Lf×Int):Bool:=x.1.all (jC d)&&decide (x.1.length<=20)&&decide (0<=thF d (f+1) x.1)&&decide (thF d (f+1) x.1<8)&&decide (0<=x.2)&&decide (x.2<=6)&&decide ((gy d (f+1) (thF d (f+1) x.1) x.2).length<=200)
def okB (d k:Nat):Bool:=(List.range d).all (λf=>(bS d k f).all (stB d f)&&decide ((bS d k (f+1)).length<=900))&&(bS d k d).all λx=>decide (x.1.length<=20)
def Wide (d k:Nat):Prop:=1<=d/\((d<=4/\k<=6)\/(d=5/\k<=3))
theorem vc (f j:Int) (n:Nat) (sp:Int):ee f j (n+1) sp=ee f j n sp++(if cc (f,j,1+(n:Int))<=sp then [(f,j,1+(n:Int))] else []):=by
 unfold ee;rw[Az,A9,Bo];by_cases h:cc (f,j,1+(n:Int))<=sp<;>simp[h]
theorem vd (f:Int) (m n:Nat) (sp:Int):db f (m+1) n sp=db f m n sp++ee f (f+1+(m:Int)) n sp:=by
 unfold db;rw[Az,Ay];simp
theorem vg (f j:Int) (n:Nat) (sp:Int):(ee f j n sp).length<=n:=by
 unfold ee;exact As (CM _ _) (by simp)
theorem pc (f:Int) (n:Nat) (sp:Int):∀m,(db f m n sp).length<=m*n
 |0=>by simp[db]
 |m+1=>by
  rw[vd,AC,CY];have:=pc f n sp m;have:=vg f (f+1+(m:Int)) n sp;lia
theorem pe {f:Int}{sp:Int}(h:p∈db f m n sp):p.1=f/\f<p.2.1/\p.2.1<=f+m/\1<=p.2.2/\p.2.2<=n:=by
 unfold db ee at h;simp only[B2,Ag,DE,At] at h;obtain⟨i,hi,⟨w,hw,rfl⟩,_⟩:=h;refine⟨rfl, ?_, ?_, ?_, ?_⟩
 .show f<f+1+(i:Int);lia
 .show f+1+(i:Int)<=f+m;lia
 .show 1<=1+(w:Int);lia
 .show 1+(w:Int)<=n;lia
theorem ie {α:Type} (g:Nat->P' α) (i:Nat):(List.range (i+1)).flatMap g=(List.range i).flatMap g++g i:=by
 rw[Az,Ay];simp
theorem lu {α:Type} (g:Nat->P' α):∀{m i:Nat},i<m->((List.range i).flatMap g).length+(g i).length<=((List.range m).flatMap g).length
 |0,i,h=>absurd h (by lia)
 |m+1,i,h=>by
  rw[ie,AC];by_cases e:i=m
  .rw [e];exact A8 _
  .have:=lu g (m:=m) (i:=i) (by lia);lia
theorem Ho {ls:P' Lf}{wt sp:Int}{x:P' Lf} (h:x∈cy (n+1) ls wt sp):x=[]\/∃(i:Nat) (p:Lf) (r:P' Lf),ls[i]? =some p/\p.2.2<=wt/\cc p<=sp/\r∈cy n (ls.drop i) (wt-p.2.2) (sp-cc p)/\x=p::r:=by
 rw[o9] at h;rcases C1.mp h with h|h
 .exact .inl (Aq.mp h)
 .obtain⟨i,hi,h⟩:=B2.mp h;unfold de at h;split at h
  .cases h
  .rename_i p hp;split at h
   .rename_i c;obtain⟨r,hr,rfl⟩:=At.mp h;exact .inr ⟨i,p,r,hp,c.1,c.2,hr,rfl⟩
   .cases h
theorem ph:∀{n:Nat}{ls:P' Lf}{wt sp:Int}{x:P' Lf},(∀p∈ls,1<=p.2.2)->0<=wt->x∈cy n ls wt sp->x.length<=n/\0<=(x.map (·.2.2)).sum/\(x.map (·.2.2)).sum<=wt/\∀p∈x,p∈ls
 |0,ls,wt,sp,x,_,h0,h=>by
  rw[cy] at h;rw[Aq.mp h];exact⟨by simp,by simp,by simpa using h0,λp hp=>nomatch hp⟩
 |n+1,ls,wt,sp,x,hw,h0,h=>by
  rcases Ho h with rfl|⟨i,p,r,hp,c1,c2,hr,rfl⟩
  .exact⟨by simp,by simp,by simpa using h0,λp hp=>nomatch hp⟩
  .have pm:=AU hp;have p1:=hw p pm;obtain⟨a,b,c,d⟩:=ph (λq hq=>hw q (DA hq)) (by lia) hr;refine⟨by rw[AZ];lia, ?_, ?_,λq hq=> ?_⟩
   .rw [AW,B9];lia
   .rw [AW,B9];lia
   .rcases AM.mp hq with rfl|hq
    .exact pm
    .exact DA (d q hq)
theorem pi :jC d p=true↔1<=p.1/\p.1<p.2.1/\p.2.1<=d/\1<=p.2.2/\p.2.2<=8:=by
 unfold jC;simp only[AD,Af];constructor
 .rintro⟨⟨⟨⟨a,b⟩,c⟩,d⟩,e⟩;exact⟨a,b,c,d,e⟩
 .rintro⟨a,b,c,d,e⟩;exact⟨⟨⟨⟨a,b⟩,c⟩,d⟩,e⟩
theorem Hq {f:Nat}{x:P' Lf×Int} (h:stB d f x=true):(∀p∈x.1,jC d p=true)/\x.1.length<=20/\0<=thF d (f+1) x.1/\thF d (f+1) x.1<8/\0<=x.2/\x.2<=6/\(gy d (f+1) (thF d (f+1) x.1) x.2).length<=200:=by
 unfold stB at h;simp only[AD,Af,Ao] at h;obtain⟨⟨⟨⟨⟨⟨a,b⟩,c⟩,d⟩,e⟩,f⟩,g⟩:=h;exact⟨a,b,c,d,e,f,g⟩
theorem Hr {k:Nat} (h:okB d k=true):(∀f<d,(∀x∈bS d k f,stB d f x=true)/\(bS d k (f+1)).length<=900)/\∀x∈bS d k d,x.1.length<=20:=by
 unfold okB at h;simp only[AD,Af,Ao,Ag] at h;exact h
theorem Hs (p q:Lf):ltI (bZ p) (bZ q)=bB p q:=by
 unfold bB ltI bZ;simp only[cY,AZ,C2];split
 .split
  .split
   .rename_i h;simp[h]
   .rfl
  .rfl
 .rfl
def Srt (ps:P' Lf):Prop:=ps.Pairwise λa b=>bB b a=false
structure Snd (d:Nat) (ps:P' Lf):Prop where
 ok:∀p∈ps,1<=p.1/\p.1<p.2.1/\p.2.1<=d/\1<=p.2.2
 nn:∀i:Nat,i<d->0<=1+gu ps (1+(i:Int))-gv ps (1+(i:Int))
 so:Srt ps
def eF (ps:P' Lf) (i:Nat):Int:=1+gu ps (1+(i:Int))-gv ps (1+(i:Int))
theorem Ht {ps:P' Lf} (h:∀p∈ps,Okl d p) (hi:i<d):(bH d ps).getD i 0=eF ps i:=by
 have:=(lg ps (List.replicate d 1) (by simp) h).2 i;unfold bH;rw[this];unfold eF;have:(List.replicate d (1:Int)).getD i 0=1:=by simp[List.getD,hi]
 rw[this]
def g8 (d:Nat) (ps:P' Lf):Prop:=(∀p∈ps,1<=p.1/\p.1<p.2.1/\p.2.1<=d/\1<=p.2.2)/\∀i:Nat,i<d->0<=eF ps i
theorem g8.okl {ps:P' Lf} (h:g8 d ps):∀p∈ps,Okl d p:=λp hp=>by
 obtain⟨a,b,c,_⟩:=h.1 p hp;exact⟨a,by lia,by lia,c⟩
def fO (x:Lf):P' Lf->P' Lf
 |[]=>[x]
 |y::ys=>if bB x y then x::y::ys else if x=y then y::ys else y::fO x ys
def df (xs:P' Lf):P' Lf:=xs.foldr fO []
def nxt (m:Lf) (f:Int):Int:=if m.1=m.2.1 then f+1 else f
def fP (d:Nat) (es:P' Int) (i:Nat):P' Lf:=List.replicate (es.getD i 0).toNat (1+(i:Int),(d:Int)+1,1)
def fh (d:Nat) (es:P' Int):P' Lf:=(List.range d).flatMap (fP d es)
theorem pq {q:Lf}:bB p q=true↔p.1<q.1\/(p.1=q.1/\(p.2.1<q.2.1\/(p.2.1=q.2.1/\p.2.2<q.2.2))):=by
 unfold bB;by_cases e0:p.1=q.1
 .by_cases e1:p.2.1=q.2.1
  .simp [e0,e1]
  .simp [e0,e1]
 .simp [e0]
theorem lv :¬bB p p=true:=by rw[pq];lia
theorem vh {q r:Lf} (h:bB p q=true) (k:bB q r=true):bB p r=true:=by rw[pq] at*;lia
theorem vi {q:Lf} (h:¬bB p q=true) (k:p≠q):bB q p=true:=by
 rw[pq] at*
 obtain⟨a,b,c⟩:=p;obtain⟨d,e,f⟩:=q;simp only[ne_eq,Prod.mk.injEq,not_and] at*
 lia
theorem pA {x z:Lf}:∀{ys:P' Lf},z∈fO x ys↔z=x\/z∈ys
 |[]=>by simp[fO]
 |y::ys=>by
  unfold fO;split
  .simp
  .split
   .rename_i e;subst e;simp
   .simp [pA (ys:=ys)];constructor
    .rintro(h|h|h)
     .exact .inr (.inl h)
     .exact .inl h
     .exact .inr (.inr h)
    .rintro(h|h|h)
     .exact .inr (.inl h)
     .exact .inl h
     .exact .inr (.inr h)
theorem vj {x:Lf}:∀{ys:P' Lf},(ys.Pairwise λa b=>bB a b=true)->(fO x ys).Pairwise λa b=>bB a b=true
 |[],_=>by simp[fO]
 |y::ys,h=>by
  unfold fO;split
  .rename_i e;refine List.Pairwise.cons (λz hz=> ?_) h;rcases AM.mp hz with rfl|hz
   .exact e
   .exact vh e ((CL.mp h).1 z hz)
  .split
   .exact h
   .rename_i e1 e2;refine List.Pairwise.cons (λz hz=> ?_) (vj (CL.mp h).2);rcases pA.mp hz with rfl|hz
    .exact vi e1 e2
    .exact(CL.mp h).1 z hz
theorem pB {z:Lf}:∀{xs:P' Lf},z∈df xs↔z∈xs
 |[]=>by simp[df]
 |x::xs=>by
  have:=pB (z:=z) (xs:=xs);unfold df at this⊢;rw[List.foldr_cons,pA,this,AM]
theorem pC:∀(xs:P' Lf),(df xs).Pairwise λa b=>bB a b=true
 |[]=>by simp[df]
 |x::xs=>by
  have:=pC xs;unfold df at this⊢;rw[List.foldr_cons];exact vj this
theorem vk:∀{xs ys:P' Lf},(xs.Pairwise λa b=>bB a b=true)->(ys.Pairwise λa b=>bB a b=true)->(∀z,z∈xs↔z∈ys)->xs=ys
 |[],[],_,_,_=>rfl
 |[],y::ys,_,_,h=>absurd ((h y).mpr (by simp)) (by simp)
 |x::xs,[],_,_,h=>absurd ((h x).mp (by simp)) (by simp)
 |x::xs,y::ys,h1,h2,h=>by
  have a1:=CL.mp h1;have a2:=CL.mp h2;have e:x=y:=by
   refine Classical.byContradiction λne=> ?_;have m1:x∈ys:=by rcases AM.mp ((h x).mp (by simp)) with e|e;exact absurd e ne;exact e
   have m2:y∈xs:=by rcases AM.mp ((h y).mpr (by simp)) with e|e;exact absurd e.symm ne;exact e
   exact lv (vh (a1.1 y m2) (a2.1 x m1))
  subst e;have:xs=ys:=vk a1.2 a2.2 λz=>by
   have hz:=h z;rw[AM,AM] at hz;constructor
   .intro m;rcases hz.mp (.inr m) with e|e
    .subst e;exact absurd (a1.1 z m) lv
    .exact e
   .intro m;rcases hz.mpr (.inr m) with e|e
    .subst e;exact absurd (a2.1 z m) lv
    .exact e
  rw[this]
theorem Hu {q:Lf} (h:bZ p=bZ q):p=q:=by rw[<-uY p,<-uY q,h]
theorem Hv {ps:P' Lf}{LM:P' (P' Int)} (nd:LM.Nodup) (mem:∀z,z∈LM↔z∈ps.map bZ) (so:∀i j,i<j->j<LM.length->ltI (LM.getD j []) (LM.getD i [])=false):LM=(df ps).map bZ:=by
 obtain⟨qs,e,hq⟩:=nC (f:=bZ) (P:=λp=>p∈ps) LM λv hv=>by
  obtain⟨p,hp,rfl⟩:=At.mp ((mem v).mp hv);exact⟨p,hp,rfl⟩
 subst e;have:qs=df ps:=by
  refine vk ?_ (pC ps) λz=> ?_
  .rw [List.pairwise_iff_getElem];intro i j hi hj LS;have h1:=so i j LS (by rw[A1];exact hj);rw[A4,A4,AE,AE,A2 hi,A2 hj] at h1;simp only[Ci,Option.getD_some] at h1;rw[Hs] at h1;refine vi (by rw[h1];simp) λe=> ?_;unfold List.Nodup at nd;rw[List.pairwise_map,List.pairwise_iff_getElem] at nd;exact nd i j hi hj LS (by rw[e])
  .rw [pB];constructor
   .exact hq z
   .intro hz;obtain⟨q,hq',e⟩:=At.mp ((mem (bZ z)).mpr (List.mem_map_of_mem hz));rw[<-Hu e];exact hq'
 rw[this]
def chF (n:Int):Nat->Int
 |0=>1
 |k+1=>chF n k*(n-(k:Int))/((k:Int)+1)
def chB:Bool:=(List.range 16).all λn=>(List.range (n+1)).all λk=>decide (0<=chF (n:Int) k)&&decide (chF (n:Int) k<=6435)
theorem Hw:chB=true:=by ac_nf
theorem vo {n:Int}{k:Nat} (h1:(k:Int)<=n) (h2:n<=15):0<=chF n k/\chF n k<=6435:=by
 obtain⟨m,rfl⟩:=Al (show 0<=n by lia);have h:=Hw;unfold chB at h;rw[Ao] at h;have h:=h m (Ag.mpr (by lia));rw[Ao] at h;have h:=h k (Ag.mpr (by lia));simpa using h
def wmF (t:P' Int) (p:Nat) (m:Int):P' Int:=t.set p (t.getD p 0+m)
theorem dg (t:P' Int) (p:Nat) (m:Int):(wmF t p m).length=t.length:=by unfold wmF;rw[Bi]
theorem lw {t:P' Int}{p:Nat}{m:Int} (h:p<t.length):(wmF t p m).getD i 0=t.getD i 0+if p=i then m else 0:=by
 unfold wmF;rw[A4,List.getElem?_set];by_cases e:p=i
 .subst e;simp[h]
 .simp [e]
theorem Hx {t:P' Int}{p:Nat}{x:Int} (h:p<t.length):t.take p++[x]++t.drop (p+1)=t.set p x:=by
 rw[List.set_eq_take_append_cons_drop,AB h];simp
def spR:Nat->Nat->P' (P' Nat)
 |0,a=>[[a]]
 |g+1,a=>(List.range (a+1)).flatMap λh=>(spR g (a-h)).map (h:: ·)
def ce (t:P' Int):Nat->P' Nat->Int
 |_,[]=>1
 |p,s::r=>chF (t.getD p 0+(s:Int)) s*ce t (p+1) r
def ck (t:P' Int):Nat->P' Nat->P' Int
 |_,[]=>t
 |p,s::r=>ck (wmF t p (s:Int)) (p+1) r
theorem vq {t:P' Int}{m:Int}{q:Nat} (hq:q<t.length):∀{r:P' Nat}{p:Nat},q<p->ce (wmF t q m) p r=ce t p r
 |[],p,_=>rfl
 |s::r,p,h=>by
  unfold ce;rw[lw hq,A6 (by lia),vq hq (r:=r) (by lia)];simp
def pbF:Nat->P' Int->Nat->Nat->P' (P' Int×Int)
 |0,t,p,a=>[(wmF t p (a:Int),chF (t.getD p 0+(a:Int)) a)]
 |g+1,t,p,a=>(List.range (a+1)).flatMap λh:Nat=>(pbF g (wmF t p (h:Int)) (p+1) (a-h)).map λx=>(x.1,chF (t.getD p 0+(h:Int)) h*x.2)
theorem jD {α β:Type}{f g:α->P' β}:∀{xs:P' α},(∀x∈xs,f x=g x)->xs.flatMap f=xs.flatMap g
 |[],_=>rfl
 |x::xs,h=>by rw[BI,BI,h x (by simp),jD λy hy=>h y (by simp[hy])]
theorem vx:∀{g:Nat}{t:P' Int}{p a:Nat},p+g<t.length->pbF g t p a=(spR g a).map λr=>(ck t p r,ce t p r)
 |0,t,p,a,_=>by simp[pbF,spR,ck,ce]
 |g+1,t,p,a,h=>by
  unfold pbF spR;rw[List.map_flatMap];refine jD λx _=> ?_;rw[vx (by rw[dg];lia),BG,BG];refine BH λr _=> ?_;simp only[Function.comp,ck,ce];rw[vq (by lia) (BU p)]
theorem pD:∀{g a:Nat}{r:P' Nat},r∈spR g a->r.length=g+1/\r.sum=a
 |0,a,r,h=>by simp[spR] at h;subst h;simp
 |g+1,a,r,h=>by
  unfold spR at h;obtain⟨x,hx,h⟩:=B2.mp h;obtain⟨r',h',rfl⟩:=At.mp h;have hx:=Ag.mp hx;obtain⟨e1,e2⟩:=pD h';simp[e1,e2];lia
theorem lA:∀{t:P' Int}{p:Nat}{m:Int},p<t.length->(wmF t p m).sum=t.sum+m
 |[],p,m,h=>absurd h (by simp)
 |x::t,0,m,_=>by simp[wmF];lia
 |x::t,p+1,m,h=>by
  have:=lA (t:=t) (p:=p) (m:=m) (by simpa using h);unfold wmF at this⊢;simp only[List.set_cons_succ,B9,DL] at this⊢;lia
theorem vy:∀{r:P' Nat}{t:P' Int}{p:Nat},p+r.length<=t.length->(∀i:Nat,0<=t.getD i 0)->(ck t p r).length=t.length/\(ck t p r).sum=t.sum+(r.sum:Nat)/\∀i:Nat,0<=(ck t p r).getD i 0
 |[],t,p,_,h=>by simpa[ck] using h
 |s::r,t,p,hl,h=>by
  have hp:p<t.length:=by simp at hl;lia
  obtain⟨e1,e2,e3⟩:=vy (r:=r) (t:=wmF t p (s:Int)) (p:=p+1) (by rw[dg];simp at hl;lia) (λi=>by rw[lw hp];have:=h i;split<;>lia)
  unfold ck;refine⟨by rw[e1,dg], ?_,e3⟩;rw[e2,lA hp,B9];lia
theorem ig:∀{t:P' Int},(∀i:Nat,0<=t.getD i 0)->0<=t.sum/\∀i:Nat,t.getD i 0<=t.sum
 |[],_=>by simp
 |x::t,h=>by
  have hx:=h 0;obtain⟨e1,e2⟩:=ig (t:=t) λi=>by have:=h (i+1);simpa using this
  simp only[List.getD_cons_zero] at hx;rw[B9];refine⟨by lia,λi=> ?_⟩;cases i with
  |zero=>simp;lia
  |succ i=>have:=e2 i;rw[DL];lia
theorem vA:∀{r:P' Nat}{t:P' Int}{p:Nat},(∀i:Nat,0<=t.getD i 0)->t.sum+(r.sum:Nat)<=15->0<=ce t p r/\ce t p r<=6435^r.length
 |[],t,p,_,_=>by simp[ce]
 |s::r,t,p,h,hs=>by
  rw[B9] at hs;obtain⟨e1,e2⟩:=ig h;have a1:=e2 p;have a2:=h p;obtain⟨c1,c2⟩:=vo (n:=t.getD p 0+(s:Int)) (k:=s) (by lia) (by lia);obtain⟨q1,q2⟩:=vA (r:=r) (t:=t) (p:=p+1) h (by lia);unfold ce;refine⟨Int.mul_nonneg c1 q1, ?_⟩;rw[AZ,Int.pow_succ,Int.mul_comm];exact Int.mul_le_mul q2 c2 c1 (Int.pow_nonneg (by decide))
abbrev Tab:=P' (P' Int×Int)
def bE (D:Tab) (g:P' Int->Int):Int:=(D.map λx=>x.2*g x.1).sum
def cN (D:Tab) (k:P' Int):Int:=((D.find? λx=>decide (x.1=k)).map (·.2)).getD 0
def eu (D:Tab) (k:P' Int) (v:Int):Tab:=if(D.any λx=>decide (x.1=k))=true then D.map (λx=>if x.1=k then(x.1,v) else x) else D++[(k,v)]
def ii (D:Tab) (k:P' Int) (v:Int):Tab:=eu D k (cN D k+v)
theorem vB (D:Tab) (k:P' Int) (v:Int):(eu D k v).map (·.1)=if k∈D.map (·.1) then D.map (·.1) else D.map (·.1)++[k]:=by
 unfold eu;have:(D.any λx=>decide (x.1=k))=true↔k∈D.map (·.1):=by
  rw[List.any_eq_true,At];simp
 by_cases h:k∈D.map (·.1)
 .rw [AB h,AB (this.mpr h),BG];refine BH λx _=> ?_;simp only[Function.comp];split<;>rfl
 .rw [A6 h,A6 (λz=>h (this.mp z)),A9];rfl
theorem Hy {D:Tab}{k:P' Int}{v:Int}{g:P' Int->Int} (h:k∉D.map (·.1)):bE (eu D k v) g=bE D g+v*g k/\cN D k=0:=by
 have hn:∀x∈D,x.1≠k:=λx hx e=>h (At.mpr ⟨x,hx,e⟩);have e1:(D.any λx=>decide (x.1=k))=false:=by
  rw[List.any_eq_false];intro x hx;simpa using hn x hx
 have e2:D.find? (λx=>decide (x.1=k))=none:=by
  rw[List.find?_eq_none];intro x hx;simpa using hn x hx
 unfold eu cN bE;rw[e1,e2];simp
theorem vC:∀{D:Tab}{k:P' Int}{v:Int}{g:P' Int->Int},(D.map (·.1)).Nodup->k∈D.map (·.1)->bE (D.map λx=>if x.1=k then(x.1,v) else x) g=bE D g+(v-cN D k)*g k
 |[],_,_,_,_,h=>by simp at h
 |x::D,k,v,g,nd,h=>by
  rw[AW,Ba] at nd;by_cases e:x.1=k
  .subst e;have hn:∀y∈D,y.1≠x.1:=λy hy e=>nd.1 (At.mpr ⟨y,hy,e⟩);have e1:(D.map λy=>if y.1=x.1 then(y.1,v) else y)=D:=by
    conv=>rhs;rw[<-List.map_id D]
    refine BH λy hy=> ?_;rw[A6 (hn y hy)];rfl
   have e2:cN (x::D) x.1=x.2:=by simp[cN]
   rw[AW,e1,e2];simp only[bE,C5,AW,B9];rw[Int.sub_mul];lia
  .have hk:k∈D.map (·.1):=by
    rw[AW,AM] at h;rcases h with h|h
    .exact absurd h.symm e
    .exact h
   have ih:=vC (g:=g) (v:=v) nd.2 hk;have e2:cN (x::D) k=cN D k:=by simp[cN,Bb,e]
   rw[e2,AW];simp only[bE,AW,B9,A6 e] at ih⊢;lia
theorem Hz {D:Tab} (nd:(D.map (·.1)).Nodup) (k:P' Int) (v:Int) (g:P' Int->Int):bE (ii D k v) g=bE D g+v*g k:=by
 unfold ii;by_cases h:k∈D.map (·.1)
 .have e:(D.any λx=>decide (x.1=k))=true:=by
   rw[List.any_eq_true];obtain⟨x,hx,e⟩:=At.mp h;exact⟨x,hx,BA e⟩
  unfold eu;rw[AB e,vC nd h];rw[show cN D k+v-cN D k=v by lia]
 .obtain⟨e1,e2⟩:=Hy (v:=cN D k+v) (g:=g) h;rw[e1,e2];simp
theorem HH {D:Tab} (nd:(D.map (·.1)).Nodup) (k:P' Int) (v:Int):((eu D k v).map (·.1)).Nodup:=by
 rw[vB];split
 .exact nd
 .rename_i h;rw[List.nodup_append];exact⟨nd,by simp,λa ha b hb=>by simp at hb;subst hb;exact λe=>h (e▸ha)⟩
structure TabOk (d n:Nat) (D:Tab):Prop where
 nd:(D.map (·.1)).Nodup
 key:∀x∈D,x.1.length=d/\x.1.sum=(n:Int)/\∀i:Nat,0<=x.1.getD i 0
theorem TabOk.add {D:Tab} (h:TabOk d n D) {k:P' Int}{v:Int} (hk:k.length=d/\k.sum=(n:Int)/\∀i:Nat,0<=k.getD i 0):TabOk d n (ii D k v):=by
 refine⟨HH h.nd _ _,λx hx=> ?_⟩;have:x.1∈(eu D k (cN D k+v)).map (·.1):=List.mem_map_of_mem hx;rw[vB] at this;have:x.1∈D.map (·.1)\/x.1=k:=by
  split at this
  .exact .inl this
  .rcases C1.mp this with h|h
   .exact .inl h
   .exact .inr (by simpa using h)
 rcases this with h'|h'
 .obtain⟨y,hy,e⟩:=At.mp h';rw[<-e];exact h.key y hy
 .rw [h'];exact hk
def inP (t:P' Int) (v:Int) (p:Nat) (rs:P' (P' Nat)) (acc:Tab):Tab:=rs.foldl (λacc r=>ii acc (ck t p r) (v*ce t p r)) acc
def stP (p:Nat) (rs:P' (P' Nat)) (xs acc:Tab):Tab:=xs.foldl (λacc x=>inP x.1 x.2 p rs acc) acc
def ij (g:P' Int->Int) (p:Nat) (rs:P' (P' Nat)) (t:P' Int):Int:=(rs.map λr=>ce t p r*g (ck t p r)).sum
def pE (p d n n':Nat) (rs:P' (P' Nat)):Prop:=∀r∈rs,p+r.length<=d/\n+r.sum=n'
theorem HI {n' p:Nat}{t:P' Int} (h:t.length=d/\t.sum=(n:Int)/\∀i:Nat,0<=t.getD i 0) (hr:p+r.length<=d/\n+r.sum=n'):(ck t p r).length=d/\(ck t p r).sum=(n':Int)/\∀i:Nat,0<=(ck t p r).getD i 0:=by
 obtain⟨e1,e2,e3⟩:=vy (r:=r) (t:=t) (p:=p) (by rw[h.1];exact hr.1) h.2.2;exact⟨by rw[e1,h.1],by rw[e2,h.2.1,<-hr.2];lia,e3⟩
theorem pF {d n n' p:Nat}{t:P' Int}{v:Int} (h:t.length=d/\t.sum=(n:Int)/\∀i:Nat,0<=t.getD i 0) (g:P' Int->Int):∀{rs:P' (P' Nat)}{acc:Tab},pE p d n n' rs->TabOk d n' acc->TabOk d n' (inP t v p rs acc)/\bE (inP t v p rs acc) g=bE acc g+v*ij g p rs t
 |[],acc,_,ha=>by simp[inP,ij,ha]
 |r::rs,acc,hr,ha=>by
  have a1:=ha.add (v:=v*ce t p r) (HI h (hr r (by simp)));obtain⟨b1,b2⟩:=pF (v:=v) h g (rs:=rs) (λr' h'=>hr r' (by simp[h'])) a1;refine⟨b1, ?_⟩;show bE (inP t v p rs (ii acc (ck t p r) (v*ce t p r))) g=_;rw[b2,Hz ha.nd];simp only[ij,AW,B9];rw[Int.mul_add,Int.mul_assoc];lia
theorem pG {d n n' p:Nat}{rs:P' (P' Nat)} (hr:pE p d n n' rs) (g:P' Int->Int):∀{xs acc:Tab},(∀x∈xs,x.1.length=d/\x.1.sum=(n:Int)/\∀i:Nat,0<=x.1.getD i 0)->TabOk d n' acc->TabOk d n' (stP p rs xs acc)/\bE (stP p rs xs acc) g=bE acc g+bE xs (ij g p rs)
 |[],acc,_,ha=>by simp[stP,bE,ha]
 |x::xs,acc,hx,ha=>by
  obtain⟨a1,a2⟩:=pF (v:=x.2) (hx x (by simp)) g hr ha;obtain⟨b1,b2⟩:=pG hr g (xs:=xs) (λy hy=>hx y (by simp[hy])) a1;refine⟨b1, ?_⟩;show bE (stP p rs xs (inP x.1 x.2 p rs acc)) g=_;rw[b2,a2];simp only[bE,AW,B9];lia
def TF (cnt:Lf->Nat):P' Lf->P' Int->Int
 |[],_=>1
 |m::ms,t=>ij (TF cnt ms) (m.1-1).toNat (spR (m.2.1-m.1-1).toNat (cnt m)) t
def hmF (d:Nat) (mk:P' Lf):Int:=TF (λm=>mk.count m) (df mk) (List.replicate d 0)
theorem HJ (D:Tab):bE D (λ_=>1)=(D.map (·.2)).sum:=by
 unfold bE;congr 1
 refine BH λx _=> ?_;show x.2*1=x.2;lia
def enc:P' Int->Nat
 |[]=>0
 |x::t=>x.toNat+16*enc t
theorem vD:∀{t:P' Int},(∀i:Nat,0<=t.getD i 0/\t.getD i 0<=15)->enc t<16^t.length
 |[],_=>by simp[enc]
 |x::t,h=>by
  have h0:=h 0;have ih:=vD (t:=t) λi=>by have:=h (i+1);simpa using this
  simp only[List.getD_cons_zero] at h0;unfold enc;rw[AZ,Nat.pow_succ];lia
theorem vE:∀{t u:P' Int},t.length=u.length->(∀i:Nat,0<=t.getD i 0/\t.getD i 0<=15)->(∀i:Nat,0<=u.getD i 0/\u.getD i 0<=15)->enc t=enc u->t=u
 |[],[],_,_,_,_=>rfl
 |[],_::_,h,_,_,_=>absurd h (by simp)
 |_::_,[],h,_,_,_=>absurd h (by simp)
 |x::t,y::u,hl,ht,hu,e=>by
  have h0:=ht 0;have h1:=hu 0;simp only[List.getD_cons_zero] at h0 h1;unfold enc at e;have ih:=vE (t:=t) (u:=u) (by simpa using hl) (λi=>by have:=ht (i+1);simpa using this) (λi=>by have:=hu (i+1);simpa using this) (by lia);rw[ih,show x=y by lia]
theorem vF:∀(N:Nat) (xs:P' Nat),xs.Nodup->(∀x∈xs,x<N)->xs.length<=N
 |0,[],_,_=>A8 _
 |0,x::xs,_,h=>absurd (h x (by simp)) (by lia)
 |N+1,xs,nd,h=>by
  have h1:=vF N (xs.filter λx=>decide (x≠N)) (nd.filter _) λx hx=>by
   obtain⟨a,b⟩:=DE.mp hx;have:=h x a;have:x≠N:=by simpa using b
   lia
  have h2:xs.length<=(xs.filter λx=>decide (x≠N)).length+1:=by
   clear h1 h;induction xs with
   |nil=>simp
   |cons y ys ih=>
    rw[Ba] at nd;by_cases e:y=N
    .subst e;have:(ys.filter λx=>decide (x≠y))=ys:=by
      rw[List.filter_eq_self];intro z hz;simp;rintro rfl;exact nd.1 hz
     rw[List.filter_cons,A6 (by simp),this,AZ];exact A8 _
    .have:=ih nd.2;rw[List.filter_cons,AB (by simpa using e),AZ,AZ];lia
  lia
theorem TabOk.size {D:Tab} (h:TabOk d n D) (hd:d<=5) (hn:n<=15):D.length<=1048576:=by
 have hb:∀x∈D,∀i:Nat,0<=x.1.getD i 0/\x.1.getD i 0<=15:=λx hx i=>by
  obtain⟨_,e2,e3⟩:=h.key x hx;have:=(ig e3).2 i;exact⟨e3 i,by lia⟩
 have:=vF (16^d) (D.map λx=>enc x.1) ?_ ?_
 .rw [A1] at this;have:16^d<=16^5:=C6 (by decide) hd;lia
 .have nd:=h.nd;unfold List.Nodup at nd⊢;rw[List.pairwise_map] at nd⊢;refine List.Pairwise.imp_of_mem (fun{a b} ha NQ Lp e=>Lp ?_) nd;exact vE (by rw[(h.key a ha).1,(h.key b NQ).1]) (hb a ha) (hb b NQ) e
 .intro x hx;obtain⟨y,hy,rfl⟩:=At.mp hx;have:=vD (hb y hy);rw[(h.key y hy).1] at this;exact this
def bI (t:P' Int):P' Key:=t.map Sum.inl
theorem lB (t:P' Int):(bI t).map kV=t.map V.int:=by unfold bI;rw[BG];rfl
theorem vG:∀{t u:P' Int},bI t=bI u->t=u
 |[],[],_=>rfl
 |[],_::_,h=>by simp[bI] at h
 |_::_,[],h=>by simp[bI] at h
 |x::t,y::u,h=>by
  simp only[bI,AW,Cm,Sum.inl.injEq] at h;rw[h.1,vG (t:=t) (u:=u) h.2]
theorem pH {t u:P' Int}:bI t=bI u↔t=u:=⟨vG,λe=>by rw[e]⟩
def bq (D:Tab):P' (P' Key×V):=D.map λx=>(bI x.1,V.int x.2)
theorem vH (D:Tab):(bq D).length=D.length:=by unfold bq;rw[A1]
theorem vI (D:Tab) (k:P' Int) (v:Int):aQ (bq D) (bI k) (.int v)=bq (eu D k v):=by
 have e:((bq D).any λkv=>decide (kv.1=bI k))=(D.any λx=>decide (x.1=k)):=by
  unfold bq;rw[List.any_map];congr 1
  funext x
  simp only[Function.comp,pH]
 unfold aQ eu;rw[e];split
 .unfold bq;rw[BG,BG];refine BH λx _=> ?_;simp only[Function.comp,pH];split<;>rfl
 .unfold bq;rw[A9];rfl
theorem vJ (D:Tab) (k:P' Int):aP (bq D) (bI k)=(D.find? λx=>decide (x.1=k)).map λx=>V.int x.2:=by
 unfold aP bq;rw[List.find?_map,Option.map_map];have:((λkv:P' Key×V=>decide (kv.1=bI k))∘λx:P' Int×Int=>(bI x.1,V.int x.2))=λx=>decide (x.1=k):=by
  funext x
  simp only[Function.comp,pH]
 rw[this];rfl
theorem HK (D:Tab) (k:P' Int):(aP (bq D) (bI k)).getD (.int 0)= .int (cN D k):=by
 rw[vJ];unfold cN;cases D.find? λx=>decide (x.1=k)<;>rfl
theorem HL {D:Tab} (nd:(D.map (·.1)).Nodup) (h:x∈D):aP (bq D) (bI x.1)=some (.int x.2):=by
 rw[vJ];have:D.find? (λy=>decide (y.1=x.1))=some x:=by
  induction D with
  |nil=>simp at h
  |cons y D ih=>
   rw[AW,Ba] at nd;rcases AM.mp h with rfl|h
   .simp
   .have:y.1≠x.1:=λe=>nd.1 (At.mpr ⟨x,h,e.symm⟩);rw[Bb,Am this];exact ih nd.2 h
 rw[this];rfl
theorem HM (D:Tab):(bq D).map (·.2)=(D.map (·.2)).map V.int:=by unfold bq;rw[BG,BG];rfl
def prD (x:P' Int×Int):D:= .t [tI x.1, .i x.2]
theorem HN (l:P' Lf) (x:Lf):(List.range l.length).countP (λj=>decide (l.getD j (0,0,0)=x))=l.count x:=by
 have e:(List.range l.length).map (λj=>l.getD j (0,0,0))=l:=by
  apply List.ext_getElem?;intro i;rw[AE];rcases Bp i l.length with c|c
  .rw [List.getElem?_range c];simp[List.getD,c]
  .rw [CN (by simpa using c),CN c];rfl
 conv=>rhs;rw[<-e]
 rw[List.count,List.countP_map];congr 1
 funext j
 simp only[Function.comp];exact(Bool.beq_eq_decide_eq _ _).symm
theorem vK:∀(l S:P' Lf),S.Nodup->(S.map λm=>l.count m).sum<=l.length
 |[],S,_=>by
  have:(S.map λm=>List.count m ([]:P' Lf))=S.map λ_=>0:=by simp
  rw[this];induction S with
  |nil=>simp
  |cons a S ih=>rename_i nd;simpa using ih (Ba.mp nd).2
 |x::l,S,nd=>by
  have ih:=vK l S nd;have:(S.map λm=>(x::l).count m).sum<=(S.map λm=>l.count m).sum+1/\(x∉S->(S.map λm=>(x::l).count m).sum=(S.map λm=>l.count m).sum):=by
   clear ih;induction S with
   |nil=>simp
   |cons a S ih=>
    obtain⟨n1,n2⟩:=Ba.mp nd;obtain⟨i1,i2⟩:=ih n2;simp only[AW,B9];by_cases e:x=a
    .subst e;have:=i2 n1;rw[List.count_cons_self];exact⟨by lia,λh=>absurd (by simp) h⟩
    .have e':List.count a (x::l)=List.count a l:=List.count_cons_of_ne e;rw[e'];exact⟨by lia,λh=>by rw[i2 (λz=>h (by simp[z]))]⟩
  rw[AZ];lia
def lC (ps:P' Lf):Int:=ps.foldl (λa p=>a*p.2.2^2) 1
def Okw (d:Nat) (p:Lf):Prop:=Okl d p/\1<=p.2.2/\p.2.2<=2^20
def lD:P' Lf->Bool
 |[]=>true
 |x::r=>r.all (λy=> !(bB y x))&&lD r
theorem vL:∀{ps:P' Lf},lD ps=true->Srt ps
 |[],_=>List.Pairwise.nil
 |x::r,h=>by
  unfold lD at h;rw[AD,Ao] at h;exact CL.mpr ⟨λy hy=>by simpa using h.1 y hy,vL h.2⟩
def lE (d:Nat) (ps:P' Lf):Bool:=ps.all (jC d)&&(List.range d).all (λi=>decide (0<=eF ps i))&&lD ps
theorem HP {ps:P' Lf} (h:lE d ps=true):Snd d ps:=by
 unfold lE at h;simp only[AD,Ao,Ag,Af] at h;exact⟨λp hp=>by have:=pi.mp (h.1.1 p hp);lia,λi hi=>h.1.2 i hi,vL h.2⟩
def hmD (d:Nat) (x:P' Lf):Int:=hmF d (x++fh d (bH d x))
def jE (d:Nat) (x:P' Lf):Bool:=lE d x&&decide (x.length<=20)&&decide (0<=lC x)&&decide (lC x<2^40)
theorem HQ {x:P' Lf} (h:jE d x=true):Snd d x/\(∀p∈x,Okw d p)/\x.length<=20/\0<=lC x/\lC x<2^40:=by
 unfold jE at h;simp only[AD,Af] at h;obtain⟨⟨⟨h1,h2⟩,h3⟩,h4⟩:=h;refine⟨HP h1,λp hp=> ?_,h2,h3,h4⟩;unfold lE at h1;simp only[AD,Ao] at h1;have:=pi.mp (h1.1.1 p hp);exact⟨⟨by lia,by lia,by lia,by lia⟩,by lia,by lia⟩
def wtG:Int->P' Int->Int
 |_,[]=>0
 |i,x::r=>i*x+wtG (i+1) r
def wtF (r:P' Int):Int:=wtG 1 r
def rwS (found:P' (P' Int)) (n:Int):P' (P' Int):=found.flatMap λb=>(List.range (n+1).toNat).map λh:Nat=>b++[(h:Int)]
def rwF (row:P' Int):P' (P' Int):=row.foldl rwS [[]]
def rbF:Nat->P' Int->Int->Nat->P' (P' Int)
 |0,_,_,_=>[]
 |n+1,row,wt,first=>if wt-wtF row=0 then [row] else(List.range (min row.length (wt-wtF row).toNat-first)).flatMap λj=>rbF n (wmF row (first+j) 1) wt (first+j)
def b8:P' Int->P' Int->Int
 |x::a,y::b=>chF x y.toNat*b8 a b
 |_,_=>1
def wgG:Int->P' Int->P' Int->P' Int
 |i,x::a,y::b=>List.replicate (y-x).toNat i++wgG (i+1) a b
 |_,_,_=>[]
def wgF (r f:P' Int):P' Int:=wgG 1 r f
structure Ask4 where
 d:Int
 k:Int
 h:List Int
 f:List Int
variable {q:Ask4}
abbrev Sm4:=Int×P' Int×Ask4
def cC (q:Ask4) (p:Nat):P' Sm4:=if q.f.getD p 0>0 then [(1,[(p:Int)+1],⟨q.d,q.k,wmF q.h p 1,wmF q.f p (-1)⟩)] else []
def eB (q:Ask4):P' Sm4:=(List.range q.f.length).flatMap (cC q)
def fj (q:Ask4) (kp fr:P' Int):Sm4:=(b8 q.h kp*b8 fr q.f,wgF q.f fr,⟨q.d-1,q.k+fr.sum-q.f.sum-q.d+1,kp,fr⟩)
def dn (q:Ask4) (kp:P' Int):P' Sm4:=(rbF 8 q.f (q.d-1-wtF kp) 0).map (fj q kp)
def fk (q:Ask4):P' Sm4:=(rwF q.h).flatMap (dn q)
def b9 (q:Ask4):P' Sm4:=eB q++fk q
def pI (ws:P' Int):Int:=ws.foldl (· * ·) 1
def gC:Nat->Ask4->Int
 |0,_=>0
 |n+1,q=>if q.k<0 then 0 else if q.d=1 then(if q.k=0 then 1 else 0) else((b9 q).map λx=>x.1*pI x.2.1*gC n x.2.2).sum
def Nn (t:P' Int):Prop:=∀i:Nat,0<=t.getD i 0
theorem Nn.cons {x:Int}{t:P' Int}:Nn (x::t)↔0<=x/\Nn t:=by
 constructor
 .intro h;exact⟨h 0,λi=>h (i+1)⟩
 .rintro⟨a,b⟩ i;cases i with
  |zero=>exact a
  |succ i=>exact b i
theorem bJ:∀{t:P' Int}{i:Int},0<=i->Nn t->0<=wtG i t
 |[],_,_,_=>Bf 0
 |x::t,i,hi,h=>by
  obtain⟨a,b⟩:=Nn.cons.mp h;have:=bJ (i:=i+1) (by lia) b;have:=Int.mul_nonneg hi a;unfold wtG;lia
theorem dq:∀{t:P' Int}{i:Int},1<=i->Nn t->0<=t.sum/\t.sum<=wtG i t
 |[],_,_,_=>⟨Bf 0,Bf 0⟩
 |x::t,i,hi,h=>by
  obtain⟨a,b⟩:=Nn.cons.mp h;obtain⟨s1,s2⟩:=dq (i:=i+1) (by lia) b;have:1*x<=i*x:=Int.mul_le_mul_of_nonneg_right hi a;rw[B9];unfold wtG;lia
theorem ik {m:Int}:∀{t:P' Int}{p:Nat}{i:Int},p<t.length->wtG i (wmF t p m)=wtG i t+(i+p)*m
 |[],p,_,h=>absurd h (by simp)
 |x::t,0,i,_=>by
  show wtG i ((x+m)::t)=wtG i (x::t)+_;unfold wtG;rw[Int.mul_add];simp;lia
 |x::t,p+1,i,h=>by
  have ih:=ik (m:=m) (t:=t) (p:=p) (i:=i+1) (by simpa using h);show wtG i (x::wmF t p m)=wtG i (x::t)+_;unfold wtG;rw[ih,show i+1+(p:Int)=i+((p+1:Nat):Int) by lia];lia
theorem im {t:P' Int}{p:Nat}{m:Int} (hp:p<t.length) (h:Nn t) (hm:0<=t.getD p 0+m):Nn (wmF t p m):=λi=>by
 rw[lw hp];split
 .next e=>rw[<-e];exact hm
 .have:=h i;lia
theorem vM {t:P' Int}{x:Int} (h:Nn t) (hx:0<=x):Nn (t++[x]):=by
 induction t with
 |nil=>exact Nn.cons.mpr ⟨hx,λi=>by simp⟩
 |cons y t ih=>
  obtain⟨a,b⟩:=Nn.cons.mp h;exact Nn.cons.mpr ⟨a,ih b⟩
def Le:P' Int->P' Int->Prop
 |x::a,y::b=>0<=x/\x<=y/\Le a b
 |[],[]=>True
 |_,_=>False
theorem Le.len:∀{a b:P' Int},Le a b->a.length=b.length
 |[],[],_=>rfl
 |x::a,y::b,h=>BF (· +1) (Le.len h.2.2)
theorem Le.nn:∀{a b:P' Int},Le a b->Nn a/\Nn b
 |[],[],_=>⟨λi=>by simp,λi=>by simp⟩
 |x::a,y::b,h=>by
  obtain⟨p,q⟩:=Le.nn h.2.2;exact⟨Nn.cons.mpr ⟨h.1,p⟩,Nn.cons.mpr ⟨by have:=h.1;have:=h.2.1;lia,q⟩⟩
theorem Le.snoc:∀{a b:P' Int}{x y:Int},Le a b->0<=x->x<=y->Le (a++[x]) (b++[y])
 |[],[],_,_,_,h1,h2=>⟨h1,h2,trivial⟩
 |_::a,_::b,_,_,h,h1,h2=>⟨h.1,h.2.1,Le.snoc h.2.2 h1 h2⟩
theorem Le.self:∀{a:P' Int},Nn a->Le a a
 |[],_=>trivial
 |x::a,h=>by
  obtain⟨p,q⟩:=Nn.cons.mp h;exact⟨p,Bf x,Le.self q⟩
theorem Le.wt:∀{a b:P' Int}{i:Int},0<=i->Le a b->wtG i a<=wtG i b
 |[],[],_,_,_=>Bf 0
 |x::a,y::b,i,hi,h=>by
  have:=Le.wt (i:=i+1) (by lia) h.2.2;have:=Int.mul_le_mul_of_nonneg_left h.2.1 hi;unfold wtG;lia
theorem Le.gain:∀{a b:P' Int}{i:Int},1<=i->Le a b->a.sum<=b.sum/\b.sum-a.sum<=wtG i b-wtG i a
 |[],[],_,_,_=>by simp[wtG]
 |x::a,y::b,i,hi,h=>by
  obtain⟨g1,g2⟩:=Le.gain (i:=i+1) (by lia) h.2.2;have h1:=h.2.1;have:1*(y-x)<=i*(y-x):=Int.mul_le_mul_of_nonneg_right hi (by lia);have e:i*(y-x)=i*y-i*x:=Int.mul_sub i y x;rw[B9,B9];unfold wtG;lia
theorem Le.wm {a:P' Int}{p:Nat} (h:Le a b) (hp:p<b.length):Le a (wmF b p 1):=by
 induction a generalizing b p with
 |nil=>
  cases b with
  |nil=>exact trivial
  |cons y b=>exact h.elim
 |cons x a ih=>
  cases b with
  |nil=>exact h.elim
  |cons y b=>
   cases p with
   |zero=>exact⟨h.1,by show x<=y+1;have:=h.2.1;lia,h.2.2⟩
   |succ p=>exact⟨h.1,h.2.1,ih h.2.2 (by simpa using hp)⟩
theorem io {t:P' Int} (hn:Nn row) (h:t∈rwF row):Le t row:=by
 have go:∀(r2 r1:P' Int) (F:P' (P' Int)),(∀t∈F,Le t r1)->Nn r2->∀t∈r2.foldl rwS F,Le t (r1++r2):=by
  intro r2;induction r2 with
  |nil=>intro r1 F hF _ t ht;rw[B8];exact hF t ht
  |cons n r2 ih=>
   intro r1 F hF hn t ht;obtain⟨n0,n2⟩:=Nn.cons.mp hn;rw[show r1++n::r2=(r1++[n])++r2 by simp];refine ih (r1++[n]) (rwS F n) (λu hu=> ?_) n2 t ht;obtain⟨b,hb,hu⟩:=B2.mp hu;obtain⟨k,hk,rfl⟩:=At.mp hu;have hk:=Ag.mp hk;exact(hF b hb).snoc (by lia) (by lia)
 exact go row [] [[]] (λt ht=>by rw[Aq.mp ht];exact trivial) hn t h
theorem pJ {F:P' (P' Int)}{n:Int}:(rwS F n).length=F.length*(n+1).toNat:=by
 unfold rwS;induction F with
 |nil=>simp
 |cons b F ih=>
  rw[BI,AC,ih,A1,B6,AZ,CY,Nat.add_comm]
theorem HR (n:Nat):n+1<=2^n:=by
 induction n with
 |zero=>decide
 |succ n ih=>rw[Nat.pow_succ];lia
theorem vN:∀(row:P' Int) (F:P' (P' Int)),Nn row->(row.foldl rwS F).length<=F.length*2^row.sum.toNat
 |[],F,_=>by simp
 |n::row,F,h=>by
  obtain⟨a,b⟩:=Nn.cons.mp h;have ih:=vN row (rwS F n) b;rw[pJ] at ih;have s0:=(dq (i:=1) (by decide) b).1;rw[B9,show(n+row.sum).toNat=n.toNat+row.sum.toNat by lia,Nat.pow_add,<-Nat.mul_assoc];refine As ih (C7 _ (Nat.mul_le_mul_left _ ?_));rw[show(n+1).toNat=n.toNat+1 by lia];exact HR _
theorem vO {t:P' Int} (h:Nn t) (i:Nat):Nn (t.take i):=λj=>by
 rw[A4,List.getElem?_take];split
 .have:=h j;rwa [A4] at this
 .simp
theorem lF (hn:Nn row) (hs:row.sum<=5) (i:Nat):(rwF (row.take i)).length<=32:=by
 have nt:Nn (row.take i):=λj=>by
  rw[A4,List.getElem?_take];split
  .have:=hn j;rwa [A4] at this
  .simp
 have st:(row.take i).sum<=5:=by
  have e:(row.take i).sum+(row.drop i).sum=row.sum:=by rw[<-List.sum_append,Bn]
  have nd:Nn (row.drop i):=λj=>by
   rw[A4,List.getElem?_drop];have:=hn (i+j);rwa [A4] at this
  have:=(dq (i:=1) (by decide) nd).1;lia
 have h:=vN (row.take i) [[]] nt;have s0:=(dq (i:=1) (by decide) nt).1;have:2^(row.take i).sum.toNat<=2^5:=C6 (by decide) (by lia);unfold rwF;simp only[AZ,C2] at h;lia
theorem vP {wt:Int}:∀{n:Nat}{row t:P' Int}{first:Nat},t∈rbF n row wt first->Nn row->∀{a:P' Int},Le a row->Le a t/\wtF t=wt
 |0,_,_,_,h,_,_,_=>nomatch h
 |n+1,row,t,first,h,hn,a,ha=>by
  unfold rbF at h;split at h
  .next e=>rw[Aq.mp h];exact⟨ha,by lia⟩
  .obtain⟨j,hj,h⟩:=B2.mp h;have hj:=Ag.mp hj;have hp:first+j<row.length:=by lia
   exact vP h (im hp hn (by have:=hn (first+j);lia)) (ha.wm hp)
theorem pK {wt:Int}:∀{n:Nat}{row:P' Int}{first:Nat},row.length<=5->(rbF n row wt first).length<=5^n
 |0,_,_,_=>AJ _
 |n+1,row,first,h=>by
  unfold rbF;split
  .exact Nat.one_le_pow _ _ (by decide)
  .have go:∀m,m<=5->((List.range m).flatMap λj=>rbF n (wmF row (first+j) 1) wt (first+j)).length<=m*5^n:=by
    intro m;induction m with
    |zero=>intro _;exact AJ _
    |succ m ih=>
     intro hm;rw[Az,Ay,AC,CY,BI,D3,B8];have:=ih (by lia);have:=pK (n:=n) (wt:=wt) (row:=wmF row (first+m) 1) (first:=first+m) (by rw[dg];exact h);lia
   have:=go (min row.length (wt-wtF row).toNat-first) (by lia);have h5:(min row.length (wt-wtF row).toNat-first)*5^n<=5*5^n:=C7 _ (by lia);rw[Nat.pow_succ,Nat.mul_comm];lia
def ch2:Bool:=(List.range 16).all λn=>(List.range (n+1)).all λk=>decide (0<=chF (n:Int) k)&&decide (chF (n:Int) k<=2^n)
theorem HS:ch2=true:=by ac_nf
theorem pM {n k:Int} (h0:0<=k) (h1:k<=n) (h2:n<=15):0<=chF n k.toNat/\chF n k.toNat<=2^n.toNat:=by
 obtain⟨m,rfl⟩:=Al (show 0<=n by lia);have h:=HS;unfold ch2 at h;rw[Ao] at h;have h:=h m (Ag.mpr (by lia));rw[Ao] at h;have h:=h k.toNat (Ag.mpr (by lia));simpa using h
theorem vQ:∀{a b:P' Int},Le a b->b.sum<=15->0<=b8 b a/\b8 b a<=2^b.sum.toNat
 |[],[],_,_=>by simp[b8]
 |x::a,y::b,h,hs=>by
  obtain⟨h1,h2,h3⟩:=h;have s0:=(dq (i:=1) (by decide) (Le.nn h3).2).1;rw[B9] at hs;obtain⟨c1,c2⟩:=vQ h3 (by lia);obtain⟨d1,d2⟩:=pM h1 h2 (by lia);rw[B9,show(y+b.sum).toNat=y.toNat+b.sum.toNat by lia,Int.pow_add];unfold b8;exact⟨Int.mul_nonneg d1 c1,Int.mul_le_mul d2 c2 c1 (Int.pow_nonneg (by decide))⟩
theorem vR {a:P' Int} (h:Le a b) (hs:b.sum<=5):0<=b8 b a/\b8 b a<=32:=by
 obtain⟨c1,c2⟩:=vQ h (by lia);have s0:=(dq (i:=1) (by decide) (Le.nn h).2).1;have:(2:Int)^b.sum.toNat<=2^5:=by
  have:b.sum.toNat=0\/b.sum.toNat=1\/b.sum.toNat=2\/b.sum.toNat=3\/b.sum.toNat=4\/b.sum.toNat=5:=by lia
  rcases this with e|e|e|e|e|e<;>rw[e]<;>decide
 exact⟨c1,by lia⟩
structure AskOk (L:Nat) (q:Ask4):Prop where
 hl:q.h.length=L
 fl:q.f.length=L
 hn:Nn q.h
 fn:Nn q.f
 wt:wtF q.h+wtF q.f=q.d
 d1:1<=q.d
 dL:q.d<=L
 L5:L<=5
 k6:q.k<=6
def muF (q:Ask4):Int:=6*q.d+q.f.sum
section
variable {L:Nat}{q:Ask4}
theorem AskOk.sums (a:AskOk L q):0<=q.h.sum/\q.h.sum<=5/\0<=q.f.sum/\q.f.sum<=5:=by
 obtain⟨h1,h2⟩:=dq (i:=1) (by decide) a.hn;obtain⟨f1,f2⟩:=dq (i:=1) (by decide) a.fn;have w1:=bJ (i:=1) (by decide) a.hn;have w2:=bJ (i:=1) (by decide) a.fn;have:=a.wt;have:=a.dL;have:=a.L5;unfold wtF at*
 lia
theorem AskOk.held (a:AskOk L q) {x:Sm4} (hx:x∈eB q):AskOk L x.2.2/\muF x.2.2+1<=muF q/\x.1=1/\∃w:Int,x.2.1=[w]/\1<=w/\w<=5:=by
 unfold eB at hx;obtain⟨p,hp,hx⟩:=B2.mp hx;have hp:=Ag.mp hp;unfold cC at hx;split at hx
 .next hf=>
  rw[Aq.mp hx];have LA:p<q.h.length:=by rw[a.hl,<-a.fl];exact hp
  have h5:=a.L5;have fl:=a.fl;refine⟨⟨by rw[dg];exact a.hl,by rw[dg];exact fl,im LA a.hn (by have:=a.hn p;lia),im hp a.fn (by lia), ?_,a.d1,a.dL,h5,a.k6⟩, ?_,rfl,_,rfl,by lia,by lia⟩
  .have:=a.wt;show wtF (wmF q.h p 1)+wtF (wmF q.f p (-1))=q.d;unfold wtF at*
   rw[ik LA,ik hp];lia
  .show 6*q.d+(wmF q.f p (-1)).sum+1<=6*q.d+q.f.sum;rw[lA hp];lia
 .cases hx
theorem AskOk.few (a:AskOk L q) (d2:2<=q.d) (hk:kp∈rwF q.h) (hf:fr∈rbF 8 q.f (q.d-1-wtF kp) 0):AskOk L ⟨q.d-1,q.k+fr.sum-q.f.sum-q.d+1,kp,fr⟩/\6*(q.d-1)+fr.sum+1<=muF q/\Le kp q.h/\Le q.f fr/\fr.sum<=5:=by
 have l1:=io a.hn hk;obtain⟨l2,e⟩:=vP hf a.fn (Le.self a.fn);have n1:=(Le.nn l1).1;have n2:=(Le.nn l2).2;have w1:=bJ (i:=1) (by decide) n1;have w2:=bJ (i:=1) (by decide) a.fn;obtain⟨g1,g2⟩:=l2.gain (i:=1) (by decide);obtain⟨s1,s2⟩:=dq (i:=1) (by decide) n2;have h5:=a.L5;have dL:=a.dL;have k6:=a.k6;have sf:=a.sums;unfold wtF at e w1 w2;refine⟨⟨l1.len.trans a.hl,l2.len.symm.trans a.fl,n1,n2, ?_, ?_, ?_,h5, ?_⟩, ?_,l1,l2, ?_⟩
 .show wtF kp+wtF fr=q.d-1;unfold wtF;lia
 .show 1<=q.d-1;lia
 .show q.d-1<=L;lia
 .show q.k+fr.sum-q.f.sum-q.d+1<=6;lia
 .unfold muF;lia
 .lia
theorem vS {x:Sm4} (hx:x∈fk q):∃kp∈rwF q.h,∃fr∈rbF 8 q.f (q.d-1-wtF kp) 0,x=fj q kp fr:=by
 unfold fk at hx;obtain⟨kp,hk,hx⟩:=B2.mp hx;unfold dn at hx;obtain⟨fr,hf,rfl⟩:=At.mp hx;exact⟨kp,hk,fr,hf,rfl⟩
theorem AskOk.less (a:AskOk L q) (d2:2<=q.d) {x:Sm4} (hx:x∈b9 q):AskOk L x.2.2/\muF x.2.2+1<=muF q:=by
 unfold b9 at hx;rcases C1.mp hx with hx|hx
 .exact⟨(a.held hx).1,(a.held hx).2.1⟩
 .obtain⟨kp,hk,fr,hf,rfl⟩:=vS hx;obtain⟨h1,h2,_⟩:=a.few d2 hk hf;exact⟨h1,h2⟩
end
theorem AskOk.mu (a:AskOk L q):6<=muF q/\muF q<=35:=by
 have:=a.sums;have:=a.d1;have:=a.dL;have:=a.L5;unfold muF;lia
def cF (q:Ask4):Int:=gC 36 q
theorem lG:∀{t:P' Int}{i:Int},wtG i (t++[0])=wtG i t
 |[],i=>by simp[wtG]
 |x::t,i=>by
  show i*x+wtG (i+1) (t++[0])=i*x+wtG (i+1) t;rw[lG]
theorem lH {m:Int}:∀{t:P' Int}{p:Nat},p<t.length->wmF (t++[0]) p m=wmF t p m++[0]
 |[],p,h=>absurd h (by simp)
 |x::t,0,_=>rfl
 |x::t,p+1,h=>BF (x:: ·) (lH (t:=t) (p:=p) (by simpa using h))
theorem HU (F:P' (P' Int)):rwS F 0=F.map (· ++[0]):=by
 unfold rwS;induction F with
 |nil=>rfl
 |cons b F ih=>
  rw[BI,ih];rfl
theorem HV (row:P' Int):rwF (row++[0])=(rwF row).map (· ++[0]):=by
 unfold rwF;rw[BP];exact HU _
theorem vT {wt:Int}:∀{n:Nat}{row:P' Int}{first:Nat},wt-wtF row<=row.length->rbF n (row++[0]) wt first=(rbF n row wt first).map (· ++[0])
 |0,_,_,_=>rfl
 |n+1,row,first,h=>by
  have e:wtF (row++[0])=wtF row:=lG;have el:(row++[0]).length=row.length+1:=by simp
  unfold rbF;rw[e,el];split
  .rfl
  .rw [show min (row.length+1) (wt-wtF row).toNat=min row.length (wt-wtF row).toNat by lia,List.map_flatMap];refine jD λj hj=> ?_;have hj:=Ag.mp hj;have hp:first+j<row.length:=by lia
   rw[lH hp];refine vT ?_;have:wtF (wmF row (first+j) 1)=wtF row+(1+((first+j:Nat):Int))*1:=ik hp;rw[this,dg];lia
theorem pN:∀{a b:P' Int},Le a b->b8 (b++[0]) (a++[0])=b8 b a
 |[],[],_=>by decide
 |x::a,y::b,h=>by
  show chF y x.toNat*b8 (b++[0]) (a++[0])=chF y x.toNat*b8 b a;rw[pN h.2.2]
theorem vU:∀{a b:P' Int}{i:Int},Le a b->wgG i (a++[0]) (b++[0])=wgG i a b
 |[],[],_,_=>rfl
 |x::a,y::b,i,h=>by
  show List.replicate (y-x).toNat i++wgG (i+1) (a++[0]) (b++[0])=List.replicate (y-x).toNat i++wgG (i+1) a b;rw[vU h.2.2]
def cD (q:Ask4):Ask4:=⟨q.d,q.k,q.h++[0],q.f++[0]⟩
def ip (x:Sm4):Sm4:=(x.1,x.2.1,cD x.2.2)
theorem vV (a:AskOk L q):eB (cD q)=(eB q).map ip:=by
 unfold eB;have e:(cD q).f.length=q.f.length+1:=by simp[cD]
 rw[e,Az,Ay,List.map_flatMap];have hl:[q.f.length].flatMap (cC (cD q))=[]:=by
  rw[BI,D3,B8];unfold cC;rw[A6];show¬(q.f++[0]).getD q.f.length 0>0;rw[A4,Bg (A8 _),DO];decide
 rw[hl,B8];refine jD λp hp=> ?_;have hp:=Ag.mp hp;have LA:p<q.h.length:=by rw[a.hl,<-a.fl];exact hp
 have eg:(cD q).f.getD p 0=q.f.getD p 0:=by
  show(q.f++[0]).getD p 0=_;rw[A4,Cd hp,<-A4]
 unfold cC;rw[eg];split
 .show [((1:Int),[(p:Int)+1],(⟨q.d,q.k,wmF (q.h++[0]) p 1,wmF (q.f++[0]) p (-1)⟩:Ask4))]=_;rw[lH LA,lH hp];rfl
 .rfl
theorem vW (a:AskOk L q) (d2:2<=q.d):fk (cD q)=(fk q).map ip:=by
 unfold fk;show(rwF (q.h++[0])).flatMap _=_;rw[HV,List.flatMap_map,List.map_flatMap];refine jD λkp hk=> ?_;unfold dn;have e:wtF (kp++[0])=wtF kp:=lG;have w1:=bJ (i:=1) (by decide) (Le.nn (io a.hn hk)).1;have w2:=bJ (i:=1) (by decide) a.fn;have dL:=a.dL;show(rbF 8 (q.f++[0]) (q.d-1-wtF (kp++[0])) 0).map _=_;rw[e,vT (by rw[a.fl];unfold wtF;lia),BG,BG];refine BH λfr hf=> ?_;obtain⟨_,_,l1,l2,_⟩:=a.few d2 hk hf;show fj (cD q) (kp++[0]) (fr++[0])=ip (fj q kp fr);unfold fj ip cD wgF;rw[pN l1,pN l2,vU l2];simp
theorem vX {L:Nat}:∀{n:Nat}{q:Ask4},AskOk L q->gC n (cD q)=gC n q
 |0,_,_=>rfl
 |n+1,q,a=>by
  unfold gC;show(if q.k<0 then(0:Int) else if q.d=1 then(if q.k=0 then 1 else 0) else _)=_;split
  .rfl
  .split
   .rfl
   .next hd=>
    have d2:2<=q.d:=by have:=a.d1;lia
    have e:b9 (cD q)=(b9 q).map ip:=by
     unfold b9;rw[vV a,vW a d2,A9]
    rw[e,BG];refine BF List.sum (BH λx hx=> ?_);show x.1*pI x.2.1*gC n (cD x.2.2)=x.1*pI x.2.1*gC n x.2.2;rw[vX (a.less d2 hx).1]
def trG:P' Int->P' Int
 |[]=>[]
 |x::r=>if x=0 then trG r else x::r
def trF (t:P' Int):P' Int:=(trG t.reverse).reverse
def br (n:Nat) (t:P' Int):P' Int:=t++List.replicate (n-t.length) 0
theorem lI (t:P' Int):trF (t++[0])=trF t:=by
 unfold trF;rw[DJ];rfl
theorem vY {t:P' Int}{x:Int} (h:x≠0):trF (t++[x])=t++[x]:=by
 unfold trF;rw[DJ];show(trG (x::t.reverse)).reverse=_;unfold trG;rw[A6 h];simp
def pO {α:Type}{t:P' α} (h:t≠[]):∃s x,t=s++[x]:=⟨t.dropLast,t.getLast h,(List.dropLast_concat_getLast h).symm⟩
theorem vZ:∀{n:Nat}{t:P' Int},t.length=n->(trF t).length<=n/\br n (trF t)=t/\(trF t=[]\/∃s x,trF t=s++[x]/\x≠0)
 |0,t,h=>by
  rw[BQ.mp h];exact⟨A8 _,rfl, .inl rfl⟩
 |n+1,t,h=>by
  obtain⟨s,x,rfl⟩:=pO (t:=t) (by rintro rfl;cases h);have hs:s.length=n:=by simpa using h
  by_cases e:x=0
  .subst e;obtain⟨h1,h2,h3⟩:=vZ hs;rw[lI];refine⟨by lia, ?_,h3⟩;unfold br at h2⊢;rw[show n+1-(trF s).length=(n-(trF s).length)+1 by lia,D9,<-B0,h2]
  .rw [vY e];exact⟨by lia,by unfold br;rw[h,DO];simp, .inr ⟨s,x,rfl,e⟩⟩
theorem wc:∀{s:P' Int}{x i:Int},wtG i (s++[x])=wtG i s+(i+s.length)*x
 |[],x,i=>by simp[wtG]
 |y::s,x,i=>by
  show i*y+wtG (i+1) (s++[x])=i*y+wtG (i+1) s+_;rw[wc,AZ,show i+1+(s.length:Int)=i+((s.length+1:Nat):Int) by lia];lia
theorem wg {s:P' Int}{x:Int} (h:Nn (s++[x])):Nn s/\0<=x:=by
 induction s with
 |nil=>exact⟨λi=>by simp,(Nn.cons.mp h).1⟩
 |cons y s ih=>
  obtain⟨a,b⟩:=Nn.cons.mp h;exact⟨Nn.cons.mpr ⟨a,(ih b).1⟩,(ih b).2⟩
theorem wj {t:P' Int}(hl:t.length=n+1) (hn:Nn t) (hw:wtF t<=n):∃s,t=s++[0]/\s.length=n/\Nn s/\wtF s=wtF t:=by
 obtain⟨s,x,rfl⟩:=pO (t:=t) (by rintro rfl;cases hl);have hs:s.length=n:=by simpa using hl
 obtain⟨n1,n2⟩:=wg hn;have w:=bJ (i:=1) (by decide) n1;have e:wtF (s++[x])=wtF s+(1+(s.length:Int))*x:=wc;have x0:x=0:=by
  by_cases h:x=0
  .exact h
  .have:(1+(s.length:Int))*1<=(1+(s.length:Int))*x:=Int.mul_le_mul_of_nonneg_left (by lia) (by lia);unfold wtF at*
   lia
 subst x0;exact⟨s,rfl,hs,n1,by rw[e];simp⟩
theorem pP :∀{t:P' Int}{i:Int},wtG i (t++List.replicate n 0)=wtG i t:=by
 induction n with
 |zero=>intro t i;simp
 |succ n ih=>
  intro t i;rw[D9,<-B0,lG,ih]
def cR:Nat->Nat->Nat->P' (P' Int)
 |_,0,_=>[[]]
 |i,n+1,b=>(List.range (b/i+1)).flatMap λx=>(cR (i+1) n (b-i*x)).map ((x:Int):: ·)
theorem jF:∀{n i b:Nat}{t:P' Int},1<=i->t.length=n->Nn t->wtG (i:Int) t<=b->t∈cR i n b
 |0,i,b,t,_,hl,_,_=>by rw[BQ.mp hl];exact AS
 |n+1,i,b,[],_,hl,_,_=>nomatch hl
 |n+1,i,b,x::t,hi,hl,hn,hw=>by
  obtain⟨x0,tn⟩:=Nn.cons.mp hn;obtain⟨m,rfl⟩:=Al x0;have w:=bJ (i:=(i:Int)+1) (by lia) tn;unfold wtG at hw;have hm:i*m<=b:=by
   have:((i*m:Nat):Int)=(i:Int)*(m:Int):=Int.natCast_mul i m;lia
  unfold cR;refine B2.mpr ⟨m,Ag.mpr (Nat.lt_succ_of_le ((Nat.le_div_iff_mul_le (by lia)).mpr (by rw[Nat.mul_comm];exact hm))),At.mpr ⟨t,jF (by lia) (by simpa using hl) tn ?_,rfl⟩⟩;have:((i*m:Nat):Int)=(i:Int)*(m:Int):=Int.natCast_mul i m;show wtG ((i:Int)+1) t<=_;lia
def wk:Bool:=(List.range 6).all λL=>decide ((cR 1 L 5).length<=19)
theorem HW:wk=true:=by ac_nf
theorem wn {α:Type} [DecidableEq α]:∀{l L:P' α},l.Nodup->(∀x∈l,x∈L)->l.length<=L.length
 |[],L,_,_=>AJ _
 |x::r,L,nd,h=>by
  rw[Ba] at nd;have hx:x∈L:=h x AS;have:=wn (L:=L.erase x) nd.2 λy hy=>(List.mem_erase_of_ne λe:y=x=>nd.1 (e▸hy)).mpr (h y (AN _ hy));rw[List.length_erase_of_mem hx] at this;have:=List.length_pos_of_mem hx;rw[AZ];lia
section
variable {κ:Type} [DecidableEq κ]
def tK (R:P' (κ×Int)):P' (κ×V):=R.map λx=>(x.1,V.int x.2)
def bi:P' (κ×Int)->κ->Int
 |[],_=>0
 |(a,b)::r,k=>if a=k then b else bi r k
def bT:P' (κ×Int)->κ->Int->P' (κ×Int)
 |[],k,v=>[(k,v)]
 |(a,b)::r,k,v=>if a=k then(a,v)::r else(a,b)::bT r k v
theorem iq (R:P' (κ×Int)):(tK R).length=R.length:=by unfold tK;rw[A1]
theorem pQ (k:κ):∀R:P' (κ×Int),aP (tK R) k=if k∈R.map (·.1) then some (.int (bi R k)) else none
 |[]=>rfl
 |(a,b)::r=>by
  have ih:=pQ k r;show aP ((a,V.int b)::tK r) k=_;by_cases e:a=k
  .subst e;rw[cU rfl];simp[bi]
  .rw [cV e,ih];have:¬k=a:=λz=>e z.symm;show _=if k∈a::r.map (·.1) then some (V.int (if a=k then b else bi r k)) else none
   rw[A6 e];by_cases h:k∈r.map (·.1)
   .rw [AB h,AB (AN _ h)]
   .rw [A6 h,A6 λz=>(AM.mp z).elim this h]
theorem wo (k:κ) (v:Int):∀R:P' (κ×Int),(bT R k v).map (·.1)=if k∈R.map (·.1) then R.map (·.1) else R.map (·.1)++[k]
 |[]=>by simp[bT]
 |(a,b)::r=>by
  have ih:=wo k v r;unfold bT;by_cases e:a=k
  .subst e;simp
  .rw [A6 e,AW,ih];have:¬k=a:=λz=>e z.symm;show _=if k∈a::r.map (·.1) then a::r.map (·.1) else a::r.map (·.1)++[k]
   by_cases h:k∈r.map (·.1)
   .rw [AB h,AB (AN _ h)]
   .rw [A6 h,A6 λz=>(AM.mp z).elim this h];rfl
theorem HX {k:κ}{v:Int}{R:P' (κ×Int)} (h:(R.map (·.1)).Nodup):((bT R k v).map (·.1)).Nodup:=by
 rw[wo];by_cases e:k∈R.map (·.1)
 .rw [AB e];exact h
 .rw [A6 e];refine List.nodup_append.mpr ⟨h,by simp,λa ha b hb z=> ?_⟩;rw[Aq.mp hb] at z;exact e (z▸ha)
theorem wp {k:κ}{v:Int}:∀{R:P' (κ×Int)}{x:κ×Int},x∈bT R k v->x∈R\/x=(k,v)
 |[],x,h=> .inr (Aq.mp h)
 |(a,b)::r,x,h=>by
  unfold bT at h;by_cases e:a=k
  .rw [AB e] at h;rcases AM.mp h with h|h
   .exact .inr (by rw[h,e])
   .exact .inl (AN _ h)
  .rw [A6 e] at h;rcases AM.mp h with h|h
   .exact .inl (by rw[h];exact AS)
   .exact(wp h).imp (AN _) id
theorem lJ {k:κ}{v:Int}:∀{R:P' (κ×Int)},(R.map (·.1)).Nodup->aQ (tK R) k (.int v)=tK (bT R k v)
 |[],_=>rfl
 |(a,b)::r,nd=>by
  rw[AW,Ba] at nd;have ih:=lJ (k:=k) (v:=v) nd.2;unfold aQ at ih⊢;show(if(((a,V.int b)::tK r).any λkv=>decide (kv.1=k))=true then _ else _)=_;rw[List.any_cons];by_cases e:a=k
  .subst e;rw[BA rfl,Bool.true_or,AB rfl];unfold bT;rw[AB rfl];show((a,V.int b)::tK r).map _=(a,V.int v)::tK r;rw[AW,AB rfl];congr 1
   conv=>rhs;rw[<-List.map_id (tK r)]
   refine BH λx hx=> ?_;obtain⟨y,hy,rfl⟩:=At.mp hx;rw[A6 λz=>nd.1 (At.mpr ⟨y,hy,z⟩)];rfl
  .rw [Am e,Bool.false_or];unfold bT;rw[A6 e];show _=(a,V.int b)::tK (bT r k v);rw[<-ih];by_cases c:((tK r).any λkv=>decide (kv.1=k))=true
   .rw [AB c,AB c];show((a,V.int b)::tK r).map _=_;rw[AW,A6 e]
   .rw [A6 c,A6 c];rfl
end
def Tr (KG:Int) (ns:P' Int) (lo:Int) (zs:P' Int):Prop:=
 (zs=[]/\lo=0/\∀z∈ns,z=0)\/∃a b:Nat,ns=List.replicate a 0++zs++List.replicate b 0/\lo=KG+a/\zs.head? ≠some 0/\zs.getLast? ≠some 0/\zs≠[]
theorem wu {a a':Nat}(h:List.replicate a (0:Int)++xs=List.replicate a' 0++ys) (hx:xs.head? ≠some 0) (hxn:xs≠[]) (hy:ys.head? ≠some 0) (hyn:ys≠[]):a=a'/\xs=ys:=by
 induction a generalizing a' with
 |zero=>
  cases a' with
  |zero=>exact⟨rfl,by simpa using h⟩
  |succ n=>
   rw[Ap] at h;simp only[List.replicate_zero,DD,Cb] at h;subst h;simp at hx
 |succ m ih=>
  cases a' with
  |zero=>
   rw[Ap] at h;simp only[List.replicate_zero,DD,Cb] at h;subst h;simp at hy
  |succ n=>
   rw[Ap,Ap] at h;simp only[Cb,Cm,true_and] at h;obtain⟨e,f⟩:=ih h;exact⟨by lia,f⟩
theorem HY {b b':Nat}(h:xs++List.replicate b (0:Int)=ys++List.replicate b' 0) (hx:xs.getLast? ≠some 0) (hxn:xs≠[]) (hy:ys.getLast? ≠some 0) (hyn:ys≠[]):xs=ys:=by
 have h':=BF List.reverse h;simp only[DJ,List.reverse_replicate] at h';have:=(wu h' (by simpa using hx) (by simpa using hxn) (by simpa using hy) (by simpa using hyn)).2;exact List.reverse_inj.mp this
theorem Tr.unique (h:Tr KG ns lo zs) (h':Tr KG ns Mv ME):lo=Mv/\zs=ME:=by
 have key:∀{lo:Int}{zs:P' Int},(∃a b:Nat,ns=List.replicate a 0++zs++List.replicate b 0/\lo=KG+a/\zs.head? ≠some 0/\zs.getLast? ≠some 0/\zs≠[])->¬∀z∈ns,z=0:=by
  rintro lo zs ⟨a,b,e,-,h1,-,h2⟩ hz;cases zs with
  |nil=>exact h2 rfl
  |cons z r=>
   have:z=0:=hz z (by rw[e];simp);subst this;simp at h1
 rcases h with⟨e1,e2,e3⟩|h
 .rcases h' with⟨f1,f2,f3⟩|h'
  .exact⟨by lia,by rw[e1,f1]⟩
  .exact absurd e3 (key h')
 .rcases h' with⟨f1,f2,f3⟩|h'
  .exact absurd f3 (key h)
  .obtain⟨a,b,e,e2,e3,e4,e5⟩:=h;obtain⟨a',b',f,f2,f3,f4,f5⟩:=h';rw[e,B0,B0] at f;have hh:∀{zs:P' Int}{b:Nat},zs.head? ≠some 0->zs≠[]->(zs++List.replicate b (0:Int)).head? ≠some 0:=fun{zs b} h1 h2=>by
    cases zs with
    |nil=>exact absurd rfl h2
    |cons z r=>simpa using h1
   obtain⟨ea,eb⟩:=wu f (hh e3 e5) (by simp[e5]) (hh f3 f5) (by simp[f5]);exact⟨by rw[e2,f2,ea],HY eb e4 e5 f4 f5⟩
theorem Tr.self (h1:zs.head? ≠some 0) (h2:zs.getLast? ≠some 0) (h3:zs≠[]):Tr KG zs KG zs:= .inr ⟨0,0,by simp,by simp,h1,h2,h3⟩
theorem Tr.ends (h:Tr KG ns lo zs):(zs=[]/\lo=0)\/(zs.head? ≠some 0/\zs.getLast? ≠some 0/\zs≠[]):=by
 rcases h with⟨e1,e2,e3⟩|⟨a,b,e,-,h1,h2,h3⟩
 .exact .inl ⟨e1,e2⟩
 .exact .inr ⟨h1,h2,h3⟩
def Kt (ns:P' Int) (n:Nat):P' Nat:=(List.range n).filter λk=>decide (ns.getD k 0≠0)
theorem wv {b:Nat} (h:ns=ks++List.replicate b 0) (hl:ks.getLast? ≠some 0) (hi:i<ks.length) (ht:ks.take i=List.replicate i 0) (hx:ks.getD i 0≠0):Tr KG ns (KG+i) (ks.drop i):=by
 refine .inr ⟨i,b, ?_,rfl, ?_, ?_, ?_⟩
 .rw [h,<-ht,Bn]
 .rw [List.head?_drop];intro z;exact hx (by rw[List.getD,z];rfl)
 .rw [List.getLast?_drop,A6 (by lia)];exact hl
 .intro z;have:=BF List.length z;simp at this;lia
theorem HZ (hi:i<ks.length) (ht:ks.take i=List.replicate i 0) (hx:ks.getD i 0=0):ks.take (i+1)=List.replicate (i+1) 0:=by
 have e:ks[i]=0:=by simpa[List.getD,hi] using hx
 rw[AY,ht,A2 hi,e,D9];rfl
theorem Ia (hi:i<ks.length) (hl:ks.getLast? ≠some 0) (hx:ks.getD i 0=0):i+1<ks.length:=by
 by_cases h:i+1<ks.length
 .exact h
 .exfalso;refine hl ?_;rw[List.getLast?_eq_getElem?,show ks.length-1=i by lia,A2 hi];simpa[List.getD,hi] using hx
theorem Ib {cs:P' Int}{b:Nat}{z:Int} (h:ns=cs++[z]++List.replicate b 0) (hz:z=0):ns=cs++List.replicate (b+1) 0:=by
 rw[h,hz,Ap];simp
def aV:P' Int->Nat->P' Int->P' Int
 |[],_,_=>[]
 |t::ts,p+1,zs=>t::aV ts p zs
 |t::ts,0,[]=>t::ts
 |t::ts,0,z::zs=>(t+z)::aV ts 0 zs
theorem eD:∀(ts:P' Int) (p:Nat) (zs:P' Int),(aV ts p zs).length=ts.length
 |[],_,_=>rfl
 |t::ts,p+1,zs=>by simp[aV,eD ts p zs]
 |t::ts,0,[]=>rfl
 |t::ts,0,z::zs=>by simp[aV,eD ts 0 zs]
theorem pR:∀(ts:P' Int) (p:Nat),aV ts p []=ts
 |[],_=>rfl
 |t::ts,p+1=>by simp[aV,pR ts p]
 |t::ts,0=>rfl
theorem lK:∀(ts:P' Int) (p:Nat) (ws:P' Int) (z:Int),p+ws.length<ts.length->(aV ts p ws).set (p+ws.length) ((aV ts p ws).getD (p+ws.length) 0+z)=aV ts p (ws++[z])
 |[],_,_,_,h=>by simp at h
 |t::ts,p+1,ws,z,h=>by
  have:=lK ts p ws z (by simp at h;lia);rw[show p+1+ws.length=p+ws.length+1 by lia];simp only[aV,List.set_cons_succ,DL];rw[this]
 |t::ts,0,[],z,h=>by
  cases ts<;>simp[aV]
 |t::ts,0,w::ws,z,h=>by
  have:=lK ts 0 ws z (by simp at h⊢;lia);rw[Nat.zero_add] at this;simp only[aV,AZ,Nat.zero_add,List.set_cons_succ,DL,Cb];rw[this]
def cv (xs ys:P' Int):Nat->P' Int
 |0=>List.replicate (xs.length+ys.length) 0
 |i+1=>aV (cv xs ys i) i (ys.map (xs.getD i 0* ·))
theorem pT (xs ys:P' Int):∀i,(cv xs ys i).length=xs.length+ys.length
 |0=>by simp[cv]
 |i+1=>by rw[cv,eD,pT xs ys i]
def dI (xs ys:P' Int):P' Int:=aV (aV (List.replicate (max xs.length ys.length) 0) 0 xs) 0 ys
def dJ (KG:Int) (ns:P' Int):Int×P' Int:=
 let ks:=(ns.reverse.dropWhile (· ==0)).reverse
 let a:=(ks.takeWhile (· ==0)).length
 if ks.isEmpty then(0,[]) else(KG+a,ks.drop a)
def aW (x y:Int×P' Int):Int×P' Int:=
 if x.2.isEmpty then dJ y.1 y.2 else if y.2.isEmpty then dJ x.1 x.2 else
  let KG:=if y.1<x.1 then y.1 else x.1
  dJ KG (dI (List.replicate (x.1-KG).toNat 0++x.2) (List.replicate (y.1-KG).toNat 0++y.2))
def cm (x y:Int×P' Int):Int×P' Int:=dJ (x.1+y.1) (cv x.2 y.2 x.2.length)
theorem pU {p:Int->Bool}:∀{l:P' Int}{x:Int},(l.dropWhile p).head? =some x->p x=false
 |[],_,h=>by simp at h
 |y::l,x,h=>by
  rw[List.dropWhile_cons] at h;by_cases hp:p y=true
  .rw [AB hp] at h;exact pU h
  .rw [A6 hp] at h;simp at h;subst h;simpa using hp
theorem ww:∀(l:P' Int),l.takeWhile (· ==0)=List.replicate (l.takeWhile (· ==0)).length 0:=λl=>by
 refine List.eq_replicate_iff.mpr ⟨rfl,λb hb=> ?_⟩;induction l with
 |nil=>simp at hb
 |cons y l ih=>
  rw[List.takeWhile_cons] at hb;by_cases hp:(y==0)=true
  .rw [AB hp] at hb;rcases AM.mp hb with e|e
   .rw [e];exact CJ.mp hp
   .exact ih e
  .rw [A6 hp] at hb;simp at hb
theorem Ic (l:P' Int):l.drop (l.takeWhile (· ==0)).length=l.dropWhile (· ==0):=by
 induction l with
 |nil=>rfl
 |cons y l ih=>
  rw[List.takeWhile_cons,List.dropWhile_cons];by_cases hp:(y==0)=true
  .rw [AB hp,AB hp];exact ih
  .rw [A6 hp,A6 hp];rfl
theorem Ie (l:P' Int):l.take (l.takeWhile (· ==0)).length=l.takeWhile (· ==0):=by
 induction l with
 |nil=>rfl
 |cons y l ih=>
  rw[List.takeWhile_cons];by_cases hp:(y==0)=true
  .rw [AB hp];simp[ih]
  .rw [A6 hp];rfl
theorem jG (KG:Int) (ns:P' Int):Tr KG ns (dJ KG ns).1 (dJ KG ns).2:=by
 have hb:ns=(ns.reverse.dropWhile (· ==0)).reverse++List.replicate (ns.reverse.takeWhile (· ==0)).length 0:=by
  have e:=BF List.reverse (List.takeWhile_append_dropWhile (p:=(· ==(0:Int))) (l:=ns.reverse));rw[DJ,List.reverse_reverse,ww ns.reverse,List.reverse_replicate] at e;exact e.symm
 have hd:∀x,(ns.reverse.dropWhile (· ==0)).head? =some x->(x==0)=false:=λx h=>pU (p:=λx=>x==0) h;unfold dJ;dsimp only;generalize (ns.reverse.dropWhile (· ==0))=ds at hb hd⊢;generalize (ns.reverse.takeWhile (· ==0)).length=b at hb;by_cases hk:ds.reverse.isEmpty=true
 .rw [AB hk];rw[List.isEmpty_iff.mp hk] at hb;refine .inl ⟨rfl,rfl,λz hz=> ?_⟩;rw[hb] at hz;exact List.eq_of_mem_replicate (by simpa using hz)
 .rw [A6 hk];have hl:ds.reverse.getLast? ≠some 0:=λz=>by
   rw[List.getLast?_reverse] at z;have:=hd 0 z;simp at this
  have hn:ds.reverse≠[]:=λz=>hk (by rw[z];rfl);generalize ds.reverse=ks at hb hl hn⊢;have hle:(ks.takeWhile (· ==0)).length<=ks.length:=(List.takeWhile_prefix (· ==0)).length_le;have ht:ks.take (ks.takeWhile (· ==0)).length=List.replicate (ks.takeWhile (· ==0)).length 0:=by rw[Ie];exact ww ks
  have hi:(ks.takeWhile (· ==0)).length<ks.length:=by
   rcases Bp (ks.takeWhile (· ==0)).length ks.length with h|h
   .exact h
   .exfalso;rw[CK h] at ht;refine hl ?_;rw[ht,List.getLast?_replicate,A6];intro z;rw[z] at ht;exact hn ht
  refine wv hb hl hi ht ?_;intro z;have e:(ks.dropWhile (· ==0)).head? =some 0:=by
   rw[<-Ic,List.head?_drop,A2 hi];simpa[List.getD,hi] using z
  have:=pU (p:=λx=>x==0) e;simp at this
theorem Tr.toC (h:Tr KG ns lo zs):(lo,zs)=dJ KG ns:=by
 obtain⟨e1,e2⟩:=h.unique (jG KG ns);exact Prod.ext e1 e2
def eE (w:Nat):P' Int:=(List.range (2*w-1)).map λp=>1-((p:Nat):Int)%2
def fm (w:Nat):Int×P' Int:=(1-(w:Int),eE w)
theorem pV (w:Nat):(eE w).length=2*w-1:=by simp[eE]
theorem wx (h:i<2*w-1):(eE w).getD i 0=1-(i:Int)%2:=by
 simp[eE,List.getD,h]
theorem Ig (h:1<=w) :Tr KG (eE w) KG (eE w):=by
 have l:=pV w;refine Tr.self ?_ ?_ ?_
 .rw [List.head?_eq_getElem?];intro z;have g:=wx (w:=w) (i:=0) (by lia);rw[List.getD,z] at g;simp at g
 .rw [List.getLast?_eq_getElem?];intro z;have g:=wx (w:=w) (i:=(eE w).length-1) (by lia);rw[List.getD,z] at g;simp only[Option.getD_some] at g;lia
 .intro z;rw[z] at l;simp at l;lia
def gz (zs:P' Int) (k:Int):Int:=if 0<=k then zs.getD k.toNat 0 else 0
theorem fQ (zs:P' Int) (i:Nat):gz zs (i:Int)=zs.getD i 0:=by
 unfold gz;rw[AB (by lia),AV]
theorem ir {k:Int} (h:k<0):gz zs k=0:=by
 unfold gz;rw[A6 (by lia)]
theorem wy {k:Int} (h:(zs.length:Int)<=k):gz zs k=0:=by
 unfold gz;split
 .rw [List.getD,CN (by lia)];rfl
 .rfl
theorem eI (k:Int):gz [] k=0:=by
 unfold gz;split<;>simp
theorem fR (x:Int) (xs:P' Int) (k:Int):gz (x::xs) k=(if k=0 then x else 0)+gz xs (k-1):=by
 by_cases h:k<0
 .rw [ir h,ir (by lia),A6 (by lia)];rfl
 .obtain⟨n,rfl⟩:∃n:Nat,k=n:=⟨k.toNat,by lia⟩;cases n with
  |zero=>rw[fQ,AB (by lia),ir (by lia)];simp
  |succ n=>
   rw[fQ,A6 (by lia),show((n+1:Nat):Int)-1=(n:Int) by lia,fQ];simp
theorem pW (xs ys:P' Int) (k:Int):gz (xs++ys) k=gz xs k+gz ys (k-xs.length):=by
 induction xs generalizing k with
 |nil=>rw[eI,DD];simp
 |cons x xs ih=>
  rw[Cb,fR,fR,ih];rw[show k-1-(xs.length:Int)=k-((x::xs).length:Int) by simp;lia];lia
theorem lL (n:Nat) (k:Int):gz (List.replicate n 0) k=0:=by
 induction n generalizing k with
 |zero=>exact eI k
 |succ n ih=>rw[Ap,fR,ih];split<;>rfl
theorem lM:∀(ts:P' Int) (p:Nat) (zs:P' Int) (k:Int),p+zs.length<=ts.length->gz (aV ts p zs) k=gz ts k+gz zs (k-p)
 |[],p,zs,k,h=>by
  have:zs=[]:=BQ.mp (by rw[C2] at h;lia);rw[this,eI];simp[aV,eI]
 |t::ts,p+1,zs,k,h=>by
  rw[aV,fR,fR,lM ts p zs (k-1) (by simp at h;lia),show k-1-(p:Int)=k-((p+1:Nat):Int) by lia];lia
 |t::ts,0,[],k,h=>by
  rw[aV,eI];simp
 |t::ts,0,z::zs,k,h=>by
  rw[aV,fR,fR,lM ts 0 zs (k-1) (by simp at h⊢;lia),show k-((0:Nat):Int)=k by lia,fR z,show k-1-((0:Nat):Int)=k-1 by lia];split<;>lia
theorem Tr.coef (h:Tr KG ns lo zs) (p:Int):gz zs (p-lo)=gz ns (p-KG):=by
 rcases h with⟨e1,e2,e3⟩|⟨a,b,e,e2,_⟩
 .subst e1;rw[eI];by_cases h1:p-KG<0
  .rw [ir h1]
  .obtain⟨n,hn⟩:∃n:Nat,p-KG=n:=⟨(p-KG).toNat,by lia⟩;rw[hn,fQ,List.getD];cases q:ns[n]? with
   |none=>rfl
   |some z=>exact(e3 z (AU q)).symm
 .rw [e,pW,pW,lL,lL,Ad,e2];rw[show p-KG-(a:Int)=p-(KG+(a:Int)) by lia];lia
theorem lN (h1:zs.head? ≠some 0) (h2:zs.getLast? ≠some 0) (h3:zs≠[]):gz zs 0≠0/\gz zs ((zs.length:Int)-1)≠0:=by
 have hp:0<zs.length:=DK.mpr h3;constructor
 .rw [show(0:Int)=((0:Nat):Int) from rfl,fQ,List.getD,<-List.head?_eq_getElem?];cases q:zs.head? with
  |none=>exact absurd (List.head?_eq_none_iff.mp q) h3
  |some z=>exact λe=>h1 (by rw[q];exact BF some e)
 .rw [show(zs.length:Int)-1=((zs.length-1:Nat):Int) by lia,fQ,List.getD,<-List.getLast?_eq_getElem?];cases q:zs.getLast? with
  |none=>exact absurd (List.getLast?_eq_none_iff.mp q) h3
  |some z=>exact λe=>h2 (by rw[q];exact BF some e)
theorem Ih {low':Int}{ns':P' Int} (h:Tr KG ns lo zs) (h':Tr low' ns' Mv ME) (e:∀p,gz zs (p-lo)=gz ME (p-Mv)):lo=Mv/\zs=ME:=by
 rcases h.ends with⟨a1,a2⟩|⟨a1,a2,a3⟩<;>rcases h'.ends with⟨b1,b2⟩|⟨b1,b2,b3⟩
 .exact⟨by lia,by rw[a1,b1]⟩
 .exfalso;have:=e Mv;rw[a1,eI,Int.sub_self] at this;exact(lN b1 b2 b3).1 this.symm
 .exfalso;have:=e lo;rw[b1,eI,Int.sub_self] at this;exact(lN a1 a2 a3).1 this
 .obtain⟨c1,c2⟩:=lN a1 a2 a3;obtain⟨d1,d2⟩:=lN b1 b2 b3;have pa:0<zs.length:=DK.mpr a3;have pb:0<ME.length:=DK.mpr b3;have l1:Mv<=lo:=by
   rcases(by lia:lo<Mv\/Mv<=lo) with q|q
   .have:=e lo;rw[Int.sub_self,ir (by lia:lo-Mv<0)] at this;exact absurd this c1
   .exact q
  have l2:lo<=Mv:=by
   rcases(by lia:Mv<lo\/lo<=Mv) with q|q
   .have:=e Mv;rw[Int.sub_self,ir (by lia:Mv-lo<0)] at this;exact absurd this.symm d1
   .exact q
  obtain rfl:lo=Mv:=by lia
  have n1:zs.length<=ME.length:=by
   rcases Bp ME.length zs.length with q|q
   .have:=e (lo+((zs.length:Int)-1));rw[show lo+((zs.length:Int)-1)-lo=(zs.length:Int)-1 by lia,wy (zs:=ME) (by lia)] at this;exact absurd this c2
   .exact q
  have n2:ME.length<=zs.length:=by
   rcases Bp zs.length ME.length with q|q
   .have:=e (lo+((ME.length:Int)-1));rw[show lo+((ME.length:Int)-1)-lo=(ME.length:Int)-1 by lia,wy (zs:=zs) (by lia)] at this;exact absurd this.symm d2
   .exact q
  refine⟨rfl,Ca (by lia) λi p q=> ?_⟩;have:=e (lo+(i:Int));rw[show lo+(i:Int)-lo=(i:Int) by lia,fQ,fQ] at this;simpa[List.getD,p,q] using this
theorem wz (n:Nat) (zs:P' Int) (k:Int):gz (List.replicate n 0++zs) k=gz zs (k-n):=by
 rw[pW,lL,Ad];lia
theorem Ii (xs ys:P' Int) (k:Int):gz (dI xs ys) k=gz xs k+gz ys k:=by
 unfold dI;rw[lM _ _ _ _ (by rw[eD,Ad];lia),lM _ _ _ _ (by rw[Ad];lia),lL];simp
theorem lO (x y:Int×P' Int):∃KG ns,Tr KG ns (aW x y).1 (aW x y).2/\∀p,gz ns (p-KG)=gz x.2 (p-x.1)+gz y.2 (p-y.1):=by
 unfold aW;by_cases h1:x.2.isEmpty=true
 .rw [AB h1];exact⟨y.1,y.2,jG _ _,λp=>by rw[List.isEmpty_iff.mp h1,eI];lia⟩
 .rw [A6 h1];by_cases h2:y.2.isEmpty=true
  .rw [AB h2];exact⟨x.1,x.2,jG _ _,λp=>by rw[List.isEmpty_iff.mp h2,eI];lia⟩
  .rw [A6 h2];have hl:(if y.1<x.1 then y.1 else x.1)<=x.1/\(if y.1<x.1 then y.1 else x.1)<=y.1:=by split<;>lia
   dsimp only;generalize (if y.1<x.1 then y.1 else x.1)=KG at hl⊢;refine⟨KG,_,jG _ _,λp=> ?_⟩;rw[Ii,wz,wz,show p-KG-((x.1-KG).toNat:Int)=p-x.1 by lia,show p-KG-((y.1-KG).toNat:Int)=p-y.1 by lia]
abbrev Sh:=Int×P' Int
variable {s:Sh}
def zer:Sh:=(0,[])
def ofN (n:Int):Sh:=dJ 0 [n]
def iu (ws:P' Int):Sh:=ws.foldl (λt w=>cm t (fm w.toNat)) (ofN 1)
def Sup (a b:Int) (s:Sh):Prop:= -a<=s.1/\s.1+s.2.length<=b+1
theorem pX {a b:Int}(a0:0<=a) (b0:0<=b) (h1: -a<=KG) (h2:KG+ns.length<=b+1):Sup a b (dJ KG ns):=by
 have t:=jG KG ns;generalize dJ KG ns=s at t⊢;unfold Sup;rcases t with⟨e,e2,_⟩|⟨p,q,e,e2,_⟩
 .rw [e,e2];simp;lia
 .have l:=BF List.length e;simp at l;lia
theorem Ij (xs ys:P' Int):(dI xs ys).length=max xs.length ys.length:=by unfold dI;rw[eD,eD,Ad]
theorem Ik {a b:Int}{x y:Sh} (a0:0<=a) (b0:0<=b) (hx:Sup a b x) (hy:Sup a b y):Sup a b (aW x y):=by
 unfold aW;unfold Sup at hx hy;split
 .exact pX a0 b0 (by lia) (by lia)
 split
 .exact pX a0 b0 (by lia) (by lia)
 .have hl:(if y.1<x.1 then y.1 else x.1)<=x.1/\(if y.1<x.1 then y.1 else x.1)<=y.1/\-a<=(if y.1<x.1 then y.1 else x.1):=by split<;>lia
  dsimp only;generalize (if y.1<x.1 then y.1 else x.1)=KG at hl⊢;refine pX a0 b0 (by lia) ?_;rw[Ij,AC,AC,Ad,Ad];lia
theorem Il (h:1<=w):Sup (w-1) (w-1) (fm w):=by
 unfold Sup fm;dsimp only;rw[pV];lia
theorem Im {a b:Int} (a0:0<=a) (b0:0<=b):Sup a b zer:=by unfold Sup zer;simp;lia
theorem wA {α:Type}{a b:Int} (a0:0<=a) (b0:0<=b) {f:α->Sh}:∀{l:P' α}{t:Sh},Sup a b t->(∀x∈l,Sup a b (f x))->Sup a b (l.foldl (λt x=>aW t (f x)) t)
 |[],_,h,_=>h
 |x::l,_,h,hl=>wA a0 b0 (l:=l) (Ik a0 b0 h (hl x AS)) λy hy=>hl y (AN _ hy)
theorem wB:ofN 0=zer:=by decide
theorem pY {α β:Type}{f g:β->α->β}:∀{l:P' α}{t:β},(∀t,∀x∈l,f t x=g t x)->l.foldl f t=l.foldl g t
 |[],_,_=>rfl
 |x::l,t,h=>by
  rw[Bj,Bj,h t x AS];exact pY λt y hy=>h t y (AN _ hy)
def smS (s:Sh):Bool:=decide (s.2.length<=100)&&decide (-100<=s.1)&&decide (s.1<=100)&&s.2.all λx=>decide (-(10^18)<=x)&&decide (x<=10^18)
def Sms (s:Sh):Prop:=s.2.length<=100/\-100<=s.1/\s.1<=100
theorem eJ (h:smS s=true):Sms s/\∀x∈s.2,-(10^18)<=x/\x<=10^18:=by
 unfold smS at h;simp only[AD,Af,Ao] at h;exact⟨⟨h.1.1.1,h.1.1.2,h.1.2⟩,h.2⟩
theorem Sup.sms {a b:Int}(h:Sup a b s) (ha:a<=33) (hb:b<=65):Sms s:=by
 unfold Sup at h;unfold Sms;lia
def wsX (x:P' Lf):P' Int:=x.map λp=>p.2.2
def gD (x:P' Lf):P' Int:=wsX x++wsX x
def gF:P' Int->Sh->Bool
 |[],t=>smS t
 |w::l,t=>smS t&&decide (1<=w)&&decide (w<=50)&&gF l (cm t (fm w.toNat))
def fq (d:Nat) (x:P' Lf):Sh:=cm (ofN (hmD d x)) (iu (gD x))
theorem wC:∀{l:P' Int}{t:Sh},gF l t=true->∀i w,l[i]? =some w->smS ((l.take i).foldl (λt w=>cm t (fm w.toNat)) t)=true/\1<=w/\w<=50
 |[],_,_,i,w,hw=>by simp at hw
 |x::l,t,h,i,w,hw=>by
  rw[gF] at h;simp only[AD,Af] at h;obtain⟨⟨⟨c1,c2⟩,c3⟩,c4⟩:=h;cases i with
  |zero=>cases hw;exact⟨c1,c2,c3⟩
  |succ i=>exact wC c4 i w hw
theorem pZ {α β:Type}{f:β->α->β}{l:P' α}{t:β}{x:α} (h:l[i]? =some x):(l.take (i+1)).foldl f t=f ((l.take i).foldl f t) x:=by
 rw[AY,h,BP];rfl
def wD (t:P' Int):Nat:=t.foldl (λn x=>n*8+x.toNat) 0
def wE (q:Ask4):Nat:=((q.d.toNat*8+q.k.toNat)*32768+wD q.h)*32768+wD q.f
def lP (q r:Ask4):Bool:=decide (q.d=r.d)&&decide (q.k=r.k)&&decide (q.h=r.h)&&decide (q.f=r.f)
theorem Io {r:Ask4} (h:lP q r=true):q=r:=by
 unfold lP at h;simp only[AD,Af] at h;obtain⟨⟨⟨a,b⟩,c⟩,e⟩:=h;cases q;cases r;simp only at a b c e;rw[a,b,c,e]
def okQ (L:Nat) (q:Ask4):Bool:=decide (q.h.length=L)&&decide (q.f.length=L)&&q.h.all (λx=>decide (0<=x))&&q.f.all (λx=>decide (0<=x))&&decide (wtF q.h+wtF q.f=q.d)&&decide (2<=q.d)&&decide (q.d<=L)&&decide (L<=5)&&decide (0<=q.k)&&decide (q.k<=6)
theorem wF {t:P' Int} (h:t.all (λx=>decide (0<=x))=true):Nn t:=λi=>by
 rw[A4];cases e:t[i]? with
 |none=>exact Bf 0
 |some x=>simpa using List.all_eq_true.mp h x (AU e)
theorem Ip (h:okQ L q=true):AskOk L q/\¬q.k<0/\¬q.d=1:=by
 unfold okQ at h;simp only[AD,Af] at h;obtain⟨⟨⟨⟨⟨⟨⟨⟨⟨a,b⟩,c⟩,e⟩,f⟩,g⟩,i⟩,j⟩,k⟩,l⟩:=h;exact⟨⟨a,b,wF c,wF e,f,by lia,i,j,l⟩,by lia,by lia⟩
def wG (L K:Nat):P' Ask4:=(List.range (L-1)).flatMap λe:Nat=>(List.range 6).flatMap λm:Nat=>(cR 1 L (e+2)).flatMap λh=>((cR 1 L (e+2)).filter λf=>decide (f.sum=(m:Int))&&decide (wtF h+wtF f=((e+2:Nat):Int))).flatMap λf=>(List.range (K+1)).map λk:Nat=>⟨((e+2:Nat):Int),(k:Int),h,f⟩
theorem Iq {K:Nat}(a:AskOk L q) (d2:2<=q.d) (k0:0<=q.k) (hk:q.k<=K):q∈wG L K:=by
 obtain⟨n,hn⟩:=Al (show 0<=q.d by lia);obtain⟨e,rfl⟩:∃e,n=e+2:=⟨n-2,by lia⟩;obtain⟨k,Mz⟩:=Al k0;have wh:=bJ (i:=1) (by decide) a.hn;have wf:=bJ (i:=1) (by decide) a.fn;have w:=a.wt;have dL:=a.dL;have sf:=a.sums;have L5:=a.L5;have w1:wtF q.h=wtG 1 q.h:=rfl;have w2:wtF q.f=wtG 1 q.f:=rfl;refine B2.mpr ⟨e,Ag.mpr (by lia),B2.mpr ⟨q.f.sum.toNat,Ag.mpr (by lia),B2.mpr ⟨q.h,jF (by decide) a.hl a.hn (by show wtG 1 q.h<=_;lia),B2.mpr ⟨q.f,DE.mpr ⟨jF (by decide) a.fl a.fn (by show wtG 1 q.f<=_;lia), ?_⟩,At.mpr ⟨k,Ag.mpr (by lia), ?_⟩⟩⟩⟩⟩
 .rw [AD];exact⟨BA (by lia),BA (by lia)⟩
 .rw [<-hn,<-Mz]
def sOn (x:Sm4):Sh:=cm (ofN x.1) (iu x.2.1)
def shE:Nat->Ask4->Sh
 |0,_=>zer
 |n+1,q=>if q.d=1\/q.k<0 then ofN (if q.k=0 then 1 else 0) else(b9 q).foldl (λt x=>aW t (cm (sOn x) (shE n x.2.2))) zer
theorem wH {L:Nat}:∀{n m:Nat}{q:Ask4},AskOk L q->muF q<=n->muF q<=m->shE n q=shE m q
 |0,_,q,a,h,_=>by have:=a.mu;lia
 |_+1,0,q,a,_,h=>by have:=a.mu;lia
 |n+1,m+1,q,a,h1,h2=>by
  unfold shE;split
  .rfl
  .next hd=>
   refine pY λt x hx=> ?_;obtain⟨b,c⟩:=a.less (by have:=a.d1;lia) hx;rw[wH b (n:=n) (m:=m) (by lia) (by lia)]
def sF (q:Ask4):Sh:=shE 36 q
theorem lQ (h:q.d=1\/q.k<0):sF q=ofN (if q.k=0 then 1 else 0):=by
 unfold sF shE;rw[AB h]
theorem wI (a:AskOk L q) (h:¬(q.d=1\/q.k<0)):sF q=(b9 q).foldl (λt x=>aW t (cm (sOn x) (sF x.2.2))) zer:=by
 have e:sF q=shE 37 q:=wH a (by have:=a.mu;lia) (by have:=a.mu;lia);rw[e];unfold shE;rw[A6 h];rfl
def jH (x:Sm4) (v acc:Sh):Bool:=smS acc&&gF x.2.1 (ofN 1)&&smS (iu x.2.1)&&smS (ofN x.1)&&smS (sOn x)&&smS v&&smS (cm (sOn x) v)
def wlS (f:Ask4->Qc Sh):P' Sm4->Sh->Qc Sh
 |[],t=>bif smS t then some t else none
 |x::r,t=>(f x.2.2).bind λv=>bif jH x v t then wlS f r (aW t (cm (sOn x) v)) else none
abbrev TbS:=P' (Nat×Ask4×Sh)
def lR (n:Nat):TbS->Qc (Ask4×Sh)
 |[]=>none
 |e::t=>bif Nat.beq e.1 n then some e.2 else lR n t
theorem wJ {n:Nat}{e:Ask4×Sh}:∀{t:TbS},lR n t=some e->∃m,(m,e)∈t
 |[],h=>nomatch h
 |x::t,h=>by
  unfold lR at h;cases c:Nat.beq x.1 n with
  |true=>rw[c] at h;cases h;exact⟨x.1,AS⟩
  |false=>rw[c] at h;obtain⟨m,hm⟩:=wJ (t:=t) h;exact⟨m,AN _ hm⟩
def iw (t:TbS) (q:Ask4):Qc Sh:=if q.d=1\/q.k<0 then some (ofN (if q.k=0 then 1 else 0)) else(lR (wE q) t).bind λe=>bif lP e.1 q then some e.2 else none
def gdS (q:Ask4):Prop:=wlS (λq=>some (sF q)) (b9 q) zer=some (sF q)
def gG (t:TbS):Prop:=∀e∈t,e.2.2=sF e.2.1/\gdS e.2.1
theorem wK {t:TbS} (h:gG t) {v:Sh} (e:iw t q=some v):v=sF q:=by
 unfold iw at e;split at e
 .next c=>cases e;rw[lQ c]
 .obtain⟨x,hx,e⟩:=A7.mp e;cases s:lP x.1 q with
  |false=>rw[s] at e;cases e
  |true=>
   rw[s] at e;cases e;obtain⟨m,hm⟩:=wJ hx;rw[<-Io s];exact(h _ hm).1
theorem wL {f:Ask4->Qc Sh} (h:∀{q v},f q=some v->v=sF q):∀{l:P' Sm4}{t s:Sh},wlS f l t=some s->wlS (λq=>some (sF q)) l t=some s/\s=l.foldl (λt x=>aW t (cm (sOn x) (sF x.2.2))) t
 |[],t,s,e=>by
  refine⟨e, ?_⟩;unfold wlS at e;cases c:smS t with
  |true=>rw[c] at e;exact(Ae e).symm
  |false=>rw[c] at e;cases e
 |x::r,t,s,e=>by
  unfold wlS at e⊢;obtain⟨v,hv,e⟩:=A7.mp e;have hv:=h hv;subst hv;rw[Option.bind_some];cases c:jH x (sF x.2.2) t with
  |true=>rw[c] at e;exact wL h e
  |false=>rw[c] at e;cases e
theorem wM:∀{l:P' Sm4}{t s:Sh},wlS (λq=>some (sF q)) l t=some s->∀i x,l[i]? =some x->jH x (sF x.2.2) ((l.take i).foldl (λt x=>aW t (cm (sOn x) (sF x.2.2))) t)=true
 |[],_,_,_,i,w,hw=>by simp at hw
 |x::l,t,s,h,i,w,hw=>by
  unfold wlS at h;rw[Option.bind_some] at h;cases c:jH x (sF x.2.2) t with
  |false=>rw[c] at h;cases h
  |true=>
   rw[c] at h;cases i with
   |zero=>cases hw;exact c
   |succ i=>exact wM h i w hw
def ix (L:Nat) (o:Qc TbS) (q:Ask4):Qc TbS:=o.bind λt=>bif okQ L q then(wlS (iw t) (b9 q) zer).map λs=>(wE q,q,s)::t else none
theorem Ir {t u:TbS}(h:gG t) (e:ix L (some t) q=some u):gG u/\(∃x∈u,x.2.1=q)/\∀x∈t,x∈u:=by
 unfold ix at e;simp only[Option.bind_some] at e;cases c:okQ L q with
 |false=>rw[c] at e;cases e
 |true=>
  rw[c] at e;obtain⟨s,hs,rfl⟩:=AA.mp e;obtain⟨a,k0,d1⟩:=Ip c;refine⟨λx hx=> ?_,⟨_,AS,rfl⟩,λx hx=>AN _ hx⟩;rcases AM.mp hx with rfl|hx
  .obtain⟨w1,w2⟩:=wL (λe=>wK h e) hs;have es:s=sF q:=by rw[w2,<-wI a (by lia)]
   exact⟨es,by unfold gdS;rw[<-es];exact w1⟩
  .exact h x hx
theorem wN {L:Nat}:∀(qs:P' Ask4),qs.foldl (ix L) none=none
 |[]=>rfl
 |q::qs=>wN qs
theorem wO {L:Nat}:∀{qs:P' Ask4}{t u:TbS},gG t->qs.foldl (ix L) (some t)=some u->gG u/\(∀q∈qs,∃x∈u,x.2.1=q)/\∀x∈t,x∈u
 |[],t,u,h,e=>by cases e;exact⟨h,(λq hq=>nomatch hq),λx hx=>hx⟩
 |q::qs,t,u,h,e=>by
  rw[Bj] at e;cases c:ix L (some t) q with
  |none=>rw[c,wN] at e;cases e
  |some m=>
   rw[c] at e;obtain⟨h1,⟨x,hx,ex⟩,h3⟩:=Ir h c;obtain⟨g1,g2,g3⟩:=wO h1 e;refine⟨g1,λr hr=> ?_,λy hy=>g3 y (h3 y hy)⟩;rcases AM.mp hr with rfl|hr
   .exact⟨x,g3 x hx,ex⟩
   .exact g2 r hr
def wP (L K:Nat):Qc TbS:=(wG L K).foldl (ix L) (some [])
def iy (L K:Nat) (p:TbS->Ask4->Sh->Bool):Bool:=match wP L K with
 |none=>false
 |some t=>t.all λe=>p t e.2.1 e.2.2
theorem fS {K:Nat}{p:TbS->Ask4->Sh->Bool} (h:iy L K p=true):∃t,gG t/\∀q,AskOk L q->2<=q.d->0<=q.k->q.k<=K->gdS q/\p t q (sF q)=true:=by
 unfold iy at h;cases c:wP L K with
 |none=>rw[c] at h;cases h
 |some t=>
  rw[c] at h;obtain⟨g1,g2,_⟩:=wO (t:=[]) (λe he=>nomatch he) c;refine⟨t,g1,λq a d2 k0 hk=> ?_⟩;obtain⟨x,hx,rfl⟩:=g2 q (Iq a d2 k0 hk);obtain⟨e,g⟩:=g1 x hx;have:=Ao.mp h x hx;rw[<-e];exact⟨g,this⟩
theorem Iu (t x y:Sh):aW (aW t x) y=aW (aW t y) x:=by
 obtain⟨l1,n1,a1,b1⟩:=lO (aW t x) y;obtain⟨l2,n2,a2,b2⟩:=lO (aW t y) x;obtain⟨l3,n3,a3,b3⟩:=lO t x;obtain⟨l4,n4,a4,b4⟩:=lO t y;obtain⟨e1,e2⟩:=Ih a1 a2 λp=>by rw[a1.coef,a2.coef,b1,b2,a3.coef,a4.coef,b3,b4];lia
 exact Prod.ext e1 e2
def Iw {α:Type}{f:α->Sh}{l l':P' α} (h:l.Perm l') (t:Sh):l.foldl (λt x=>aW t (f x)) t=l'.foldl (λt x=>aW t (f x)) t:=h.foldl_eq' (λx _ y _ z=>Iu z (f x) (f y)) t
def jI (s:Sh):Bool:=decide (-30<=s.1)&&decide (s.1+(s.2.length:Int)<=31)
theorem wQ (h:jI s=true):Sup 30 30 s:=by
 unfold jI at h;simp only[AD,Af] at h;unfold Sup;lia
theorem Ix {α:Type}{f:α->Sh}{l:P' α} (h:∀x∈l,jI (f x)=true) (i:Nat):Sms ((l.take i).foldl (λt x=>aW t (f x)) zer):=
 (wA (by lia) (by lia) (Im (by lia) (by lia)) λx hx=>wQ (h x (D' hx))).sms (by lia) (by lia)
def v91 (d k:Nat):Sh:=([[(0,[1])],[(0,[1]),(0,[3])],[(0,[1]),(-2,[1,0,10,0,1]),(0,[21]),(0,[15])],[(0,[1]),(-2,[3,0,21,0,3]),(-4,[3,0,33,0,153,0,33,0,3]),(-6,[1,0,13,0,94,0,459,0,94,0,13,0,1]),(-2,[45,0,576,0,45]),(0,[378]),(0,[105])],[(0,[1]),(-2,[6,0,36,0,6]),(-4,[15,0,156,0,540,0,156,0,15]),(-6,[20,0,268,0,1555,0,4229,0,1555,0,268,0,20])]].getD (d-1) []).getD k zer
def mkD (d:Nat) (x:P' Lf):P' (P' Int):=(x++fh d (bH d x)).map bZ
def mkB (d:Nat) (x:P' Lf):Bool:=((x++fh d (bH d x)).all λm=>decide (1<=m.1)&&decide (m.1<m.2.1)&&decide (m.2.1<=(d:Int)+1))&&decide ((x++fh d (bH d x)).length<=15)&&ssB (mkD d x)
def p0 (c:Nat->Nat->Qc Bool) (n:Nat):Bool:=decide (n<2)||match gj c n with
 |none=>false
 |some p=>decide (p.size<=1000)&&p.toList.isPerm (List.range n)
def sDr (d k:Nat):Bool:=p0 (λi j=>(cz d k)[i]?.bind λx=>(cz d k)[j]?.map λy=>gw x y) (cz d k).length
def p6 (d:Nat) (x:P' Lf):Bool:=gF (gD x) (ofN 1)&&smS (iu (gD x))&&smS (ofN (hmD d x))&&jI (fq d x)
def p91 (_:TbS) (q:Ask4) (v:Sh):Bool:=if q.f=q.d::List.replicate (q.f.length-1) 0 then decide (v=v91 q.d.toNat q.k.toNat) else true
def KL (L:Nat):Int:=if L=5 then 3 else 6
theorem Iy (a:AskOk L q) (d2:2<=q.d) {x:Sm4} (hx:x∈b9 q):x.2.2.k<=q.k:=by
 unfold b9 at hx;rcases C1.mp hx with hx|hx
 .unfold eB at hx;obtain⟨p,_,hx⟩:=B2.mp hx;unfold cC at hx;split at hx
  .rw [Aq.mp hx];exact Bf _
  .cases hx
 .obtain⟨kp,hk,fr,hf,rfl⟩:=vS hx;have:=(AskOk.few (q:=⟨q.d,6,q.h,q.f⟩) ⟨a.hl,a.fl,a.hn,a.fn,a.wt,a.d1,a.dL,a.L5,Bf _⟩ d2 hk hf).1.k6;show q.k+fr.sum-q.f.sum-q.d+1<=q.k;simp only at this;lia
theorem wR {L:Nat}:∀{n:Nat}{q:Ask4},AskOk L q->shE n (cD q)=shE n q
 |0,_,_=>rfl
 |n+1,q,a=>by
  unfold shE;show(if q.d=1\/q.k<0 then ofN (if q.k=0 then 1 else 0) else _)=_;split
  .rfl
  .next hd=>
   have d2:2<=q.d:=by have:=a.d1;lia
   have e:b9 (cD q)=(b9 q).map ip:=by
    unfold b9;rw[vV a,vW a d2,A9]
   rw[e,List.foldl_map];refine pY λt x hx=> ?_;show aW t (cm (sOn x) (shE n (cD x.2.2)))=_;rw[wR (a.less d2 hx).1]
abbrev Pw:=P' (Key×Int)
variable {R:Pw}
def kI:Key->Int
 | .inl i=>i
 | .inr _=>0
def adS (R:Pw) (i v:Int):Pw:=bT R (.inl i) (bi R (.inl i)+v)
def dr (s:Sh) (n:Int) (m:Nat):Pw:=(List.range m).foldl (λR (i:Nat)=>bT R (.inl (s.1+(i:Int))) (n*s.2.getD i 0)) []
def du (p v:Int) (w:Int) (Wq:Pw) (m:Nat):Pw:=(List.range m).foldl (λWq (j:Nat)=>adS Wq (p+1-w+2*(j:Int)) v) Wq
def fT (R:Pw) (w:Int):Pw:=R.foldl (λWq x=>du (kI x.1) (bi R x.1) w Wq w.toNat) []
def fU (D R:Pw):Pw:=R.foldl (λD x=>adS D (kI x.1) (bi R x.1)) D
def iz (R:Pw):Bool:=decide (R.length<=300)
def iA (o:Qc Pw) (w:Int):Qc Pw:=o.bind λR=>bif iz (fT R w) then some (fT R w) else none
def gH (D:Pw) (s:Sh) (ws:P' Int) (n:Int):Qc Pw:=bif smS s&&decide (-(2^30)<n)&&decide (n<2^30)&&ws.all (λw=>decide (1<=w)&&decide (w<=10))&&decide (ws.length<=10) then(ws.foldl iA (some (dr s n s.2.length))).bind λR=>bif iz (fU D R) then some (fU D R) else none else none
def ft (S:Ask4->Qc Sh) (d:Nat) (k:Int) (h f:P' Int) (D:Qc Pw) (p:Nat):Qc Pw:=if f.getD p 0>0 then D.bind λD=>(S ⟨d,k,wmF h p 1,wmF f p (-1)⟩).bind λs=>gH D s [(p:Int)+1] 1 else D
def iB (h f a b:P' Int) (m:Nat):Int:=(List.range m).foldl (λn p=>n*chF (h.getD p 0) (a.getD p 0).toNat*chF (b.getD p 0) (f.getD p 0).toNat) 1
def eK (f b:P' Int) (m:Nat):P' Int:=(List.range m).flatMap λp=>List.replicate (b.getD p 0-f.getD p 0).toNat ((p:Int)+1)
def grS (f:P' Int) (X:P' (P' Int×Nat)) (p:Nat):P' (P' Int×Nat):=X.flatMap λx=>(List.range (x.2/(p+1)+1)).map λj:Nat=>(x.1++[f.getD p 0+(j:Int)],x.2-j*(p+1))
def grG (f:P' Int) (sp n:Nat):P' (P' Int×Nat):=(List.range n).foldl (grS f) [([],sp)]
def grF (f:P' Int) (sp:Nat):P' (P' Int):=((grG f sp f.length).filter λx=>decide (x.2=0)).map (·.1)
def leB:P' Int->P' Int->Bool
 |[],[]=>true
 |x::a,y::b=>decide (0<=x)&&decide (x<=y)&&leB a b
 |_,_=>false
def lS (d:Nat) (k:Int) (f a b:P' Int):Bool:=leB f b&&decide (wtF a+wtF b=(d:Int)-1)&&decide (k+b.sum-f.sum-d+1<=6)
def dw (S:Ask4->Qc Sh) (d:Nat) (k:Int) (h f a:P' Int) (D:Qc Pw) (b:P' Int):Qc Pw:=if k+b.sum-f.sum-d+1>=0 then D.bind λD=>bif lS d k f a b then(S ⟨d-1,k+b.sum-f.sum-d+1,a,b⟩).bind λs=>gH D s (eK f b d) (iB h f a b d) else none else D
def dM (S:Ask4->Qc Sh) (d:Nat) (k:Int) (h f:P' Int) (D:Qc Pw) (a:P' Int):Qc Pw:=if(d:Int)-1-wtF a-wtF f<0 then D else(grF f ((d:Int)-1-wtF a-wtF f).toNat).foldl (dw S d k h f a) D
def duF (S:Ask4->Qc Sh) (d:Nat) (k:Int) (h f:P' Int):Qc Pw:=(rwF h).foldl (dM S d k h f) ((List.range d).foldl (ft S d k h f) (some []))
def nzK (D:Pw):P' Int:=(D.filter λx=>decide (bi D x.1≠0)).map λx=>kI x.1
def mnL (a:Int) (l:P' Int):Int:=l.foldl (λm x=>if x<m then x else m) a
def mxL (a:Int) (l:P' Int):Int:=l.foldl (λm x=>if m<x then x else m) a
def eO (v:Sh) (D:Pw):Bool:=match nzK D with
 |[]=>decide (v=(0,[]))&&decide (D.length<=300)
 |a::l=>decide (v=(mnL a l,(List.range (mxL a l+1-mnL a l).toNat).map fun(i:Nat)=>bi D (.inl (mnL a l+(i:Int)))))&&decide ((a::l).length<=60)&&decide (mxL a l-mnL a l<=100)&&decide (-200<=mnL a l)&&decide (mxL a l<=200)&&decide (D.length<=300)
def p72 (L:Nat) (hi:Int) (t:TbS) (q:Ask4) (v:Sh):Bool:=p91 t q v&&if q.d=L/\q.k<=hi then(match duF (iw t) L q.k q.h q.f with
 |none=>false
 |some D=>eO v D) else true
theorem wS:iy 2 6 (p72 2 6)=true:=by ac_nf
theorem wT:iy 3 6 (p72 3 6)=true:=by ac_nf
theorem wU:iy 4 6 (p72 4 6)=true:=by ac_nf
theorem wV:iy 5 3 (p72 5 1)=true:=by ac_nf
def OkP (D:Pw):Prop:=(D.map (·.1)).Nodup/\∀x∈D,∃p:Int,x.1= .inl p
theorem OkP.set {D:Pw} (h:OkP D) (p v:Int):OkP (bT D (.inl p) v):=⟨HX h.1,λx hx=>(wp hx).elim (h.2 x) λe=>⟨p,by rw[e]⟩⟩
def OkP.nil:OkP []:=⟨List.nodup_nil,λ_ h=>nomatch h⟩
theorem p7 (k:Key) (v:Int):∀R:Pw,R.length<=(bT R k v).length/\(bT R k v).length<=R.length+1
 |[]=>by simp[bT]
 |(a,b)::r=>by
  have:=p7 k v r;unfold bT;split
  .simp
  .simp only[AZ];lia
theorem p8 {β:Type}{f:Pw->β->Pw} (h:∀Wq x,Wq.length<=(f Wq x).length):∀(l:P' β) (Wq:Pw),Wq.length<=(l.foldl f Wq).length
 |[],Wq=>A8 _
 |x::l,Wq=>As (h Wq x) (p8 h l (f Wq x))
theorem p9 {β:Type}{f:Pw->β->Pw} (h:∀Wq x,Wq.length<=(f Wq x).length) (l:P' β) (Wq:Pw) (i:Nat):((l.take i).foldl f Wq).length<=(l.foldl f Wq).length:=by
 conv=>rhs;rw[<-Bn i l]
 rw[BP];exact p8 h _ _
theorem wW {β:Type}{f:Pw->β->Pw} (h:∀Wq x,OkP Wq->OkP (f Wq x)):∀(l:P' β) {Wq:Pw},OkP Wq->OkP (l.foldl f Wq)
 |[],Wq,k=>k
 |x::l,Wq,k=>wW h l (h Wq x k)
def qc (Wq:Pw) (p v:Int):Wq.length<=(adS Wq p v).length:=(p7 _ _ Wq).1
def Iz (p v w:Int) (Wq:Pw) (m:Nat):Wq.length<=(du p v w Wq m).length:=p8 (λWq (j:Nat)=>qc Wq _ _) _ _
theorem IA (p v w:Int) (Wq:Pw) (h:i<=m):(du p v w Wq i).length<=(du p v w Wq m).length:=by
 have:=p9 (f:=λWq (j:Nat)=>adS Wq (p+1-w+2*(j:Int)) v) (λWq j=>qc Wq _ _) (List.range m) Wq i
 rwa [List.take_range,Cj h] at this
theorem wX (s:Sh) (n:Int):∀m,(dr s n m).length<=m
 |0=>A8 _
 |m+1=>by
  unfold dr;rw[Az,BP];have:=(p7 (.inl (s.1+(m:Int))) (n*s.2.getD m 0) (dr s n m)).2;have:=wX s n m;show(bT (dr s n m) (.inl (s.1+(m:Int))) (n*s.2.getD m 0)).length<=m+1;lia
def wY (s:Sh) (n:Int) (m:Nat):OkP (dr s n m):=wW (λWq (i:Nat) k=>k.set _ _) _ OkP.nil
theorem iC {β:Type}{f:β->Nat->β}{o:β}:(List.range (i+1)).foldl f o=f ((List.range i).foldl f o) i:=by
 rw[Az,BP];rfl
def IB {n:Int}:dr s n (m+1)=bT (dr s n m) (.inl (s.1+(m:Int))) (n*s.2.getD m 0):=iC
theorem jJ {α β:Type}{f:Qc β->α->Qc β} (hn:∀x,f none x=none) {l:P' α}{o:Qc β}{E:β} (h:l.foldl f o=some E) (i:Nat):∃D,(l.take i).foldl f o=some D:=by
 rw[<-Bn i l,BP] at h;cases e:(l.take i).foldl f o with
 |some D=>exact⟨D,rfl⟩
 |none=>
  rw[e] at h;have:∀l:P' α,l.foldl f none=none:=λl=>by
   induction l with
   |nil=>rfl
   |cons x l ih=>rw[Bj,hn,ih]
  rw[this] at h;cases h
theorem jK {α β:Type}{f:β->α->β}{l:P' α}{o:β}{x:α} (h:l[i]? =some x):(l.take (i+1)).foldl f o=f ((l.take i).foldl f o) x:=by
 rw[AY,h,BP];rfl
theorem IC {β:Type}{f:Qc β->Nat->Qc β} (hn:∀x,f none x=none) {o:Qc β}{E:β} (h:(List.range n).foldl f o=some E) (hi:i<=n):∃D,(List.range i).foldl f o=some D:=by
 have:=jJ hn h i
 rwa [List.take_range,Cj hi] at this
theorem wZ:∀{a b:P' Int},leB a b=true->Le a b
 |[],[],_=>trivial
 |x::a,y::b,h=>by
  unfold leB at h;simp only[AD,Af] at h;exact⟨h.1.1,h.1.2,wZ h.2⟩
 |[],_::_,h=>nomatch h
 |_::_,[],h=>nomatch h
def f72 (d k:Nat):Bool:=okB d k&&(cz d k).all (λx=>jE d x&&mkB d x&&p6 d x)&&decide ((cz d k).length<=1000)
def Fl (d k:Nat):Prop:=f72 d k=true/\sDr d k=true/\(cz d k).foldl (λt x=>aW t (fq d x)) zer=v91 d k
def a72 (d k:Nat):Bool:=f72 d k&&sDr d k&&decide ((cz d k).foldl (λt x=>aW t (fq d x)) zer=v91 d k)
theorem ID:((List.range 7).all (a72 1))=true:=by ac_nf
theorem IE:((List.range 7).all (a72 2))=true:=by ac_nf
theorem IF:((List.range 7).all (a72 3))=true:=by ac_nf
theorem IG:((List.range 7).all (a72 4))=true:=by ac_nf
theorem IH:((List.range 3).all (a72 5))=true:=by ac_nf
theorem II:f72 5 3=true:=by ac_nf
theorem IJ:sDr 5 3=true:=by ac_nf
theorem IL:(cz 5 3).foldl (λt x=>aW t (fq 5 x)) zer=v91 5 3:=by ac_nf
theorem w4 {k:Nat} (h:Wide d k):Fl d k:=by
 unfold Wide at h;have go:∀{m n:Nat},((List.range n).all (a72 m))=true->∀{k},k<n->Fl m k:=λh k hk=>by
  have:=Ao.mp h k (Ag.mpr hk);unfold a72 at this;simp only[AD,Af] at this;exact⟨this.1.1,this.1.2,this.2⟩
 have hd:d=1\/d=2\/d=3\/d=4\/(d=5/\k<3)\/(d=5/\k=3):=by lia
 rcases hd with rfl|rfl|rfl|rfl|⟨rfl,hk⟩|⟨rfl,rfl⟩
 .exact go ID (by lia)
 .exact go IE (by lia)
 .exact go IF (by lia)
 .exact go IG (by lia)
 .exact go IH hk
 .exact⟨II,IJ,IL⟩
theorem IM {k:Nat} (h:Wide d k):(okB d k=true/\(cz d k).length<=1000/\sDr d k=true)/\(∀x∈cz d k,(jE d x=true/\mkB d x=true)/\p6 d x=true):=by
 obtain⟨a,b,_⟩:=w4 h;unfold f72 at a;simp only[AD,Af,Ao] at a;exact⟨⟨a.1.1,a.2,b⟩,a.1.2⟩
theorem w5 (a:AskOk L q) (d2:2<=q.d) (k0:0<=q.k) (hk:q.k<=KL L):gdS q/\p91 [] q (sF q)=true:=by
 have dL:=a.dL;have L5:=a.L5;have go:∀{L:Nat}{K hi:Int}{q:Ask4}{t:TbS},p72 L hi t q (sF q)=true->p91 [] q (sF q)=true:=λh=>by
  unfold p72 at h;rw[AD] at h;exact h.1
 have hL:L=2\/L=3\/L=4\/L=5:=by lia
 rcases hL with rfl|rfl|rfl|rfl
 .obtain⟨t,_,h⟩:=fS wS;exact(h q a d2 k0 hk).imp_right (go (L:=2) (K:=0))
 .obtain⟨t,_,h⟩:=fS wT;exact(h q a d2 k0 hk).imp_right (go (L:=3) (K:=0))
 .obtain⟨t,_,h⟩:=fS wU;exact(h q a d2 k0 hk).imp_right (go (L:=4) (K:=0))
 .obtain⟨t,_,h⟩:=fS wV;exact(h q a d2 k0 hk).imp_right (go (L:=5) (K:=0))
def DuE (d k:Nat) (h f:P' Int) (D:Pw):Prop:=∃S:Ask4->Qc Sh,(∀q v,S q=some v->v=sF q)/\duF S d k h f=some D
theorem IN {k:Nat}{hh ff:P' Int} (hw:Wide d k) (d2:2<=d) (hk:d<5\/k<2) (a:AskOk d ⟨d,k,hh,ff⟩):∃D,DuE d k hh ff D/\eO (sF ⟨d,k,hh,ff⟩) D=true:=by
 have go:∀{hi:Int}{t:TbS}{d:Nat},(k:Int)<=hi->gG t->p72 d hi t ⟨d,k,hh,ff⟩ (sF ⟨d,k,hh,ff⟩)=true->∃D,DuE d k hh ff D/\eO (sF ⟨d,k,hh,ff⟩) D=true:=fun{hi t d} h ht e=>by
  unfold p72 at e;rw[AD,AB ⟨rfl,h⟩] at e;have e:=e.2;cases c:duF (iw t) d (k:Int) hh ff with
  |none=>rw[c] at e;cases e
  |some D=>rw[c] at e;exact⟨D,⟨iw t,λq v=>wK ht,c⟩,e⟩
 have n2:∀n:Nat,2<=n->(2:Int)<=(n:Int):=λn h=>by lia
 unfold Wide at hw;have hL:d=2\/d=3\/d=4\/d=5:=by lia
 have k0:(0:Int)<=(k:Int):=by lia
 rcases hL with rfl|rfl|rfl|rfl
 .obtain⟨t,ht,h⟩:=fS wS;exact go (hi:=6) (by lia) ht (h _ a (n2 2 (by decide)) k0 (by show(k:Int)<=6;lia)).2
 .obtain⟨t,ht,h⟩:=fS wT;exact go (hi:=6) (by lia) ht (h _ a (n2 3 (by decide)) k0 (by show(k:Int)<=6;lia)).2
 .obtain⟨t,ht,h⟩:=fS wU;exact go (hi:=6) (by lia) ht (h _ a (n2 4 (by decide)) k0 (by show(k:Int)<=6;lia)).2
 .obtain⟨t,ht,h⟩:=fS wV;exact go (hi:=1) (by lia) ht (h _ a (n2 5 (by decide)) k0 (by show(k:Int)<=3;lia)).2
def dE1 (k:Nat):Pw:=if k=0 then [(.inl 0,1)] else []
theorem du1 {k:Nat}{f:P' Int}:eO (sF ⟨1,k,h,f⟩) (dE1 k)=true:=by
 rw[lQ (.inl rfl)];unfold dE1;by_cases e:k=0
 .subst e;show eO (ofN 1) [(.inl 0,1)]=true;ac_nf
 .rw [A6 e];show eO (ofN (if(k:Int)=0 then 1 else 0)) []=true;rw[A6 (by lia)];ac_nf
theorem IP:∀k:Nat,k<7->sF ⟨1,(k:Int),br 1 [],br 1 [1]⟩=v91 1 k:=by ac_nf
theorem IQ (d:Nat):br d [(d:Int)]=(d:Int)::List.replicate ((br d [(d:Int)]).length-1) 0:=by
 unfold br;simp
theorem IR {k:Nat} (h:Wide d k) (a:AskOk d ⟨d,k,br d [],br d [(d:Int)]⟩):sF ⟨d,k,br d [],br d [(d:Int)]⟩=v91 d k:=by
 unfold Wide at h;by_cases d1:d=1
 .subst d1;exact IP k (by lia)
 .have:=(w5 a (by show(2:Int)<=(d:Int);lia) (by show(0:Int)<=(k:Int);lia) (by show(k:Int)<=KL d;unfold KL;split<;>lia)).2
  unfold p91 at this;rw[AB (IQ d)] at this;exact Ar this
def IS (a:AskOk L q):sF (cD q)=sF q:=wR a
theorem w6:∀{l:P' Int}{a:Int},mnL a l<=a/\(∀x∈l,mnL a l<=x)/\mnL a l∈a::l
 |[],a=>⟨Bf _,(λ_ h=>nomatch h),AS⟩
 |y::l,a=>by
  have e:mnL a (y::l)=mnL (if y<a then y else a) l:=rfl;obtain⟨h1,h2,h3⟩:=w6 (l:=l) (a:=if y<a then y else a);rw[e];have h4:mnL (if y<a then y else a) l<=a/\mnL (if y<a then y else a) l<=y:=by
   by_cases c:y<a
   .rw [AB c] at h1⊢;lia
   .rw [A6 c] at h1⊢;lia
  refine⟨h4.1,λx hx=> ?_, ?_⟩
  .rcases AM.mp hx with rfl|hx
   .exact h4.2
   .exact h2 x hx
  .rcases AM.mp h3 with h|h
   .rw [h];split
    .exact AN _ AS
    .exact AS
   .exact AN _ (AN _ h)
theorem w8:∀{l:P' Int}{a:Int},a<=mxL a l/\(∀x∈l,x<=mxL a l)/\mxL a l∈a::l
 |[],a=>⟨Bf _,(λ_ h=>nomatch h),AS⟩
 |y::l,a=>by
  have e:mxL a (y::l)=mxL (if a<y then y else a) l:=rfl;obtain⟨h1,h2,h3⟩:=w8 (l:=l) (a:=if a<y then y else a);rw[e];have h4:a<=mxL (if a<y then y else a) l/\y<=mxL (if a<y then y else a) l:=by
   by_cases c:a<y
   .rw [AB c] at h1⊢;lia
   .rw [A6 c] at h1⊢;lia
  refine⟨h4.1,λx hx=> ?_, ?_⟩
  .rcases AM.mp hx with rfl|hx
   .exact h4.2
   .exact h2 x hx
  .rcases AM.mp h3 with h|h
   .rw [h];split
    .exact AN _ AS
    .exact AS
   .exact AN _ (AN _ h)
theorem IT {a:Int} (p:zs.Perm (a::l)) (s:∀i j,i<j->j<zs.length->zs.getD i 0<=zs.getD j 0):∃n,zs.length=n+1/\zs.getD 0 0=mnL a l/\zs.getD n 0=mxL a l/\mnL a l<=mxL a l:=by
 have hl:zs.length=l.length+1:=p.length_eq;obtain⟨m1,m2,m3⟩:=w6 (l:=l) (a:=a);obtain⟨n1,n2,n3⟩:=w8 (l:=l) (a:=a);have bo:∀i,i<zs.length->zs.getD i 0∈a::l:=λi hi=>p.mem_iff.mp (by rw[A4,A2 hi];exact List.getElem_mem hi);have w9:∀x∈a::l,∃i,i<zs.length/\zs.getD i 0=x:=λx hx=>by
  obtain⟨i,hi,e⟩:=C8.mp (p.mem_iff.mpr hx);exact⟨i,hi,by rw[A4,A2 hi];exact e⟩
 have le1:∀x∈a::l,mnL a l<=x/\x<=mxL a l:=λx hx=>by
  rcases AM.mp hx with rfl|hx
  .exact⟨m1,n1⟩
  .exact⟨m2 x hx,n2 x hx⟩
 refine⟨l.length,hl, ?_, ?_,by lia⟩
 .obtain⟨i,hi,e⟩:=w9 _ m3;have a1:=(le1 _ (bo 0 (by lia))).1;by_cases h:i=0
  .rw [<-h,e]
  .have:=s 0 i (by lia) hi;lia
 .obtain⟨i,hi,e⟩:=w9 _ n3;have a1:=(le1 _ (bo l.length (by lia))).2;by_cases h:i=l.length
  .rw [<-h,e]
  .have:=s i l.length (by lia) (by lia);lia
inductive spCell (K:W.Frag) (vs:List V) (H:Hp) (Q:VK) (E':XK):Prop
 |mk (a:Addr) (ns:List Int) (k:Int):vs=[.ref a, .int k]->SqL K H a (ns.map V.int)->0<=k->(∀z,Q (.int z) H)->spCell K vs H Q E'
inductive spNumber (K:W.Frag) (vs:List V) (H:Hp) (Q:VK) (E':XK):Prop
 |mk (a:Addr) (ns:List Int) (k:Int):vs=[.ref a, .int k]->SqL K H a (ns.map V.int)->0<=k->k<=100000->(∀z,0<=z->Q (.int z) H)->spNumber K vs H Q E'
theorem xa (h:i<ks.length):atI (ks.map V.int) (i:Int)=some (.int (ks.getD i 0)):=j8 (by rw[AE,A2 h];simp[List.getD,h])
def But (b:P5) (H H':Hp):Prop:=∀c o,H c=some o->c≠b->H' c=some o
theorem IU (h:i<=ks.length):cr (ks.map V.int) (some (i:Int)) none=(ks.drop i).map V.int:=by
 unfold cr;rw[HT.sIx_nat,HT.sIx_none,A1,Cj h,List.map_drop,CK (by simp)]
inductive spWln (K:W.Frag) (vs:List V) (H:Hp) (Q:VK) (E':XK):Prop
 |mk (a:Addr) (ns:List Int):vs=[.ref a]->SqL K H a (ns.map V.int)->ns.length<=1000->(∀(l:Addr) (ks:List Int) (b:Nat) (H':Hp),ag H H'->H l=none->H' l=some (.lst (ks.map V.int))->ns=ks++List.replicate b 0->(ks=[]\/ks.getLast? ≠some 0)->Q (.ref l) H')->spWln K vs H Q E'
def jL (H:Hp) (Q:VK) (P:Int->P' Int->Prop):Prop:=∀(t l:P5) (lo:Int) (zs:P' Int) (H':Hp),ag H H'->H l=none->H' t=some (.tup [.int lo, .ref l])->H' l=some (.lst (zs.map V.int))->P lo zs->Q (.ref t) H'
inductive spShade (K:W.Frag) (vs:List V) (H:Hp) (Q:VK) (E':XK):Prop
 |mk (KG:Int) (a:Addr) (ns:List Int):vs=[.int KG, .ref a]->SqL K H a (ns.map V.int)->ns.length<=1000->jL H Q (Tr KG ns)->spShade K vs H Q E'
theorem jL.mk {P:Int->P' Int->Prop} (k:jL H Q P) (s:ag H H2) {l t:P5}(nl:H2 l=none) (nt:(upd H2 l (.lst (zs.map V.int))) t=none) (p:P lo zs):Q (.ref t) (upd (upd H2 l (.lst (zs.map V.int))) t (.tup [.int lo, .ref l])):=by
 refine k t l lo zs _ ((s.put (s.free nl)).put (s.free (ag.new nl|>.free nt))) (s.free nl) am ?_ p;rw[au (bF am nt),am]
def But.of_same {b:P5}(s:ag H H'):But b H H':=λc o e _=>s _ _ e
def But.trans {b:P5}(s:But b H H') (t:But b H' H''):But b H H'':=λc o e n=>t c o (s c o e n) n
theorem But.upd {b:P5}{H:Hp}{o:HO}:But b H (L2.upd H b o):=λc u e n=>by rw[au n];exact e
theorem But.same {b:P5}(s:ag H H1) (nb:H b=none) (t:But b H1 H2):ag H H2:=λc o e=>t c o (s c o e) (by rintro rfl;rw[nb] at e;cases e)
inductive sp_law (K:W.Frag) (vs:List V) (H:Hp) (Q:VK) (E':XK):Prop
 |mk (a:Addr) (ns:List Int):vs=[.ref a]->SqL K H a (ns.map V.int)->ns.length<=63->(∀H',Q (.bl true) H')->sp_law K vs H Q E'
theorem qe {k:Nat}:cr vs none (some (k:Int))=vs.take k:=by
 unfold cr;rw[HT.sIx_nat,HT.sIx_none,List.drop_zero,Nat.sub_zero];exact List.take_eq_take_iff.mpr (by lia)
theorem xc (h:i<l.length):(l.map V.int)[i]? =some (.int (l.getD i 0)):=by
 rw[AE,A2 h];simp[List.getD,h]
theorem lT (n:Nat):(List.replicate n [V.int 0]).flatten=(List.replicate n (0:Int)).map V.int:=by
 induction n with
 |zero=>rfl
 |succ n ih=>rw[Ap,Ap,CQ,ih];rfl
inductive spList (f:List Int->List Int->List Int) (B:List Int->List Int->Prop) (K:W.Frag) (vs:List V) (H:Hp) (Q:VK) (E':XK):Prop
 |mk (a c:Addr) (xs ys:List Int):vs=[.ref a, .ref c]->SqL K H a (xs.map V.int)->SqL K H c (ys.map V.int)->xs.length<=400->ys.length<=400->B xs ys->(∀(l:Addr) (H':Hp),ag H H'->H l=none->H' l=some (.lst ((f xs ys).map V.int))->Q (.ref l) H')->spList f B K vs H Q E'
inductive spStretch (vs:List V) (H:Hp) (Q:VK) (E':XK):Prop
 |mk (w:Nat):vs=[.int w]->1<=w->w<=60->(jL H Q (λlo zs=>lo=1-(w:Int)/\zs=eE w))->spStretch vs H Q E'
inductive spTwo (B:List Int->Prop) (f:Int×List Int->Int×List Int->Int×List Int) (E':W.Frag) (vs:List V) (H:Hp) (Q:VK) (E2:XK):Prop
 |mk (t u p q:Addr) (l1 l2:Int) (z1 z2:List Int):vs=[.ref t, .ref u]->H t=some (.tup [.int l1, .ref p])->H p=some (.lst (z1.map V.int))->H u=some (.tup [.int l2, .ref q])->H q=some (.lst (z2.map V.int))->z1.length<=100->z2.length<=100->-100<=l1->l1<=100->-100<=l2->l2<=100->B z1->(jL H Q (λlo zs=>(lo,zs)=f (l1,z1) (l2,z2)))->spTwo B f E' vs H Q E2
def stD (x:P' Lf×Int):D:= .t [lfs x.1, .i x.2]
def Lok (p:Lf):Prop:=0<=p.2.1-p.1/\p.2.1-p.1<=10/\1<=p.2.2/\p.2.2<=20
inductive spBetQ (vs:List V) (H:Hp) (Q:VK) (E':XK):Prop
 |mk (i lo hi:Int):vs=[.int i, .int lo, .int hi]->lo<=i->i<=hi->Q .non H->spBetQ vs H Q E'
inductive spDegQ (vs:List V) (H:Hp) (Q:VK) (E':XK):Prop
 |mk (i:Int):vs=[.int i]->1<=i->i<=5->Q .non H->spDegQ vs H Q E'
inductive spWidQ (vs:List V) (H:Hp) (Q:VK) (E':XK):Prop
 |mk (d k:Nat):vs=[.int d, .int k]->Wide d k->Q .non H->spWidQ vs H Q E'
inductive spEndQ (vs:List V) (H:Hp) (Q:VK) (E':XK):Prop
 |mk (n:Nat) (dv:V) (ps:List Lf):vs=[.int n,dv]->1<=n->n<=5->Is H (lfs ps) dv->((∀p∈ps,Okl n p))->(∀l H',ag H H'->H l=none->H' l=some (.lst ((bH n ps).map V.int))->Q (.ref l) H')->spEndQ vs H Q E'
inductive spLost (vs:List V) (H:Hp) (Q:VK) (E':XK):Prop
 |mk (v:V) (p:Lf):vs=[v]->Is H (lf p) v->Lok p->Q (.int (cc p)) H->spLost vs H Q E'
inductive spLfr (vs:List V) (H:Hp) (Q:VK) (E':XK):Prop
 |mk (d f n:Nat) (sp:Int):vs=[.int d, .int f, .int n, .int sp]->f<=d->d<=5->n<=20->(∀l H',ag H H'->H l=none->Is H' (lfs (db f (d-f) n sp)) (.ref l)->Q (.ref l) H')->spLfr vs H Q E'
inductive spLeav (n:Nat) (E':W.Frag) (vs:List V) (H:Hp) (Q:VK) (E2:XK):Prop
 |mk (v:V) (ls:List Lf) (wt sp:Int):vs=[v, .int wt, .int sp]->Is H (lfs ls) v->((∀p∈ls,Lok p))->0<=wt->wt<n->(cy n ls wt sp).length<=1000->ls.length<=200->n<=100->(∀l H',ag H H'->H l=none->Is (nw H H') (.l ((cy n ls wt sp).map lfs)) (.ref l)->Q (.ref l) H')->spLeav n E' vs H Q E2
inductive spWith (vs:List V) (H:Hp) (Q:VK) (E':XK):Prop
 |mk (d f:Nat) (v:V) (x:List Lf×Int):vs=[.int d, .int ((f+1:Nat):Int),v, .int x.2]->f<d->d<=5->Is H (lfs x.1) v->stB d f x=true->(∀l H',ag H H'->H l=none->Is (nw H H') (.l ((dH d (f+1) x.1 x.2).map stD)) (.ref l)->Q (.ref l) H')->spWith vs H Q E'
theorem xf {n:String}:W.kitOne K (.type n) (.type n)=some true:=by
 unfold W.kitOne;simp
theorem xg {x:P' Lf×Int}(h:Is H (stD x) v):∃t u,v= .ref t/\H t=some (.tup [u, .int x.2])/\Is H (lfs x.1) u:=by
 obtain⟨t,vs,rfl,ht,hi⟩:=bP h;obtain⟨u,us,rfl,h1,h2⟩:=aR hi;obtain⟨u2,us2,rfl,h3,h4⟩:=aR h2;rw[aX h3,bQ h4] at ht;exact⟨t,u,rfl,ht,h1⟩
theorem IV {ps:P' Lf}:∀x∈ps.map bZ,x.length=3:=λx hx=>by
 obtain⟨p,_,rfl⟩:=At.mp hx;rfl
theorem xh (k:But a H H'):ag (hid H a) H':=λb o e=>by
 have hb:b≠a:=by rintro rfl;rw[Ed] at e;cases e
 rw[mP hb] at e;exact k _ _ e hb
theorem lU (h:i<=vs.length):cr vs (some (i:Int)) none=vs.drop i:=by
 unfold cr;rw[HT.sIx_nat,HT.sIx_none,Cj h,CK (by simp)]
def Snd.good {ps:P' Lf} (h:Snd d ps):g8 d ps:=⟨h.ok,h.nn⟩
theorem Snd.okl {d:Nat}{ps:P' Lf} (h:Snd d ps):∀p∈ps,Okl d p:=h.good.okl
def IW (h:∀i:Nat,0<=ns.getD i 0):0<=jb ns:=h _
theorem Snd.ends {ps:P' Lf} (h:Snd d ps) (i:Nat):0<=(bH d ps).getD i 0:=by
 rcases Bp i d with c|c
 .rw [Ht h.okl c];exact h.nn i c
 .rw [A4,CN (by rw[lm d ps h.okl];exact c)];exact Bf _
inductive spSou (vs:List V) (H:Hp) (Q:VK) (E':XK):Prop
 |mk (n:Nat) (dv:V) (ps:List Lf):vs=[.int n,dv]->1<=n->n<=5->Is H (lfs ps) dv->Snd n ps->(∀H',ag H H'->Q (.bl true) H')->spSou vs H Q E'
inductive spNeS (vs:List V) (H:Hp) (Q:VK) (E':XK):Prop
 |mk (n:Nat) (dv:V) (ps:List Lf):vs=[.int n,dv]->1<=n->n<=5->Is H (lfs ps) dv->Snd n ps->(∀H',ag H H'->Q .non H')->spNeS vs H Q E'
inductive spEnM (vs:List V) (H:Hp) (Q:VK) (E':XK):Prop
 |mk (n:Nat) (dv:V) (ps:List Lf):vs=[.int n,dv]->1<=n->n<=5->Is H (lfs ps) dv->Snd n ps->(fh n (bH n ps)).length<=20->(∀l H',ag H H'->H l=none->Is H' (lfs (fh n (bH n ps))) (.ref l)->Q (.ref l) H')->spEnM vs H Q E'
theorem xk {l:P5}{xs:P' V}{qs:P' Lf}(s:ag H H') (hl:H l=some (.lst xs)) (h:Iss H (qs.map lf) vs):Iss (upd H' l o) (qs.map lf) vs:=
 lp (λa ys e=>by rw[au (by rintro rfl;rw[hl] at e;cases e)];exact s _ _ e) h
theorem IX {q:Lf}(h:Is H (lf p) v) (k:Is H (lf q) v):p=q:=by
 obtain⟨a,rfl,ha⟩:=fN h;obtain⟨b,e,hb⟩:=fN k;cases e;rw[ha] at hb;obtain⟨a1,a2,a3⟩:=p;obtain⟨b1,b2,b3⟩:=q;simp at hb;simp[hb]
theorem IY {wt:P' Lf}{m:Lf}(h:Iss H (wt.map lf) Oe) (k:Is H (lf m) v):EQ K H 1 Oe v (λj=>decide (wt.getD j (0,0,0)=m)):=by
 have bo:∀(j:Nat) z,Oe[j]? =some z->Is H (lf (wt.getD j (0,0,0))) z:=λj z hz=>by
  obtain⟨d',M5,h1⟩:=bA h hz;rw[List.getD,M5];exact h1
 refine⟨by decide,λj z hz=>⟨?_,u7 (bo j z hz) k⟩,λi j z hi hj=> ?_⟩
 .obtain⟨a,e,_⟩:=fN (bo j z hz);exact⟨a,e⟩
 .show decide (wt.getD i (0,0,0)=m)=decide (wt.getD j (0,0,0)=m);rw[IX (bo i z hi) (bo j z hj)]
def ti (t:P' Int):D:=tI t
inductive spCho (vs:List V) (H:Hp) (Q:VK) (E':XK):Prop
 |mk (n:Int) (k:Nat):vs=[.int n, .int k]->(k:Int)<=n->n<=15->Q (.int (chF n k)) H->spCho vs H Q E'
inductive spWm (vs:List V) (H:Hp) (Q:VK) (E':XK):Prop
 |mk (v:V) (t:List Int) (p:Nat) (m:Int):vs=[v, .int p, .int m]->Is H (tI t) v->p<t.length->t.length<=5->(∀u H',ag H H'->Is H' (tI (wmF t p m)) u->Q u H')->spWm vs H Q E'
def IZ (t:P' Int) (a:Nat):Prop:=t.length<=5/\(∀i:Nat,0<=t.getD i 0)/\t.sum+(a:Int)<=15
inductive spPB (n:Nat) (E':W.Frag) (vs:List V) (H:Hp) (Q:VK) (E2:XK):Prop
 |mk (v:V) (t:List Int) (p g a:Nat):vs=[v, .int p, .int ((p:Int)+(g:Int)), .int a]->Is H (tI t) v->g<n->n<=6->p+g<t.length->IZ t a->(∀l H',ag H H'->H l=none->Is H' (.l ((pbF g t p a).map prD)) (.ref l)->Q (.ref l) H')->spPB n E' vs H Q E2
def xm (d:Nat) (mk:P' Lf):Prop:=(∀m∈mk,1<=m.1/\m.1<m.2.1/\m.2.1<=(d:Int)+1)/\mk.length<=15
inductive spHMO (vs:List V) (H:Hp) (Q:VK) (E':XK):Prop
 |mk (d:Nat) (v:V) (mk:List Lf):vs=[.int d,v]->1<=d->d<=5->Is H (lfs mk) v->xm d mk->ssB (mk.map bZ)=true->(∀H',ag H H'->Q (.int (hmF d mk)) H')->spHMO vs H Q E'
theorem I9 {x:P' Lf} (h:mkB d x=true):xm d (x++fh d (bH d x))/\ssB (mkD d x)=true:=by
 unfold mkB at h;simp only[AD,Af,Ao] at h;exact⟨⟨λm hm=>⟨(h.1.1 m hm).1.1,(h.1.1 m hm).1.2,(h.1.1 m hm).2⟩,h.1.2⟩,h.2⟩
inductive spHM (vs:List V) (H:Hp) (Q:VK) (E':XK):Prop
 |mk (d:Nat) (v:V) (ps:List Lf):vs=[.int d,v]->1<=d->d<=5->Is H (lfs ps) v->Snd d ps->mkB d ps=true->(∀H',ag H H'->Q (.int (hmF d (ps++fh d (bH d ps)))) H')->spHM vs H Q E'
theorem Ja {t:P' Int}{p:Nat} (H':Hp) (vs:P' V) (h:Iss H' (t.map .i) vs):Iss H' ((t.take p).map .i) (cr vs none (some (p:Int))):=by
 rw[qe,List.map_take];exact h.take p
theorem Jb {t:P' Int}{p:Nat} (hp:p<=t.length) (H':Hp) (vs:P' V) (h:Iss H' (t.map .i) vs):Iss H' ((t.drop p).map .i) (cr vs (some (p:Int)) none):=by
 rw[lU (by rw[h.length,A1];exact hp),List.map_drop];exact h.drop p
theorem xn:∀{g:Nat}{t:P' Int}{p a:Nat},(pbF g t p a).length<=(a+1)^g
 |0,t,p,a=>by simp[pbF]
 |g+1,t,p,a=>by
  have go:∀n,n<=a+1->((List.range n).flatMap λh:Nat=>(pbF g (wmF t p (h:Int)) (p+1) (a-h)).map λx=>(x.1,chF (t.getD p 0+(h:Int)) h*x.2)).length<=n*(a+1)^g:=by
   intro n hn;induction n with
   |zero=>simp
   |succ n ih=>
    rw[ie,AC,A1];have h1:=ih (by lia);have h2:=xn (g:=g) (t:=wmF t p (n:Int)) (p:=p+1) (a:=a-n);have h3:(a-n+1)^g<=(a+1)^g:=Nat.pow_le_pow_left (by lia) g;rw[CY];lia
  have:=go (a+1) (A8 _);rw[Nat.pow_succ,Nat.mul_comm];exact this
theorem Jc {g:Nat}{t:P' Int}{p a:Nat} (hg:g<=5) (ha:a<=15):(pbF g t p a).length<=1048576:=by
 have h1:=xn (g:=g) (t:=t) (p:=p) (a:=a);have h2:(a+1)^g<=16^g:=Nat.pow_le_pow_left (by lia) g;have h3:16^g<=16^5:=C6 (by decide) hg;lia
theorem iD (h:n<=1048576):n<sizeLine:=by rw[B3];lia
def qf {t:P5}(h:H t=some (.tup [u, .int x.2])) (k:Is H (tI x.1) u):Is H (prD x) (.ref t):=bO h (ax k (ax aU aA))
theorem qg (h:Is H (prD x) v):∃t u,v= .ref t/\H t=some (.tup [u, .int x.2])/\Is H (tI x.1) u:=by
 obtain⟨t,vs,rfl,ht,hi⟩:=bP h;obtain⟨u1,us,rfl,Ld,hi⟩:=aR hi;obtain⟨u2,us,rfl,L7,hi⟩:=aR hi;rw[bQ hi,aX L7] at ht;exact⟨t,u1,rfl,ht,Ld⟩
theorem Jd (s:aF H H') {t:P' Int}(h:Is H (tI t) v):Is H' (tI t) v:=by
 obtain⟨a,rfl,ha⟩:=bY h;exact eV (s _ _ ha)
theorem lV (s:aF H H') (h:Is H (prD x) v):Is H' (prD x) v:=by
 obtain⟨a,u,rfl,ha,hu⟩:=qg h;exact qf (s _ _ ha) (Jd s hu)
theorem xo {H H':Hp} (s:aF H H'):∀{xs:P' (P' Int×Int)}{vs:P' V},Iss H (xs.map prD) vs->Iss H' (xs.map prD) vs
 |[],_,h=>by rw[bQ h];exact aA
 |x::xs,_,h=>by
  obtain⟨u,us,rfl,q,r⟩:=aR h;exact ax (lV s q) (xo s r)
theorem Je {t:P' Int}{p:Nat} (h:∀i:Nat,0<=t.getD i 0) (hs:t.sum+(r.sum:Nat)<=15) (hl:r.length<=5): -(2^64)<ce t p r/\ce t p r<2^64:=by
 obtain⟨a,b⟩:=vA (p:=p) h hs;have:(6435:Int)^r.length<=6435^5:=by
  have:r.length=0\/r.length=1\/r.length=2\/r.length=3\/r.length=4\/r.length=5:=by lia
  rcases this with e|e|e|e|e|e<;>rw[e]<;>decide
 lia
theorem Jf {wt:P' Lf}{m:Lf}(h:Iss H (wt.map lf) Oe) (k:Is H (lf m) v):nj K H 1 Oe v (λj=>decide (wt.getD j (0,0,0)=m)):=by
 obtain⟨a,b,c⟩:=IY (K:=K) h k;exact⟨a,λj z hz=>⟨(b j z hz).1,(b j z hz).2.told⟩,c⟩
theorem Jg (xs:P' Lf):(df xs).Nodup:=(pC xs).imp fun{a b} h e=>by subst e;exact lv h
theorem xp {α β:Type} (f:β->α->β) (b:β) (xs:P' α) (j:Nat) (x:α) (h:xs[j]? =some x):(xs.take (j+1)).foldl f b=f ((xs.take j).foldl f b) x:=by
 rw[AY,h,BP];rfl
theorem Jh (cnt:Lf->Nat) (m:Lf) (ms:P' Lf):TF cnt (m::ms)=ij (TF cnt ms) (m.1-1).toNat (spR (m.2.1-m.1-1).toNat (cnt m)):=by funext t;rfl
def Ji {p:Nat}{rs:P' (P' Nat)}{D:Tab}{acc:Tab} (h:D[j]? =some x):stP p rs (D.take (j+1)) acc=inP x.1 x.2 p rs (stP p rs (D.take j) acc):=xp _ _ D j x h
def Jj {d:P5}{Kv:P' (P' Key×V)}(h:H d=some (.dT Kv)):aF H (upd H d o):=(LTS.dict h).2
def rwL (t:P' Int):D:= .l (t.map .i)
def qD (q:Ask4):D:= .t [.i q.d, .i q.k,tI q.h,tI q.f]
def smD (x:Sm4):D:= .t [.i x.1,rwL x.2.1,qD x.2.2]
def kq (q:Ask4):P' (Mx Int):=[.inl q.d, .inl q.k, .inr q.h, .inr q.f]
theorem Jk {r:Ask4} (h:kq q=kq r):q=r:=by
 obtain⟨a,b,c,d⟩:=q;obtain⟨a',b',c',d'⟩:=r;unfold kq at h;simp only[Cm,Sum.inl.injEq,Sum.inr.injEq,and_true] at h;obtain⟨rfl,rfl,rfl,rfl⟩:=h;rfl
def qh (h:Is H (qD q) v):IsK H (kq q) v:=⟨rfl,h⟩
theorem cf {t:P' Int}(h:Is H (rwL t) v):∃a,v= .ref a/\H a=some (.lst (t.map V.int)):=by
 obtain⟨a,vs,rfl,ha,hi⟩:=aH h;rw[gT hi] at ha;exact⟨a,rfl,ha⟩
def bj {t:P' Int}(h:H a=some (.lst (t.map V.int))):Is H (rwL t) (.ref a):=aI h (gU t)
theorem iE {t:P' Int}(n:H0 a=none) (h:Is H (rwL t) (.ref a)):Is (nw H0 H) (rwL t) (.ref a):=by
 obtain⟨_,e,ha⟩:=cf h;cases e;exact bj (by rw[cM n];exact ha)
theorem fV (t:aF H H') (h:Is H (tI xs) v):Is H' (tI xs) v:=by
 obtain⟨a,rfl,ha⟩:=bY h;exact eV (t _ _ ha)
theorem iF {H H':Hp} (t:aF H H'):∀{ts:P' (P' Int)}{vs:P' V},Iss H (ts.map tI) vs->Iss H' (ts.map tI) vs
 |[],_,h=>by rw[bQ h];exact aA
 |p::ps,_,h=>by
  obtain⟨u,us,rfl,h1,h2⟩:=aR h;exact ax (fV t h1) (iF t h2)
theorem xq (t:aF H H') (h:Is H (qD q) v):Is H' (qD q) v:=by
 obtain⟨a,vs,rfl,ha,hi⟩:=bP h;obtain⟨u1,us,rfl,h1,hi⟩:=aR hi;obtain⟨u2,us,rfl,h2,hi⟩:=aR hi;obtain⟨u3,us,rfl,h3,hi⟩:=aR hi;obtain⟨u4,us,rfl,h4,hi⟩:=aR hi;rw[bQ hi,aX h1,aX h2] at ha;exact bO (t _ _ ha) (ax aU (ax aU (ax (fV t h3) (ax (fV t h4) aA))))
def dN (t:P' Int):Prop:=Nn t/\t.length<=5/\(t=[]\/∃s x,t=s++[x]/\0<x)
inductive spRwL (vs:List V) (H:Hp) (Q:VK) (E':XK):Prop
 |mk (v:V) (t:List Int):vs=[v]->Is H (rwL t) v->t.length<=5->(∀H',ag H H'->Q (.int (wtF t)) H')->spRwL vs H Q E'
inductive spRwT (vs:List V) (H:Hp) (Q:VK) (E':XK):Prop
 |mk (v:V) (t:List Int):vs=[v]->Is H (tI t) v->t.length<=5->(∀H',ag H H'->Q (.int (wtF t)) H')->spRwT vs H Q E'
inductive spFil (vs:List V) (H:Hp) (Q:VK) (E':XK):Prop
 |mk (v:V) (t:List Int) (n:Nat):vs=[v, .int n]->Is H (rwL t) v->t.length<=n->n<=5->(∀u H',ag H H'->Is H' (tI (br n t)) u->Q u H')->spFil vs H Q E'
inductive spRwn (vs:List V) (H:Hp) (Q:VK) (E':XK):Prop
 |mk (v:V) (t:List Int):vs=[v]->Is H (tI t) v->Nn t->t.sum<=5->t.length<=5->(∀l H',ag H H'->H l=none->Is H' (.l ((rwF t).map tI)) (.ref l)->Q (.ref l) H')->spRwn vs H Q E'
inductive spRby (n:Nat) (E':W.Frag) (vs:List V) (H:Hp) (Q:VK) (E2:XK):Prop
 |mk (v:V) (t:List Int) (wt:Int) (fi:Nat):vs=[v, .int wt, .int fi]->Is H (tI t) v->Nn t->t.length<=5->(wt-wtF t).toNat+1<=n->n<=8->-1000<=wt->wt<=1000->-1000<=wtF t->wtF t<=1000->fi<=5->(∀l H',ag H H'->H l=none->Is H' (.l ((rbF n t wt fi).map tI)) (.ref l)->Q (.ref l) H')->spRby n E' vs H Q E2
inductive spChs (vs:List V) (H:Hp) (Q:VK) (E':XK):Prop
 |mk (v1 v2:V) (b a:List Int):vs=[v1,v2]->Is H (tI b) v1->Is H (tI a) v2->Le a b->b.sum<=5->(∀H',ag H H'->Q (.int (b8 b a)) H')->spChs vs H Q E'
inductive spWgn (vs:List V) (H:Hp) (Q:VK) (E':XK):Prop
 |mk (v1 v2:V) (f fr:List Int):vs=[v1,v2]->Is H (tI f) v1->Is H (tI fr) v2->Le f fr->fr.length<=5->fr.sum<=5->(∀l H',ag H H'->H l=none->Is H' (rwL (wgF f fr)) (.ref l)->Q (.ref l) H')->spWgn vs H Q E'
inductive spOne (g:Ask4->List Sm4) (vs:List V) (H:Hp) (Q:VK) (E':XK):Prop
 |mk (v1 v2:V) (q:Ask4) (L:Nat):vs=[.int q.d, .int q.k,v1,v2]->Is H (tI q.h) v1->Is H (tI q.f) v2->AskOk L q->2<=q.d->(∀l H',ag H H'->H l=none->Is (nw H H') (.l ((g q).map smD)) (.ref l)->Q (.ref l) H')->spOne g vs H Q E'
inductive spSms (vs:List V) (H:Hp) (Q:VK) (E':XK):Prop
 |mk (v:V) (q:Ask4) (L:Nat):vs=[v]->Is H (qD q) v->AskOk L q->2<=q.d->(∀l H',ag H H'->H l=none->Is (nw H H') (.l ((b9 q).map smD)) (.ref l)->Q (.ref l) H')->spSms vs H Q E'
theorem xr:∀{a b:P' Int}{k:Int},Le a b->((wgG k a b).length:Int)=b.sum-a.sum
 |[],[],_,_=>rfl
 |x::a,y::b,k,h=>by
  show((List.replicate (y-x).toNat k++wgG (k+1) a b).length:Int)=_;have:=xr (k:=k+1) h.2.2;have h1:=h.2.1;rw[AC,Ad,B9,B9];lia
def Jl (L:Nat):P' (P' (Mx Int)):=(List.range 6).flatMap λd:Nat=>(List.range 7).flatMap λk:Nat=>(cR 1 L 5).flatMap λh=>(cR 1 L 5).map λf=>kq ⟨(d:Int),(k:Int),h,f⟩
theorem jM {α β:Type}{g:α->P' β}{m:Nat}:∀{xs:P' α},(∀x∈xs,(g x).length<=m)->(xs.flatMap g).length<=xs.length*m
 |[],_=>AJ _
 |x::xs,h=>by
  rw[BI,AC,AZ,CY];have:=jM (xs:=xs) λy hy=>h y (AN _ hy);have:=h x AS;lia
theorem Jm (h:L<=5):(Jl L).length<=15162:=by
 have r:(cR 1 L 5).length<=19:=by
  have h1:=HW;unfold wk at h1;rw[Ao] at h1;simpa using h1 L (Ag.mpr (by lia))
 have e1:∀(d k:Nat) (h':P' Int),((cR 1 L 5).map λf=>kq ⟨(d:Int),(k:Int),h',f⟩).length<=19:=λd k h'=>by rw[A1];exact r
 have e2:∀(d k:Nat),((cR 1 L 5).flatMap λh=>(cR 1 L 5).map λf=>kq ⟨(d:Int),(k:Int),h,f⟩).length<=361:=λd k=>As (jM λh' _=>e1 d k h') (by lia);have e3:∀d:Nat,((List.range 7).flatMap λk:Nat=>(cR 1 L 5).flatMap λh=>(cR 1 L 5).map λf=>kq ⟨(d:Int),(k:Int),h,f⟩).length<=2527:=λd=>by
  have:=jM (xs:=List.range 7) (m:=361) λk _=>e2 d k;rw[B6] at this;exact this
 have:=jM (xs:=List.range 6) (m:=2527) λd _=>e3 d;rw[B6] at this;exact this
theorem Jn {ks:P' (P' (Mx Int))} (nd:ks.Nodup) (h:∀x∈ks,∃q,AskOk L q/\0<=q.k/\x=kq q) (h5:L<=5):ks.length<=15162:=by
 refine As (wn nd λx hx=> ?_) (Jm h5);obtain⟨q,a,k0,rfl⟩:=h x hx;have wh:=bJ (i:=1) (by decide) a.hn;have wf:=bJ (i:=1) (by decide) a.fn;have w:=a.wt;have d1:=a.d1;have dL:=a.dL;have k6:=a.k6;unfold wtF at w;refine B2.mpr ⟨q.d.toNat,Ag.mpr (by lia),B2.mpr ⟨q.k.toNat,Ag.mpr (by lia),B2.mpr ⟨q.h,jF (by decide) a.hl a.hn (by show wtG 1 q.h<=5;lia),At.mpr ⟨q.f,jF (by decide) a.fl a.fn (by show wtG 1 q.f<=5;lia), ?_⟩⟩⟩⟩;show kq ⟨((q.d.toNat:Nat):Int),((q.k.toNat:Nat):Int),q.h,q.f⟩=kq q;rw[show((q.d.toNat:Nat):Int)=q.d by lia,show((q.k.toNat:Nat):Int)=q.k by lia]
theorem eP {w:P8}(d:DM P w H a Kv) (k:But a H H'):LTS H H':=by
 obtain⟨_,_,xs,_,e⟩:=d;exact⟨λb ys h=>k _ _ h (by rintro rfl;rw[e] at h;cases h),λb ys h=>k _ _ h (by rintro rfl;rw[e] at h;cases h)⟩
inductive spDrP (vs:List V) (H:Hp) (Q:VK) (E':XK):Prop
 |mk (d k:Nat):vs=[.int d, .int k]->Wide d k->(okB d k=true/\(cz d k).length<=1000/\sDr d k=true)->(∀(L:List (List Lf)) l H',L.Perm (cz d k)->ag H H'->H l=none->Is (nw H H') (.l (L.map lfs)) (.ref l)->Q (.ref l) H')->spDrP vs H Q E'
theorem Jo {α:Type}{f:P' α->D}{lt:P' α->P' α->Bool}{acc:P5}{L:P' (P' α)}(Ky:H acc=some (.lst vs)) (OK:Iss H (L.map f) vs) (hf:∀x v,Is H (f x) v->∃a ys,v= .ref a/\H a=some (.lst ys)) (Pc:∀x y v w,Is H (f x) v->Is H (f y) w->Ask K H v w (lt x y)) (hl:L.length<=1000) (hs:p0 (λi j=>L[i]?.bind λx=>L[j]?.map λy=>lt x y) L.length=true) (kk:∀(p:P' Nat) q,p.Perm (List.range L.length)->H q=none->Q (.ref q) (upd H q (.lst (p.map λi=>vs.getD i .non)))):tF K [.ref acc] H Q:=by
 have Of:vs.length=L.length:=by rw[OK.length,A1]
 unfold p0 at hs;by_cases KD:L.length<2
 .refine .inl ⟨acc,vs,rfl,SqL.of Ky,by lia,λq nq=> ?_⟩;have:=kk (List.range L.length) q (List.Perm.refl _) nq;rw[<-Of,show(List.range vs.length).map (λi=>vs.getD i V.non)=vs from Ca (by simp) λi h1 h2=>by simp[List.getD,h2]] at this;exact this
 .rw [Am KD,Bool.false_or] at hs;cases ho:gj (λi j=>L[i]?.bind λx=>L[j]?.map λy=>lt x y) L.length with
  |none=>rw[ho] at hs;cases hs
  |some p=>
   rw[ho] at hs;simp only[AD,Af] at hs;have pp:=List.isPerm_iff.mp hs.2;refine .inr ⟨acc,vs,_,p,rfl,SqL.of Ky,by lia,by lia,hs.1,λr M7=> ?_,λi j bb hb=> ?_,by rw[Of];exact ho,λi hi=>by rw[Of];exact Ag.mp (pp.mem_iff.mp hi),λq nq=>kk p.toList q pp nq⟩
   .obtain⟨i,hi,rfl⟩:=C8.mp M7;obtain⟨w,_,hy⟩:=bA OK (A2 hi);obtain⟨a,ys,e1,e2⟩:=hf _ _ hy;exact⟨a,ys,e1,SqL.of e2⟩
   .obtain⟨w1,h1,hb⟩:=A7.mp hb;obtain⟨w2,h2,rfl⟩:=AA.mp hb;obtain⟨x,hx,KW⟩:=OK.get (j:=i) (x:=f w1) (by rw[AE,h1];rfl);obtain⟨y,hy,LZ⟩:=OK.get (j:=j) (x:=f w2) (by rw[AE,h2];rfl);exact⟨x,y,hx,hy,Pc _ _ _ _ KW LZ⟩
theorem Jp {α:Type}{L:P' (P' α)}{p:P' Nat} (pp:p.Perm (List.range L.length)):(p.map λi=>L.getD i []).Perm L:=by
 have:=pp.map λi=>L.getD i [];rw[show(List.range L.length).map (λi=>L.getD i [])=L from Ca (by simp) λi h1 h2=>by simp[List.getD,h2]] at this;exact this
theorem xt {α:Type}{f:α->D} (z:α) {H:Hp}{Wq:P' α}{vs:P' V} (h:Iss H (Wq.map f) vs):∀(l:P' Nat),(∀i∈l,i<Wq.length)->Iss H ((l.map λi=>Wq.getD i z).map f) (l.map λi=>vs.getD i .non)
 |[],_=>aA
 |i::l,hl=>by
  have hi:i<Wq.length:=hl i (by simp);have hr:i<vs.length:=by rw[h.length,A1];exact hi
  refine ax ?_ (xt z h l λj hj=>hl j (by simp[hj]));obtain⟨d,hd,h1⟩:=h.of_get (A2 hr);rw[AE,A2 hi] at hd;cases hd;show Is H (f (Wq.getD i z)) (vs.getD i .non);rw[A4,A4,A2 hi,A2 hr];exact h1
def xu (s:ag H0 H):aF H (nw H0 H):=λa xs e=>lr s e
def shD (s:Sh):D:= .t [.i s.1, .l (s.2.map .i)]
theorem jN (h:Is H (shD s) v):∃t p,v= .ref t/\H t=some (.tup [.int s.1, .ref p])/\H p=some (.lst (s.2.map V.int)):=by
 obtain⟨t,vs,rfl,ht,hi⟩:=bP h;obtain⟨u1,us,rfl,Ld,hi⟩:=aR hi;obtain⟨u2,us,rfl,L7,hi⟩:=aR hi;rw[bQ hi,aX Ld] at ht;obtain⟨p,xs,rfl,hp,hx⟩:=aH L7;rw[gT hx] at hp;exact⟨t,p,rfl,ht,hp⟩
def iG {t p:P5} (ht:H t=some (.tup [.int s.1, .ref p])) (hp:H p=some (.lst (s.2.map V.int))):Is H (shD s) (.ref t):=bO ht (ax aU (ax (aI hp (gU _)) aA))
def Ent (z:P' Int):Prop:=∀x∈z,-(10^18)<=x/\x<=10^18
inductive spMx (B:List Int->Prop) (f:Sh->Sh->Sh) (vs:List V) (H:Hp) (Q:VK) (E':XK):Prop
 |mk (v u:V) (x y:Sh):vs=[v,u]->Is H (shD x) v->Is H (shD y) u->Sms x->Sms y->B x.2->(∀v' H',ag H H'->Is H' (shD (f x y)) v'->Q v' H')->spMx B f vs H Q E'
inductive spStS (vs:List V) (H:Hp) (Q:VK) (E':XK):Prop
 |mk (w:Nat):vs=[.int w]->1<=w->w<=60->(∀v' H',ag H H'->Is H' (shD (fm w)) v'->Q v' H')->spStS vs H Q E'
inductive spOf (vs:List V) (H:Hp) (Q:VK) (E':XK):Prop
 |mk (n:Int):vs=[.int n]->(∀v' H',ag H H'->Is H' (shD (ofN n)) v'->Q v' H')->spOf vs H Q E'
inductive spStr (vs:List V) (H:Hp) (Q:VK) (E':XK):Prop
 |mk (v:V) (ws:List Int):vs=[v]->Is H (.l (ws.map .i)) v->gF ws (ofN 1)=true->(∀v' H',ag H H'->Is H' (shD (iu ws)) v'->Q v' H')->spStr vs H Q E'
theorem xv {κ:Type} [DecidableEq κ] {Kv:P' (κ×V)}{k:κ}:(∀x∈aQ Kv k v,x.1∈Kv.map (·.1)\/x.1=k)/\((Kv.map (·.1)).Nodup->((aQ Kv k v).map (·.1)).Nodup):=by
 cases e:aP Kv k with
 |none=>
  refine⟨λx hx=> ?_,λnd=> ?_⟩
  rotate_left 1
  .rw [rS v e,A9];refine List.nodup_append.mpr ⟨nd,by simp,λa ha b hb z=> ?_⟩;rw[List.map_singleton,Aq] at hb;rw[z,hb] at ha;have:=fF k Kv;rw[e] at this;obtain⟨y,hy,ey⟩:=At.mp ha;rw[List.any_eq_true.mpr ⟨y,hy,BA ey⟩] at this;cases this
  rw[rS v e] at hx;rcases C1.mp hx with hx|hx
  .exact .inl (At.mpr ⟨x,hx,rfl⟩)
  .rw [Aq.mp hx];exact .inr rfl
 |some y=>
  have hk:aQ Kv k v=Kv.map λkv=>if kv.1=k then(kv.1,v) else kv:=by
   have:=fF k Kv;rw[e] at this;unfold aQ;rw[AB (show _=true from this)]
  have ek:(aQ Kv k v).map (·.1)=Kv.map (·.1):=by
   rw[hk,BG];refine BH λx _=> ?_;show(if x.1=k then(x.1,v) else x).1=x.1;split<;>rfl
  exact⟨λx hx=> .inl (by rw[<-ek];exact At.mpr ⟨x,hx,rfl⟩),λnd=>by rw[ek];exact nd⟩
inductive spSFQ (vs:List V) (H:Hp) (Q:VK) (E':XK):Prop
 |mk (d k:Nat):vs=[.int d, .int k]->Wide d k->(∀v' H',ag H H'->Is H' (shD (v91 d k)) v'->Q v' H')->spSFQ vs H Q E'
def KnE (L:Nat) (H:Hp) (Kv:P' (P' (Mx Int)×V)):Prop:=(Kv.map (·.1)).Nodup/\(∀x∈Kv,∃q,AskOk L q/\0<=q.k/\x.1=kq q)/\∀q v,aP Kv (kq q)=some v->Is H (shD (sF q)) v
theorem KnE.lts {L:Nat}{H H':Hp}{Kv:P' (P' (Mx Int)×V)} (h:KnE L H Kv) (s:LTS H H'):KnE L H' Kv:=⟨h.1,h.2.1,λq v e=>(h.2.2 q v e).lts s⟩
theorem KnE.len (h:KnE L H Kv) (h5:L<=5):Kv.length<=15162:=by
 rw[<-A1 (f:=(·.1))];refine Jn h.1 (λx hx=> ?_) h5;obtain⟨y,hy,rfl⟩:=At.mp hx;exact h.2.1 y hy
theorem KnE.put (h:KnE L H Kv) (a:AskOk L q) (k0:0<=q.k) (hv:Is H (shD (sF q)) v):KnE L H (aQ Kv (kq q) v):=by
 refine⟨xv.2 h.1,λx hx=> ?_,λr u e=> ?_⟩
 .rcases xv.1 x hx with e|e
  .obtain⟨y,hy,ey⟩:=At.mp e;rw[<-ey];exact h.2.1 y hy
  .exact⟨q,a,k0,e⟩
 .rw [rR] at e;split at e
  .rename_i z;rw[Jk z];cases e;exact hv
  .exact h.2.2 r u e
inductive spESh (P:Program) (w:World) (n:Nat) (vs:List V) (H:Hp) (Q:VK) (E':XK):Prop
 |mk (v:V) (kn:Addr) (q:Ask4) (L:Nat) (Kv:List (List (Mx Int)×V)):vs=[v, .ref kn]->Is H (qD q) v->AskOk L q->q.k<=KL L->muF q+1<=(n:Int)->DM P w H kn Kv->KnE L H Kv->(∀MX v' H',But kn H H'->DM P w H' kn MX->KnE L H' MX->Is H' (shD (sF q)) v'->Q v' H')->spESh P w n vs H Q E'
theorem bw.int {H:Hp}{i:Int}:bw H (.int i):= .inl ⟨_,rfl⟩
def fu (t:P' Int):Prop:=Nn t/\(t=[]\/∃s x,t=s++[x]/\0<x)
def xw (H:Hp) (r:V):Prop:=(bw H r/\∀a xs,r= .ref a->H a≠some (.lst xs))\/∃a,r= .ref a/\H a=some (.dK [])
def xx (H:Hp) (r:V):Prop:=∃(a:P5) (xs:P' V) (i:Nat) (x:V),r= .ref a/\H a=some (.lst xs)/\xs[i]? =some x/\(∀j,j<i->∃n:Int,xs[j]? =some (.int n)/\0<=n)/\bw H x/\∀n:Int,x= .int n->n<0
def Jq (H:Hp) (r:V):Prop:=∃(a:P5) (t:P' Int),r= .ref a/\H a=some (.lst ((t++[0]).map V.int))/\Nn t
def iH (H:Hp) (r:V):Prop:=xw H r\/xx H r\/Jq H r
theorem iH.mono {H H':Hp} (s:ag H H') {r:V} (h:iH H r):iH H' r:=by
 rcases h with h|⟨a,xs,i,x,e,ha,hx,p,t,n⟩|⟨a,t,e,ha,n⟩
 .rcases h with⟨t,n⟩|⟨a,e,ha⟩
  .refine .inl (.inl ⟨t.mono s,λa xs e h=> ?_⟩);rcases t with⟨i,rfl⟩|⟨b,rfl⟩|rfl|⟨x,rfl⟩|⟨b,ys,rfl,hb⟩|⟨b,ys,rfl,hb⟩
   .cases e
   .cases e
   .cases e
   .cases e
   .cases e;exact n _ ys rfl hb
   .cases e;rw[s _ _ hb] at h;cases h
  .exact .inl (.inr ⟨a,e,s _ _ ha⟩)
 .exact .inr (.inl ⟨a,xs,i,x,e,s _ _ ha,hx,p,t.mono s,n⟩)
 .exact .inr (.inr ⟨a,t,e,s _ _ ha,n⟩)
def Bad (d:Int) (H:Hp) (r1 r2:V):Prop:=iH H r1\/(∃a,Is H (rwL a) r1/\fu a/\iH H r2)\/∃a b,Is H (rwL a) r1/\Is H (rwL b) r2/\fu a/\fu b/\a.length<=5/\b.length<=5/\wtF a+wtF b≠d
theorem Bad.mono {H H':Hp} (s:ag H H') {d:Int}{r1 r2:V} (h:Bad d H r1 r2):Bad d H' r1 r2:=by
 rcases h with h|⟨a,h1,ra,h⟩|⟨a,b,h1,h2,h⟩
 .exact .inl (h.mono s)
 .exact .inr (.inl ⟨a,h1.mono s,ra,h.mono s⟩)
 .exact .inr (.inr ⟨a,b,h1.mono s,h2.mono s,h⟩)
inductive spIsX (vs:List V) (H:Hp) (Q:VK) (E':XK):Prop
 |mk (r:V):vs=[r]->(((∃t,Is H (rwL t) r/\fu t/\Q (.bl true) H)\/(iH H r/\Q (.bl false) H)))->spIsX vs H Q E'
inductive spNeX (c:Addr) (vs:List V) (H:Hp) (Q:VK) (E:XK):Prop
 |mk (d:Int) (r1 r2:V):vs=[.int d,r1,r2]->(((∃a b,Is H (rwL a) r1/\Is H (rwL b) r2/\dN a/\dN b/\wtF a+wtF b=d/\∀H',ag H H'->Q .non H')\/(Bad d H r1 r2/\∀H',ag H H'->E (.ref c) none H')))->spNeX c vs H Q E
def dN.inn {t:P' Int} (h:dN t):fu t:=⟨h.1,h.2.2⟩
def Wd (v u:V):Prop:=∃d k:Nat,v= .int d/\u= .int k/\Wide d k
inductive spWid (c:Addr) (vs:List V) (H:Hp) (Q:VK) (E:XK):Prop
 |mk v u:vs=[v,u]->bw H v->bw H u->((Wd v u->Q .non H))->((¬Wd v u->E (.ref c) none H))->spWid c vs H Q E
def xz (cB cE:P5) (H:Hp) (E:XK) (v u r1 r2:V) (R:Nat->Nat->P' Int->P' Int->Prop):Prop:=
 (∃(d k:Nat) (a b:P' Int),v= .int d/\u= .int k/\Wide d k/\Is H (rwL a) r1/\Is H (rwL b) r2/\dN a/\dN b/\wtF a+wtF b=d/\a.length<=d/\b.length<=d/\R d k a b)\/(bw H v/\bw H u/\¬Wd v u/\E (.ref cB) none H)\/∃d k:Nat,v= .int d/\u= .int k/\Wide d k/\Bad d H r1 r2/\∀H',ag H H'->E (.ref cE) none H'
inductive spBt (c:Addr) (vs:List V) (H:Hp) (Q:VK) (E:XK):Prop
 |mk v lo hi:vs=[v, .int lo, .int hi]->bw H v->((Within lo hi v->Q .non H))->((¬Within lo hi v->(0<=lo/\lo<=20/\0<=hi/\hi<=20)/\E (.ref c) none H))->spBt c vs H Q E
theorem xA:∀a,a<21->∀b,b<21->(decide (((a:Nat):Int).natAbs.log2<1920)&&decide ((Str.empty++Str.ofString "not a whole number from ").length<=sizeLine)&&decide ((Str.empty++Str.ofString "not a whole number from "++Str.ofString (toString ((a:Nat):Int))).length<=sizeLine)&&decide ((Str.empty++Str.ofString "not a whole number from "++Str.ofString (toString ((a:Nat):Int))++Str.ofString " to ").length<=sizeLine)&&decide ((Str.empty++Str.ofString "not a whole number from "++Str.ofString (toString ((a:Nat):Int))++Str.ofString " to "++Str.ofString (toString ((b:Nat):Int))).length<=sizeLine))=true:=by ac_nf
inductive spAsX (cB:Addr) (cE:Addr) (vs:List V) (H:Hp) (Q:VK) (E:XK):Prop
 |mk v u r1 r2:vs=[v,u,r1,r2]->(xz cB cE H E v u r1 r2 λd k a b=>∀y H',ag H H'->Is H' (qD ⟨d,k,br d a,br d b⟩) y->Q y H')->spAsX cB cE vs H Q E
inductive spSX (cB:Addr) (cE:Addr) (vs:List V) (H:Hp) (Q:VK) (E:XK):Prop
 |mk v u r1 r2:vs=[v,u,r1,r2]->(xz cB cE H E v u r1 r2 λd k a b=>∀v' H',ag H H'->Is H' (shD (sF ⟨d,k,br d a,br d b⟩)) v'->Q v' H')->spSX cB cE vs H Q E
theorem xB {a:P' Int} (h:Is H (rwL a) v) (k:Is H (rwL b) u):EqR K H 1 v u (decide (a=b)):=by
 have dp:∀xs:P' Int,cw (xs.map D.i)=0:=λxs=>by
  induction xs with
  |nil=>rfl
  |cons x xs ih=>simp[cw,dep,ih]
 have kn:∀xs ys:P' Int,cb (xs.map D.i) (ys.map D.i):=λxs=>by
  induction xs with
  |nil=>intro ys;cases ys<;>simp[cb]
  |cons x xs ih=>intro ys;cases ys<;>simp[cb,Kin,ih]
 have e:=h.eqr (K:=K) (n:=1) (by simp[rwL,dep,dp]) (by simpa[rwL,Kin] using kn a b) k;have:∀xs ys:P' Int,cj (xs.map D.i) (ys.map D.i)=decide (xs=ys):=λxs=>by
  induction xs with
  |nil=>intro ys;cases ys<;>simp[cj]
  |cons x xs ih=>intro ys;cases ys<;>simp[cj,eqD,ih]
 have e2:eqD (rwL a) (rwL b)=decide (a=b):=by simp[rwL,eqD,this]
 rwa [e2] at e
inductive spLRo (vs:List V) (H:Hp) (Q:VK) (E':XK):Prop
 |mk (d:Nat) (z:Int):vs=[.int d, .int z]->0<=z->1<=d->d<=5->(∀t l1 l2 hh ff H',ag H H'->H' t=some (.lst [.ref l1, .ref l2])->H' l1=some (.lst (hh.map V.int))->H' l2=some (.lst (ff.map V.int))->hh.length=d->ff.length=d->Nn hh->Nn ff->wtF hh+wtF ff=d->Q (.ref t) H')->spLRo vs H Q E'
inductive spLTr (vs:List V) (H:Hp) (Q:VK) (E':XK):Prop
 |mk (v:V) (t:List Int):vs=[v]->Is H (rwL t) v->t.length<=5->(∀l H',ag H H'->H l=none->Is H' (rwL (trF t)) (.ref l)->Q (.ref l) H')->spLTr vs H Q E'
inductive spLWi (vs:List V) (H:Hp) (Q:VK) (E':XK):Prop
 |mk (v:V) (t:List Int):vs=[v]->Is H (rwL t) v->Nn t->t.sum<=5->t.length<=5->(∀l H',ag H H'->H l=none->Is (nw H H') (.l ((rwF t).map rwL)) (.ref l)->Q (.ref l) H')->spLWi vs H Q E'
theorem cS {t:P' Int}(hj:j<t.length):atI (t.map V.int) (j:Int)=some (.int (t.getD j 0)):=by
 refine ja (j:=j) rfl ?_;rw[AE,A2 hj,A4,A2 hj];rfl
theorem xC {t:P' Int}{m:Int}:(t.map V.int).set j (.int (t.getD j 0+m))=(wmF t j m).map V.int:=by
 unfold wmF;rw[List.map_set]
def rlD (x:P' Int×Nat):D:= .t [rwL x.1, .i (x.2:Int)]
theorem qi {x:P' Int×Nat}(h:Is H (rlD x) v):∃t u,v= .ref t/\H t=some (.tup [u, .int (x.2:Int)])/\Is H (rwL x.1) u:=by
 obtain⟨t,vs,rfl,ht,hi⟩:=bP h;obtain⟨u1,us,rfl,Ld,hi⟩:=aR hi;obtain⟨u2,us,rfl,L7,hi⟩:=aR hi;rw[bQ hi,aX L7] at ht;exact⟨t,u1,rfl,ht,Ld⟩
inductive spLGr (vs:List V) (H:Hp) (Q:VK) (E':XK):Prop
 |mk (v:V) (t:List Int) (sp:Nat):vs=[v, .int sp]->Is H (rwL t) v->t.length<=5->sp<=5->(∀l H',ag H H'->H l=none->Is (nw H H') (.l ((grF t sp).map rwL)) (.ref l)->Q (.ref l) H')->spLGr vs H Q E'
inductive spLAd (vs:List V) (H:Hp) (Q:VK) (E':XK):Prop
 |mk (t st:Addr) (v:V) (n:Int) (D E:Pw) (s:Sh) (ws:List Int):vs=[.ref t,v, .ref st, .int n]->H t=some (.dK (tK D))->Is H (shD s) v->H st=some (.lst (ws.map V.int))->OkP D->gH D s ws n=some E->(∀H',But t H H'->H' t=some (.dK (tK E))->OkP E->Q .non H')->spLAd vs H Q E'
inductive spLPt (g:(Ask4->Option Sh)->Nat->Int->List Int->List Int->Option Pw->Option Pw) (vs:List V) (H:Hp) (Q:VK) (E':XK):Prop
 |mk (t:Addr) (d k:Nat) (v1 v2:V) (h f:List Int) (D E:Pw) (S:Ask4->Option Sh):vs=[.ref t, .int d, .int k,v1,v2]->Wide d k->2<=d->AskOk d ⟨d,k,h,f⟩->Is H (rwL h) v1->Is H (rwL f) v2->H t=some (.dK (tK D))->OkP D->((∀q v,S q=some v->v=sF q))->g S d k h f (some D)=some E->(∀H',But t H H'->H' t=some (.dK (tK E))->OkP E->Q .non H')->spLPt g vs H Q E'
def hmP (S:Ask4->Qc Sh) (d:Nat) (k:Int) (h f:P' Int) (D:Qc Pw):Qc Pw:=(List.range d).foldl (ft S d k h f) D
def flP (S:Ask4->Qc Sh) (d:Nat) (k:Int) (h f:P' Int) (D:Qc Pw):Qc Pw:=(rwF h).foldl (dM S d k h f) D
inductive spLDu (vs:List V) (H:Hp) (Q:VK) (E':XK):Prop
 |mk (d k:Nat) (v1 v2:V) (h f:List Int) (D:Pw):vs=[.int d, .int k,v1,v2]->Wide d k->AskOk d ⟨d,k,h,f⟩->Is H (rwL h) v1->Is H (rwL f) v2->(((d=1/\D=dE1 k)\/(2<=d/\DuE d k h f D)))->(∀l H',ag H H'->H l=none->H' l=some (.dK (tK D))->OkP D->Q (.ref l) H')->spLDu vs H Q E'
inductive spLSa (vs:List V) (H:Hp) (Q:VK) (E':XK):Prop
 |mk (v:V) (t:Addr) (s:Sh) (D:Pw):vs=[v, .ref t]->Is H (shD s) v->H t=some (.dK (tK D))->OkP D->eO s D=true->(∀H',But t H H'->Q (.bl true) H')->spLSa vs H Q E'
def xD (bd:Bool) (H:Hp) (v u r1 r2:V):Prop:=(bd=true/\bw H v/\bw H u/\¬Wd v u)\/(bd=false/\∃d k:Nat,v= .int d/\u= .int k/\Wide d k/\Bad d H r1 r2)
inductive spLRe (vs:List V) (H:Hp) (Q:VK) (E':XK):Prop
 |mk (v u r1 r2:V) (bd:Bool):vs=[v,u,r1,r2, .bl bd]->xD bd H v u r1 r2->(∀H',ag H H'->Q (.bl true) H')->spLRe vs H Q E'
inductive spLOd (vs:List V) (H:Hp) (Q:VK) (E':XK):Prop
 |mk (d:Nat) (z:Int):vs=[.int d, .int z]->0<=z->1<=d->d<=5->(∀l v1 v2 H',ag H H'->H' l=some (.lst [v1,v2])->Bad d H' v1 v2->Q (.ref l) H')->spLOd vs H Q E'
theorem qj {t:P5}{Kv:P' (Key×V)} (ht:H t=some (.dK Kv)) (b:But t H H'):LTS H H':=⟨λc xs h=>b c _ h (by rintro rfl;rw[ht] at h;cases h),λc xs h=>b c _ h (by rintro rfl;rw[ht] at h;cases h)⟩
theorem qk (R:Pw) (p:Int):(aP (tK R) (.inl p)).getD (.int 0)= .int (bi R (.inl p)):=by
 rw[pQ];by_cases h:(Sum.inl p:Key)∈R.map (·.1)
 .rw [AB h];rfl
 .rw [A6 h];have:∀R:Pw,(Sum.inl p:Key)∉R.map (·.1)->bi R (.inl p)=0:=λR=>by
   induction R with
   |nil=>intro _;rfl
   |cons x r ih=>
    obtain⟨a,b⟩:=x;intro h;rw[AW,AM] at h;unfold bi;rw[A6 (λe=>h (.inl e.symm)),ih (λe=>h (.inr e))]
  rw[this R h];rfl
theorem ql (h:OkP R) {k:Key}(e:(tK R)[i]? =some (k,v)):∃x:Key×Int,R[i]? =some x/\∃p:Int,k= .inl p/\x.1= .inl p/\kI x.1=p:=by
 unfold tK at e;rw[AE] at e;obtain⟨x,hx,e⟩:=AA.mp e;obtain⟨p,hp⟩:=h.2 x (AU hx);cases e;exact⟨x,hx,p,hp,hp,by rw[hp];rfl⟩
theorem qo (h:Rd H a (.dK (tK R))) {x:Key×Int} (hx:R[i]? =some x) {p:Int} (hp:x.1= .inl p):cW H a (.int p) (some (.int (bi R (.inl p)))):=
 .inl ⟨tK R, .inl p,h,rfl,by rw[pQ,AB (At.mpr ⟨x,AU hx,hp⟩)]⟩
theorem Jr {t:P' Int}{p:Nat}{m:Int} (h:p<t.length):t.take p++[t.getD p 0+m]++t.drop (p+1)=wmF t p m:=by
 unfold wmF;rw[List.set_eq_take_append_cons_drop,AB h,B0];rfl
section
variable {P:P6}{w:P8}{K:W.Frag}{mg:Str->Qc P3}{base:Qb} (T:Fns K mg)
theorem Js:OKQ T.X42 P w base 1 (spCell K):=by
 refine FbO T.X42 Hd λ_ _ _ _ H vs Q E hr h=> ?_;obtain⟨a,ns,k,rfl,hS,h0,kk⟩:=h;refine⟨_,(aj (bc (aO fA (pv 1) (aS dA (by rfl) T.n_len D8 (ae (pv 0) af)) (aL _)) (ak (ay (az bh (pv 0) (pv 1) (λ_ _=>rfl)))) aY)
  (ak (ay ah))), ?_⟩
 refine⟨_,rfl,_,rfl,a,_,rfl, .inl hS,_,_,rfl,rfl,_,rfl, ?_⟩;refine bG (λh=> ?_) (λ_=>kk 0);rw[A1] at h;have hk:k.toNat<ns.length:=by lia
 refine⟨_,rfl,_,rfl,a,_,k, .int ns[k.toNat],rfl,rfl,hS, ?_,kk _⟩;have e:((k.toNat:Nat):Int)=k:=by lia
 have:=j8 (xs:=ns.map V.int) (j:=k.toNat) (v:= .int ns[k.toNat]) (by simp[hk]);rw[e] at this;exact this
theorem qp:OKQ T.X43 P w base 2 (spNumber K):=by
 refine FbO T.X43 jx λ_ _ _ _ H vs Q E hr h=> ?_;obtain⟨a,ns,k,rfl,hS,h0,h1,kk⟩:=h;refine⟨_,(aj (pSA (i:=2) jx.nd (pcq (Js T) hr T.X42 (ae (pv 0) (ae (pv 1) af))))
  (aj (bc (aO j5 (aS rc (by rfl) T.n_abs boot_abs (ae (pv 2) af)) (ai ml ah ah) (aL _)) (ak (ay (aS rc (by rfl) T.n_abs boot_abs (ae (pv 2) af)))) aY)
  (aj (pSA (i:=3) jx.nd (ai dz (ai aB (ai aB (ai aB (ai bt (pv 2) (ai aB (ai bt ah (pv 1)) ah)) (ai bt (ai bt ah (pv 1)) (pv 1))) (ai bt ah (pv 1))) ah) ah))
  (aj (pSA (i:=3) jx.nd (ai dz (ai aB (ai bt (pv 3) ah) ah) ah))
  (aj (pSA (i:=4) jx.nd (ai dz (ai aB (ai aB (ai bt (pv 3) ah) (ai bt ah (pv 1))) ah) ah))
  (ak (ay (ai aB (ai bt (pv 3) ah) (ai bt (pv 4) (ai aB (ai dz (pv 3) ah) ah)))))))))), ?_⟩
 refine⟨_,rfl,_,rfl,a,ns,k,rfl,hS,h0,λz=> ?_⟩;refine⟨_,rfl,z,rfl,10,18,rfl,rfl,⟨by decide,by decide,by decide⟩,_,_,rfl,rfl,_,rfl, ?_⟩;refine bG (λ_=> ?_) (λ_=> ?_)
 .exact⟨_,rfl,z,rfl,kk _ (by split<;>lia)⟩
 .refine⟨_,rfl,_,rfl,_,_,rfl,rfl, .inl ⟨by decide,by decide⟩,_,_,rfl,rfl,_,_,rfl,rfl, .inr ⟨by lia,by lia⟩, ?_⟩;refine⟨_,rfl,_,_,rfl,rfl, .inl ⟨by decide,by decide⟩,_,rfl,_,_,rfl,rfl, .inr ⟨by lia,by lia⟩,_,_,rfl,rfl, ?_⟩;refine⟨_,rfl,_,_,rfl,rfl, .inl ⟨by decide,by decide⟩,_,_,rfl,rfl,_,_,rfl,rfl,_,_,rfl,rfl,(show(0:Int)<2147483629 by decide), ?_⟩;refine⟨_,rfl,_,_,rfl,rfl, .inr ⟨by decide,by decide⟩,_,_,rfl,rfl,_,_,rfl,rfl,(show(0:Int)<2147483647 by decide), ?_⟩;dsimp only;generalize (z*(2*k+3)+7919*k*k+104729*k+12345)%2147483629=u;have e1:0<=(u*48271+97)%2147483647:=by lia
  generalize (u*48271+97)%2147483647=v at e1⊢;refine⟨_,rfl,_,_,rfl,rfl, .inr ⟨by decide,by decide⟩,_,rfl,_,_,rfl,rfl, .inl ⟨by decide,by decide⟩,_,_,rfl,rfl,_,_,rfl,rfl,_,_,rfl,rfl,(show(0:Int)<998244353 by decide), ?_⟩;dsimp only;have e2:0<=(v*69621+31*k+7)%998244353:=by lia
  generalize (v*69621+31*k+7)%998244353=x at e2⊢;refine⟨_,rfl,_,_,rfl,rfl, .inr ⟨by decide,by decide⟩,_,rfl,_,rfl,_,_,rfl,rfl,(show(0:Int)<1009 by decide),_,_,rfl,rfl,_,_,rfl,rfl, .inr ⟨by lia,by lia⟩,_,_,rfl,rfl, ?_⟩;exact kk _ (Int.add_nonneg (by lia) (Int.mul_nonneg e2 (by lia)))
theorem xE:OKQ T.X0 P w base 1 sp_whole:=by
 refine FbO T.X0 GX λ_ _ _ _ H vs Q E hr h=> ?_;obtain⟨v,rfl,ht,kk⟩:=h;refine⟨_,(ak (ay (me (aS mC (by rfl) T.n_isinstance DY (ae (pv 0) (ae (jS (v:= .ty "int") (by rfl) T.n_int boot_int (by rfl)) af))) (jT (yI (aS mC (by rfl) T.n_isinstance DY (ae (pv 0) (ae (jS (v:= .ty "bool") (by rfl) T.n_bool boot_bool (by rfl)) af)))))))), ?_⟩;rcases ht with⟨i,rfl⟩|⟨b,rfl⟩|rfl|⟨x,rfl⟩|⟨a,xs,rfl,ha⟩|⟨a,xs,rfl,ha⟩
 .exact⟨_,rfl,_,"int",_,true,rfl, .int i,rY,true,rfl,bu ⟨_,rfl,_,"bool",_,false,rfl, .int i,Dp,false,rfl,kk⟩⟩
 .exact⟨_,rfl,_,"int",_,true,rfl, .bl b,Dq,true,rfl,bu ⟨_,rfl,_,"bool",_,true,rfl, .bl b,rY,true,rfl,kk⟩⟩
 .exact⟨_,rfl,_,"int",_,false,rfl, .non,EA,false,rfl,aT kk⟩
 .exact⟨_,rfl,_,"int",_,false,rfl, .str x,EB,false,rfl,aT kk⟩
 .exact⟨_,rfl,_,"int",_,false,rfl, .lst ha,EC,false,rfl,aT kk⟩
 .exact⟨_,rfl,_,"int",_,false,rfl, .tup ha,ED,false,rfl,aT kk⟩
theorem FnOk.quiet {k:Nat}(F:FnOk P w K mg base (CX1 P w) k f fd ps sp):FnOk P w K mg base CX0 k f fd ps (λvs H Q _=>sp vs H Q E0):=
 ⟨λvs H Q E h=>F.len vs H Q E0 h,λA outer s H args us vs Q E hr he hb hv hs=>D7 (F.run A outer s H args us vs Q E0 hr he hb hv hs) λr s' h=>by
  cases r with
  |ok r=>cases r<;>exact h
  |error e=>
   obtain⟨_,_,_,_,_,_,z,_⟩:=h;exact z.elim⟩
theorem qr:FnOk P w K mg base (CX1 P w) 2 T.f1 T.d1 ["thing","least","greatest"] (spBt T.c_NoBound):=by
 refine T.X1.F.okx GY (λvs H Q E h=> ?_) (λKM A outer s H vs Q E hr h hR hp=> ?_)
 .obtain⟨_,_,_,rfl,_⟩:=h;rfl
 .obtain⟨v,lo,hi,rfl,ht,kk,ke⟩:=h;refine⟨_,(ak (bc (eS (di (eR (pcq (xE T) hr T.X0 (ae (pv 0) af)))) (eS (aO fA (pv 0) (pv 1) (aL _)) (fz (aO gb (pv 0) (pv 2) (aL _))))).pt (ak (mS hR (by rfl) T.m_NoBound T.x_NoBound rfl (ae (Eo (km iL (km (sJ (pv 1)) (km iL (km (sJ (pv 2)) En))))) af))) aY)), ?_⟩;have no:¬Within lo hi v->∀D:Ends,sI T.c_NoBound E (rh (λσ H Q=>tJc (tC (.str "not a whole number from ")) (tJc (λσ H Q=>tVar 1 σ H λx H1=>∃i,x= .int i/\i.natAbs.log2<1920/\Q (.str (toString i)) H1) (tJc (tC (.str " to ")) (tJc (λσ H Q=>tVar 2 σ H λx H1=>∃i,x= .int i/\i.natAbs.log2<1920/\Q (.str (toString i)) H1) tJn)))
    Str.empty σ H Q) mq) D [some v,some (.int lo),some (.int hi)] H:=λhn D=>by
   obtain⟨⟨l1,l2,l3,l4⟩,he⟩:=ke hn;obtain⟨a,rfl⟩:=Al l1;obtain⟨b,rfl⟩:=Al l3;have y:=xA a (by lia) b (by lia);have z:=xA b (by lia) a (by lia);simp only[AD,Af] at y z;obtain⟨⟨⟨⟨y1,y2⟩,y3⟩,y4⟩,y5⟩:=y;exact⟨_,rfl,y2,_,rfl,_,rfl,y1,_,rfl,y3,_,rfl,y4,_,rfl,_,rfl,z.1.1.1.1,_,rfl,y5,y5,(zB rfl),he⟩
  refine⟨v,rfl,v,rfl,ht,isI v,rfl, ?_⟩;cases hv:isI v with
  |false=>exact bu (bu (no (λhw=>by rw[Ez hw] at hv;cases hv) _))
  |true=>
   obtain⟨i,rfl⟩:∃i,v= .int i:=by
    cases v<;>first|exact⟨_,rfl⟩|cases hv
   refine aT ⟨_,rfl,_,rfl,i,lo,rfl,rfl,_,rfl,bG (λhl=> ?_) (λhl=> ?_)⟩
   .exact bu (no (λ⟨j,e,h1,h2⟩=>by cases e;lia) _)
   .refine⟨_,rfl,_,rfl,i,hi,rfl,rfl,_,rfl,bG (λhg=> ?_) (λhg=> ?_)⟩
    .exact no (λ⟨j,e,h1,h2⟩=>by cases e;lia) _
    .exact kk ⟨i,rfl,by lia,by lia⟩
theorem Jt:OKQ T.X1 P w base 2 spBetQ:=
 FnOk.imp (FnOk.quiet (qr T)) λvs H Q E KJ=>by obtain⟨i,lo,hi,e,h1,h2,q⟩:=KJ;exact⟨.int i,lo,hi,e, .inl ⟨_,rfl⟩,λ_=>q,λh=>absurd ⟨i,rfl,h1,h2⟩ h⟩
theorem xF:OKQ T.X3 P w base 3 spDegQ:=by
 refine FbO T.X3 G0 λ_ _ _ _ H vs Q E hr h=> ?_;obtain⟨i,rfl,h1,h2,kk⟩:=h;refine⟨_,(ak (aZ (pcq (Jt T) hr T.X1 (ae (pv 0) (ae ah (ae ah af)))))), ?_⟩;exact⟨_,rfl,i,1,5,rfl,h1,h2,kk⟩
theorem xG:FnOk P w K mg base (CX1 P w) 3 T.f2 T.d2 ["d","k"] (spWid T.c_NoBound):=by
 refine T.X2.F.okx GZ (λvs H Q E h=> ?_) (λKM A outer s H vs Q E hr h hR hp=> ?_)
 .obtain⟨_,_,rfl,_⟩:=h;rfl
 .obtain⟨v,u,rfl,ht,hu,kk,ke⟩:=h;refine⟨_,(aj (aZ (cP (qr T) (hr.mono (by decide)) (by rfl) T.X1.m T.X1.F.kp T.X1.B .nil hp (ae (pv 0) (ae ah (ae ah af)))))
   (ak (aZ (cP (qr T) (hr.mono (by decide)) (by rfl) T.X1.m T.X1.F.kp T.X1.B .nil hp (ae (pv 1) (ae ah (ae (EO (qJ (v:= .ref T.a_WIDE) (by rfl) T.m_WIDE (by rfl)) (pv 0) (λ_ _=>rfl)) af))))))), ?_⟩
  refine⟨_,rfl,v,1,5,rfl,ht,λ⟨i,ei,i1,i2⟩=> ?_,λhn=>⟨by decide,ke λKJ=>by obtain⟨d,k,e1,_,hN⟩:=KJ;exact hn ⟨_,e1,by unfold Wide at hN;lia,by unfold Wide at hN;lia⟩⟩⟩;subst ei;obtain⟨d,rfl⟩:=Al (show 0<=i by lia);have hd:d=1\/d=2\/d=3\/d=4\/d=5:=by lia
  obtain⟨hi,hl,hb,hN⟩:∃hi:Int,([(1,6),(2,6),(3,6),(4,6),(5,3)]:P' (Int×Int)).lookup (d:Int)=some hi/\(0<=hi/\hi<=20)/\∀k:Nat,Wide d k↔(k:Int)<=hi:=by
   rcases hd with rfl|rfl|rfl|rfl|rfl
   .exact⟨6,rfl,by decide,λk=>by unfold Wide;lia⟩
   .exact⟨6,rfl,by decide,λk=>by unfold Wide;lia⟩
   .exact⟨6,rfl,by decide,λk=>by unfold Wide;lia⟩
   .exact⟨6,rfl,by decide,λk=>by unfold Wide;lia⟩
   .exact⟨3,rfl,by decide,λk=>by unfold Wide;lia⟩
  refine⟨_,rfl,_,rfl,T.a_WIDE,_,d,hi,rfl,T.D_WIDE,rfl,hl,u,0,hi,rfl,hu,λ⟨j,ej,j1,j2⟩=> ?_,λhn=>⟨⟨by decide,by decide,hb⟩,ke λ⟨d',k,e1,e2,hNk⟩=> ?_⟩⟩
  .obtain⟨k,rfl⟩:=Al j1;exact kk ⟨d,k,rfl,ej,(hN k).mpr j2⟩
  .obtain rfl:d'=d:=by have:=V.int.inj e1;lia
   exact hn ⟨k,e2,by lia,(hN k).mp hNk⟩
theorem xH:OKQ T.X2 P w base 3 spWidQ:=
 FnOk.imp (FnOk.quiet (xG T)) λvs H Q E KJ=>by obtain⟨d,k,e,hW,q⟩:=KJ;exact⟨.int d, .int k,e, .inl ⟨_,rfl⟩, .inl ⟨_,rfl⟩,λ_=>q,λh=>absurd ⟨d,k,rfl,rfl,hW⟩ h⟩
theorem qt:OKQ T.X21 P w base 4 spEndQ:=by
 refine FbO T.X21 jt λ_ _ _ _ H vs Q E hr h=> ?_;obtain⟨n,dv,ps,rfl,n1',n5',hd,hok,k2⟩:=h;refine⟨_,(aj (aZ (pcq (xF T) hr T.X3 (ae (pv 0) af)))
  (aj (pSA (i:=2) jt.nd (ai fI (av (ae ah af)) (pv 0)))
  (aj (aE AH rfl (bv (pv 1)) (cp rfl (aK (pGA (i:=3) jt.nd) (aK (pGA (i:=4) jt.nd) (aK (pGA (i:=5) jt.nd) bV)))) (aj (jV (pv 2) (ai aJ (pv 3) ah) kh (pv 5) yZ iT)
  (ak (jV (pv 2) (ai aJ (pv 4) ah) kh (pv 5) jW iT))))
  (ak (ay (pv 2)))))), ?_⟩
 refine⟨_,rfl,n,rfl,by lia,by lia, ?_⟩;refine⟨(zB rfl),λl1 H1 n1 s1 h1=> ?_⟩;refine⟨_,rfl, .i 1,n,aI h1 (ax aU aA),rfl,by lia,by lia,AT (aD (by lia)),λl H2 n2 s2 h2=> ?_⟩;rw[AV] at h2;obtain⟨_,vs2,e2,KQ,Ms⟩:=aH h2;cases e2;rw[<-Bw] at Ms;rw[gT Ms] at KQ;have s12:=s1.trans s2;obtain⟨da,Lw,rfl,NS,NR⟩:=aH hd;have Kz:Lw.length=ps.length:=by rw[NR.length,A1]
 refine⟨_,rfl,da,rfl,⟨_,SqL.of (s12 _ _ NS)⟩,bM (xs:=Lw) (λi σ H3=>(∃v3 v4 v5,σ=[some (.int n),some (.ref da),some (.ref l),v3,v4,v5])/\ag H H3/\H3 l=some (.lst (((ps.take i).foldl cZ (List.replicate n 1)).map V.int)))
  ⟨⟨none,none,none,rfl⟩,s12,KQ⟩ (λi σ H3 _ h=>SqL.of (h.2.1 _ _ NS)) ?_ ?_⟩
 .rintro i y σ H3 hi ⟨⟨v3,v4,v5,rfl⟩,s3,Po⟩;obtain⟨p,LA,hy⟩:=bA NR hi;obtain⟨t,rfl,hta⟩:=fN hy;obtain⟨o1,o2,o3,o4⟩:=hok p (AU LA);have el:=(lg (ps.take i) (List.replicate n 1) (by simp) λq hq=>hok q (D' hq)).1;have en:(ps.take (i+1)).foldl cZ (List.replicate n 1)=cZ ((ps.take i).foldl cZ (List.replicate n 1)) p:=by
   rw[AY,LA,BP];rfl
  rw[en];generalize (ps.take i).foldl cZ (List.replicate n 1)=e at Po el⊢;have nl:H l=none:=s1.free n2;refine⟨t,_,rfl,SqT.of (s3 _ _ hta),rfl, ?_⟩;refine⟨_,_,rfl,_,_,rfl,_,_,rfl,rfl, ?_⟩;have j1:(p.1-1).toNat<e.length:=by lia
  have j2:(p.2.1-1).toNat<e.length:=by lia
  have k1:p.1-1=((p.1-1).toNat:Int):=by lia
  have kq:p.2.1-1=((p.2.1-1).toNat:Int):=by lia
  have g1:(e.map V.int)[(p.1-1).toNat]? =some (.int (e.getD (p.1-1).toNat 0)):=by
   exact o8 j1
  refine⟨_,rfl,_,rfl,_,_,rfl,rfl, ?_⟩;refine⟨l,_,(p.1-1).toNat,_,_,rfl,rfl,k1,SqL.of Po,g1, ?_⟩;refine⟨_,rfl,_,_,rfl,rfl,l,_,_,(p.1-1).toNat,rfl,rfl,Po,by rw[k1,A1];exact gR j1, ?_⟩;rw[<-map_set];have j2':(p.2.1-1).toNat<(e.set (p.1-1).toNat (e.getD (p.1-1).toNat 0-p.2.2)).length:=by rw[Bi];exact j2
  have g2:((e.set (p.1-1).toNat (e.getD (p.1-1).toNat 0-p.2.2)).map V.int)[(p.2.1-1).toNat]? =some (.int ((e.set (p.1-1).toNat (e.getD (p.1-1).toNat 0-p.2.2)).getD (p.2.1-1).toNat 0)):=by
   exact o8 j2'
  refine⟨_,rfl,_,rfl,_,_,rfl,rfl, ?_⟩;refine⟨l,_,(p.2.1-1).toNat,_,_,rfl,rfl,kq,SqL.of am,g2, ?_⟩;refine⟨_,rfl,_,_,rfl,rfl,l,_,_,(p.2.1-1).toNat,rfl,rfl,am,by rw[kq,A1];exact gR j2', ?_⟩;rw[<-map_set,yq];exact⟨⟨_,_,_,rfl⟩,s3.put nl,am⟩
 .rintro σ H3 ⟨⟨v3,v4,v5,rfl⟩,s3,Po⟩;rw[Kz,AQ] at Po;exact⟨_,rfl,k2 l H3 s3 (s1.free n2) Po⟩
theorem lW:OKQ T.X23 P w base 1 spLost:=by
 refine FbO T.X23 G6 λ_ _ _ _ H vs Q E hr h=> ?_;obtain⟨v,p,rfl,hv,⟨p1,p2,p3,p4⟩,kk⟩:=h;refine⟨_,(ak (ay (ai aJ (ai bt (ai aJ (az bX (pv 0) ah (λ_ _=>rfl)) (az bX (pv 0) ah (λ_ _=>rfl))) (az bX (pv 0) ah (λ_ _=>rfl))) ah))), ?_⟩;refine⟨_,rfl,_,1,_,hv,rfl,rfl,λu hu=> ?_⟩;rw[aX hu];refine⟨_,rfl,_,0,_,hv,rfl,rfl,λu hu=> ?_⟩;rw[aX hu];refine⟨_,_,rfl,rfl,_,rfl,_,2,_,hv,rfl,rfl,λu hu=> ?_⟩;rw[aX hu];exact⟨_,_,rfl,rfl, .inr ⟨by lia,by lia⟩,_,_,rfl,rfl,kk⟩
theorem Ju:OKQ T.X24 P w base 2 spLfr:=by
 refine FbO T.X24 kQ λ_ _ _ _ H vs Q E hr h=> ?_;obtain⟨d,f,n,sp,rfl,fd,d5,n20,kk⟩:=h;refine⟨_,(aj (pSA (i:=4) kQ.nd (av af))
  (aj (aE AH rfl (gI (by rfl) T.n_range (ae (ai aB (pv 1) ah) (ae (ai aB (pv 0) ah) af))) (pGA (i:=5) kQ.nd) (ak (aE AH rfl (gI (by rfl) T.n_range (ae ah (ae (ai aB (pv 2) ah) af))) (pGA (i:=6) kQ.nd) (ak (bc (aO mn (pcq (lW T) hr T.X23 (ae (bK (ae (pv 1) (ae (pv 5) (ae (pv 6) af)))) af)) (pv 3) (aL _)) (ak (aZ (cu Ab BD BC dB (pv 4) (ae (bK (ae (pv 1) (ae (pv 5) (ae (pv 6) af)))) af)))) aY)))))
  (ak (ay (pv 4))))), ?_⟩
 refine⟨AJ _,λfo H1 n1 s1 h1=> ?_⟩;refine⟨_,rfl,_,_,rfl,rfl,_,rfl,_,_,rfl,rfl,_,_,rfl,⟨by lia,by lia,by lia,by lia⟩, ?_⟩;rw[show((d:Int)+1-((f:Int)+1)).toNat=d-f by lia];refine ci (lo:=(f:Int)+1) (n:=d-f) (λi σ H2=>(∃v5 v6,σ=[some (.int d),some (.int f),some (.int n),some (.int sp),some (.ref fo),v5,v6])/\ag H H2/\∃vs,H2 fo=some (.lst vs)/\Iss H2 ((db f i n sp).map lf) vs) ⟨⟨none,none,rfl⟩,s1,[],h1,aA⟩ ?_ ?_
 .rintro i σ H2 hi ⟨⟨v5,v6,rfl⟩,s2,vs2,Ls,Pp⟩;refine⟨_,rfl,_,_,rfl,rfl,_,_,rfl,⟨by decide,by decide,by lia,by lia⟩, ?_⟩;rw[show((n:Int)+1-1).toNat=n by lia];refine ci (lo:=1) (n:=n) (λj σ H3=>(∃v6,σ=[some (.int d),some (.int f),some (.int n),some (.int sp),some (.ref fo),some (.int ((f:Int)+1+(i:Int))),v6])/\ag H H3/\∃vs,H3 fo=some (.lst vs)/\Iss H3 ((db f i n sp++ee f ((f:Int)+1+(i:Int)) j sp).map lf) vs) ⟨⟨v6,rfl⟩,s2,vs2,Ls,by simpa[ee] using Pp⟩ ?_ ?_
  .rintro j σ H3 hj ⟨⟨v6,rfl⟩,s3,vs3,KE,Nr⟩;have vl:vs3.length<=200:=by
    rw[Nr.length,A1,AC];have a:=pc f n sp i;have b:=vg f ((f:Int)+1+(i:Int)) j sp;have:i*n<=5*20:=Nat.mul_le_mul (by lia) n20;lia
   refine⟨_,rfl,_,rfl,_,rfl,(zB rfl),λt H4 nt s4 ht=>⟨.ref t,((f:Int),(f:Int)+1+(i:Int),1+(j:Int)),rfl,jA ht,⟨?_, ?_, ?_, ?_⟩,_,rfl,_,_,rfl,rfl,_,rfl,bG (λc=> ?_) (λc=> ?_)⟩⟩
   .show 0<=(f:Int)+1+(i:Int)-(f:Int);lia
   .show(f:Int)+1+(i:Int)-(f:Int)<=10;lia
   .show 1<=1+(j:Int);lia
   .show 1+(j:Int)<=20;lia
   .refine⟨_,rfl, .inl ⟨rfl,_,SqL.of (s4 _ _ KE)⟩,_,rfl,_,rfl,_,rfl,(zB rfl),λt2 H5 nt2 s5 MF=>⟨fo,vs3,_,rfl,rfl,s5 _ _ (s4 _ _ KE),aD (by lia),⟨_,rfl⟩,(s3.trans (s4.trans s5)).put n1,_,am, ?_⟩⟩;rw[vc,AB c,<-B0];refine lp (aF.upd (s5 _ _ (s4 _ _ KE))) ?_;rw[A9];exact(Nr.mono (s4.trans s5)).append (ax (jA MF) aA)
   .refine⟨⟨_,rfl⟩,s3.trans s4,vs3,s4 _ _ KE, ?_⟩;rw[vc,A6 c,B8];exact Nr.mono s4
  .rintro σ H3 ⟨⟨v6,rfl⟩,s3,vs3,KE,Nr⟩;exact⟨⟨_,_,rfl⟩,s3,vs3,KE,by rw[vd];exact Nr⟩
 .rintro σ H2 ⟨⟨v5,v6,rfl⟩,s2,vs2,Ls,Pp⟩;exact⟨_,rfl,kk fo H2 s2 n1 (aI Ls Pp)⟩
theorem xI:∀n:Nat,FnOk P w K mg base CX0 (n+1) T.f25 T.d25 ["lifts","weight","spare"] (spLeav n K)
 |0=>⟨λvs H Q E h=>by obtain⟨_,_,_,_,_,_,_,h,h',_⟩:=h;lia,λA outer s H args us vs Q E _ _ _ _ h=>by obtain⟨_,_,_,_,_,_,_,h,h',_⟩:=h;lia⟩
 |n+1=>by
  have ih:=xI n;refine T.X25.F.ok ju (λvs H Q E h=> ?_) (λKM A outer s H vs Q E hr h=> ?_)
  .obtain⟨_,_,_,_,rfl,_⟩:=h;rfl
  .obtain⟨v,ls,wt,sp,rfl,hv,hok,w0,w1,hL,hl,hn,kk⟩:=h;refine⟨_,(aj (pSA (i:=3) ju.nd (av (ae (av af) af)))
   (aj (aE AH rfl (gS (by rfl) T.n_enumerate (pv 0)) (cp rfl (aK (pGA (i:=4) ju.nd) (aK (pGA (i:=5) ju.nd) bV))) (ak (bc (ma (aO mn (az bX (pv 5) ah (λ_ _=>rfl)) (pv 1) (aL _)) (l9 (aO mn (pcq (lW T) hr T.X23 (ae (pv 5) af) (by lia)) (pv 2) (aL _)))).pt (ak (aE AH rfl (bv (cP ih hr (by rfl) T.X25.m T.X25.F.kp T.X25.B .nil gN (ae (fE gL (pv 0) (fD (pv 4)) fC) (ae (ai aJ (pv 1) (az bX (pv 5) ah (λ_ _=>rfl))) (ae (ai aJ (pv 2) (pcq (lW T) hr T.X23 (ae (pv 5) af) (by lia))) af))))) (pGA (i:=6) ju.nd) (ak (aZ (cu Ab BD BC dB (pv 3) (ae (ai dk (av (ae (pv 5) af)) (pv 6)) af)))))) aY)))
   (ak (ay (pv 3))))), ?_⟩
   obtain⟨da,Lw,rfl,NS,NR⟩:=aH hv;have dlen:Lw.length=ls.length:=by rw[NR.length,A1]
   refine⟨AJ _,λe0 H1 ne s1 he=>⟨(zB rfl),λfo H2 nf s2 La=> ?_⟩⟩;have NT:H fo=none:=s1.free nf;have e0fo:e0≠fo:=by rintro rfl;rw[he] at nf;cases nf
   have acc0:Acc H H2 fo (([[]]:P' (P' Lf)).map lfs):=⟨[.ref e0],La,ax (aI (vs:=[]) (by rw[mP e0fo,cM ne];exact s2 _ _ he) aA) aA⟩;have tot:∀i:Nat,i<ls.length->1+((List.range i).flatMap (de n ls wt sp)).length+(de n ls wt sp i).length<=1000:=λi hi=>by
    have:=lu (de n ls wt sp) hi;rw[o9,AC,BX] at hL;lia
   refine⟨_,rfl,da,rfl,⟨_,SqL.of (s2 _ _ (s1 _ _ NS))⟩,i8 (xs:=Lw) (λi σ H3=>(∃v4 v5 v6,σ=[some (.ref da),some (.int wt),some (.int sp),some (.ref fo),v4,v5,v6])/\ag H H3/\Acc H H3 fo (([[]]++(List.range i).flatMap (de n ls wt sp)).map lfs)) ⟨⟨none,none,none,rfl⟩,s1.trans s2,by simpa using acc0⟩ (λi σ H3 _ h=>SqL.of (h.2.1 _ _ NS)) ?_ ?_⟩
   .rintro i y σ H3 pa hi ⟨⟨v4,v5,v6,rfl⟩,s3,Ky⟩ np;obtain⟨p,LA,hy⟩:=bA NR hi;have hil:i<ls.length:=(AG.mp LA).1;obtain⟨p1,p2,p3,p4⟩:=id (hok p (AU LA));have tt:=tot i hil;have s34:ag H3 (upd H3 pa (.tup [.int i,y])):=ag.new np;have MN:=Ky.mono s34;have stay:de n ls wt sp i=[]->Acc H (upd H3 pa (.tup [.int i,y])) fo (([[]]++(List.range (i+1)).flatMap (de n ls wt sp)).map lfs):=λe=>by
     rw[ie,e,B8];exact MN
    have hlf:Is (upd H3 pa (.tup [.int i,y])) (lf p) y:=(hy.mono s3).mono s34;refine⟨pa,_,rfl,SqT.of am,rfl,_,_,rfl,_,_,rfl,rfl, ?_⟩;generalize upd H3 pa (.tup [.int i,y])=H4 at s34 MN stay hlf⊢;have s4:ag H H4:=s3.trans s34;refine⟨_,rfl,_,2,_,hlf,rfl,rfl,λu hu=> ?_⟩;rw[aX hu];refine⟨_,rfl,_,_,rfl,rfl,_,rfl,bG (λc1=> ?_) (λc1=> ?_)⟩
    .refine⟨_,rfl,y,p,rfl,hlf,⟨p1,p2,p3,p4⟩,_,rfl,_,_,rfl,rfl,_,rfl,bG (λc2=> ?_) (λc2=> ?_)⟩
     .have eG:de n ls wt sp i=(cy n (ls.drop i) (wt-p.2.2) (sp-cc p)).map (p:: ·):=by
       unfold de;rw[LA];exact AB ⟨c1,c2⟩
      rw[eG,A1] at tt;refine⟨_,rfl,_,rfl,i,rfl,da,_,rfl,SqL.of (s4 _ _ NS), ?_⟩;rw[lU (by lia)];intro l2 n2;have s45:ag H4 (upd H4 l2 (.lst (Lw.drop i))):=ag.new n2;have KQ:(upd H4 l2 (.lst (Lw.drop i))) l2=some (.lst (Lw.drop i)):=am;generalize upd H4 l2 (.lst (Lw.drop i))=H5 at s45 KQ⊢;have s5:=s4.trans s45;have hdr:Is H5 (lfs (ls.drop i)) (.ref l2):=aI KQ (by rw[List.map_drop];exact(NR.drop i).mono s5);refine⟨_,rfl,_,rfl,_,2,_,hlf.mono s45,rfl,rfl,λu hu=> ?_⟩;rw[aX hu];refine⟨_,_,rfl,rfl,_,rfl,_,rfl,y,p,rfl,hlf.mono s45,⟨p1,p2,p3,p4⟩,_,_,rfl,rfl, ?_⟩;refine⟨.ref l2,ls.drop i,wt-p.2.2,sp-cc p,rfl,hdr,λq hq=>hok q (DA hq),by lia,by lia,by lia,by rw[CZ];lia,by lia,λrl H6 s6 Mw MO=> ?_⟩;obtain⟨Og,KZ,NU⟩:=MN.mono s45;have Nt:H6 fo=some (.lst Og):=s6 _ _ KZ;obtain⟨_,LB,e,Pq,LV⟩:=aH MO;cases e;have Nu:H6 rl=some (.lst LB):=bC _ _ Pq;have Nv:rl≠fo:=by rintro rfl;rw[KZ] at Mw;cases Mw
      have LW:LB.length=(cy n (ls.drop i) (wt-p.2.2) (sp-cc p)).length:=by rw[LV.length,A1]
      have Pr:Iss (hid H6 fo) ((cy n (ls.drop i) (wt-p.2.2) (sp-cc p)).map lfs) LB:=(LV.mono (lq (ag.refl H5) KZ)).mono (i9 bC);have s56:=s5.trans s6;refine⟨rl,rfl,⟨_,SqL.of Nu⟩,bM (xs:=LB) (λj σ H7=>(∃v6,σ=[some (.ref da),some (.int wt),some (.int sp),some (.ref fo),some (.int i),some y,v6])/\ag H H7/\But fo H6 H7/\Acc H H7 fo (([[]]++(List.range i).flatMap (de n ls wt sp)++((cy n (ls.drop i) (wt-p.2.2) (sp-cc p)).take j).map (p:: ·)).map lfs)) ⟨⟨_,rfl⟩,s56,λ_ _ e _=>e,by simpa using (MN.mono s45).mono s6⟩ (λj σ H7 _ h=>SqL.of (h.2.2.1 _ _ Nu Nv)) ?_ ?_⟩
      .rintro j x σ H7 hj ⟨⟨v6,rfl⟩,s7,Nw,vs7,Ps,hi7⟩;obtain⟨r,M7,hx⟩:=bA Pr hj;have hjl:j<(cy n (ls.drop i) (wt-p.2.2) (sp-cc p)).length:=(AG.mp M7).1;have hx7:Is H7 (lfs r) x:=hx.mono (xh Nw);have ritem:=(ph (λq hq=>(hok q (DA hq)).2.2.1) (by lia) (AU M7)).1;have vl:vs7.length<=999:=by
        rw[hi7.length,A1,AC,AC,A1,Aa,BX];lia
       have hy7:Is H7 (lf p) y:=hy.mono s7;refine⟨_,rfl, .inl ⟨rfl,_,SqL.of Ps⟩,_,rfl,(zB rfl),λq1 H8 n8 s8 h8=>⟨_,rfl,[lf p],r.map lf,aI h8 (ax (hy7.mono s8) aA),hx7.mono s8,AT (aD (by rw[A1];show 1+r.length<=1000;lia)),λq2 H9 n9 s9 h9=> ?_⟩⟩;have Oh:=s8.trans s9;refine⟨fo,vs7,_,rfl,rfl,Oh _ _ Ps,aD (by lia),⟨_,rfl⟩,(s7.trans Oh).put NT,Nw.trans ((But.of_same Oh).trans But.upd), ?_⟩;rw[AY,M7];have:=Acc.add s7 Oh Ps hi7 (u9 (ps:=p::r) Oh (s8.free n9) h9);simpa using this
      .rintro σ H7 ⟨⟨v6,rfl⟩,s7,_,OL⟩;refine⟨⟨_,_,_,rfl⟩,s7, ?_⟩;rw[LW,AQ,<-eG,B0,<-ie] at OL;exact OL
     .refine⟨⟨_,_,_,rfl⟩,s4,stay ?_⟩;unfold de;rw[LA];exact A6 λz=>c2 z.2
    .refine aT ⟨⟨_,_,_,rfl⟩,s4,stay ?_⟩;unfold de;rw[LA];exact A6 λz=>c1 z.1
   .rintro σ H3 ⟨⟨v4,v5,v6,rfl⟩,s3,Ky⟩;rw[dlen,<-o9] at Ky;exact⟨_,rfl,kk fo H3 s3 NT (Ky.is NT)⟩
theorem Jv:OKQ T.X26 P w base 10 spWith:=by
 refine FbO T.X26 hV λKM A outer s H vs Q E hr h=> ?_;obtain⟨d,f,v,x,rfl,fd,d5,hv,LO,kk⟩:=h;refine⟨_,(aj (pSA (i:=4) hV.nd (az bh (pcq (qt T) hr T.X21 (ae (pv 0) (ae (pv 2) af))) (ai aJ (pv 1) ah) (λ_ _=>rfl)))
  (aj (pSA (i:=5) hV.nd (av af))
  (aj (aE AH rfl (bv (pcq (xI T 8) hr T.X25 (ae (pcq (Ju T) hr T.X24 (ae (pv 0) (ae (pv 1) (ae (pv 4) (ae (pv 3) af))))) (ae (pv 4) (ae (pv 3) af))))) (pGA (i:=6) hV.nd) (aj (pSA (i:=7) hV.nd (ai aJ (pv 4) (aS (gh rfl) (by rfl) T.n_sum DW (ae (dP (XN:=["d","floor","drawing","spare","there","found","lifts","ends","left"]) (sc:=ao jv) (N:=["lift"]) (own:=1) (js:=[]) rfl (by ac_nf) rfl rfl (bv (pv 6)) (λ_ _ _ _=>(cg (i:=0) (show List.Nodup (["lift"]:P' Str) by ac_nf) rfl (Or.inl rfl) (.inr rfl))) (fG (by decide)) (λ_ _ _ _=>eT) (λ_ _ _ _=>(az bX (pv 0) ah (λ_ _=>rfl)))) af))))
  (aj (pSA (i:=8) hV.nd (ai aJ (ai aJ (pv 3) (aS (gh rfl) (by rfl) T.n_sum DW (ae (dP (XN:=["d","floor","drawing","spare","there","found","lifts","ends","left"]) (sc:=ao jv) (N:=["lift"]) (own:=1) (js:=[]) rfl (by ac_nf) rfl rfl (bv (pv 6)) (λ_ _ _ _=>(cg (i:=0) (show List.Nodup (["lift"]:P' Str) by ac_nf) rfl (Or.inl rfl) (.inr rfl))) (fG (by decide)) (λ_ _ _ _=>eT) (λ_ _ _ _=>(pcq (lW T) hr T.X23 (ae (pv 0) af)))) af))) (ai bt (pv 7) (ai aJ (pv 0) (pv 1)))))
  (ak (bc (aO j5 (pv 8) ah (aL _)) (ak (aZ (cu Ab BD BC dB (pv 5) (ae (bK (ae (ai dk (pv 2) (pv 6)) (ae (pv 8) af))) af)))) aY)))))
  (ak (ay (pv 5)))))), ?_⟩
 obtain⟨b1,b2,b3,b4,b5,b6,b7⟩:=Hq LO;have okl:∀p∈x.1,Okl d p:=λp hp=>by
  obtain⟨o1,o2,o3,o4,o5⟩:=pi.mp (b1 p hp);exact⟨o1,by lia,by lia,o3⟩
 have elen:=lm d x.1 okl;refine⟨_,rfl,_,rfl,d,v,x.1,rfl,by lia,d5,hv,okl,λel H1 s1 nel hel=> ?_⟩;refine⟨_,rfl,_,_,rfl,rfl,el,_,_, .int (thF d (f+1) x.1),rfl,rfl,SqL.of hel,ja (j:=f) (by lia) (by rw[o8 (by lia)];rfl), ?_⟩;unfold dH at kk;generalize thF d (f+1) x.1=th at b3 b4 b7 kk⊢;obtain⟨n,rfl⟩:=Al b3;refine⟨AJ _,λfo H2 nf s2 La=> ?_⟩;have NT:H fo=none:=s1.free nf;have Lz:=s1.trans s2;refine⟨_,rfl,_,rfl,_,rfl,_,rfl,d,f+1,n,x.2,rfl,by lia,d5,by lia,λl0 H3 s3 nl0 Nx=> ?_⟩;refine⟨_,rfl,_,rfl, .ref l0,db ((f+1:Nat):Int) (d-(f+1)) n x.2,(n:Int),x.2,rfl,Nx,λp hp=> ?_,by lia,by lia, ?_, ?_,by decide,λrl H4 s4 Mw MO=> ?_⟩
 .obtain⟨e1,e2,e3,e4,e5⟩:=pe hp;exact⟨by lia,by lia,by lia,by lia⟩
 .exact As b7 (by decide)
 .have:=pc ((f+1:Nat):Int) n x.2 (d-(f+1));have:(d-(f+1))*n<=5*8:=Nat.mul_le_mul (by lia) (by lia);lia
 have eL:cy 8 (db ((f+1:Nat):Int) (d-(f+1)) n x.2) (n:Int) x.2=gy d (f+1) n x.2:=by unfold gy;rw[AV]
 have OM:∀r∈gy d (f+1) n x.2,r.length<=8/\0<=(r.map (·.2.2)).sum/\(r.map (·.2.2)).sum<=(n:Int)/\∀p∈r,Lok p:=λr hr=>by
  rw[<-eL] at hr;obtain⟨i1,i2,i3,i4⟩:=ph (λq hq=>(pe hq).2.2.2.1) (by lia) hr;exact⟨i1,i2,i3,λp hp=>by
   obtain⟨e1,e2,e3,e4,e5⟩:=pe (i4 p hp);exact⟨by lia,by lia,by lia,by lia⟩⟩
 rw[eL] at MO;generalize gy d (f+1) n x.2=L at MO OM kk b7;have LQ:=Lz.trans s3;have KE:H3 fo=some (.lst []):=s3 _ _ La;have hfo4:H4 fo=some (.lst []):=s4 _ _ KE;obtain⟨_,LB,e,Pq,LV⟩:=aH MO;cases e;have Ny:H4 rl=some (.lst LB):=bC _ _ Pq;have Nv:rl≠fo:=by rintro rfl;rw[KE] at Mw;cases Mw
 have LW:LB.length=L.length:=by rw[LV.length,A1]
 have Pr:Iss (hid H4 fo) (L.map lfs) LB:=(LV.mono (lq (ag.refl H3) KE)).mono (i9 bC);have Pu:=LQ.trans s4;refine⟨rl,rfl,⟨_,SqL.of Ny⟩,bM (xs:=LB) (λj σ H5=>(∃v6 v7 v8,σ=[some (.int d),some (.int ((f+1:Nat):Int)),some v,some (.int x.2),some (.int n),some (.ref fo),v6,v7,v8])/\ag H H5/\But fo H4 H5/\Acc H H5 fo ((((L.take j).filter λls=>decide (0<=fg d (f+1) n x.2 ls)).map λls=>(x.1++ls,fg d (f+1) n x.2 ls)).map stD)) ⟨⟨none,none,none,rfl⟩,Pu,λ_ _ e _=>e,Acc.start hfo4⟩ (λj σ H5 _ h=>SqL.of (h.2.2.1 _ _ Ny Nv)) ?_ ?_⟩
 .rintro j y σ H5 hj ⟨⟨v6,v7,v8,rfl⟩,s5,Px,Og,KZ,NU⟩;obtain⟨r,M7,hy⟩:=bA Pr hj;have hy5:Is H5 (lfs r) y:=hy.mono (xh Px);obtain⟨i1,i2,i3,i4⟩:=OM r (AU M7);obtain⟨ya,ys,rfl,M8,hyi⟩:=aH hy5;have Oi:ys.length=r.length:=by rw[hyi.length,A1]
  have vl:Og.length<=200:=by
   rw[NU.length,A1,A1];refine As (CM _ _) ?_;rw[Aa];lia
  refine⟨_,rfl,_,rfl,ya,rfl,⟨_,SqL.of M8⟩,λacc na=> ?_⟩;refine i7 (xs:=ys) (own:=1) (js:=[]) (λi H6=>ag H5 H6/\H6 acc=some (.lst (((r.take i).map (·.2.2)).map V.int))) ⟨ag.new na,am⟩ (λi H6 _ h=>SqL.of (h.1 _ _ M8)) ?_ ?_ fH eU ?_
  .rintro i z H6 hz ⟨s6,Ky⟩;obtain⟨p,LA,hzi⟩:=bA hyi hz;refine kg ?_;refine⟨_,rfl,_,2,_,hzi.mono s6,rfl,rfl,λu hu=> ?_⟩;rw[aX hu];refine⟨acc,_,_,rfl,rfl,Ky,aD ?_,s6.put na, ?_⟩
   .rw [A1,A1,Aa];lia
   .rw [am,AY,LA,A9,A9];rfl
  .rintro H6 ⟨s6,Ky⟩;rw[Oi,AQ] at Ky;refine⟨acc,_,rfl,SqL.of Ky,_,_,rfl,rfl, ?_⟩;clear Ky;refine⟨_,rfl,_,rfl,ya,rfl,⟨_,SqL.of (s6 _ _ M8)⟩,λac2 na2=> ?_⟩;refine i7 (xs:=ys) (own:=1) (js:=[]) (λi H7=>ag H6 H7/\H7 ac2=some (.lst (((r.take i).map cc).map V.int))) ⟨ag.new na2,am⟩ (λi H7 _ h=>SqL.of (h.1 _ _ (s6 _ _ M8))) ?_ ?_ fH eU ?_
   .rintro i z H7 hz ⟨s7,Ky⟩;obtain⟨p,LA,hzi⟩:=bA hyi hz;refine kg ?_;refine⟨_,rfl,z,p,rfl,(hzi.mono s6).mono s7,i4 p (AU LA),ac2,_,_,rfl,rfl,Ky,aD ?_,s7.put na2, ?_⟩
    .rw [A1,A1,Aa];lia
    .rw [am,AY,LA,A9,A9];rfl
   .rintro H7 ⟨s7,Ky⟩;rw[Oi,AQ] at Ky;have M9:=s6.trans s7;refine⟨ac2,_,rfl,SqL.of Ky,_,_,rfl,rfl,_,rfl,_,rfl,_,rfl,_,_,rfl,rfl,_,_,rfl,rfl, .inr ⟨by lia,by lia⟩,_,_,rfl,rfl, ?_⟩;refine⟨_,rfl,_,_,rfl,rfl,_,rfl,bG (λc=> ?_) (λc=> ?_)⟩
    .have hv7:Is H7 (lfs x.1) v:=(hv.mono s5).mono M9;refine⟨_,rfl, .inl ⟨rfl,_,SqL.of (M9 _ _ KZ)⟩,_,rfl,_,rfl,x.1.map lf,r.map lf,hv7,hy5.mono M9,AT (aD (by rw[A1,A1];lia)),λq1 H8 n8 s8 h8=>⟨_,rfl,(zB rfl),λt H9 nt s9 ht=> ?_⟩⟩;have s59:=M9.trans (s8.trans s9);refine⟨fo,Og,_,rfl,rfl,s59 _ _ KZ,aD (by lia),⟨_,_,_,rfl⟩,(s5.trans s59).put NT,Px.trans ((But.of_same s59).trans But.upd), ?_⟩;rw[AY,M7,Bo];have ef:(Option.toList (some r)).filter (λls=>decide (0<=fg d (f+1) n x.2 ls))=[r]:=by
      have c':0<=fg d (f+1) n x.2 r:=c;simp[c']
     rw[ef,A9,A9];rw[<-A9] at h8;have isx:Is (nw H5 H9) (stD (x.1++r,fg d (f+1) n x.2 r)) (.ref t):=bO (by rw[cM ((M9.trans s8).free nt)];exact ht) (ax (u9 s59 (M9.free n8) (Is.mono (s:=s9) h8)) (ax aU aA));exact Acc.add s5 s59 KZ NU isx
    .refine⟨⟨_,_,_,rfl⟩,s5.trans M9,Px.trans (But.of_same M9), ?_⟩;rw[AY,M7,Bo];have ef:(Option.toList (some r)).filter (λls=>decide (0<=fg d (f+1) n x.2 ls))=[]:=by
      have c':¬0<=fg d (f+1) n x.2 r:=c;simp[c']
     rw[ef,B8];exact Acc.mono M9 ⟨Og,KZ,NU⟩
   .rintro σ H R R' k ⟨v1,e1,v2,p,e2,h1,h2,h⟩;exact⟨v1,e1,v2,p,e2,h1,h2,k _ _ h⟩
  .rintro σ H R R' k ⟨v1,e1,xs,i,d,h1,e2,e3,h⟩;exact⟨v1,e1,xs,i,d,h1,e2,e3,λu hu=>k _ _ (h u hu)⟩
 .rintro σ H5 ⟨⟨v6,v7,v8,rfl⟩,s5,_,Ky⟩;rw[LW,AQ] at Ky;exact⟨_,rfl,kk fo H5 s5 NT (Ky.is NT)⟩
theorem Jw:FnOk P w K mg base (CX0) 11 T.f27 T.d27 ["d","k"] spDrP:=by
 refine FbO T.X27 gp λ_ _ _ _ H vs Q E hr h=> ?_;obtain⟨d,k,rfl,hW,⟨g1,g3,g6⟩,kk⟩:=h;refine⟨_,(aj (aZ (pcq (xH T) hr T.X2 (ae (pv 0) (ae (pv 1) af))))
  (aj (pSA (i:=2) gp.nd (av (ae (bK (ae (av af) (ae (pv 1) af))) af)))
  (aj (aE AH rfl (gI (by rfl) T.n_range (ae ah (ae (ai aB (pv 0) ah) af))) (pGA (i:=3) gp.nd) (aj (pSA (i:=4) gp.nd (av af))
  (aj (aE AH rfl (bv (pv 2)) (cp rfl (aK (pGA (i:=5) gp.nd) (aK (pGA (i:=6) gp.nd) bV))) (ak (aZ (cu Ab CD CC iU (pv 4) (ae (pcq (Jv T) hr T.X26 (ae (pv 0) (ae (pv 3) (ae (pv 5) (ae (pv 6) af))))) af)))))
  (ak (pSA (i:=2) gp.nd (pv 4))))))
  (ak (ay (aS (E8 hr) (by rfl) T.n_sorted boot_sorted (ae (dP (XN:=["d","k","begun","floor","longer","drawing","spare"]) (sc:=ao kR) (N:=["drawing","spare"]) (own:=2) (js:=[]) rfl (by ac_nf) rfl rfl (bv (pv 2)) (λ_ _ _ _=>(ku (K:=K) rfl rfl (aK (cg (i:=0) (show List.Nodup (["drawing","spare"]:P' Str) by ac_nf) rfl (Or.inl rfl) (.inr rfl)) (aK (cg (i:=1) (show List.Nodup (["drawing","spare"]:P' Str) by ac_nf) rfl (Or.inl rfl) (.inr rfl)) bV)))) ko (λ_ _ _ _=>(mH (aO dj (pv 1) ah (aL _)))) (λ_ _ _ _=>(pv 0))) af))))))), ?_⟩
 refine⟨_,rfl,_,rfl,d,k,rfl,hW, ?_⟩;obtain⟨gA,gB⟩:=Hr g1;have d15:1<=d/\d<=5:=by unfold Wide at hW;lia
 refine⟨AJ _,λe0 H1 N7 s1 Oj=>⟨_,rfl,(zB rfl),λt0 H2 nt0 s2 ht0=>⟨(zB rfl),λbg H3 nb s3 Py=> ?_⟩⟩⟩;have LQ:=(s1.trans s2).trans s3;have nbH:H bg=none:=(s1.trans s2).free nb;have Pz:Is (nw H H3) (.l ((bS d k 0).map stD)) (.ref bg):=aI (by rw[cM nbH];exact Py) (ax (bO (by rw[cM (s1.free nt0)];exact s3 _ _ ht0) (ax (aI (vs:=[]) (by rw[cM N7];exact s3 _ _ (s2 _ _ Oj)) aA) (ax aU aA))) aA);refine⟨_,rfl,_,_,rfl,rfl,_,_,rfl,⟨by decide,by decide,by lia,by lia⟩, ?_⟩;rw[show((d:Int)+1-1).toNat=d by lia];refine ci (lo:=1) (n:=d) (λf σ H4=>∃bg,(∃v3 v4 v5 v6,σ=[some (.int d),some (.int k),some (.ref bg),v3,v4,v5,v6])/\ag H H4/\Is (nw H H4) (.l ((bS d k f).map stD)) (.ref bg)) ⟨bg,⟨none,none,none,none,rfl⟩,LQ,Pz⟩ ?_ ?_
 .clear Pz LQ nbH Py;rintro f σ H4 hf ⟨bg,⟨v3,v4,v5,v6,rfl⟩,s4,Py⟩;obtain⟨LO,Kz⟩:=gA f hf;refine⟨AJ _,λlo H5 MP s5 My=> ?_⟩;have hbg4:=Py.mono bC;obtain⟨_,bvs,e,hb4,Ob⟩:=aH hbg4;cases e;have Nz:bvs.length=(bS d k f).length:=by rw[Ob.length,A1]
  refine⟨_,rfl,bg,rfl,⟨_,SqL.of (s5 _ _ hb4)⟩,bM (xs:=bvs) (λj σ H6=>(∃v5 v6,σ=[some (.int d),some (.int k),some (.ref bg),some (.int (1+(f:Int))),some (.ref lo),v5,v6])/\ag H4 H6/\Acc H4 H6 lo ((((bS d k f).take j).flatMap λx=>dH d (f+1) x.1 x.2).map stD)) ⟨⟨_,_,rfl⟩,s5,Acc.start My⟩ (λj σ H6 _ h=>SqL.of (h.2.1 _ _ hb4)) ?_ ?_⟩
  .rintro j y σ H6 hj ⟨⟨v5,v6,rfl⟩,s6,vs6,Lg,hi6⟩;obtain⟨x,KW,hy⟩:=bA Ob hj;obtain⟨t,u,rfl,ht,hu⟩:=xg (hy.mono s6);have e1:(1+(f:Int))=((f+1:Nat):Int):=by lia
   have tk:(((bS d k f).take (j+1)).flatMap λx=>dH d (f+1) x.1 x.2)=(((bS d k f).take j).flatMap λx=>dH d (f+1) x.1 x.2)++dH d (f+1) x.1 x.2:=by
    rw[AY,KW,Ay];simp
   have vl:vs6.length+(dH d (f+1) x.1 x.2).length<=900:=by
    rw[hi6.length,A1];have hjl:j<(bS d k f).length:=(AG.mp KW).1;have:(((bS d k f).take (j+1)).flatMap λx=>dH d (f+1) x.1 x.2).length<=(bS d k (f+1)).length:=by
     show _<=((bS d k f).flatMap λx=>dH d (f+1) x.1 x.2).length
     conv=>rhs;rw[<-Bn (j+1) (bS d k f)]
     rw[Ay,AC];lia
    rw[tk,AC] at this;lia
   refine⟨t,_,rfl,SqT.of ht,rfl,_,_,rfl,_,_,rfl,rfl, ?_⟩;refine⟨_,rfl, .inl ⟨rfl,_,SqL.of Lg⟩,_,rfl,_,rfl,_,rfl,_,rfl,d,f,u,x,by rw[e1];rfl,hf,d15.2,hu,LO x (AU KW),λwl H7 s7 nwl hwl=> ?_⟩;obtain⟨_,us,e,hwl',hwi⟩:=aH hwl;cases e;have ul:us.length=(dH d (f+1) x.1 x.2).length:=by rw[hwi.length,A1]
   refine⟨lo,wl,vs6,us,rfl,rfl,s7 _ _ Lg,bC _ _ hwl',AT (aD (by lia)),⟨_,_,rfl⟩,(s6.trans s7).put MP, ?_⟩;rw[tk,A9];exact Acc.adds s6 s7 Lg hi6 hwi
  .rintro σ H6 ⟨⟨v5,v6,rfl⟩,s6,Ky⟩;rw[Nz,AQ] at Ky;exact⟨_,rfl,lo,⟨_,_,_,_,rfl⟩,s4.trans s6,(Ky.is MP).mono (jB s4)⟩
 .clear Pz LQ nbH Py;rintro σ H4 ⟨bg,⟨v3,v4,v5,v6,rfl⟩,s4,Py⟩;obtain⟨_,bvs,e,hb4,Ob⟩:=aH Py;cases e;have NA:=bC _ _ hb4;have Nz:bvs.length=(bS d k d).length:=by rw[Ob.length,A1]
  refine⟨_,rfl,bg,rfl,⟨_,SqL.of NA⟩,λacc na=> ?_⟩;refine i7 (xs:=bvs) (own:=2) (js:=[]) (λj H5=>ag H4 H5/\∃vs,H5 acc=some (.lst vs)/\Iss (nw H H4) (((((bS d k d).take j).filter λx=>decide (x.2=0)).map (·.1)).map lfs) vs) ⟨ag.new na,[],am,aA⟩ (λj H5 _ h=>SqL.of (h.1 _ _ NA)) ?_ ?_ kr ?_ ?_
  .rintro j y H5 hj ⟨s5,vs,Ky,hi⟩;obtain⟨x,KW,hy⟩:=bA Ob hj;obtain⟨t,u,rfl,ht,hu⟩:=xg hy;have vl:vs.length<=900:=by
    rw[hi.length,A1,A1];refine As (CM _ _) ?_;rw[Aa];obtain⟨d',rfl⟩:∃d',d=d'+1:=⟨d-1,by lia⟩;have:=(gA d' (by lia)).2;lia
   refine⟨t,_,rfl,SqT.of (s5 _ _ (bC _ _ ht)),rfl,_,_,rfl,_,_,rfl,rfl, ?_⟩;refine⟨_,rfl,rfl,_,rfl,dE (λc=> ?_) (λc=> ?_)⟩
   .refine⟨_,rfl,acc,vs,_,rfl,rfl,Ky,aD (by lia),s5.put na,_,am, ?_⟩;rw[AY,KW,Bo];have ef:(Option.toList (some x)).filter (λx=>decide (x.2=0))=[x]:=by simp[c]
    rw[ef,A9,A9];exact hi.append (ax hu aA)
   .refine⟨s5,vs,Ky, ?_⟩;rw[AY,KW,Bo];have ef:(Option.toList (some x)).filter (λx=>decide (x.2=0))=[]:=by simp[c]
    rw[ef,B8];exact hi
  .rintro H5 ⟨s5,vs,Ky,hi⟩;rw[Nz,AQ] at hi;have hi:Iss (nw H H4) ((cz d k).map lfs) vs:=hi;have s05:=s4.trans s5;have hv5:Iss H5 ((cz d k).map lfs) vs:=(hi.mono bC).mono s5;have Of:vs.length=(cz d k).length:=by rw[hi.length,A1]
   refine Jo Ky hv5 (λx v h=>let ⟨a,ys,e1,e2,_⟩:=aH h;⟨a,ys,e1,e2⟩) (λ_ _ _ _ h h'=>Hm h h') g3 g6 λp q pp nq=> ?_;refine kk (p.map λi=>(cz d k).getD i []) q _ (Jp pp) (s05.put (s05.free nq)) (s05.free nq) ?_;exact aI (by rw[cM (s05.free nq)];exact am) ((xt [] hi p λi h=>Ag.mp (pp.mem_iff.mp h)).mono (gx (s5.trans (ag.new nq))))
  .rintro σ H R R' k' ⟨v1,e1,e2,b,e3,h⟩;exact⟨v1,e1,e2,b,e3,k' _ _ h⟩
  .rintro σ H R R' k' ⟨v1,e1,h⟩;exact⟨v1,e1,k' _ _ h⟩
theorem Jx:OKQ T.X22 P w base 5 spSou:=by
 refine FbO T.X22 G5 λ_ _ _ _ H vs Q E hr h=> ?_;obtain⟨n,dv,ps,rfl,n1,n5,hd,hs,kk⟩:=h;refine⟨_,(ak (ay (iP j5 (aS (EG rfl) (by rfl) T.n_min boot_min (ae (pcq (qt T) hr T.X21 (ae (pv 0) (ae (pv 1) af))) af)) ah (aL _)))), ?_⟩;refine⟨_,rfl,_,rfl,n,dv,ps,rfl,n1,n5,hd,hs.okl,λl H1 s1 nl hl=> ?_⟩;refine⟨l,_,rfl,SqL.of hl,by rw[lm n ps hs.okl];lia,_,_,rfl,rfl, ?_⟩;show Q (.bl (decide (0<=jb (bH n ps)))) H1;rw[BA (IW hs.ends)];exact kk H1 s1
theorem Jy:OKQ T.X28 P w base 6 spNeS:=by
 refine FbO T.X28 G7 λ_ _ _ _ H vs Q E hr h=> ?_;obtain⟨n,dv,ps,rfl,n1,n5,hd,hs,kk⟩:=h;refine⟨_,(aj (aZ (pcq (xF T) hr T.X3 (ae (pv 0) af)))
  (ak (bc (di (eR (pcq (Jx T) hr T.X22 (ae (pv 0) (ae (pv 1) af))))) (ak yS) aY))), ?_⟩
 exact⟨_,rfl,n,rfl,by lia,by lia,_,rfl,_,rfl,n,dv,ps,rfl,n1,n5,hd,hs,λH1 s1=>⟨true,rfl,aT (kk H1 s1)⟩⟩
theorem Jz:OKQ T.X29 P w base 5 spEnM:=by
 refine FbO T.X29 kS λ_ _ _ _ H vs Q E hr h=> ?_;obtain⟨n,dv,ps,rfl,n1,n5,hd,hs,Kz,kk⟩:=h;refine⟨_,(aj (pSA (i:=2) kS.nd (av af))
  (aj (aE AH rfl (gS (by rfl) T.n_enumerate (pcq (qt T) hr T.X21 (ae (pv 0) (ae (pv 1) af)))) (cp rfl (aK (pGA (i:=3) kS.nd) (aK (pGA (i:=4) kS.nd) bV))) (ak (aZ (cu Ab CD CC iU (pv 2) (ae (ai fI (av (ae (bK (ae (ai aB (pv 3) ah) (ae (ai aB (pv 0) ah) (ae ah af)))) af)) (pv 4)) af)))))
  (ak (ay (pv 2))))), ?_⟩
 refine⟨AJ _,λfo H1 nf s1 La=> ?_⟩;refine⟨_,rfl,_,rfl,n,dv,ps,rfl,n1,n5,hd.mono s1,hs.okl,λe H2 s2 ne he=> ?_⟩;have el:=lm n ps hs.okl;have efo:e≠fo:=by rintro rfl;rw[La] at ne;cases ne
 refine⟨e,rfl,⟨_,SqL.of he⟩,i8 (xs:=(bH n ps).map V.int) (λi σ H3=>(∃v3 v4,σ=[some (.int n),some dv,some (.ref fo),v3,v4])/\ag H H3/\H3 e=some (.lst ((bH n ps).map V.int))/\∃vs,H3 fo=some (.lst vs)/\Iss H3 (((List.range i).flatMap (fP n (bH n ps))).map lf) vs)
  ⟨⟨none,none,rfl⟩,s1.trans s2,he,[],s2 _ _ La,aA⟩ (λi σ H3 _ h=>SqL.of h.2.2.1) ?_ ?_⟩
 .rintro i x σ H3 p hx ⟨⟨v3,v4,rfl⟩,s3,he3,vs,hf3,hi3⟩ np;rw[AE] at hx;obtain⟨x,KW,rfl⟩:=AA.mp hx;have hi:i<n:=by have:=(AG.mp KW).1;lia
  have ex:(bH n ps).getD i 0=x:=by rw[List.getD,KW];rfl
  have x0:0<=x:=by rw[<-ex];exact hs.ends i
  have pre:((List.range i).flatMap (fP n (bH n ps))).length+x.toNat<=20:=by
   have:=lu (fP n (bH n ps)) hi;have e2:(fP n (bH n ps) i).length=x.toNat:=by unfold fP;rw[Ad,ex]
   unfold fh at Kz;lia
  refine⟨p,_,rfl,SqT.of am,rfl,_,_,rfl,_,_,rfl,rfl, ?_⟩;have s4:ag H3 (upd H3 p (.tup [.int i, .int x])):=ag.new np;generalize upd H3 p (.tup [.int i, .int x])=H4 at s4⊢;refine⟨_,rfl, .inl ⟨rfl,_,SqL.of (s4 _ _ hf3)⟩,_,rfl,_,_,rfl,rfl,_,rfl,_,_,rfl,rfl,(zB rfl),λt H5 nt s5 ht=>⟨(zB rfl),λl1 H6 n6 s6 h6=> ?_⟩⟩;have htl:Is H6 (lf (1+(i:Int),(n:Int)+1,1)) (.ref t):=jA (s6 _ _ (by rw[ht];show some (HO.tup [V.int ((i:Int)+1),_,_])=_;rw[Int.add_comm]));refine⟨_,rfl,lf (1+(i:Int),(n:Int)+1,1),x,aI h6 (ax htl aA),rfl,by lia,by lia,AT (aD (by lia)),λl2 H7 n7 s7 h7=> ?_⟩;obtain⟨_,us,e2,KQ,Ms⟩:=aH h7;cases e2;have s47:ag H3 H7:=((s4.trans s5).trans s6).trans s7;have hf7:=s47 _ _ hf3;have ul:us.length=x.toNat:=by rw[Ms.length,Ad]
  have vl:=hi3.length;rw[A1] at vl;refine⟨fo,l2,vs,us,rfl,rfl,hf7,KQ,AT (aD (by lia)),⟨_,_,rfl⟩,(s3.trans s47).put nf,by rw[au efo];exact s47 _ _ he3,_,am, ?_⟩;rw[ie,A9];refine(xk s47 hf3 hi3).append (xk (ag.refl H7) hf7 ?_);have:(fP n (bH n ps) i).map lf=List.replicate x.toNat (lf (1+(i:Int),(n:Int)+1,1)):=by unfold fP;rw[ex,Bw]
  rw[this];exact Ms
 .rintro σ H3 ⟨⟨v3,v4,rfl⟩,s3,he3,vs,hf3,hi3⟩;rw[A1,el] at hi3;exact⟨_,rfl,kk fo H3 s3 nf (aI hf3 hi3)⟩
theorem qu:OKQ T.X4 P w base 1 spCho:=by
 refine FbO T.X4 kM λ_ _ _ _ H vs Q E hr h=> ?_;obtain⟨n,k,rfl,h1,h2,kk⟩:=h;refine⟨_,(aj (bc (eS (aO fA (pv 1) ah (aL _)) (fz (aO gb (pv 1) (pv 0) (aL _)))).pt (ak (ay ah)) aY)
  (aj (pSA (i:=2) kM.nd ah)
  (aj (aE AH rfl (cH (by rfl) T.n_range (ae (pv 1) af)) (pGA (i:=3) kM.nd) (ak (pSA (i:=2) kM.nd (ai mj (ai bt (pv 2) (ai aJ (pv 0) (pv 3))) (ai aB (pv 3) ah)))))
  (ak (ay (pv 2)))))), ?_⟩
 refine⟨_,rfl,_,_,rfl,rfl,_,rfl,bG (λh=>absurd h (by lia)) (λ_=> ?_)⟩;refine⟨_,rfl,_,rfl,_,_,rfl,rfl,_,rfl,bG (λh=>absurd h (by lia)) (λ_=> ?_)⟩;refine⟨_,rfl,(k:Int),rfl,by lia,by lia,ci (lo:=0) (n:=(k:Int).toNat) (λi σ H2=>(∃v3,σ=[some (.int n),some (.int k),some (.int (chF n i)),v3])/\H2=H) ⟨⟨none,rfl⟩,rfl⟩ ?_ ?_⟩
 .rintro i σ H2 hi ⟨⟨v3,rfl⟩,rfl⟩;refine⟨_,rfl,_,rfl,_,rfl,_,_,rfl,rfl,_,_,rfl,rfl, .inr ⟨by lia,by lia⟩,_,rfl,_,_,rfl,rfl,_,_,rfl,rfl,⟨by lia,by lia⟩,⟨some (.int (0+(i:Int))), ?_⟩,rfl⟩;rw[show chF n (i+1)=chF n i*(n-(0+(i:Int)))/((0+(i:Int))+1) by rw[Bh];rfl];rfl
 .rintro σ H2 ⟨⟨v3,rfl⟩,rfl⟩;rw[AV];exact⟨_,rfl,kk⟩
theorem jO:OKQ T.X11 P w base 1 spWm:=by
 refine FbO T.X11 G2 λ_ _ _ _ H vs Q E hr h=> ?_;obtain⟨v,t,p,m,rfl,hv,hp,hl,kk⟩:=h;refine⟨_,(ak (ay (ai nD (ai nD (fE uD (pv 0) fC (fD (pv 1))) (bK (ae (ai aB (az bX (pv 0) (pv 1) (λ_ _=>rfl)) (pv 2)) af))) (fE uD (pv 0) (fD (ai aB (pv 1) ah)) fC)))), ?_⟩;have Kz:∀vs:P' V,vs.length=(t.map D.i).length->vs.length=t.length:=λvs e=>by rw[e,A1]
 refine⟨_,rfl,_,rfl,(p:Int),rfl,t.map .i,(t.take p).map .i,hv,Ja,λvs e h=> ?_,λu1 H1 s1 Ld=> ?_⟩
 .have e:=Kz vs e;rw[HT.sIx_nat] at h;lia
 refine⟨_,rfl,_,rfl,t.map .i,(p:Int), .i (t.getD p 0),hv.mono s1,rfl, ?_,λu hu=> ?_⟩
 .refine ja (j:=p) rfl ?_;rw[AE,A2 hp];simp[List.getD,hp]
 rw[aX hu];refine⟨_,rfl,_,_,rfl,rfl,(zB rfl),λq2 H2 n2 s2 h2=> ?_⟩;have L7:Is H2 (.t [.i (t.getD p 0+m)]) (.ref q2):=bO h2 (ax aU aA);refine⟨_,_,Ld.mono s2,L7,AT (aD (by rw[A1,Aa];show _+1<=1000;lia)),λu3 H3 s3 hu3=> ?_⟩;refine⟨_,rfl,_,rfl,_,_,rfl,rfl,(p:Int)+1,rfl,t.map .i,(t.drop (p+1)).map .i,((hv.mono s1).mono s2).mono s3, ?_,λvs e h=> ?_,λu4 H4 s4 hu4=> ?_⟩
 .rw [show((p:Int)+1)=((p+1:Nat):Int) by lia];exact Jb (by lia)
 .have e:=Kz vs e;rw[show((p:Int)+1)=((p+1:Nat):Int) by lia,HT.sIx_nat] at h;lia
 refine⟨_,_,hu3.mono s4,hu4,AT (aD (by rw[AC,A1,A1,Aa,CZ];show _+1+_<=1000;lia)),λu5 H5 s5 hu5=> ?_⟩;refine kk u5 H5 ((((s1.trans s2).trans s3).trans s4).trans s5) ?_;have e:(t.take p).map D.i++[D.i (t.getD p 0+m)]++(t.drop (p+1)).map D.i=(wmF t p m).map D.i:=by
  unfold wmF;rw[<-Hx hp,A9,A9];rfl
 rw[e] at hu5;exact hu5
theorem xJ:∀n:Nat,FnOk P w K mg base CX0 (n+2) T.f30 T.d30 ["numbers","first","last","alike"] (spPB n K)
 |0=>⟨λvs H Q E h=>(by obtain⟨_,_,_,_,_,_,_,h,_⟩:=h;exact absurd h (Nat.not_lt_zero _)),λA outer s H args us vs Q E _ _ _ _ h=>(by obtain⟨_,_,_,_,_,_,_,h,_⟩:=h;exact absurd h (Nat.not_lt_zero _))⟩
 |n+1=>by
  have ih:=xJ n;refine T.X30.F.ok ic (λvs H Q E h=> ?_) (λKM A outer s H vs Q E hr h=> ?_)
  .obtain⟨_,_,_,_,_,rfl,_⟩:=h;rfl
  .obtain⟨v,t,p,g,a,rfl,hv,hg,hn,hp,⟨kl,kn,ks⟩,kk⟩:=h;refine⟨_,(aj (bc (aO dj (pv 1) (pv 2) (aL _)) (ak (ay (av (ae (bK (ae (pcq (jO T) hr T.X11 (ae (pv 0) (ae (pv 1) (ae (pv 3) af))) (by lia)) (ae (pcq (qu T) hr T.X4 (ae (ai aB (az bX (pv 0) (pv 1) (λ_ _=>rfl)) (pv 3)) (ae (pv 3) af)) (by lia)) af))) af)))) aY)
   (aj (pSA (i:=4) ic.nd (av af))
   (aj (aE AH rfl (cH (by rfl) T.n_range (ae (ai aB (pv 3) ah) af)) (pGA (i:=5) ic.nd) (aj (pSA (i:=6) ic.nd (pcq (qu T) hr T.X4 (ae (ai aB (az bX (pv 0) (pv 1) (λ_ _=>rfl)) (pv 5)) (ae (pv 5) af)) (by lia)))
   (ak (aE AH rfl (bv (cP ih hr (by rfl) T.X30.m T.X30.F.kp T.X30.B .nil gN (ae (pcq (jO T) hr T.X11 (ae (pv 0) (ae (pv 1) (ae (pv 5) af))) (by lia)) (ae (ai aB (pv 1) ah) (ae (pv 2) (ae (ai aJ (pv 3) (pv 5)) af)))))) (cp rfl (aK (pGA (i:=7) ic.nd) (aK (pGA (i:=8) ic.nd) bV))) (ak (aZ (cu Ab BD BC dB (pv 4) (ae (bK (ae (pv 7) (ae (ai bt (pv 6) (pv 8)) af))) af))))))))
   (ak (ay (pv 4)))))), ?_⟩
   have kp:=(ig kn).2 p;have kp0:=kn p;have at_p:∀{H':Hp},ag H H'->∀{v':V},Is H' (tI t) v'->atI (t.map D.i) (p:Int)=some (.i (t.getD p 0)):=λ_ _ _=>by
    refine ja (j:=p) rfl ?_;rw[AE,A2 (by lia)];simp[List.getD,show p<t.length by lia]
   refine⟨_,rfl,_,rfl,rfl,_,rfl,dE (λe=> ?_) (λe=> ?_)⟩
   .have hg0:g=0:=by lia
    subst hg0;refine⟨_,rfl,_,rfl,_,rfl,v,t,p,a,rfl,hv,by lia,kl,λu1 H1 s1 Ld=> ?_⟩;refine⟨_,rfl,_,rfl,t.map .i,(p:Int),_,hv.mono s1,rfl,at_p s1 (hv.mono s1),λu hu=> ?_⟩;rw[aX hu];refine⟨_,rfl,_,_,rfl,rfl,_,rfl,t.getD p 0+a,a,rfl,by lia,by lia, ?_⟩;refine⟨(zB rfl),λq2 H2 n2 s2 h2=>⟨(zB rfl),λq3 H3 n3 s3 h3=> ?_⟩⟩;have Lz:=s1.trans s2;refine kk q3 H3 (Lz.trans s3) (Lz.free n3) (aI h3 (ax ((qf (x:=(wmF t p (a:Int),chF (t.getD p 0+(a:Int)) a)) h2 (Ld.mono s2)).mono s3) aA))
   .obtain⟨g,rfl⟩:∃g',g=g'+1:=⟨g-1,by lia⟩;refine⟨AJ _,λfo H1 nf s1 La=> ?_⟩;have big:=Jc (g:=g+1) (t:=t) (p:=p) (a:=a) (by lia) (by have:=(ig kn).1;lia);have a15:(a:Int)<=15:=by have:=(ig kn).1;lia
    refine⟨_,rfl,_,_,rfl,rfl,_,rfl,by lia,by lia, ?_⟩;rw[show((a:Int)+1).toNat=a+1 by lia];refine ci (lo:=0) (n:=a+1) (λh σ H2=>(∃v5 v6 v7 v8,σ=[some v,some (.int p),some (.int ((p:Int)+((g+1:Nat):Int))),some (.int a),some (.ref fo),v5,v6,v7,v8])/\ag H H2/\∃vs,H2 fo=some (.lst vs)/\Iss H2 (((List.range h).flatMap λh:Nat=>(pbF g (wmF t p (h:Int)) (p+1) (a-h)).map λx=>(x.1,chF (t.getD p 0+(h:Int)) h*x.2)).map prD) vs) ⟨⟨none,none,none,none,rfl⟩,s1,[],La,aA⟩ ?_ ?_
    .rintro h σ H2 hh ⟨⟨v5,v6,v7,v8,rfl⟩,s2,vs2,hf2,Ms⟩;rw[Bh];have hb:∀j,j<=(pbF g (wmF t p (h:Int)) (p+1) (a-h)).length->((List.range h).flatMap λh:Nat=>(pbF g (wmF t p (h:Int)) (p+1) (a-h)).map λx=>(x.1,chF (t.getD p 0+(h:Int)) h*x.2)).length+j<=1048576:=λj hj=>by
      have:=lu (λh:Nat=>(pbF g (wmF t p (h:Int)) (p+1) (a-h)).map λx=>(x.1,chF (t.getD p 0+(h:Int)) h*x.2)) hh;rw[A1] at this;unfold pbF at big;lia
     rw[ie];generalize ((List.range h).flatMap λh:Nat=>(pbF g (wmF t p (h:Int)) (p+1) (a-h)).map λx=>(x.1,chF (t.getD p 0+(h:Int)) h*x.2))=pr at Ms hb⊢;obtain⟨c1,c2⟩:=vo (n:=t.getD p 0+(h:Int)) (k:=h) (by lia) (by lia);refine⟨_,rfl,_,rfl,t.map .i,(p:Int),_,hv.mono s2,rfl,at_p s2 (hv.mono s2),λu hu=> ?_⟩;rw[aX hu];refine⟨_,rfl,_,_,rfl,rfl,_,rfl,t.getD p 0+(h:Int),h,rfl,by lia,by lia, ?_⟩;refine⟨_,rfl,_,rfl,_,rfl,v,t,p,(h:Int),rfl,hv.mono s2,by lia,kl,λu3 H3 s3 hu3=> ?_⟩;refine⟨_,rfl,_,_,rfl,rfl,_,rfl,_,rfl,_,rfl,_,_,rfl,rfl,u3,wmF t p (h:Int),p+1,g,a-h, ?_,hu3,by lia,by lia,by rw[dg];lia,⟨by rw[dg];exact kl,λi=> ?_, ?_⟩,λrl H4 s4 Mw MO=> ?_⟩
     .have e1:((p:Int)+1)=((p+1:Nat):Int):=by lia
      have e2:(p:Int)+((g+1:Nat):Int)=((p+1:Nat):Int)+(g:Int):=by lia
      have e3:(a:Int)-(h:Int)=((a-h:Nat):Int):=by lia
      show [u3,V.int ((p:Int)+1),V.int ((p:Int)+((g+1:Nat):Int)),V.int ((a:Int)-(h:Int))]=_;rw[e1,e2,e3]
     .rw [lw (by lia)];have:=kn i;split<;>lia
     .rw [lA (by lia)];lia
     obtain⟨_,LB,e,Ny,LV⟩:=aH MO;cases e;generalize pbF g (wmF t p (h:Int)) (p+1) (a-h)=O at LV hb⊢;have LW:LB.length=O.length:=by rw[LV.length,A1]
     have ON:=s3.trans s4;have hf4:=ON _ _ hf2;have Nv:rl≠fo:=by rintro rfl;rw[s3 _ _ hf2] at Mw;cases Mw
     refine⟨rl,rfl,⟨_,SqL.of Ny⟩,bM (xs:=LB) (λj σ H5=>(∃v7 v8,σ=[some v,some (.int p),some (.int ((p:Int)+((g+1:Nat):Int))),some (.int a),some (.ref fo),some (.int h),some (.int (chF (t.getD p 0+(h:Int)) h)),v7,v8])/\ag H H5/\H5 rl=some (.lst LB)/\aF H4 H5/\∃vs,H5 fo=some (.lst vs)/\Iss H5 ((pr++(O.take j).map λx=>(x.1,chF (t.getD p 0+(h:Int)) h*x.2)).map prD) vs) ⟨⟨_,_,rfl⟩,s2.trans ON,Ny,aF.of_same (ag.refl H4),vs2,hf4,by simpa using Ms.mono ON⟩ (λj σ H5 _ h=>SqL.of h.2.2.1) ?_ ?_⟩
     .rintro j y σ H5 hj ⟨⟨v7,v8,rfl⟩,s5,MG,t5,Og,PB,NU⟩;obtain⟨x,KW,hy⟩:=bA LV hj;have hjl:j<O.length:=(AG.mp KW).1;obtain⟨q,u6,rfl,hq,hu6⟩:=qg (lV t5 hy);have vl:=NU.length;rw[A1,AC,A1,Aa] at vl;have hbj:=hb (j+1) (by lia);refine⟨q,_,rfl,SqT.of hq,rfl,_,_,rfl,_,_,rfl,rfl, ?_⟩;refine⟨_,rfl, .inl ⟨rfl,_,SqL.of PB⟩,_,rfl,_,rfl,_,rfl,_,_,rfl,rfl, .inl ⟨by lia,by lia⟩,(zB rfl),λq6 H6 n6 s6 h6=> ?_⟩;refine⟨fo,Og,_,rfl,rfl,s6 _ _ PB,iD (by lia),⟨_,_,rfl⟩,(s5.trans s6).put nf,by rw[au Nv];exact s6 _ _ MG,(t5.trans (aF.of_same s6)).trans (aF.upd (s6 _ _ PB)),_,am, ?_⟩;have ez:(pr++(O.take (j+1)).map λx=>(x.1,chF (t.getD p 0+(h:Int)) h*x.2))=(pr++(O.take j).map λx=>(x.1,chF (t.getD p 0+(h:Int)) h*x.2))++[(x.1,chF (t.getD p 0+(h:Int)) h*x.2)]:=by
       rw[AY,KW,Option.toList_some,A9,B0];rfl
      rw[ez,A9];refine(xo ((aF.of_same s6).trans (aF.upd (s6 _ _ PB))) NU).append ?_;exact ax (lV (aF.upd (s6 _ _ PB)) (qf (x:=(x.1,chF (t.getD p 0+(h:Int)) h*x.2)) h6 (hu6.mono s6))) aA
     .rintro σ H5 ⟨⟨v7,v8,rfl⟩,s5,MG,t5,Og,PB,NU⟩;rw[LW,AQ] at NU;exact⟨⟨_,_,_,_,rfl⟩,s5,Og,PB,NU⟩
    .rintro σ H2 ⟨⟨v5,v6,v7,v8,rfl⟩,s2,vs2,hf2,Ms⟩;exact⟨_,rfl,kk fo H2 s2 nf (aI hf2 Ms)⟩
theorem JA:OKQ T.X31 P w base 9 spHMO:=by
 refine FbO T.X31 fK λ_ _ _ _ H vs Q E hr h=> ?_;obtain⟨d,v,mk,rfl,d1,d5,hv,⟨mok,mlen⟩,Pm,kk⟩:=h;refine⟨_,(aj (pSA (i:=2) fK.nd (FY (cQ hr) (iS ss (by rfl) T.n_tuple boot_tuple (ae (ai fI (av (ae ah af)) (pv 0)) af)) ah))
  (aj (aE AH rfl (bv (FM (FH hr) hr.hd (by rfl) T.n_sorted (by rfl) T.n_set (ae (pv 1) af))) (pGA (i:=3) fK.nd) (aj (pSA (i:=4) fK.nd Dk)
  (aj (aE AH rfl (FV (pv 2)) (pGA (i:=5) fK.nd) (ak (aE AH rfl (bv (pcq (xJ T 6) hr T.X30 (ae (pv 5) (ae (ai aJ (az bX (pv 3) ah (λ_ _=>rfl)) ah) (ae (ai aJ (az bX (pv 3) ah (λ_ _=>rfl)) ah) (ae (cu Ab PySem.F.slot_list_count PySem.F.type_list_count (Fh hr) (pv 1) (ae (pv 3) af)) af)))))) (cp rfl (aK (pGA (i:=6) fK.nd) (aK (pGA (i:=7) fK.nd) bV))) (ak (i5 (cQ hr) (pv 4) (pv 6) (ai aB (ka (cQ hr) (pv 4) (pv 6) ah ⟨rfl,rfl,rfl,rfl⟩) (ai bt (j' (cQ hr) (pv 2) (pv 5) (λ_ _=>rfl)) (pv 7))) rfl)))))
  (ak (pSA (i:=2) fK.nd (pv 4))))))
  (ak (ay (F' rfl (by rfl) T.n_sum (pv 2)))))), ?_⟩
 obtain⟨wa,Oe,rfl,hwa,hwi⟩:=aH hv;have wlen:Oe.length=mk.length:=by rw[hwi.length,A1]
 refine λkd nkd=> ?_;have s0:ag H (upd H kd (.dT [])):=ag.new nkd;have PD:upd H kd (.dT []) kd=some (.dT []):=am;generalize upd H kd (.dT [])=H0 at s0 PD⊢;refine⟨(zB rfl),λl1 H1 n1 s1 h1=> ?_⟩;refine⟨_,rfl, .i 0,d,aI h1 (ax aU aA),rfl,by lia,by lia,AT (aD (by lia)),λl2 H2 n2 s2 h2=> ?_⟩;refine⟨.ref l2,_,rfl,h2,λt3 H3 n3 s3 h3=> ?_⟩;have LQ:=(s1.trans s2).trans s3;have hkd3:=LQ _ _ PD;rw[AV] at h3;have ht3:H3 t3=some (.tup ((bI (List.replicate d 0)).map kV)):=by
  rw[<-Bw] at h3;obtain⟨a,e,ha⟩:=bY (xs:=List.replicate d 0) h3;cases e;rw[lB];exact ha
 refine⟨hkd3,bI (List.replicate d 0),t3,rfl,ht3, ?_⟩;have e0:aQ ([]:P' (P' Key×V)) (bI (List.replicate d 0)) (.int 1)=bq [(List.replicate d 0,1)]:=vI [] _ _;rw[e0];have sH:ag H (upd H3 kd (.dT (bq [(List.replicate d 0,1)]))):=(s0.trans LQ).put nkd;have M6:upd H3 kd (.dT (bq [(List.replicate d 0,1)])) kd=some (.dT (bq [(List.replicate d 0,1)])):=am;generalize upd H3 kd (.dT (bq [(List.replicate d 0,1)]))=H4 at sH M6⊢;clear h1 h2 h3 ht3 hkd3 LQ s1 s2 s3 n1 n2 n3 PD s0 e0 H0 H1 H2 H3;have tab0:TabOk d 0 [(List.replicate d 0,(1:Int))]:=by
  refine⟨by simp,λx hx=> ?_⟩;rw[Aq.mp hx];refine⟨by simp,by simp,λi=> ?_⟩;rw[A4,Cq];split<;>simp
 refine⟨_,rfl, .ref wa,mk.map bZ,3,rfl,by rw[<-uZ];exact hv.mono sH,by decide,IV,Pm,λLM l0 H5 nd mem so nl0 s5 hq=> ?_⟩;have ey:=Hv nd mem so;subst ey;rw[<-uZ] at hq;clear nd mem so;have hhm:bE [(List.replicate d 0,(1:Int))] (TF (λm=>mk.count m) (df mk))=hmF d mk:=by
  simp[bE,hmF]
 have hS:∀m∈df mk,m∈mk:=λm hm=>pB.mp hm;have hSn:=Jg mk;generalize hcn:(λm=>mk.count m)=cnt at hhm;generalize hmF d mk=tot at hhm kk;generalize df mk=S at hq hhm hS hSn;obtain⟨_,LR,e,Nx,Nk⟩:=aH hq;cases e;have NB:LR.length=S.length:=by rw[Nk.length,A1]
 refine⟨l0,rfl,⟨_,SqL.of Nx⟩,bM (xs:=LR) (λi σ H6=>(∃kd D n,(∃v3 v4 v5 v6 v7,σ=[some (.int d),some (.ref wa),some (.ref kd),v3,v4,v5,v6,v7])/\H6 kd=some (.dT (bq D))/\TabOk d n D/\n=((S.take i).map cnt).sum/\bE D (TF cnt (S.drop i))=tot/\H kd=none)/\ag H H6/\H6 l0=some (.lst LR)/\aF H5 H6) ⟨⟨kd,_,0,⟨none,none,none,none,none,rfl⟩,s5 _ _ M6,tab0,rfl,hhm,nkd⟩,sH.trans s5,Nx,aF.of_same (ag.refl H5)⟩ (λi σ H6 _ h=>SqL.of h.2.2.1) ?_ ?_⟩
 .rintro i y σ H6 hi ⟨⟨kd,D,n,⟨v3,v4,v5,v6,v7,rfl⟩,NC,tab,hn,MY,nkd⟩,s6,hl6,t6⟩;obtain⟨x,KW,hy⟩:=bA Nk hi;have hil:i<S.length:=(AG.mp KW).1;have exi:S[i]=x:=(AG.mp KW).2;obtain⟨ya,rfl,M8⟩:=fN hy;obtain⟨o1,o2,o3⟩:=mok x (hS x (AU KW));have Oy:((S.take (i+1)).map cnt).sum=n+cnt x:=by
   rw[AY,KW,A9,List.sum_append,<-hn];simp
  have hn15:n+cnt x<=15:=by
   have:=vK mk (S.take (i+1)) (hSn.sublist (List.take_sublist _ _));rw[hcn,Oy] at this;lia
  rw[Bk hil,exi,Jh] at MY;obtain⟨p,hp⟩:∃p:Nat,x.1-1=(p:Int):=⟨(x.1-1).toNat,by lia⟩;obtain⟨g,hg⟩:∃g:Nat,x.2.1-x.1-1=(g:Int):=⟨(x.2.1-x.1-1).toNat,by lia⟩;rw[hp,hg,AV,AV] at MY;have rok:pE p d n (n+cnt x) (spR g (cnt x)):=λr hr=>by
   obtain⟨e1,e2⟩:=pD hr;exact⟨by lia,by lia⟩
  obtain⟨tab',sum'⟩:=pG rok (TF cnt (S.drop (i+1))) tab.key (acc:=[]) ⟨by simp,λx hx=>nomatch hx⟩;refine λf nf=> ?_;have s7:ag H6 (upd H6 f (.dT [])):=ag.new nf;have hf7:upd H6 f (.dT []) f=some (.dT (bq [])):=am;have NT:H f=none:=s6.free nf;have fkd:f≠kd:=by rintro rfl;rw[NC] at nf;cases nf
  generalize upd H6 f (.dT [])=H7 at s7 hf7⊢;refine⟨_,rfl,kd,bq D,rfl, .inl (s7 _ _ NC),λo H8 hk8 ND=> ?_⟩;have l8:LTS H7 H8:=LTS.rd (.inl (s7 _ _ NC)) ND;have s8:ag H H8:=λb u e=>by rw[ND b (by rintro rfl;rw[nkd] at e;cases e)];exact s7 _ _ (s6 _ _ e)
  refine FW (λj σ H9=>(∃v5 v6 v7,σ=[some (.int d),some (.ref wa),some (.ref kd),some (.ref ya),some (.ref f),v5,v6,v7])/\ag H H9/\H9 kd=some (.frz o (.dT (bq D)))/\H9 l0=some (.lst LR)/\aF H5 H9/\H9 f=some (.dT (bq (stP p (spR g (cnt x)) (D.take j) [])))) ⟨⟨_,_,_,rfl⟩,s8,hk8,l8.1 _ _ (s7 _ _ hl6),(t6.trans (aF.of_same s7)).trans l8.2,by rw[ND f fkd];exact hf7⟩ (λj σ H9 _ h=>h.2.2.1) ?_ ?_
  .rintro j k c b σ H9 hj ⟨⟨v5,v6,v7,rfl⟩,s9,hk9,hl9,t9,OO⟩ hb;unfold bq at hj;rw[AE] at hj;obtain⟨⟨t,cv⟩,hD,ekc⟩:=AA.mp hj;simp only[Prod.mk.injEq] at ekc;obtain⟨rfl,rfl⟩:=ekc;rw[lB] at hb;have hDm:(t,cv)∈D:=AU hD;obtain⟨k1,k2,k3⟩:t.length=d/\t.sum=(n:Int)/\∀i:Nat,0<=t.getD i 0:=tab.key _ hDm;have hx9:Is H9 (lf x) (.ref ya):=jA (t9 _ _ M8);have hw9:=hwi.mono s9;rw[Ji hD];have OP:=(pG rok (λ_=>0) (xs:=D.take j) (λy hy=>tab.key y (D' hy)) (acc:=[]) ⟨by simp,λx hx=>nomatch hx⟩).1;generalize stP p (spR g (cnt x)) (D.take j) []=ac at OO OP⊢;refine⟨_,rfl,_,rfl,_,0,_,hx9,rfl,rfl,λu1 Ld=> ?_⟩;rw[aX Ld];refine⟨_,_,rfl,rfl,_,rfl,_,1,_,hx9,rfl,rfl,λu2 L7=> ?_⟩;rw[aX L7];refine⟨_,_,rfl,rfl,_,rfl, .inl ⟨rfl,_,SqL.of (s9 _ _ hwa)⟩,_,rfl,wa,Oe, .ref ya,1,_,rfl,rfl,SqL.of (s9 _ _ hwa),Jf hw9 hx9, ?_⟩;rw[wlen,HN];refine⟨.ref b,t,p,g,cnt x, ?_,eV hb,by lia,by decide,by lia,⟨by lia,k3,by lia⟩,λrl H10 Ol Mw MO=> ?_⟩
   .show [V.ref b,V.int (x.1-1),V.int (x.2.1-2),V.int (mk.count x:Nat)]=_;rw[hp,show x.2.1-2=(p:Int)+(g:Int) by lia,<-hcn]
   rw[vx (by lia),BG] at MO;obtain⟨_,LB,e,OQ,LV⟩:=aH MO;cases e;have hrs:∀r∈spR g (cnt x),r.length=g+1/\r.sum=cnt x:=λr hr=>pD hr;generalize spR g (cnt x)=rs at LV rok hrs⊢;have LW:LB.length=rs.length:=by rw[LV.length,A1]
   have hk10:=Ol _ _ hk9;have hf10:=Ol _ _ OO;have rlf:rl≠f:=by rintro rfl;rw[OO] at Mw;cases Mw
   have l0f:l0≠f:=by rintro rfl;rw[hl9] at OO;cases OO
   refine⟨rl,rfl,⟨_,SqL.of OQ⟩,bM (xs:=LB) (λm σ H11=>(∃v6 v7,σ=[some (.int d),some (.ref wa),some (.ref kd),some (.ref ya),some (.ref f),some (.ref b),v6,v7])/\ag H H11/\H11 kd=some (.frz o (.dT (bq D)))/\H11 l0=some (.lst LR)/\aF H10 H11/\H11 rl=some (.lst LB)/\H11 f=some (.dT (bq (inP t cv p (rs.take m) ac)))) ⟨⟨_,_,rfl⟩,s9.trans Ol,hk10,Ol _ _ hl9,aF.of_same (ag.refl H10),OQ,hf10⟩ (λm σ H11 _ h=>SqL.of h.2.2.2.2.2.1) ?_ ?_⟩
   .rintro m z σ H11 hm ⟨⟨v6,v7,rfl⟩,PF,Om,PH,t11,OR,MH⟩;obtain⟨r,M7,hz⟩:=bA LV hm;obtain⟨q,u6,rfl,hq,hu6⟩:=qg (lV t11 hz);obtain⟨ua,rfl,hua⟩:=bY hu6;obtain⟨r1,r2⟩:=hrs r (AU M7);have hua':H11 ua=some (.tup ((bI (ck t p r)).map kV)):=by rw[lB];exact hua
    have hb11:H11 b=some (.tup ((bI t).map kV)):=by rw[lB];exact t11 _ _ (Ol _ _ hb)
    have tabm:=(pF (v:=cv) ⟨k1,k2,k3⟩ (λ_=>0) (rs:=rs.take m) (λr hr=>rok r (D' hr)) OP).1;refine⟨q,_,rfl,SqT.of hq,rfl,_,_,rfl,_,_,rfl,rfl, ?_⟩;refine⟨_,rfl,f,rfl, .inr ⟨_, .inl MH⟩,_,rfl,_,cW.t MH hua', ?_⟩;rw[HK];refine⟨_,rfl,_,rfl,kd, .int cv,rfl, .inr ⟨bq D,bI t,b, .inr ⟨o,Om⟩,rfl,hb11,(HL tab.nd hDm).symm⟩,_,rfl,_,_,rfl,rfl, .inr (Je k3 (by lia) (by lia)),_,_,rfl,rfl,_,rfl,_,rfl,f,_,rfl,dD.t MH hua' ?_, ?_⟩
    .rw [vH];exact iD (tabm.size d5 hn15)
    .rw [show inP t cv p (rs.take (m+1)) ac=ii (inP t cv p (rs.take m) ac) (ck t p r) (cv*ce t p r) from xp _ _ rs m r M7];rw[vI];exact⟨⟨_,_,rfl⟩,PF.put NT,by rw[au fkd.symm];exact Om,by rw[au l0f];exact PH,t11.trans (Jj MH),by rw[au rlf];exact OR,am⟩
   .rintro σ H11 ⟨⟨v6,v7,rfl⟩,PF,Om,PH,t11,OR,MH⟩;rw[LW,AQ] at MH;exact⟨⟨_,_,_,rfl⟩,PF,Om,PH,(t9.trans (aF.of_same Ol)).trans t11,MH⟩
  .rintro σ H9 ⟨⟨v5,v6,v7,rfl⟩,s9,hk9,hl9,t9,OO⟩;rw[vH,AQ] at OO;refine⟨_,rfl,⟨f,_,n+cnt x,⟨_,_,_,_,_,rfl⟩,OO,tab',Oy.symm, ?_,NT⟩,s9,hl9,t9⟩;rw[sum',MY];simp[bE]
 .rintro σ H6 ⟨⟨kd,D,n,⟨v3,v4,v5,v6,v7,rfl⟩,NC,tab,hn,MY,nkd⟩,s6,hl6,t6⟩;refine⟨_,rfl,kd,bq D,D.map (·.2),rfl, .inl NC,HM D, ?_⟩;rw[NB,List.drop_length] at MY;have:(D.map (·.2)).sum=tot:=by rw[<-HJ,<-MY];rfl
  rw[this];exact kk H6 s6
theorem JB:OKQ T.X32 P w base 10 spHM:=by
 refine FbO T.X32 G8 λ_ _ _ _ H vs Q E hr h=> ?_;obtain⟨d,dv,ps,rfl,d1,d5,hd,hs,Pm,kk⟩:=h;refine⟨_,(aj (aZ (pcq (Jy T) hr T.X28 (ae (pv 0) (ae (pv 1) af))))
  (ak (ay (pcq (JA T) hr T.X31 (ae (pv 0) (ae (ai dk (pv 1) (pcq (Jz T) hr T.X29 (ae (pv 0) (ae (pv 1) af)))) af)))))), ?_⟩
 obtain⟨hM,Pm⟩:=I9 Pm;have pl:=hM.2;rw[AC] at pl;refine⟨_,rfl,_,rfl,d,dv,ps,rfl,d1,d5,hd,hs,λH1 s1=> ?_⟩;refine⟨_,rfl,_,rfl,_,rfl,_,rfl,d,dv,ps,rfl,d1,d5,hd.mono s1,hs,by lia,λl2 H2 s2 n2 h2=> ?_⟩;refine⟨_,_,(hd.mono s1).mono s2,h2,AT (aD (by rw[A1,A1];lia)),λl3 H3 n3 s3 h3=> ?_⟩;rw[<-A9] at h3;refine⟨d, .ref l3,_,rfl,d1,d5,h3,hM,Pm,λH4 s4=>kk H4 (((s1.trans s2).trans s3).trans s4)⟩
theorem JC {s:P' Int}{x:Int}:atI ((s++[x]).map V.int) (-1)=some (.int x):=by
 unfold atI ixN;rw[A1,AC,A6 (by decide),AB (by simp;lia)];show((s++[x]).map V.int)[((-1:Int)+((s.length+1:Nat):Int)).toNat]? =_;rw[show((-1:Int)+((s.length+1:Nat):Int)).toNat=s.length by lia,AE,Bg (A8 _),DO];rfl
theorem xK:OKQ T.X5 P w base 2 spIsX:=by
 refine FbO T.X5 uR λKM A outer s H vs Q E hr h=> ?_;obtain⟨r,rfl,h⟩:=h;refine⟨_,(aj (bc (di (eR (aS mC (by rfl) T.n_isinstance DY (ae (pv 0) (ae (jS (v:= .ty "list") (by rfl) T.n_list boot_list (by rfl)) af))))) (ak (ay dh)) aY)
  (aj (aE AH rfl (bv (pv 0)) (pGA (i:=1) uR.nd) (ak (bc (eS (di (eR (pcq (xE T) hr T.X0 (ae (pv 1) af)))) (fz (aO fA (pv 1) ah (aL _)))).pt (ak (ay dh)) aY)))
  (ak (ay (yH (GW (pv 0)) (jT (iP gb (az bh (pv 0) (gJ gK ah) (λ_ _=>rfl)) ah (aL _)))))))), ?_⟩
 have key:(∃a t b,r= .ref a/\H a=some (.lst (t.map V.int))/\Nn t/\Q (.bl b) H/\(t=[]/\b=true\/∃s x,t=s++[x]/\b=decide (0<x)))\/(xw H r/\Q (.bl false) H)\/(xx H r/\Q (.bl false) H):=by
  rcases h with⟨t,hv,⟨tn,tt⟩,kk⟩|⟨hn|hn|⟨a,t,rfl,ha,tn⟩,kk⟩
  .obtain⟨a,rfl,ha⟩:=cf hv;refine .inl ⟨a,t,true,rfl,ha,tn,kk, ?_⟩;rcases tt with e|⟨s,x,e,x0⟩
   .exact .inl ⟨e,rfl⟩
   .exact .inr ⟨s,x,e,(BA x0).symm⟩
  .exact .inr (.inl ⟨hn,kk⟩)
  .exact .inr (.inr ⟨hn,kk⟩)
  .exact .inl ⟨a,t++[0],false,rfl,ha,vM tn (by decide),kk, .inr ⟨t,0,rfl,rfl⟩⟩
 clear h;rcases key with⟨a,t,b,rfl,ha,tn,kk,tt⟩|⟨hn,kk⟩|⟨⟨a,xs,i,x,rfl,ha,hx,pre,tx,neg⟩,kk⟩
 .refine⟨_,rfl,_,"list",_,true,rfl, .lst ha,xf,true,rfl,aT ?_⟩;refine⟨_,rfl,a,rfl,⟨_,SqL.of ha⟩,bM (xs:=t.map V.int) (λi σ H2=>(∃v1,σ=[some (.ref a),v1])/\H2=H) ⟨⟨none,rfl⟩,rfl⟩ (λi σ H2 _ h=>by rw[h.2];exact SqL.of ha) ?_ ?_⟩
  .rintro i y σ H2 hi ⟨⟨v1,rfl⟩,rfl⟩;rw[AE] at hi;obtain⟨x,hx,rfl⟩:=AA.mp hi;have x0:0<=x:=by
    have:=tn i;rw[A4,hx] at this;exact this
   refine⟨_,rfl,_,rfl, .inl ⟨_,rfl⟩,true,rfl,aT ⟨_,rfl,_,_,rfl,rfl,_,rfl,bG (λh=>absurd h (by lia)) (λ_=>⟨⟨_,rfl⟩,rfl⟩)⟩⟩
  .rintro σ H2 ⟨⟨v1,rfl⟩,rfl⟩;refine⟨_,rfl,a,_,rfl,SqL.of ha,_,rfl, ?_⟩;rcases tt with⟨rfl,rfl⟩|⟨s,x,rfl,rfl⟩
   .exact bu kk
   .have e0:((s++[x]).map V.int).isEmpty=false:=by
     cases s<;>rfl
    rw[e0];exact aT ⟨_,rfl,1,rfl,a,_,-1, .int x,rfl,rfl,SqL.of ha,JC,_,_,rfl,rfl,kk⟩
 .rcases hn with⟨ht,Lp⟩|⟨a,rfl,ha⟩
  .rcases ht with⟨i,rfl⟩|⟨b,rfl⟩|rfl|⟨x,rfl⟩|⟨a,xs,rfl,ha⟩|⟨a,xs,rfl,ha⟩
   .exact⟨_,rfl,_,"list",_,false,rfl, .int i,rfl,false,rfl,bu kk⟩
   .exact⟨_,rfl,_,"list",_,false,rfl, .bl b,rfl,false,rfl,bu kk⟩
   .exact⟨_,rfl,_,"list",_,false,rfl, .non,rfl,false,rfl,bu kk⟩
   .exact⟨_,rfl,_,"list",_,false,rfl, .str x,rfl,false,rfl,bu kk⟩
   .exact absurd ha (Lp a xs rfl)
   .exact⟨_,rfl,_,"list",_,false,rfl, .tup ha,rfl,false,rfl,bu kk⟩
  .exact⟨_,rfl,_,"list",_,false,rfl, .dK ha,rfl,false,rfl,bu kk⟩
 .refine⟨_,rfl,_,"list",_,true,rfl, .lst ha,xf,true,rfl,aT ?_⟩;refine⟨_,rfl,a,rfl,⟨_,SqL.of ha⟩,bM (xs:=xs) (λj σ H2=>(∃v1,σ=[some (.ref a),v1])/\H2=H/\j<=i) ⟨⟨none,rfl⟩,rfl,AJ _⟩ (λi σ H2 _ h=>by rw[h.2.1];exact SqL.of ha) ?_ ?_⟩
  .rintro j y σ H2 hj ⟨⟨v1,rfl⟩,rfl,ji⟩;by_cases e:j=i
   .subst e;rw[hx] at hj;cases hj;refine⟨_,rfl,x,rfl,tx,isI x,rfl, ?_⟩;cases hv:isI x with
    |false=>exact bu (bu kk)
    |true=>
     obtain⟨n,rfl⟩:∃n,x= .int n:=by
      cases x<;>first|exact⟨_,rfl⟩|cases hv
     have:=neg n rfl;exact aT ⟨_,rfl,_,_,rfl,rfl,_,rfl,bG (λ_=>kk) (λh=>absurd this (by lia))⟩
   .obtain⟨n,hn,n0⟩:=pre j (by lia);rw[hn] at hj;cases hj;exact⟨_,rfl,_,rfl, .inl ⟨_,rfl⟩,true,rfl,aT ⟨_,rfl,_,_,rfl,rfl,_,rfl,bG (λh=>absurd h (by lia)) (λ_=>⟨⟨_,rfl⟩,rfl,by lia⟩)⟩⟩
  .rintro σ H2 ⟨_,_,ji⟩;exact absurd (AG.mp hx).1 (by lia)
theorem qv {t:P' Int}{x:Int} (h:t[i]? =some x):((List.range (i+1)).map λj:Nat=>((j:Int)+1)*t.getD j 0)=((List.range i).map λj:Nat=>((j:Int)+1)*t.getD j 0)++[((i:Int)+1)*x]:=by
 rw[Az,A9,AW,DP,A4,h];rfl
theorem qw (t:P' Int):((List.range t.length).map λj:Nat=>((j:Int)+1)*t.getD j 0).sum=wtF t:=by
 have go:∀(t:P' Int) (i:Int),((List.range t.length).map λj:Nat=>((j:Int)+i)*t.getD j 0).sum=wtG i t:=λt=>by
  induction t with
  |nil=>intro i;rfl
  |cons x t ih=>
   intro i;rw[AZ,List.range_succ_eq_map,AW,BG,B9];unfold wtG;rw[<-ih (i+1)];congr 1
   .simp
   .refine BF List.sum (BH λj _=> ?_);show(((j+1:Nat):Int)+i)*t.getD j 0=_;rw[show((j+1:Nat):Int)+i=(j:Int)+(i+1) by lia]
 exact go t 1
theorem xL:OKQ T.X6 P w base 1 spRwL:=by
 refine FbO T.X6 uS λ_ _ _ _ H vs Q E hr h=> ?_;obtain⟨v,t,rfl,hv,tl,kk⟩:=h;refine⟨_,(ak (ay (aS (gh rfl) (by rfl) T.n_sum DW (ae (dP (XN:=["row"]) (sc:=ao jm) (N:=["place","number"]) (own:=2) (js:=[]) rfl (by ac_nf) rfl rfl (gS (by rfl) T.n_enumerate (pv 0)) (λ_ _ _ _=>(ku (K:=K) rfl rfl (aK (cg (i:=0) (show List.Nodup (["place","number"]:P' Str) by ac_nf) rfl (Or.inl rfl) (.inr rfl)) (aK (cg (i:=1) (show List.Nodup (["place","number"]:P' Str) by ac_nf) rfl (Or.inl rfl) (.inr rfl)) bV)))) ko (λ_ _ _ _=>eT) (λ_ _ _ _=>(ai bt (ai aB (pv 0) ah) (pv 1)))) af)))), ?_⟩;obtain⟨a,rfl,ha⟩:=cf hv;refine⟨_,rfl,a,rfl,⟨_,SqL.of ha⟩,λacc na=> ?_⟩;refine GM (xs:=t.map V.int) (own:=2) (js:=[]) (λi H2=>ag H H2/\H2 acc=some (.lst (((List.range i).map λj:Nat=>((j:Int)+1)*t.getD j 0).map V.int))) ⟨ag.new na,am⟩ (λi H2 _ h=>SqL.of (h.1 _ _ ha)) ?_ ?_ kr eU ?_
 .rintro i y H2 p hi ⟨s2,Ky⟩ np;rw[AE] at hi;obtain⟨x,hx,rfl⟩:=AA.mp hi;have il:i<t.length:=(AG.mp hx).1;have s3:ag H2 (upd H2 p (.tup [.int i, .int x])):=ag.new np;refine⟨p,_,rfl,SqT.of am,rfl,_,_,rfl,_,_,rfl,rfl, ?_⟩;refine⟨_,rfl,_,_,rfl,rfl,_,rfl,_,_,rfl,rfl, .inl ⟨by lia,by lia⟩,acc,_,_,rfl,rfl,s3 _ _ Ky,aD (by rw[A1,A1,B6];lia),(s2.trans s3).put na, ?_⟩;rw[am,qv hx,A9];rfl
 .rintro H2 ⟨s2,Ky⟩;rw[A1] at Ky;refine⟨acc,_,rfl,SqL.of Ky, ?_⟩;rw[qw];exact kk H2 s2
 .rintro σ H R R' k ⟨v1,e1,i1,i2,e2,e3,v2,e4,i3,i4,e5,e6,c,h⟩;exact⟨v1,e1,i1,i2,e2,e3,v2,e4,i3,i4,e5,e6,c,k _ _ h⟩
theorem xM:OKQ T.X6 P w base 1 spRwT:=by
 refine FbO T.X6 uS λ_ _ _ _ H vs Q E hr h=> ?_;obtain⟨v,t,rfl,hv,tl,kk⟩:=h;refine⟨_,(ak (ay (aS (gh rfl) (by rfl) T.n_sum DW (ae (dP (XN:=["row"]) (sc:=ao jm) (N:=["place","number"]) (own:=2) (js:=[]) rfl (by ac_nf) rfl rfl (nN (by rfl) T.n_enumerate (pv 0)) (λ_ _ _ _=>(ku (K:=K) rfl rfl (aK (cg (i:=0) (show List.Nodup (["place","number"]:P' Str) by ac_nf) rfl (Or.inl rfl) (.inr rfl)) (aK (cg (i:=1) (show List.Nodup (["place","number"]:P' Str) by ac_nf) rfl (Or.inl rfl) (.inr rfl)) bV)))) ko (λ_ _ _ _=>eT) (λ_ _ _ _=>(ai bt (ai aB (pv 0) ah) (pv 1)))) af)))), ?_⟩;obtain⟨a,rfl,ha⟩:=bY hv;refine⟨_,rfl,a,rfl,⟨_,SqT.of ha⟩,λacc na=> ?_⟩;refine GL (xs:=t.map V.int) (own:=2) (js:=[]) (λi H2=>ag H H2/\H2 acc=some (.lst (((List.range i).map λj:Nat=>((j:Int)+1)*t.getD j 0).map V.int))) ⟨ag.new na,am⟩ (λi H2 _ h=>SqT.of (h.1 _ _ ha)) ?_ ?_ kr eU ?_
 .rintro i y H2 p hi ⟨s2,Ky⟩ np;rw[AE] at hi;obtain⟨x,hx,rfl⟩:=AA.mp hi;have il:i<t.length:=(AG.mp hx).1;have s3:ag H2 (upd H2 p (.tup [.int i, .int x])):=ag.new np;refine⟨p,_,rfl,SqT.of am,rfl,_,_,rfl,_,_,rfl,rfl, ?_⟩;refine⟨_,rfl,_,_,rfl,rfl,_,rfl,_,_,rfl,rfl, .inl ⟨by lia,by lia⟩,acc,_,_,rfl,rfl,s3 _ _ Ky,aD (by rw[A1,A1,B6];lia),(s2.trans s3).put na, ?_⟩;rw[am,qv hx,A9];rfl
 .rintro H2 ⟨s2,Ky⟩;rw[A1] at Ky;refine⟨acc,_,rfl,SqL.of Ky, ?_⟩;rw[qw];exact kk H2 s2
 .rintro σ H R R' k ⟨v1,e1,i1,i2,e2,e3,v2,e4,i3,i4,e5,e6,c,h⟩;exact⟨v1,e1,i1,i2,e2,e3,v2,e4,i3,i4,e5,e6,c,k _ _ h⟩
theorem JD:FnOk P w K mg base (CX1 P w) 3 T.f7 T.d7 ["d","held","free"] (spNeX T.c_NoEnds):=by
 refine T.X7.F.okx G1 (λvs H Q E h=> ?_) (λKM A outer s H vs Q E hr h hR hp=> ?_)
 .obtain⟨_,_,_,rfl,_⟩:=h;rfl
 .obtain⟨d,r1,r2,rfl,h⟩:=h;refine⟨_,(aj (bc (eS (di (eR (pcq (xK T) hr T.X5 (ae (pv 1) af)))) (fz (di (eR (pcq (xK T) hr T.X5 (ae (pv 2) af)))))).pt (ak (mS hR (by rfl) T.m_NoEnds T.x_NoEnds rfl (ae iL af))) aY)
   (ak (bc (aO qY (ai aB (pcq (xL T) hr T.X6 (ae (pv 1) af)) (pcq (xL T) hr T.X6 (ae (pv 2) af))) (pv 0) (aL _)) (ak (mS hR (by rfl) T.m_NoEnds T.x_NoEnds rfl (ae iL af))) aY))), ?_⟩
  rcases h with⟨a,b,h1,h2,ra,rb,e,kk⟩|⟨On,ke⟩
  .refine⟨_,rfl,r1,rfl, .inl ⟨a,h1,ra.inn,true,rfl,aT ⟨_,rfl,r2,rfl, .inl ⟨b,h2,rb.inn,true,rfl,aT ?_⟩⟩⟩⟩;refine⟨_,rfl,r1,a,rfl,h1,ra.2.1,λH1 s1=>⟨_,rfl,r2,b,rfl,h2.mono s1,rb.2.1,λH2 s2=> ?_⟩⟩;exact⟨_,_,rfl,rfl,_,rfl,rfl,_,rfl,mE (λhz=>absurd e hz) λ_=>kk H2 (s1.trans s2)⟩
  .rcases On with hn|⟨a,h1,ra,hn⟩|⟨a,b,h1,h2,ra,rb,la,lb,ne⟩
   .exact⟨_,rfl,r1,rfl, .inr ⟨hn,false,rfl,bu (bu ⟨(zB rfl),ke H (ag.refl _)⟩)⟩⟩
   .exact⟨_,rfl,r1,rfl, .inl ⟨a,h1,ra,true,rfl,aT ⟨_,rfl,r2,rfl, .inr ⟨hn,false,rfl,bu ⟨(zB rfl),ke H (ag.refl _)⟩⟩⟩⟩⟩
   .refine⟨_,rfl,r1,rfl, .inl ⟨a,h1,ra,true,rfl,aT ⟨_,rfl,r2,rfl, .inl ⟨b,h2,rb,true,rfl,aT ?_⟩⟩⟩⟩;refine⟨_,rfl,r1,a,rfl,h1,la,λH1 s1=>⟨_,rfl,r2,b,rfl,h2.mono s1,lb,λH2 s2=> ?_⟩⟩;exact⟨_,_,rfl,rfl,_,rfl,rfl,_,rfl,mE (λ_=>⟨(zB rfl),ke H2 (s1.trans s2)⟩) λe=>absurd e ne⟩
theorem xN:OKQ T.X12 P w base 1 spFil:=by
 refine FbO T.X12 G3 λ_ _ _ _ H vs Q E hr h=> ?_;obtain⟨v,t,n,rfl,hv,tn,n5,kk⟩:=h;refine⟨_,(ak (ay (iS ss (by rfl) T.n_tuple boot_tuple (ae (ai dk (pv 0) (ai fI (av (ae ah af)) (ai aJ (pv 1) (aS dA (by rfl) T.n_len D8 (ae (pv 0) af))))) af)))), ?_⟩;obtain⟨a,rfl,ha⟩:=cf hv;refine⟨_,rfl,(zB rfl),λl1 H1 n1 s1 h1=> ?_⟩;refine⟨_,rfl,_,rfl,a,_,rfl, .inl (SqL.of (s1 _ _ ha)),_,_,rfl,rfl, .i 0,_,aI h1 (ax aU aA),rfl, ?_, ?_, ?_,λl2 H2 n2 s2 h2=> ?_⟩
 .rw [A1];lia
 .rw [A1];lia
 .exact AT (aD (by rw[A1];lia))
 refine⟨_,_,hv.mono (s1.trans s2),h2,AT (aD (by rw[A1,Ad,A1];lia)),λl3 H3 n3 s3 h3=> ?_⟩;refine⟨_,_,rfl,h3,λl4 H4 n4 s4 h4=>kk _ H4 (((s1.trans s2).trans s3).trans s4) ?_⟩;have e:t.map D.i++List.replicate (((n:Int))-(((t.map V.int).length:Nat):Int)).toNat (D.i 0)=(br n t).map D.i:=by
  unfold br;rw[A1,A9,Bw,show((n:Int)-(t.length:Int)).toNat=n-t.length by lia]
 rw[e] at h4;exact h4
theorem JE:OKQ T.X13 P w base 1 spRwn:=by
 refine FbO T.X13 hU λ_ _ _ _ H vs Q E hr h=> ?_;obtain⟨v,t,rfl,hv,tn,ts,tl,kk⟩:=h;refine⟨_,(aj (pSA (i:=1) hU.nd (av (ae (bK af) af)))
  (aj (aE AH rfl (qP (pv 0)) (pGA (i:=2) hU.nd) (aj (pSA (i:=3) hU.nd (av af))
  (aj (aE AH rfl (bv (pv 1)) (pGA (i:=4) hU.nd) (ak (aZ (cu Ab CD CC iU (pv 3) (ae (dP (XN:=["row","found","number","longer","begun"]) (sc:=ao kN) (N:=["here","begun"]) (own:=1) (js:=[4]) rfl (by ac_nf) rfl rfl (cH (by rfl) T.n_range (ae (ai aB (pv 2) ah) af)) (λ_ _ _ _=>(cg (i:=0) (show List.Nodup (["here","begun"]:P' Str) by ac_nf) rfl (Or.inl rfl) (.inr rfl))) (fG (by decide)) (λ_ _ _ _=>eT) (λ_ _ _ _=>(ai nD (pv 1) (bK (ae (pv 0) af))))) af)))))
  (ak (pSA (i:=1) hU.nd (pv 3))))))
  (ak (ay (pv 1))))), ?_⟩
 obtain⟨a,rfl,ha⟩:=bY hv;refine⟨AJ _,λe0 H1 N7 s1 Oj=>⟨(zB rfl),λf0 H2 nf0 s2 hf0=> ?_⟩⟩;have Lz:=s1.trans s2;refine⟨_,rfl,a,rfl,⟨_,SqT.of (Lz _ _ ha)⟩,qR (xs:=t.map V.int) (λi σ H3=>(∃fo v2 v3 v4,σ=[some (.ref a),some (.ref fo),v2,v3,v4]/\H fo=none/\Is H3 (.l ((rwF (t.take i)).map tI)) (.ref fo))/\ag H H3) ⟨⟨f0,none,none,none,rfl,s1.free nf0,aI hf0 (ax (eV (xs:=[]) (s2 _ _ Oj)) aA)⟩,Lz⟩ (λi σ H3 _ h=>SqT.of (h.2 _ _ ha)) ?_ ?_⟩
 .rintro i y σ H3 hi ⟨⟨fo,v2,v3,v4,rfl,L9,La⟩,s3⟩;rw[AE] at hi;obtain⟨x,hx,rfl⟩:=AA.mp hi;have il:i<t.length:=(AG.mp hx).1;have x0:0<=x:=by
   have:=tn i;rw[A4,hx] at this;exact this
  have nx:rwF (t.take (i+1))=rwS (rwF (t.take i)) x:=by
   rw[AY,hx];unfold rwF;rw[BP];rfl
  have big:(rwS (rwF (t.take i)) x).length<=32:=by rw[<-nx];exact lF tn ts (i+1)
  have OS:∀b∈rwF (t.take i),b.length<=5:=λb hb=>by
   have:=(io (vO tn i) hb).len;rw[Aa] at this;lia
  rw[nx];generalize rwF (t.take i)=F at La big OS;obtain⟨_,MZ,e,KE,M0⟩:=aH La;cases e;have NE:MZ.length=F.length:=by rw[M0.length,A1]
  refine⟨AJ _,λlo H4 MP s4 My=> ?_⟩;have M1:H lo=none:=s3.free MP;have fl:fo≠lo:=by rintro rfl;rw[KE] at MP;cases MP
  have part:∀j,(rwS (F.take j) x).length<=32:=λj=>by
   rw[pJ] at big⊢;refine As (C7 _ ?_) big;rw[Aa];lia
  refine⟨_,rfl,fo,rfl,⟨_,SqL.of (s4 _ _ KE)⟩,bM (xs:=MZ) (λj σ H5=>(∃v4,σ=[some (.ref a),some (.ref fo),some (.int x),some (.ref lo),v4])/\ag H H5/\H5 fo=some (.lst MZ)/\aF H4 H5/\∃LR,H5 lo=some (.lst LR)/\Iss H5 ((rwS (F.take j) x).map tI) LR) ⟨⟨_,rfl⟩,s3.trans s4,s4 _ _ KE,aF.of_same (ag.refl _),[],My,aA⟩ (λj σ H5 _ h=>SqL.of h.2.2.1) ?_ ?_⟩
  .rintro j b σ H5 hj ⟨⟨v4,rfl⟩,s5,KZ,t5,LR,Oo,M'⟩;obtain⟨bb,Nd,hb⟩:=bA M0 hj;have hb5:Is H5 (tI bb) b:=fV t5 (hb.mono s4);have NV:rwS (F.take (j+1)) x=rwS (F.take j) x++(List.range (x+1).toNat).map λh:Nat=>bb++[(h:Int)]:=by
    unfold rwS;rw[AY,Nd,Ay];simp
   have pj:=part (j+1);rw[NV] at pj⊢;rw[AC,A1,B6] at pj;have ll:LR.length=(rwS (F.take j) x).length:=by rw[M'.length,A1]
   generalize rwS (F.take j) x=R at M' pj ll;refine⟨_,rfl, .inl ⟨rfl,_,SqL.of Oo⟩,_,rfl,_,_,rfl,rfl,_,rfl,by lia,by lia,λacc na=> ?_⟩;have naH:H acc=none:=s5.free na;refine kf (lo:=0) (n:=(x+1).toNat) (own:=1) (js:=[4]) (λm H6=>ag H5 H6/\∃zs,H6 acc=some (.lst zs)/\Iss H6 (((List.range m).map λh:Nat=>bb++[(h:Int)]).map tI) zs) ⟨ag.new na,[],am,aA⟩ ?_ ?_ fH eU ?_
   .rintro m H6 hm ⟨s6,zs,Ky,hz⟩;rw[Bh];refine⟨_,rfl,_,rfl,(zB rfl),λq H7 nq s7 hq=> ?_⟩;have M9:=s6.trans s7;refine⟨bb.map .i,[.i (m:Int)],hb5.mono M9,bO hq (ax aU aA),AT (aD (by have:=OS bb (AU Nd);rw[A1];show _+1<=1000;lia)),λu H8 s8 hu=> ?_⟩;have OT:=s8 _ _ (s7 _ _ Ky);have zl:zs.length=m:=by rw[hz.length,A1,A1,B6]
    refine⟨acc,zs,_,rfl,rfl,OT,aD (by lia),(M9.trans s8).put na,_,am, ?_⟩;have tu:aF H8 (upd H8 acc (.lst (zs++[u]))):=aF.upd OT;rw[Az,A9,A9];refine(iF tu ((hz.mono s7).mono s8)).append (ax (fV tu ?_) aA);show Is H8 (.t ((bb++[(m:Int)]).map .i)) u;rw[A9];exact hu
   .rintro H6 ⟨s6,zs,Ky,hz⟩;have zl:zs.length=(x+1).toNat:=by rw[hz.length,A1,A1,B6]
    have Lg:=s6 _ _ Oo;refine⟨lo,acc,LR,zs,rfl,rfl,Lg,Ky,AT (aD (by lia)),⟨_,rfl⟩,(s5.trans s6).put M1,by rw[au fl];exact s6 _ _ KZ,(t5.trans (aF.of_same s6)).trans (aF.upd Lg),_,am, ?_⟩;have tu:aF H6 (upd H6 lo (.lst (LR++zs))):=aF.upd Lg;rw[A9];exact(iF tu (M'.mono s6)).append (iF tu hz)
   .rintro σ H R R' k ⟨v1,e1,v2,e2,e3,h⟩;refine⟨v1,e1,v2,e2,e3,λq H7 nq s7 hq=> ?_⟩;obtain⟨xs,ys,a1,a2,a3,a4⟩:=h q H7 nq s7 hq;exact⟨xs,ys,a1,a2,a3,λu H8 s8 hu=>k _ _ (a4 u H8 s8 hu)⟩
  .rintro σ H5 ⟨⟨v4,rfl⟩,s5,KZ,t5,LR,Oo,M'⟩;rw[NE,AQ] at M';exact⟨_,rfl,⟨lo,_,_,_,rfl,M1,aI Oo M'⟩,s5⟩
 .rintro σ H3 ⟨⟨fo,v2,v3,v4,rfl,L9,La⟩,s3⟩;rw[A1,AQ] at La;exact⟨_,rfl,kk fo H3 s3 L9 La⟩
theorem JF {t:P' Int}{p:Nat} (h:p<t.length):atI (t.map D.i) (p:Int)=some (.i (t.getD p 0)):=by
 refine ja (j:=p) rfl ?_;rw[AE,A2 h,A4,A2 h];rfl
theorem JG {D M:Int} (hM:(if D<(L:Int) then D else(L:Int))=M) (hl:L<=5) (hD: -2000<=D):M<=5/\-2000<=M/\(M-(fi:Int)).toNat=min L D.toNat-fi:=by
 subst hM;split<;>lia
theorem JH {D:Int} (hi:i<min L D.toNat-fi) (hl:L<=5) (hm:D.toNat+1<=n+1):fi+i<L/\(D-(1+((fi+i:Nat):Int))).toNat+1<=n/\fi+i<=5/\1+((fi+i:Nat):Int)<=D:=by lia
theorem xO:∀n:Nat,FnOk P w K mg base CX0 (n+2) T.f14 T.d14 ["row","weight","first"] (spRby n K)
 |0=>⟨λvs H Q E h=>(by obtain⟨_,_,_,_,_,_,_,_,h,_⟩:=h;lia),λA outer s H args us vs Q E _ _ _ _ h=>(by obtain⟨_,_,_,_,_,_,_,_,h,_⟩:=h;lia)⟩
 |n+1=>by
  have ih:=xO n;refine T.X14.F.ok kO (λvs H Q E h=> ?_) (λKM A outer s H vs Q E hr h=> ?_)
  .obtain⟨_,_,_,_,rfl,_⟩:=h;rfl
  .obtain⟨v,t,wt,fi,rfl,hv,tn,tl,hm,n8,b1,b2,b3,b4,f5,kk⟩:=h;refine⟨_,(aj (pSA (i:=3) kO.nd (ai aJ (pv 1) (pcq (xM T) hr T.X6 (ae (pv 0) af) (by lia))))
   (aj (bc (aO dj (pv 3) ah (aL _)) (ak (ay (av (ae (pv 0) af)))) aY)
   (aj (pSA (i:=4) kO.nd (av af))
   (aj (aE AH rfl (gI (by rfl) T.n_range (ae (pv 2) (ae (aS (rg rfl) (by rfl) T.n_min boot_min (ae (aS Ej (by rfl) T.n_len D8 (ae (pv 0) af)) (ae (pv 3) af))) af))) (pGA (i:=5) kO.nd) (ak (aZ (cu Ab CD CC iU (pv 4) (ae (cP ih hr (by rfl) T.X14.m T.X14.F.kp T.X14.B .nil gN (ae (pcq (jO T) hr T.X11 (ae (pv 0) (ae (pv 5) (ae ah af))) (by lia)) (ae (pv 1) (ae (pv 5) af)))) af)))))
   (ak (ay (pv 4))))))), ?_⟩
   refine⟨_,rfl,_,rfl,v,t,rfl,hv,tl,λH1 s1=>⟨_,_,rfl,rfl, ?_⟩⟩;unfold rbF at kk;refine⟨_,rfl,rfl,_,rfl,dE (λe=> ?_) (λe=> ?_)⟩
   .rw [AB (show wt-wtF t=0 by lia)] at kk;refine⟨_,rfl,(zB rfl),λl H2 nl s2 hl=> ?_⟩;exact kk l H2 (s1.trans s2) (s1.free nl) (aI hl (ax (hv.mono (s1.trans s2)) aA))
   .have e:¬wt-wtF t=0:=by lia
    rw[A6 e] at kk;refine⟨AJ _,λfo H2 L9 s2 La=> ?_⟩;have Lz:=s1.trans s2;have nfoH:H fo=none:=s1.free L9;refine⟨_,rfl,_,rfl,_,_,rfl, .inr (hv.mono Lz),_,rfl,_,_,rfl, ?_⟩;generalize hM:(if wt-wtF t<(((t.map D.i).length:Nat):Int) then wt-wtF t else(((t.map D.i).length:Nat):Int))=M;rw[A1] at hM;have eM:=JG (fi:=fi) hM tl (by lia);refine⟨_,_,rfl,⟨by lia,by lia,by lia,by lia⟩, ?_⟩;rw[eM.2.2];have len5:∀i,i<=5->((List.range i).flatMap λj=>rbF n (wmF t (fi+j) 1) wt (fi+j)).length<=i*5^n:=by
     intro i;induction i with
     |zero=>intro _;exact AJ _
     |succ i ih2=>
      intro hi;rw[Az,Ay,AC,CY,BI,D3,B8];have:=ih2 (by lia);have:=pK (n:=n) (wt:=wt) (row:=wmF t (fi+i) 1) (first:=fi+i) (by rw[dg];exact tl);lia
    have p5:5^n<=5^7:=C6 (by decide) (by lia);refine ci (lo:=(fi:Int)) (n:=min t.length (wt-wtF t).toNat-fi) (λi σ H3=>(∃v5,σ=[some v,some (.int wt),some (.int fi),some (.int (wt-wtF t)),some (.ref fo),v5])/\ag H H3/\∃zs,H3 fo=some (.lst zs)/\Iss H3 (((List.range i).flatMap λj=>rbF n (wmF t (fi+j) 1) wt (fi+j)).map tI) zs) ⟨⟨none,rfl⟩,Lz,[],La,aA⟩ ?_ ?_
    .rintro i σ H3 hi ⟨⟨v5,rfl⟩,s3,zs,KE,hz⟩;obtain⟨hp,q1,q2,q3⟩:=JH hi tl hm;have ew:wtF (wmF t (fi+i) 1)=wtF t+(1+((fi+i:Nat):Int)):=by rw[<-Int.mul_one (1+((fi+i:Nat):Int))];exact ik hp
     have ed:wt-(wtF t+(1+((fi+i:Nat):Int)))=wt-wtF t-(1+((fi+i:Nat):Int)):=by rw[Int.sub_sub]
     rw[show(fi:Int)+(i:Int)=((fi+i:Nat):Int) by lia];refine⟨_,rfl, .inl ⟨rfl,_,SqL.of KE⟩,_,rfl,_,rfl,v,t,fi+i,1,rfl,hv.mono s3,hp,tl,λu H4 s4 hu=> ?_⟩;refine⟨_,rfl,_,rfl,u,wmF t (fi+i) 1,wt,fi+i,rfl,hu,im hp tn (by have:=tn (fi+i);lia),by rw[dg];exact tl,by rw[ew,ed];exact q1,by lia,b1,b2,by rw[ew];clear ew ed;lia,by rw[ew];clear ew ed;lia,q2,λrl H5 s5 Mw MO=> ?_⟩;obtain⟨_,LB,e,MG,LV⟩:=aH MO;cases e;have NW:=s4.trans s5;have KZ:=NW _ _ KE;have l1:=len5 (i+1) (by lia);have nx:((List.range (i+1)).flatMap λj=>rbF n (wmF t (fi+j) 1) wt (fi+j))=((List.range i).flatMap λj=>rbF n (wmF t (fi+j) 1) wt (fi+j))++rbF n (wmF t (fi+i) 1) wt (fi+i):=by
      rw[Az,Ay,BI,D3,B8]
     rw[nx] at l1⊢;rw[AC] at l1;have l5:(i+1)*5^n<=5*5^7:=Nat.mul_le_mul (by lia) p5;have d5:5*5^7=390625:=by decide
     have zl:=hz.length;have rl':=LV.length;rw[A1] at zl rl';generalize ((List.range i).flatMap λj=>rbF n (wmF t (fi+j) 1) wt (fi+j))=R at hz l1 zl;generalize rbF n (wmF t (fi+i) 1) wt (fi+i)=R2 at LV l1 rl';refine⟨fo,rl,zs,LB,rfl,rfl,KZ,MG,AT (iD (by clear ew ed q1 q3 hp hi eM hm b1 b2 b3 b4;lia)),⟨_,rfl⟩,(s3.trans NW).put nfoH,_,am, ?_⟩;have tu:aF H5 (upd H5 fo (.lst (zs++LB))):=aF.upd KZ;rw[A9];exact(iF tu (hz.mono NW)).append (iF tu LV)
    .rintro σ H3 ⟨⟨v5,rfl⟩,s3,zs,KE,hz⟩;exact⟨_,rfl,kk fo H3 s3 nfoH (aI KE hz)⟩
theorem JI {a:P' Int} (h:Le a b):∀{i:Nat}{x y:Int},b[i]? =some x->a[i]? =some y->b8 (b.take (i+1)) (a.take (i+1))=b8 (b.take i) (a.take i)*chF x y.toNat:=by
 induction a generalizing b with
 |nil=>intro i x y _ hy;simp at hy
 |cons z a ih=>
  cases b with
  |nil=>exact h.elim
  |cons u b=>
   intro i x y hx hy;cases i with
   |zero=>
    have e1:u=x:=by simpa using hx
    have e2:z=y:=by simpa using hy
    subst e1 e2;simp[b8]
   |succ i=>
    rw[BM,BM,BM,BM];show chF u z.toNat*b8 (b.take (i+1)) (a.take (i+1))=chF u z.toNat*b8 (b.take i) (a.take i)*_;rw[ih h.2.2 (by simpa using hx) (by simpa using hy),Int.mul_assoc]
theorem qx {a:P' Int} (h:Le a b):∀{i:Nat}{x y:Int},b[i]? =some x->a[i]? =some y->0<=y/\y<=x:=by
 induction a generalizing b with
 |nil=>intro i x y _ hy;simp at hy
 |cons z a ih=>
  cases b with
  |nil=>exact h.elim
  |cons u b=>
   intro i x y hx hy;cases i with
   |zero=>
    have e1:u=x:=by simpa using hx
    have e2:z=y:=by simpa using hy
    subst e1 e2;exact⟨h.1,h.2.1⟩
   |succ i=>exact ih h.2.2 (by simpa using hx) (by simpa using hy)
theorem qy {x:Int} (h:Nn b) (hx:b[i]? =some x):x<=b.sum:=by
 induction b generalizing i with
 |nil=>simp at hx
 |cons y b ih=>
  obtain⟨p,q⟩:=Nn.cons.mp h;have s0:=(dq (i:=1) (by decide) q).1;rw[B9];cases i with
  |zero=>
   have e1:y=x:=by simpa using hx
   lia
  |succ i=>
   have:=ih q (by simpa using hx);lia
theorem xP:OKQ T.X15 P w base 2 spChs:=by
 refine FbO T.X15 jo λ_ _ _ _ H vs Q E hr h=> ?_;obtain⟨v1,v2,b,a,rfl,LJ,Mj,le,bs,kk⟩:=h;refine⟨_,(aj (pSA (i:=2) jo.nd ah)
  (aj (aE AH rfl (GS (by rfl) T.n_zip (ae (pv 0) (ae (pv 1) af))) (cp rfl (aK (pGA (i:=3) jo.nd) (aK (pGA (i:=4) jo.nd) bV))) (ak (qM (i:=2) jo.nd rfl (by trivial) (pcq (qu T) hr T.X4 (ae (pv 3) (ae (pv 4) af))) EH)))
  (ak (ay (pv 2))))), ?_⟩
 obtain⟨ba,rfl,hb⟩:=bY LJ;obtain⟨aa,rfl,ha⟩:=bY Mj;have ll:=le.len;refine⟨_,rfl,_,rfl,ba,aa,rfl,⟨_,SqT.of hb⟩,⟨_,SqT.of ha⟩,GU (xs:=b.map V.int) (ys:=a.map V.int) (by rw[A1,A1,ll]) (λi σ H2=>(∃v3 v4,σ=[some (.ref ba),some (.ref aa),some (.int (b8 (b.take i) (a.take i))),v3,v4])/\ag H H2) ⟨⟨none,none,rfl⟩,ag.refl _⟩ (λi σ H2 _ h=>⟨SqT.of (h.2 _ _ hb),SqT.of (h.2 _ _ ha)⟩) ?_ ?_⟩
 .rintro i x y σ H2 p hx hy ⟨⟨v3,v4,rfl⟩,s2⟩ np;rw[AE] at hx hy;obtain⟨x,hx1,rfl⟩:=AA.mp hx;obtain⟨y,hy1,rfl⟩:=AA.mp hy;have hx:=hx1;have hy:=hy1;obtain⟨y0,yx⟩:=qx le hx hy;have x5:=qy (Le.nn le).2 hx;have s3:ag H2 (upd H2 p (.tup [.int x, .int y])):=ag.new np;refine⟨p,_,rfl,SqT.of am,rfl,_,_,rfl,_,_,rfl,rfl, ?_⟩;obtain⟨c0,c1⟩:=pM y0 yx (by lia);have c2:(2:Int)^x.toNat<=2^5:=by
   have:x.toNat=0\/x.toNat=1\/x.toNat=2\/x.toNat=3\/x.toNat=4\/x.toNat=5:=by lia
   rcases this with e|e|e|e|e|e<;>rw[e]<;>decide
  have d5:(2:Int)^5=32:=by decide
  refine⟨_,rfl,_,rfl,_,rfl,x,y.toNat, ?_,by lia,by lia, ?_⟩
  .show [V.int x,V.int y]=[V.int x,V.int ((y.toNat:Nat):Int)];rw[show((y.toNat:Nat):Int)=y by lia]
  refine⟨_,_,rfl,rfl, .inr ⟨by lia,by lia⟩,⟨some (.int x),some (.int y), ?_⟩,s2.trans s3⟩;rw[JI le hx hy];rfl
 .rintro σ H2 ⟨⟨v3,v4,rfl⟩,s2⟩;rw[A1,AQ,<-ll,AQ];exact⟨_,rfl,kk H2 s2⟩
theorem xQ:∀{a b:P' Int},Le a b->∀{k:Int}{i:Nat}{x y:Int},a[i]? =some x->b[i]? =some y->wgG k (a.take (i+1)) (b.take (i+1))=wgG k (a.take i) (b.take i)++List.replicate (y-x).toNat (k+i)
 |[],_,_,k,i,x,y,hx,_=>by simp at hx
 |z::a,[],h,_,_,_,_,_,_=>h.elim
 |z::a,u::b,h,k,i,x,y,hx,hy=>by
  cases i with
  |zero=>
   have e1:z=x:=by simpa using hx
   have e2:u=y:=by simpa using hy
   subst e1 e2;simp[wgG]
  |succ i=>
   rw[BM,BM,BM,BM];show _++wgG (k+1) (a.take (i+1)) (b.take (i+1))=_++wgG (k+1) (a.take i) (b.take i)++_;rw[xQ h.2.2 (by simpa using hx) (by simpa using hy),B0,show k+1+(i:Int)=k+((i+1:Nat):Int) by lia]
theorem qz:∀{a b:P' Int} (i:Nat),Le a b->Le (a.take i) (b.take i)
 |[],[],i,_=>by rw[List.take_nil];exact trivial
 |x::a,y::b,0,_=>trivial
 |x::a,y::b,i+1,h=>⟨h.1,h.2.1,qz i h.2.2⟩
theorem JJ:OKQ T.X16 P w base 1 spWgn:=by
 refine FbO T.X16 kP λ_ _ _ _ H vs Q E hr h=> ?_;obtain⟨v1,v2,f,fr,rfl,LJ,Mj,le,fl5,fs5,kk⟩:=h;refine⟨_,(aj (pSA (i:=2) kP.nd (av af))
  (aj (aE AH rfl (nN (by rfl) T.n_enumerate (pv 0)) (cp rfl (aK (pGA (i:=3) kP.nd) (aK (pGA (i:=4) kP.nd) bV))) (ak (aZ (cu Ab CD CC iU (pv 2) (ae (ai fI (av (ae (ai aB (pv 3) ah) af)) (ai aJ (az bX (pv 1) (pv 3) (λ_ _=>rfl)) (pv 4))) af)))))
  (ak (ay (pv 2))))), ?_⟩
 obtain⟨fa,rfl,hf⟩:=bY LJ;have ll:=le.len;refine⟨AJ _,λfo H1 L9 s1 La=> ?_⟩;refine⟨_,rfl,fa,rfl,⟨_,SqT.of (s1 _ _ hf)⟩,uP (xs:=f.map V.int) (λi σ H2=>(∃v3 v4,σ=[some (.ref fa),some v2,some (.ref fo),v3,v4])/\ag H H2/\H2 fo=some (.lst ((wgG 1 (f.take i) (fr.take i)).map V.int))) ⟨⟨none,none,rfl⟩,s1,La⟩ (λi σ H2 _ h=>SqT.of (h.2.1 _ _ hf)) ?_ ?_⟩
 .rintro i y σ H2 p hi ⟨⟨v3,v4,rfl⟩,s2,Ls⟩ np;rw[AE] at hi;obtain⟨x,hx,rfl⟩:=AA.mp hi;have il:i<f.length:=(AG.mp hx).1;have s3:ag H2 (upd H2 p (.tup [.int i, .int x])):=ag.new np;have hy:fr[i]? =some (fr.getD i 0):=by
   rw[A4,A2 (by lia)];rfl
  obtain⟨x0,xy⟩:=qx le hy hx;have y5:=qy (Le.nn le).2 hy;have lb:(wgG 1 (f.take i) (fr.take i)).length<=1000:=by
   have l1:=xr (k:=1) (qz i le);have l2:=(dq (i:=1) (by decide) (Le.nn (qz i le)).1).1;have l3:(fr.take i).sum<=fr.sum:=by
    have e:(fr.take i).sum+(fr.drop i).sum=fr.sum:=by rw[<-List.sum_append,Bn]
    have nd:Nn (fr.drop i):=λj=>by
     rw[A4,List.getElem?_drop];have:=(Le.nn le).2 (i+j);rwa [A4] at this
    have:=(dq (i:=1) (by decide) nd).1;lia
   lia
  refine⟨p,_,rfl,SqT.of am,rfl,_,_,rfl,_,_,rfl,rfl, ?_⟩;have KE:=s3 _ _ Ls;have LQ:=s2.trans s3;generalize upd H2 p (.tup [.int i, .int x])=H3 at s3 KE LQ;refine⟨_,rfl, .inl ⟨rfl,_,SqL.of KE⟩,_,rfl,_,_,rfl,rfl,(zB rfl),λl1 H4 n1 s4 h1=> ?_⟩;refine⟨_,rfl,_,rfl,fr.map .i,(i:Int),_,(Mj.mono LQ).mono s4,rfl,JF (by lia),λu hu=> ?_⟩;rw[aX hu];refine⟨_,rfl,_,_,rfl,rfl, .i ((i:Int)+1),_,aI h1 (ax aU aA),rfl,by lia,by lia,AT (aD (by lia)),λl2 H5 n2 s5 h2=> ?_⟩;rw[<-Bw] at h2;obtain⟨_,e,KQ⟩:=cf h2;cases e;have KZ:=s5 _ _ (s4 _ _ KE);refine⟨fo,l2,_,_,rfl,rfl,KZ,KQ,AT (iD (by rw[A1,A1,Ad];lia)),⟨_,_,rfl⟩,((LQ.trans s4).trans s5).put L9, ?_⟩;rw[am,xQ le hx hy,A9,Int.add_comm 1 (i:Int)]
 .rintro σ H2 ⟨⟨v3,v4,rfl⟩,s2,Ls⟩;rw[A1,AQ,ll,AQ] at Ls;exact⟨_,rfl,kk fo H2 s2 L9 (bj Ls)⟩
theorem JK:OKQ T.X17 P w base 2 (spOne eB):=by
 refine FbO T.X17 jp λ_ _ _ _ H vs Q E hr h=> ?_;obtain⟨v1,v2,q,L,rfl,LJ,Mj,aq,d2,kk⟩:=h;refine⟨_,(aj (pSA (i:=4) jp.nd (av af))
  (aj (aE AH rfl (nN (by rfl) T.n_enumerate (pv 3)) (cp rfl (aK (pGA (i:=5) jp.nd) (aK (pGA (i:=6) jp.nd) bV))) (ak (bc (aO gb (pv 6) ah (aL _)) (aj (pSA (i:=7) jp.nd (bK (ae (pv 0) (ae (pv 1) (ae (pcq (jO T) hr T.X11 (ae (pv 2) (ae (pv 5) (ae ah af)))) (ae (pcq (jO T) hr T.X11 (ae (pv 3) (ae (pv 5) (ae (gJ gK ah) af)))) af))))))
  (ak (aZ (cu Ab BD BC dB (pv 4) (ae (bK (ae ah (ae (av (ae (ai aB (pv 5) ah) af)) (ae (pv 7) af)))) af))))) aY)))
  (ak (ay (pv 4))))), ?_⟩
 obtain⟨fa,rfl,hf⟩:=bY Mj;have hl:=aq.hl;have fl:=aq.fl;have L5:=aq.L5;refine⟨AJ _,λfo H1 L9 s1 La=> ?_⟩;refine⟨_,rfl,fa,rfl,⟨_,SqT.of (s1 _ _ hf)⟩,uP (xs:=q.f.map V.int) (λi σ H2=>(∃v5 v6 v7,σ=[some (.int q.d),some (.int q.k),some v1,some (.ref fa),some (.ref fo),v5,v6,v7])/\ag H H2/\Acc H H2 fo (((List.range i).flatMap (cC q)).map smD)/\((List.range i).flatMap (cC q)).length<=i) ⟨⟨none,none,none,rfl⟩,s1,Acc.start La,A8 _⟩ (λi σ H2 _ h=>SqT.of (h.2.1 _ _ hf)) ?_ ?_⟩
 .rintro i y σ H2 p hi ⟨⟨v5,v6,v7,rfl⟩,s2,⟨zs,Ls,hz⟩,pl⟩ np;rw[AE] at hi;obtain⟨x,hx,rfl⟩:=AA.mp hi;have il:i<q.f.length:=(AG.mp hx).1;have ex:q.f.getD i 0=x:=by rw[A4,hx];rfl
  have s3:ag H2 (upd H2 p (.tup [.int i, .int x])):=ag.new np;have nx:(List.range (i+1)).flatMap (cC q)=(List.range i).flatMap (cC q)++cC q i:=by
   rw[Az,Ay,BI,D3,B8]
  rw[nx];have zl:=hz.length;rw[A1] at zl;generalize (List.range i).flatMap (cC q)=R at hz pl zl;refine⟨p,_,rfl,SqT.of am,rfl,_,_,rfl,_,_,rfl,rfl, ?_⟩;generalize upd H2 p (.tup [.int i, .int x])=H3 at s3;have LQ:=s2.trans s3;refine⟨_,rfl,_,_,rfl,rfl,_,rfl,bG (λhg=> ?_) (λhg=> ?_)⟩
  .have hg:x>0:=hg;unfold cC;rw[ex,AB hg];refine⟨_,rfl,_,rfl,_,rfl,_,rfl,v1,q.h,i,1,rfl,LJ.mono LQ,by lia,by lia,λu1 H4 s4 Ld=> ?_⟩;refine⟨_,rfl,_,rfl,1,rfl, .ref fa,q.f,i,-1,rfl,(Mj.mono LQ).mono s4,il,by lia,λu2 H5 s5 L7=>⟨(zB rfl),λt6 H6 n6 s6 h6=> ?_⟩⟩;have hq6:Is H6 (qD ⟨q.d,q.k,wmF q.h i 1,wmF q.f i (-1)⟩) (.ref t6):=bO h6 (ax aU (ax aU (ax ((Ld.mono s5).mono s6) (ax (L7.mono s6) aA))));have Op:=((s3.trans s4).trans s5).trans s6;refine⟨_,rfl, .inl ⟨rfl,_,SqL.of (Op _ _ Ls)⟩,_,rfl,_,_,rfl,rfl,(zB rfl),λl7 H7 n7 s7 h7=>⟨_,rfl,(zB rfl),λt8 H8 n8 s8 h8=> ?_⟩⟩;have NF:=(Op.trans s7).trans s8;refine⟨fo,zs,_,rfl,rfl,NF _ _ Ls,aD (by lia),⟨_,_,_,rfl⟩,(s2.trans NF).put L9, ?_,by rw[AC];show _+1<=_;lia⟩;rw[A9];refine Acc.add s2 NF Ls hz ?_;refine bO (lr NF h8) (ax aU (ax (iE (Op.free n7) (bj (t:=[(i:Int)+1]) (s8 _ _ h7))) (ax (xq (xu NF) ((hq6.mono s7).mono s8)) aA)))
  .have hg:¬x>0:=hg;unfold cC;rw[ex,A6 hg,B8];exact⟨⟨_,_,_,rfl⟩,LQ,Acc.mono s3 ⟨zs,Ls,hz⟩,by lia⟩
 .rintro σ H2 ⟨⟨v5,v6,v7,rfl⟩,s2,Ky,_⟩;rw[A1] at Ky;exact⟨_,rfl,kk fo H2 s2 L9 (Ky.is L9)⟩
theorem xR (h:n<=12600000):n<sizeLine:=by rw[B3];lia
theorem qA {q:Ask4} (hl:q.f.length<=5):∀(F:P' (P' Int)),(F.flatMap (dn q)).length<=F.length*390625
 |[]=>AJ _
 |x::F=>by
  rw[BI,AC,AZ,CY];have h1:=qA hl F;have h2:=pK (n:=8) (wt:=q.d-1-wtF x) (row:=q.f) (first:=0) hl;have:(dn q x).length<=390625:=by unfold dn;rw[A1];exact h2
  lia
theorem JL:OKQ T.X18 P w base 11 (spOne fk):=by
 refine FbO T.X18 jq λ_ _ _ _ H vs Q E hr h=> ?_;obtain⟨v1,v2,q,L,rfl,LJ,Mj,aq,d2,kk⟩:=h;refine⟨_,(aj (pSA (i:=4) jq.nd (av af))
  (aj (aE AH rfl (bv (pcq (JE T) hr T.X13 (ae (pv 2) af))) (pGA (i:=5) jq.nd) (ak (aE AH rfl (bv (pcq (xO T 8) hr T.X14 (ae (pv 3) (ae (ai aJ (ai aJ (pv 0) ah) (pcq (xM T) hr T.X6 (ae (pv 5) af))) (ae ah af))))) (pGA (i:=6) jq.nd) (aj (pSA (i:=7) jq.nd (bK (ae (ai aJ (pv 0) ah) (ae (ai aB (ai aJ (ai aJ (ai aB (pv 1) (aS (uQ rfl) (by rfl) T.n_sum DW (ae (pv 6) af))) (aS (uQ rfl) (by rfl) T.n_sum DW (ae (pv 3) af))) (pv 0)) ah) (ae (pv 5) (ae (pv 6) af))))))
  (ak (aZ (cu Ab BD BC dB (pv 4) (ae (bK (ae (ai bt (pcq (xP T) hr T.X15 (ae (pv 2) (ae (pv 5) af))) (pcq (xP T) hr T.X15 (ae (pv 6) (ae (pv 3) af)))) (ae (pcq (JJ T) hr T.X16 (ae (pv 3) (ae (pv 6) af))) (ae (pv 7) af)))) af))))))))
  (ak (ay (pv 4))))), ?_⟩
 obtain⟨fa,rfl,hf⟩:=bY Mj;have hl:=aq.hl;have fl:=aq.fl;have L5:=aq.L5;have sm:=aq.sums;have dL:=aq.dL;have wq:=aq.wt;have wh:=bJ (i:=1) (by decide) aq.hn;have wf:=bJ (i:=1) (by decide) aq.fn;refine⟨AJ _,λfo H1 L9 s1 La=> ?_⟩;refine⟨_,rfl,v1,q.h,rfl,LJ.mono s1,aq.hn,by lia,by lia,λkl H2 s2 nkl hkl=> ?_⟩;have Lz:=s1.trans s2;obtain⟨_,Kv,e,hkl2,PK⟩:=aH hkl;cases e;have PL:Kv.length=(rwF q.h).length:=by rw[PK.length,A1]
 have k32:(rwF q.h).length<=32:=by have:=lF aq.hn (by lia) q.h.length;rwa [AQ] at this
 have kfo:kl≠fo:=by rintro rfl;rw[La] at nkl;cases nkl
 unfold fk at kk;refine⟨kl,rfl,⟨_,SqL.of hkl2⟩,bM (xs:=Kv) (λi σ H3=>(∃v5 v6 v7,σ=[some (.int q.d),some (.int q.k),some v1,some (.ref fa),some (.ref fo),v5,v6,v7])/\ag H H3/\H3 kl=some (.lst Kv)/\aF H2 H3/\Acc H H3 fo ((((rwF q.h).take i).flatMap (dn q)).map smD)) ⟨⟨none,none,none,rfl⟩,Lz,hkl2,aF.of_same (ag.refl _),(Acc.start La).mono s2⟩ (λi σ H3 _ h=>SqL.of h.2.2.1) ?_ ?_⟩
 .rintro i y σ H3 hi ⟨⟨v5,v6,v7,rfl⟩,s3,PM,t3,⟨zs,KE,hz⟩⟩;obtain⟨kp,hkp,hy⟩:=bA PK hi;have il:i<(rwF q.h).length:=(AG.mp hkp).1;have MV:=AU hkp;have lk:=io aq.hn MV;have wk0:=bJ (i:=1) (by decide) (Le.nn lk).1;have wk1:=lk.wt (i:=1) (by decide);have nx:((rwF q.h).take (i+1)).flatMap (dn q)=((rwF q.h).take i).flatMap (dn q)++dn q kp:=by
   rw[AY,hkp,Ay];simp
  have bnd:=qA (q:=q) (by lia) ((rwF q.h).take (i+1));rw[nx] at bnd⊢;rw[AC,Aa] at bnd;have zl:=hz.length;rw[A1] at zl;generalize ((rwF q.h).take i).flatMap (dn q)=R at hz bnd zl;have OH:Is H3 (tI kp) y:=fV t3 hy;refine⟨_,rfl,_,rfl,_,_,rfl,rfl,_,rfl,y,kp,rfl,OH,by have:=lk.len;lia,λH4 s4=>⟨_,_,rfl,rfl, ?_⟩⟩;have Pu:=s3.trans s4;unfold dn at bnd⊢;rw[A1] at bnd;have few:∀fr∈rbF 8 q.f (q.d-1-wtF kp) 0,AskOk L ⟨q.d-1,q.k+fr.sum-q.f.sum-q.d+1,kp,fr⟩/\6*(q.d-1)+fr.sum+1<=muF q/\Le kp q.h/\Le q.f fr/\fr.sum<=5:=λfr PN=>aq.few d2 MV PN;refine⟨.ref fa,q.f,q.d-1-wtF kp,0,rfl,Mj.mono Pu,aq.fn,by lia,by unfold wtF at*;lia,by decide,by unfold wtF at*;lia,by unfold wtF at*;lia,by unfold wtF at*;lia,by unfold wtF at*;lia,by decide,λrl H5 s5 Mw MO=> ?_⟩;obtain⟨_,LB,e,MG,LV⟩:=aH MO;cases e;have LW:LB.length=(rbF 8 q.f (q.d-1-wtF kp) 0).length:=by rw[LV.length,A1]
  have NW:=s4.trans s5;have KZ:=NW _ _ KE;have rfo:rl≠fo:=by rintro rfl;rw[s4 _ _ KE] at Mw;cases Mw
  have rkl:kl≠rl:=by rintro rfl;rw[s4 _ _ PM] at Mw;cases Mw
  generalize rbF 8 q.f (q.d-1-wtF kp) 0=O at LV few LW bnd;refine⟨rl,rfl,⟨_,SqL.of MG⟩,bM (xs:=LB) (λj σ H6=>(∃v6 v7,σ=[some (.int q.d),some (.int q.k),some v1,some (.ref fa),some (.ref fo),some y,v6,v7])/\ag H H6/\H6 kl=some (.lst Kv)/\H6 rl=some (.lst LB)/\aF H5 H6/\Acc H H6 fo ((R++(O.take j).map (fj q kp)).map smD)) ⟨⟨_,_,rfl⟩,s3.trans NW,NW _ _ PM,MG,aF.of_same (ag.refl _),by simpa using Acc.mono NW ⟨zs,KE,hz⟩⟩ (λj σ H6 _ h=>SqL.of h.2.2.2.1) ?_ ?_⟩
  .rintro j b σ H6 hj ⟨⟨v6,v7,rfl⟩,s6,PP,Nu,t6,⟨ws,Nt,hw⟩⟩;obtain⟨fr,PN,hb⟩:=bA LV hj;have jl:j<O.length:=(AG.mp PN).1;obtain⟨f1,f2,f3,f4,f5⟩:=few fr (AU PN);have hb6:Is H6 (tI fr) b:=fV t6 hb;have hy6:Is H6 (tI kp) y:=fV t6 (OH.mono NW);have wl:=hw.length;rw[A1,AC,A1,Aa] at wl;have NV:(O.take (j+1)).map (fj q kp)=(O.take j).map (fj q kp)++[fj q kp fr]:=by
    rw[AY,PN,A9];rfl
   rw[NV,<-B0];obtain⟨ba,rfl,hba⟩:=bY hb6;refine⟨_,rfl,_,_,rfl,rfl,_,rfl,_,rfl,ba,fr,rfl,SqT.of hba,_,_,rfl,rfl,_,rfl,fa,q.f,rfl,SqT.of (s6 _ _ hf),_,_,rfl,rfl,_,rfl,_,_,rfl,rfl,_,_,rfl,rfl,_,rfl,_,rfl,(zB rfl),λt7 H7 n7 s7 h7=> ?_⟩;have hq7:Is H7 (qD ⟨q.d-1,q.k+fr.sum-q.f.sum-q.d+1,kp,fr⟩) (.ref t7):=bO h7 (ax aU (ax aU (ax (hy6.mono s7) (ax (hb6.mono s7) aA))));have s07:=s6.trans s7;refine⟨_,rfl, .inl ⟨rfl,_,SqL.of (s7 _ _ Nt)⟩,_,rfl,_,rfl,v1,y,q.h,kp,rfl,LJ.mono s07,hy6.mono s7,f3,by lia,λH8 s8=> ?_⟩;refine⟨_,rfl,_,rfl, .ref ba, .ref fa,fr,q.f,rfl,(hb6.mono s7).mono s8,(Mj.mono s07).mono s8,f4,f5,λH9 s9=> ?_⟩;have c1:=vR f3 (by lia);have c2:=vR f4 f5;refine⟨_,_,rfl,rfl, .inl ⟨by lia,by lia⟩,_,rfl,_,rfl, .ref fa, .ref ba,q.f,fr,rfl,((Mj.mono s07).mono s8).mono s9,((hb6.mono s7).mono s8).mono s9,f4,by have:=f4.len;lia,f5,λl10 H10 Ol n10 h10=> ?_⟩;refine⟨_,rfl,(zB rfl),λt11 H11 n11 PF h11=> ?_⟩;have s610:=((s7.trans s8).trans s9).trans Ol;have Mf:=s610.trans PF;have n10':H6 l10=none:=((s7.trans s8).trans s9).free n10;refine⟨fo,ws,_,rfl,rfl,Mf _ _ Nt,xR (by lia),⟨_,_,rfl⟩,(s6.trans Mf).put L9,by rw[au kfo];exact Mf _ _ PP,by rw[au rfo];exact Mf _ _ Nu,(t6.trans (aF.of_same Mf)).trans (aF.upd (Mf _ _ Nt)), ?_⟩;rw[A9];refine Acc.add s6 Mf Nt hw ?_;refine bO (lr Mf h11) (ax aU (ax (iE n10' (h10.mono PF)) (ax (xq (xu Mf) ((((hq7.mono s8).mono s9).mono Ol).mono PF)) aA)))
  .rintro σ H6 ⟨⟨v6,v7,rfl⟩,s6,PP,Nu,t6,Ky⟩;rw[LW,AQ] at Ky;exact⟨⟨_,_,_,rfl⟩,s6,PP,(t3.trans (aF.of_same NW)).trans t6,Ky⟩
 .rintro σ H3 ⟨⟨v5,v6,v7,rfl⟩,s3,PM,t3,Ky⟩;rw[PL,AQ] at Ky;exact⟨_,rfl,kk fo H3 s3 L9 (Ky.is L9)⟩
theorem JM (a:AskOk L q):(eB q).length<=5/\(fk q).length<=12500000:=by
 have h5:=a.L5;have fl:=a.fl;have k32:(rwF q.h).length<=32:=by have:=lF a.hn a.sums.2.1 q.h.length;rwa [AQ] at this
 refine⟨?_,As (qA (by lia) _) (by lia)⟩;unfold eB;refine As (jM (m:=1) λp _=> ?_) (by rw[B6];lia);unfold cC;split<;>simp
theorem JN:OKQ T.X19 P w base 12 spSms:=by
 refine FbO T.X19 jr λ_ _ _ _ H vs Q E hr h=> ?_;obtain⟨v,q,L,rfl,hv,aq,d2,kk⟩:=h;refine⟨_,(aj (pSA (i:=1) jr.nd (az bX (pv 0) ah (λ_ _=>rfl)))
  (aj (pSA (i:=2) jr.nd (az bX (pv 0) ah (λ_ _=>rfl)))
  (aj (pSA (i:=3) jr.nd (az bX (pv 0) ah (λ_ _=>rfl)))
  (aj (pSA (i:=4) jr.nd (az bX (pv 0) ah (λ_ _=>rfl)))
  (ak (ay (ai gM (pcq (JK T) hr T.X17 (ae (pv 1) (ae (pv 2) (ae (pv 3) (ae (pv 4) af))))) (pcq (JL T) hr T.X18 (ae (pv 1) (ae (pv 2) (ae (pv 3) (ae (pv 4) af)))))))))))), ?_⟩
 refine⟨_,rfl,_,0,_,hv,rfl,rfl,λu1 k1=> ?_⟩;rw[aX k1];refine⟨_,rfl,_,1,_,hv,rfl,rfl,λu2 k2=> ?_⟩;rw[aX k2];refine⟨_,rfl,_,2,_,hv,rfl,rfl,λu3 k3=> ?_⟩;refine⟨_,rfl,_,3,_,hv,rfl,rfl,λu4 k4=> ?_⟩;refine⟨_,rfl,_,rfl,_,rfl,_,rfl,u3,u4,q,L,rfl,k3,k4,aq,d2,λl1 H1 s1 n1 h1=> ?_⟩;refine⟨_,rfl,_,rfl,_,rfl,_,rfl,u3,u4,q,L,rfl,k3.mono s1,k4.mono s1,aq,d2,λl2 H2 s2 n2 h2=> ?_⟩;obtain⟨_,xs,e,g1,i1⟩:=aH h1;cases e;obtain⟨_,zs,e,g2,i2⟩:=aH h2;cases e;have L8:H2 l1=some (.lst xs):=s2 _ _ (bC _ _ g1);have KQ:H2 l2=some (.lst zs):=bC _ _ g2;have sl:=JM aq;have xl:=i1.length;have zl:=i2.length;rw[A1] at xl zl;refine⟨l1,l2,xs,zs,rfl,rfl,L8,KQ,AT (xR (by lia)),λp np=> ?_⟩;have s3:ag H2 (upd H2 p (.lst (xs++zs))):=ag.new np;have hp:upd H2 p (.lst (xs++zs)) p=some (.lst (xs++zs)):=am;generalize upd H2 p (.lst (xs++zs))=H3 at s3 hp;have npH:H p=none:=(s1.trans s2).free np;refine kk p H3 ((s1.trans s2).trans s3) npH (aI (by rw[cM npH];exact hp) ?_);unfold b9;rw[A9];exact(i1.mono (gx (s2.trans s3))).append ((i2.mono (jB s1)).mono (gx s3))
theorem xS {a:P' Int}(h:Nn a) (hl:a.length<=n):(br n a).length=n/\Nn (br n a)/\wtF (br n a)=wtF a:=by
 have nr:∀(m:Nat) {t:P' Int},Nn t->Nn (t++List.replicate m 0):=λm=>by
  induction m with
  |zero=>intro t h;simpa using h
  |succ m ih=>intro t h;rw[D9,<-B0];exact vM (ih h) (by decide)
 refine⟨?_,nr _ h,pP⟩;unfold br;rw[AC,Ad];lia
theorem xT {k:Nat}{a:P' Int} (hw:Wide d k) (ra:dN a) (rb:dN b) (e:wtF a+wtF b=d) (la:a.length<=d) (lb:b.length<=d):AskOk d ⟨d,k,br d a,br d b⟩:=by
 obtain⟨a1,a2,a3⟩:=xS ra.1 la;obtain⟨b1,b2,b3⟩:=xS rb.1 lb;unfold Wide at hw;exact⟨a1,b1,a2,b2,by rw[a3,b3];exact e,by show(1:Int)<=(d:Int);lia,Bf _,by lia,by show(k:Int)<=6;lia⟩
theorem JO:FnOk P w K mg base (CX1 P w) 4 T.f20 T.d20 ["d","k","held","free"] (spAsX T.c_NoBound T.c_NoEnds):=by
 refine T.X20.F.okx G4 (λvs H Q E h=> ?_) (λKM A outer s H vs Q E hr h hR hp=> ?_)
 .obtain⟨_,_,_,_,rfl,_⟩:=h;rfl
 .obtain⟨v,u,r1,r2,rfl,h⟩:=h;refine⟨_,(aj (aZ (cP (xG T) (hr.mono (by decide)) (by rfl) T.X2.m T.X2.F.kp T.X2.B .nil hp (ae (pv 0) (ae (pv 1) af))))
   (aj (aZ (cP (JD T) (hr.mono (by decide)) (by rfl) T.X7.m T.X7.F.kp T.X7.B .nil hp (ae (pv 0) (ae (pv 2) (ae (pv 3) af)))))
   (ak (ay (bK (ae (pv 0) (ae (pv 1) (ae (pcq (xN T) hr T.X12 (ae (pv 2) (ae (pv 0) af))) (ae (pcq (xN T) hr T.X12 (ae (pv 3) (ae (pv 0) af))) af))))))))), ?_⟩
  rcases h with⟨d,k,a,b,rfl,rfl,hW,h1,h2,ra,rb,e,la,lb,kk⟩|⟨tv,tu,hn,ke⟩|⟨d,k,rfl,rfl,hW,On,ke⟩
  .have d5:d<=5:=by unfold Wide at hW;lia
   refine⟨_,rfl,_,rfl, .int d, .int k,rfl,bw.int,bw.int,λ_=> ?_,λh=>absurd ⟨d,k,rfl,rfl,hW⟩ h⟩;refine⟨_,rfl,_,rfl,_,rfl,d,r1,r2,rfl, .inl ⟨a,b,h1,h2,ra,rb,e,λH1 s1=> ?_⟩⟩;refine⟨_,rfl,_,rfl,_,rfl,_,rfl,r1,a,d,rfl,h1.mono s1,la,d5,λu1 H2 s2 Ld=> ?_⟩;refine⟨_,rfl,_,rfl,r2,b,d,rfl,(h2.mono s1).mono s2,lb,d5,λu2 H3 s3 L7=> ?_⟩;refine⟨(zB rfl),λt H4 nt s4 ht=>kk _ H4 (((s1.trans s2).trans s3).trans s4) ?_⟩;exact bO ht (ax aU (ax aU (ax ((Ld.mono s3).mono s4) (ax (L7.mono s4) aA))))
  .exact⟨_,rfl,_,rfl,v,u,rfl,tv,tu,λh=>absurd h hn,λ_=>ke⟩
  .exact⟨_,rfl,_,rfl, .int d, .int k,rfl,bw.int,bw.int,λ_=>⟨_,rfl,_,rfl,_,rfl,d,r1,r2,rfl, .inr ⟨On,ke⟩⟩,λh=>absurd ⟨d,k,rfl,rfl,hW⟩ h⟩
theorem JP:OKQ T.X8 P w base 1 (spWln K):=by
 refine FbO T.X8 uT λ_ _ _ _ H vs Q E hr h=> ?_;obtain⟨a,ns,rfl,hS,hn,kk⟩:=h;refine⟨_,(aj (pSA (i:=1) uT.nd (iS rH (by rfl) T.n_list boot_list (ae (pv 0) af)))
  (aj (jX AH (ma (j6 (pv 1) (λ_=>rfl)) (l9 (aO dj (az bh (pv 1) (gJ gK ah) (λ_ _=>rfl)) ah (aL _)))).pt (ak (aZ (rK Ab PySem.F.slot_list_pop PySem.F.type_list_pop rN (pv 1)))))
  (ak (ay (pv 1))))), ?_⟩
 refine⟨_,rfl,a,_,rfl, .inl hS,λl hl=> ?_⟩;refine jZ (λσ H2=>∃(cs:P' Int) (b:Nat),σ=[some (.ref a),some (.ref l)]/\ag H H2/\H2 l=some (.lst (cs.map V.int))/\ns=cs++List.replicate b 0)
  (λ_ H2=>match H2 l with|some (.lst xs)=>xs.length|_=>0) ⟨ns,0,rfl,ag.new hl,am,by simp⟩ ?_ ?_
 .rintro σ H2 ⟨cs,b,rfl,s2,KQ,e⟩;rcases List.eq_nil_or_concat cs with rfl|⟨cs',z,O2⟩
  .exact⟨_,rfl,false, .inl ⟨_,SqL.of KQ,rfl⟩,aT (aT ⟨_,rfl,kk l [] b H2 s2 hl KQ e (.inl rfl)⟩)⟩
  .rw [List.concat_eq_append] at O2;subst O2;refine⟨_,rfl,true, .inl ⟨_,SqL.of KQ,by simp⟩,bu ?_⟩;refine⟨_,rfl,1,rfl,l,_,_, .int z,rfl,rfl,SqL.of KQ,by rw[A9];exact zL _ _,rfl,_,rfl, ?_⟩;refine dE (λhz=> ?_) (λhz=> ?_)
   .refine⟨_,rfl, .inl ⟨rfl,_,SqL.of KQ⟩,l,_, .int z,rfl,rfl,KQ,by simp, ?_⟩;refine⟨⟨cs',b+1,rfl,s2.put hl,by rw[am,A9];simp,Ib e hz⟩, ?_⟩;show(match upd H2 l _ l with|some (.lst xs)=>xs.length|_=>0)<(match H2 l with|some (.lst xs)=>xs.length|_=>0);rw[am,KQ];simp
   .exact⟨_,rfl,kk l _ b H2 s2 hl KQ e (.inr (by simpa using hz))⟩
 .intro σ H Q1 Q2 k h;obtain⟨v,e1,b,t1,h⟩:=h;refine⟨v,e1,b,t1, ?_⟩;cases b with
  |false=>exact aT (k _ _ (by simpa using h))
  |true=>
   rw[AB rfl] at h;obtain⟨v2,e2,i,e3,p,xs,j,y,e4,e5,e6,e7,e8,b2,e9,h⟩:=h;exact bu ⟨v2,e2,i,e3,p,xs,j,y,e4,e5,e6,e7,e8,b2,e9,k _ _ h⟩
theorem iI:OKQ T.X33 P w base 2 (spShade K):=by
 refine FbO T.X33 kT λ_ _ _ _ H vs Q E hr h=> ?_;obtain⟨KG,a,ns,rfl,hS,hn,kk⟩:=h;refine⟨_,(aj (pSA (i:=2) kT.nd (pcq (JP T) hr T.X8 (ae (pv 1) af)))
  (aj (bc (di (j6 (pv 2) (λ_=>rfl))) (ak (ay (mr (ae ah (ae (iR af) af))))) aY)
  (aj (pSA (i:=3) kT.nd ah)
  (aj (jX AH (aO dj (az bh (pv 2) (pv 3) (λ_ _=>rfl)) ah (aL _)) (ak (qM (i:=3) kT.nd rfl (by trivial) ah jW)))
  (ak (ay (mr (ae (ai aB (pv 0) (pv 3)) (ae (fE gL (pv 2) (fD (pv 3)) fC) af))))))))), ?_⟩
 refine⟨_,rfl,a,ns,rfl,hS,hn,λl ks b H2 s2 nl KQ e hk=> ?_⟩;by_cases hks:ks=[]
 .subst hks;refine⟨_,rfl,false, .inl ⟨_,SqL.of KQ,rfl⟩,bu ?_⟩;refine⟨AJ _,λl2 n2=>⟨(zB rfl),λt nt=> ?_⟩⟩;refine kk.mk (zs:=[]) s2 n2 nt (.inl ⟨rfl,rfl,λz hz=> ?_⟩);rw[e] at hz;exact List.eq_of_mem_replicate (by simpa using hz)
 .have Mz:ks.getLast? ≠some 0:=hk.resolve_left hks;refine⟨_,rfl,true, .inl ⟨_,SqL.of KQ,by cases ks with|nil=>exact absurd rfl hks|cons _ _=>rfl⟩,aT ?_⟩;have Ly:0<ks.length:=DK.mpr hks;refine jZ (λσ H3=>∃i:Nat,σ=[some (.int KG),some (.ref a),some (.ref l),some (.int i)]/\H3=H2/\i<ks.length/\ks.take i=List.replicate i 0)
   (fun(σ:L2.St) _=>match σ[3]? with|some (some (V.int j))=>ks.length-j.toNat|_=>0) ⟨0,rfl,rfl,Ly,rfl⟩ ?_ ?_
  .rintro σ H3 ⟨i,rfl,rfl,hi,ht⟩;refine⟨_,rfl,_,rfl,l,_,_,_,rfl,rfl,SqL.of KQ,xa hi,rfl,_,rfl, ?_⟩;refine dE (λhz=> ?_) (λhz=> ?_)
   .have Ms:=Ia hi Mz hz;refine⟨_,rfl,_,_,rfl,rfl,⟨i+1,rfl,rfl,Ms,HZ hi ht hz⟩, ?_⟩;show ks.length-((i:Int)+1).toNat<ks.length-(i:Int).toNat;lia
   .refine⟨_,rfl,_,rfl,_,_,rfl,rfl,_,rfl,_,rfl,_,rfl,l,_,rfl,SqL.of KQ, ?_⟩;rw[IU (AT hi)];intro l2 n2;refine⟨(zB rfl),λt nt=> ?_⟩;exact kk.mk s2 n2 nt (wv e Mz hi ht hz)
  .intro σ H Q1 Q2 k h;obtain⟨v1,e1,v2,e2,p,xs,j,y,e4,e5,e6,e7,e8,b2,e9,h⟩:=h;exact⟨v1,e1,v2,e2,p,xs,j,y,e4,e5,e6,e7,e8,b2,e9,k _ _ h⟩
theorem JQ:OKQ T.X9 P w base 1 (spList dI (λ_ _=>True) K):=by
 refine FbO T.X9 jn λ_ _ _ _ H vs Q E hr h=> ?_;obtain⟨a,c,xs,ys,rfl,hA,hC,la,lc,_,kk⟩:=h;refine⟨_,(aj (pSA (i:=2) jn.nd (ai iV (iR (ae ah af)) (aS (zq rfl) (by rfl) T.n_max boot_max (ae (aS dA (by rfl) T.n_len D8 (ae (pv 0) af)) (ae (aS dA (by rfl) T.n_len D8 (ae (pv 1) af)) af)))))
  (aj (aE AH rfl (qP (mr (ae (pv 0) (ae (pv 1) af)))) (pGA (i:=3) jn.nd) (ak (aE AH rfl (gS (by rfl) T.n_enumerate (pv 3)) (cp rfl (aK (pGA (i:=4) jn.nd) (aK (pGA (i:=5) jn.nd) bV))) (ak (jV (pv 2) (pv 4) kh (pv 5) jW iT)))))
  (ak (ay (pv 2))))), ?_⟩
 refine⟨(zB rfl),λl0 n0=> ?_⟩;have s0:ag H (upd H l0 (.lst [.int 0])):=ag.new n0;refine⟨_,rfl,a,_,rfl, .inl (s0.seq hA),_,rfl,c,_,rfl, .inl (s0.seq hC),_,_,rfl, ?_⟩;rw[A1,A1];have hm:(if(ys.length:Int)>(xs.length:Int) then(ys.length:Int) else(xs.length:Int))=((max xs.length ys.length:Nat):Int):=by split<;>lia
 rw[hm];have hmx:max xs.length ys.length<=400:=by lia
 refine⟨l0,_,_,rfl,rfl,am,by lia,by lia, ?_, ?_⟩
 .rw [AV,BX,Nat.one_mul];exact AT (aD (by lia))
 rw[AV,lT];intro lt nt;have sT:ag H (upd (upd H l0 (.lst [.int 0])) lt (.lst ((List.replicate (max xs.length ys.length) (0:Int)).map V.int))):=s0.put (s0.free nt);have nlt:H lt=none:=s0.free nt;have KD:(upd (upd H l0 (.lst [.int 0])) lt (.lst ((List.replicate (max xs.length ys.length) (0:Int)).map V.int))) lt=some (.lst ((List.replicate (max xs.length ys.length) (0:Int)).map V.int)):=am;generalize upd (upd H l0 (.lst [.int 0])) lt (.lst ((List.replicate (max xs.length ys.length) (0:Int)).map V.int))=H1 at sT KD⊢;refine⟨_,rfl,_,rfl,(zB rfl),λtt ntt=> ?_⟩;have nttH:H tt=none:=sT.free ntt;have ntl:tt≠lt:=(bF KD ntt).symm;refine⟨tt,rfl,⟨_,SqT.of am⟩,qR (xs:=[.ref a, .ref c]) (λi σ H2=>∃v3 v4 v5:Qc V,σ=[some (.ref a),some (.ref c),some (.ref lt),v3,v4,v5]/\ag H H2/\H2 tt=some (.tup [.ref a, .ref c])/\
  H2 lt=some (.lst ((if i=0 then List.replicate (max xs.length ys.length) (0:Int) else if i=1 then aV (List.replicate (max xs.length ys.length) 0) 0 xs else dI xs ys).map V.int)))
  ⟨none,none,none,rfl,sT.put nttH,am,by rw[au ntl.symm];exact KD⟩ (λi σ H2 _ KJ=>by obtain⟨_,_,_,_,_,h,_⟩:=KJ;exact SqT.of h) ?_ ?_⟩
 .rintro i x σ H2 hi ⟨v3,v4,v5,rfl,s2,OU,Ll⟩;obtain⟨z,zs,ts,rfl,hz,lz,e0,e1⟩:∃(z:P5) (zs ts:P' Int),x= .ref z/\SqL K H z (zs.map V.int)/\zs.length<=ts.length/\(if i=0 then List.replicate (max xs.length ys.length) (0:Int) else if i=1 then aV (List.replicate (max xs.length ys.length) 0) 0 xs else dI xs ys)=ts/\
    (if i+1=0 then List.replicate (max xs.length ys.length) (0:Int) else if i+1=1 then aV (List.replicate (max xs.length ys.length) 0) 0 xs else dI xs ys)=aV ts 0 zs:=by
   match i,hi with
   |0,hi=>
    cases hi;exact⟨a,xs,_,rfl,hA,by simp;lia,rfl,rfl⟩
   |1,hi=>
    cases hi;exact⟨c,ys,_,rfl,hC,by simp[eD];lia,rfl,rfl⟩
  rw[e0] at Ll;rw[e1];refine⟨_,rfl,z,rfl,⟨_,s2.seq hz⟩,i8 (xs:=zs.map V.int) (λj σ H3=>∃v4 v5:Qc V,σ=[some (.ref a),some (.ref c),some (.ref lt),some (.ref z),v4,v5]/\ag H H3/\H3 tt=some (.tup [.ref a, .ref c])/\H3 lt=some (.lst ((aV ts 0 (zs.take j)).map V.int)))
   ⟨v4,v5,rfl,s2,OU,by rw[List.take_zero,pR];exact Ll⟩ (λj σ H3 _ KJ=>by obtain⟨_,_,_,h,_⟩:=KJ;exact h.seq hz) ?_ ?_⟩
  .rintro j x σ H3 p hx ⟨v4,v5,rfl,s3,NG,Mg⟩ np;rw[AE] at hx;obtain⟨y,hy,rfl⟩:=AA.mp hx;have hj:j<zs.length:=(AG.mp hy).1;have nlp:lt≠p:=bF Mg np;have Kz:(aV ts 0 (zs.take j)).length=ts.length:=eD _ _ _;have OV:upd H3 p (.tup [.int j, .int y]) lt=some (.lst ((aV ts 0 (zs.take j)).map V.int)):=by rw[au nlp];exact Mg
   refine⟨p,_,rfl,SqT.of am,rfl,_,_,rfl,_,_,rfl,rfl, ?_⟩;refine⟨_,rfl,_,rfl,lt,_,j,_, .int ((aV ts 0 (zs.take j)).getD j 0),rfl,rfl,rfl,SqL.of OV, ?_,_,rfl,_,_,rfl,rfl,lt,_,_,j,rfl,rfl,OV,gR (by rw[A1];lia), ?_⟩
   .exact xc (by lia)
   .refine⟨_,_,rfl,(s3.put (s3.free np)).put nlt, ?_, ?_⟩
    .rw [au (jR NG Mg (by intro z;cases z)),au (bF NG np)];exact NG
    .rw [am];have e:=lK ts 0 (zs.take j) y (by rw[Aa];lia);rw[Aa,Cj (AT hj),Nat.zero_add] at e;have e3:zs.take (j+1)=zs.take j++[y]:=by rw[AY,hy];rfl
     rw[e3,<-e,List.map_set]
  .rintro σ H3 ⟨v4,v5,rfl,s3,NG,Mg⟩;rw[A1,AQ] at Mg;exact⟨_,_,_,rfl,s3,NG,Mg⟩
 .rintro σ H2 ⟨v3,v4,v5,rfl,s2,OU,Ll⟩;exact⟨_,rfl,kk lt H2 s2 nlt Ll⟩
theorem JR:OKQ T.X10 P w base 1 (spList (λxs ys=>cv xs ys xs.length) (λxs _=>∀x∈xs,-(10^18)<=x/\x<=10^18) K):=by
 refine FbO T.X10 hJ λ_ _ _ _ H vs Q E hr h=> ?_;obtain⟨a,c,xs,ys,rfl,hA,hC,la,lc,hB,kk⟩:=h;refine⟨_,(aj (pSA (i:=2) hJ.nd (ai iV (iR (ae ah af)) (ai aB (aS dA (by rfl) T.n_len D8 (ae (pv 0) af)) (aS dA (by rfl) T.n_len D8 (ae (pv 1) af)))))
  (aj (aE AH rfl (gS (by rfl) T.n_enumerate (pv 0)) (cp rfl (aK (pGA (i:=3) hJ.nd) (aK (pGA (i:=4) hJ.nd) bV))) (ak (aE AH rfl (gS (by rfl) T.n_enumerate (pv 1)) (cp rfl (aK (pGA (i:=5) hJ.nd) (aK (pGA (i:=6) hJ.nd) bV))) (ak (jV (pv 2) (ai aB (pv 3) (pv 5)) kh (ai bt (pv 4) (pv 6)) jW iT)))))
  (ak (ay (pv 2))))), ?_⟩
 refine⟨(zB rfl),λl0 n0=> ?_⟩;have s0:ag H (upd H l0 (.lst [.int 0])):=ag.new n0;refine⟨_,rfl,a,_,rfl, .inl (s0.seq hA),_,rfl,c,_,rfl, .inl (s0.seq hC),_,_,rfl,rfl, ?_⟩;dsimp only;rw[A1,A1,show(xs.length:Int)+(ys.length:Int)=((xs.length+ys.length:Nat):Int) by lia];refine⟨l0,_,_,rfl,rfl,am,by lia,by lia, ?_, ?_⟩
 .rw [AV,BX,Nat.one_mul];exact AT (aD (by lia))
 rw[AV,lT];intro lt nt;have sT:ag H (upd (upd H l0 (.lst [.int 0])) lt (.lst ((List.replicate (xs.length+ys.length) (0:Int)).map V.int))):=s0.put (s0.free nt);have nlt:H lt=none:=s0.free nt;have KD:(upd (upd H l0 (.lst [.int 0])) lt (.lst ((List.replicate (xs.length+ys.length) (0:Int)).map V.int))) lt=some (.lst ((cv xs ys 0).map V.int)):=am;generalize upd (upd H l0 (.lst [.int 0])) lt (.lst ((List.replicate (xs.length+ys.length) (0:Int)).map V.int))=H1 at sT KD⊢;refine⟨_,rfl,a,rfl,⟨_,sT.seq hA⟩,i8 (xs:=xs.map V.int) (λi σ H2=>∃v3 v4 v5 v6:Qc V,σ=[some (.ref a),some (.ref c),some (.ref lt),v3,v4,v5,v6]/\ag H H2/\H2 lt=some (.lst ((cv xs ys i).map V.int)))
  ⟨none,none,none,none,rfl,sT,KD⟩ (λi σ H2 _ KJ=>by obtain⟨_,_,_,_,_,h,_⟩:=KJ;exact h.seq hA) ?_ ?_⟩
 .rintro i x σ H2 p hx ⟨v3,v4,v5,v6,rfl,s2,Ll⟩ np;rw[AE] at hx;obtain⟨x,KW,rfl⟩:=AA.mp hx;have hi:i<xs.length:=(AG.mp KW).1;have ex:xs.getD i 0=x:=by rw[List.getD,KW];rfl
  have bx:=hB x (AU KW);refine⟨p,_,rfl,SqT.of am,rfl,_,_,rfl,_,_,rfl,rfl, ?_⟩;have s3:ag H (upd H2 p (.tup [.int i, .int x])):=s2.put (s2.free np);have Mg:upd H2 p (.tup [.int i, .int x]) lt=some (.lst ((cv xs ys i).map V.int)):=by rw[au (bF Ll np)];exact Ll
  generalize upd H2 p (.tup [.int i, .int x])=H3 at s3 Mg⊢;have ln:=pT xs ys i;refine⟨_,rfl,c,rfl,⟨_,s3.seq hC⟩,i8 (xs:=ys.map V.int) (λj σ H4=>∃v5 v6:Qc V,σ=[some (.ref a),some (.ref c),some (.ref lt),some (.int i),some (.int x),v5,v6]/\ag H H4/\H4 lt=some (.lst ((aV (cv xs ys i) i ((ys.take j).map (x* ·))).map V.int)))
   ⟨v5,v6,rfl,s3,by rw[List.take_zero,DP,pR];exact Mg⟩ (λj σ H4 _ KJ=>by obtain⟨_,_,_,h,_⟩:=KJ;exact h.seq hC) ?_ ?_⟩
  .rintro j y σ H4 p2 hy ⟨v5,v6,rfl,s4,NH⟩ np2;rw[AE] at hy;obtain⟨y,LZ,rfl⟩:=AA.mp hy;have hj:j<ys.length:=(AG.mp LZ).1;have Kz:(aV (cv xs ys i) i ((ys.take j).map (x* ·))).length=xs.length+ys.length:=by rw[eD,ln]
   have M':upd H4 p2 (.tup [.int j, .int y]) lt=some (.lst ((aV (cv xs ys i) i ((ys.take j).map (x* ·))).map V.int)):=by rw[au (bF NH np2)];exact NH
   refine⟨p2,_,rfl,SqT.of am,rfl,_,_,rfl,_,_,rfl,rfl, ?_⟩;refine⟨_,rfl,_,rfl,_,rfl,_,_,rfl,rfl,lt,_,i+j,_, .int ((aV (cv xs ys i) i ((ys.take j).map (x* ·))).getD (i+j) 0),rfl,rfl,by lia,SqL.of M', ?_,_,rfl,_,rfl,_,_,rfl,rfl, .inl ⟨by lia,by lia⟩,_,_,rfl,rfl,lt,_,_,i+j,rfl,rfl,M', ?_, ?_⟩
   .exact xc (by lia)
   .rw [show(i:Int)+(j:Int)=((i+j:Nat):Int) by lia];exact gR (by rw[A1];lia)
   .refine⟨_,_,rfl,(s4.put (s4.free np2)).put nlt, ?_⟩;rw[am];have e:=lK (cv xs ys i) i ((ys.take j).map (x* ·)) (x*y) (by rw[A1,Aa];lia);rw[A1,Aa,Cj (AT hj)] at e;have e3:ys.take (j+1)=ys.take j++[y]:=by rw[AY,LZ];rfl
    rw[e3,A9,List.map_singleton,<-e,List.map_set]
  .rintro σ H4 ⟨v5,v6,rfl,s4,NH⟩;rw[A1,AQ] at NH;refine⟨_,_,_,_,rfl,s4, ?_⟩;rw[cv,ex];exact NH
 .rintro σ H2 ⟨v3,v4,v5,v6,rfl,s2,Ll⟩;rw[A1] at Ll;exact⟨_,rfl,kk lt H2 s2 nlt Ll⟩
theorem JS:OKQ T.X36 P w base 3 spStretch:=by
 refine FbO T.X36 G' λ_ _ _ _ H vs Q E hr h=> ?_;obtain⟨w,rfl,h1,h2,kk⟩:=h;refine⟨_,(ak (ay (pcq (iI T) hr T.X33 (ae (ai aJ ah (pv 0)) (ae (dP (XN:=["w"]) (sc:=ao kU) (N:=["place"]) (own:=1) (js:=[]) rfl (by ac_nf) rfl rfl (cH (by rfl) T.n_range (ae (ai aJ (ai bt ah (pv 0)) ah) af)) (λ_ _ _ _=>(cg (i:=0) (show List.Nodup (["place"]:P' Str) by ac_nf) rfl (Or.inl rfl) (.inr rfl))) (fG (by decide)) (λ_ _ _ _=>eT) (λ_ _ _ _=>(ai aJ ah (ai dz (pv 0) ah)))) af))))), ?_⟩;refine⟨_,rfl,_,_,rfl,rfl,_,rfl,_,_,rfl,rfl, .inl ⟨by decide,by decide⟩,_,_,rfl,rfl,_,rfl,by lia,by lia,λacc na=> ?_⟩;have en:((2:Int)*(w:Int)-1).toNat=2*w-1:=by lia
 rw[en];refine kf (lo:=0) (n:=2*w-1) (own:=1) (js:=[]) (λi H2=>ag H H2/\H2 acc=some (.lst (((List.range i).map λp:Nat=>1-((p:Nat):Int)%2).map V.int))) ⟨ag.new na,am⟩ ?_ ?_ fH eU ?_
 .rintro i H2 hi ⟨s2,Ky⟩;refine kg ?_;refine⟨_,rfl,_,_,rfl,rfl,(show(0:Int)<2 by decide),_,_,rfl,rfl,acc,_,_,rfl,rfl,Ky,aD (by simp;lia),s2.put na, ?_⟩;rw[am,Az,A9,A9,Bh];rfl
 .rintro H2 ⟨s2,Ky⟩;refine⟨_,acc,eE w,rfl,SqL.of Ky,by rw[pV];lia,λt l lo zs H' s' nl ht hl tr=> ?_⟩;obtain⟨e1,e2⟩:=(Ig h1).unique tr;subst e1;subst e2;exact kk t l _ _ H' (s2.trans s') (s2.free nl) ht hl ⟨rfl,rfl⟩
 .rintro σ H R R' k ⟨v1,e1,i1,j1,e2,e3,c1,i2,j2,e4,e5,h⟩;exact⟨v1,e1,i1,j1,e2,e3,c1,i2,j2,e4,e5,k _ _ h⟩
theorem JT:OKQ T.X35 P w base 3 (spTwo Ent cm K):=by
 refine FbO T.X35 G9 λ_ _ _ _ H vs Q E hr h=> ?_;obtain⟨t,u,p,q,l1,l2,z1,z2,rfl,ht,hp,hu,hq,n1,n2,_,_,_,_,hB,kk⟩:=h;refine⟨_,(ak (ay (pcq (iI T) hr T.X33 (ae (ai aB (az bW (pv 0) ah (λ_ _=>rfl)) (az bW (pv 1) ah (λ_ _=>rfl))) (ae (pcq (JR T) hr T.X10 (ae (az bW (pv 0) ah (λ_ _=>rfl)) (ae (az bW (pv 1) ah (λ_ _=>rfl)) af))) af))))), ?_⟩;refine⟨_,rfl,t,_,_,_,rfl,rfl,SqT.of ht,by rfl,_,rfl,u,_,_,_,rfl,rfl,SqT.of hu,by rfl,_,_,rfl,rfl, ?_⟩;refine⟨_,rfl,t,_,_,_,rfl,rfl,SqT.of ht,by rfl,_,rfl,u,_,_,_,rfl,rfl,SqT.of hu,by rfl, ?_⟩;refine⟨p,q,z1,z2,rfl,SqL.of hp,SqL.of hq,by lia,by lia,λx hx=>⟨by have:=hB x hx;lia,by have:=hB x hx;lia⟩,λl H1 s1 nl hl=> ?_⟩;refine⟨_,l,cv z1 z2 z1.length,rfl,SqL.of hl,by rw[pT];lia,λt' l' lo zs H' s' NI Mh Ln tr=> ?_⟩;exact kk t' l' lo zs H' (s1.trans s') (s1.free NI) Mh Ln tr.toC
theorem JU:OKQ T.X34 P w base 3 (spTwo (λ_=>True) aW K):=by
 refine FbO T.X34 uU λ_ _ _ _ H vs Q E hr h=> ?_;obtain⟨t,u,p,q,l1,l2,z1,z2,rfl,ht,hp,hu,hq,n1,n2,a1,a2,b1,b2,hB,kk⟩:=h;refine⟨_,(aj (bc (di (j6 (az bW (pv 0) ah (λ_ _=>rfl)) (λ_=>rfl))) (ak (ay (pcq (iI T) hr T.X33 (ae (az bW (pv 1) ah (λ_ _=>rfl)) (ae (az bW (pv 1) ah (λ_ _=>rfl)) af))))) aY)
  (aj (bc (di (j6 (az bW (pv 1) ah (λ_ _=>rfl)) (λ_=>rfl))) (ak (ay (pcq (iI T) hr T.X33 (ae (az bW (pv 0) ah (λ_ _=>rfl)) (ae (az bW (pv 0) ah (λ_ _=>rfl)) af))))) aY)
  (aj (pSA (i:=2) uU.nd (aS (rg rfl) (by rfl) T.n_min boot_min (ae (az bW (pv 0) ah (λ_ _=>rfl)) (ae (az bW (pv 1) ah (λ_ _=>rfl)) af))))
  (ak (ay (pcq (iI T) hr T.X33 (ae (pv 2) (ae (pcq (JQ T) hr T.X9 (ae (ai gM (ai iV (iR (ae ah af)) (ai aJ (az bW (pv 0) ah (λ_ _=>rfl)) (pv 2))) (az bW (pv 0) ah (λ_ _=>rfl))) (ae (ai gM (ai iV (iR (ae ah af)) (ai aJ (az bW (pv 1) ah (λ_ _=>rfl)) (pv 2))) (az bW (pv 1) ah (λ_ _=>rfl))) af))) af)))))))), ?_⟩
 by_cases Nq:z1=[]
 .subst Nq;refine⟨_,rfl,t,_,_, .ref p,rfl,rfl,SqT.of ht,by rfl,false, .inl ⟨_,SqL.of hp,rfl⟩,bu ?_⟩;refine⟨_,rfl,u,_,_,_,rfl,rfl,SqT.of hu,by rfl,_,rfl,u,_,_,_,rfl,rfl,SqT.of hu,by rfl, ?_⟩;exact⟨l2,q,z2,rfl,SqL.of hq,by lia,λt' l' lo zs H' s' NI Mh Ln tr=>kk t' l' lo zs H' s' NI Mh Ln tr.toC⟩
 .have i1:z1.isEmpty=false:=by cases z1 with|nil=>exact absurd rfl Nq|cons _ _=>rfl
  refine⟨_,rfl,t,_,_, .ref p,rfl,rfl,SqT.of ht,by rfl,true, .inl ⟨_,SqL.of hp,by cases z1 with|nil=>exact absurd rfl Nq|cons _ _=>rfl⟩,aT ?_⟩;by_cases hz2:z2=[]
  .subst hz2;refine⟨_,rfl,u,_,_, .ref q,rfl,rfl,SqT.of hu,by rfl,false, .inl ⟨_,SqL.of hq,rfl⟩,bu ?_⟩;refine⟨_,rfl,t,_,_,_,rfl,rfl,SqT.of ht,by rfl,_,rfl,t,_,_,_,rfl,rfl,SqT.of ht,by rfl, ?_⟩;refine⟨l1,p,z1,rfl,SqL.of hp,by lia,λt' l' lo zs H' s' NI Mh Ln tr=>kk t' l' lo zs H' s' NI Mh Ln ?_⟩;unfold aW;rw[A6 (by rw[i1];decide)];exact tr.toC
  .have i2:z2.isEmpty=false:=by cases z2 with|nil=>exact absurd rfl hz2|cons _ _=>rfl
   refine⟨_,rfl,u,_,_, .ref q,rfl,rfl,SqT.of hu,by rfl,true, .inl ⟨_,SqL.of hq,by cases z2 with|nil=>exact absurd rfl hz2|cons _ _=>rfl⟩,aT ?_⟩;refine⟨_,rfl,t,_,_,_,rfl,rfl,SqT.of ht,by rfl,_,rfl,u,_,_,_,rfl,rfl,SqT.of hu,by rfl,_,_,rfl, ?_⟩;have fin:∀{lo:Int}{zs:P' Int},Tr (if l2<l1 then l2 else l1) (dI (List.replicate (l1-(if l2<l1 then l2 else l1)).toNat 0++z1) (List.replicate (l2-(if l2<l1 then l2 else l1)).toNat 0++z2)) lo zs->(lo,zs)=aW (l1,z1) (l2,z2):=fun{lo zs} tr=>by
    unfold aW;rw[A6 (by rw[i1];decide),A6 (by rw[i2];decide)];exact tr.toC
   have hlow: -100<=(if l2<l1 then l2 else l1)/\(if l2<l1 then l2 else l1)<=100/\(if l2<l1 then l2 else l1)<=l1/\(if l2<l1 then l2 else l1)<=l2:=by split<;>lia
   generalize (if l2<l1 then l2 else l1)=KG at fin hlow⊢;refine⟨_,rfl,(zB rfl),λc1 nc1=> ?_⟩;have s1:ag H (upd H c1 (.lst [.int 0])):=ag.new nc1;have NP:upd H c1 (.lst [.int 0]) c1=some (.lst [.int 0]):=am;generalize upd H c1 (.lst [.int 0])=H1 at s1 NP⊢;refine⟨_,rfl,t,_,_,_,rfl,rfl,SqT.of (s1 _ _ ht),by rfl,_,rfl,_,_,rfl,rfl,c1,_,_,rfl,rfl,NP,by lia,by lia, ?_, ?_⟩
   .rw [BX,Nat.one_mul];exact AT (aD (by lia))
   rw[lT];intro c2 nc2;generalize hH2:upd H1 c2 _=H2;have s2:ag H1 H2:=hH2▸ag.new nc2;have Lo:H2 c2=some (.lst ((List.replicate (l1-KG).toNat (0:Int)).map V.int)):=by rw[<-hH2];exact am
   clear hH2;have s2:=s1.trans s2;refine⟨_,rfl,t,_,_, .ref p,rfl,rfl,SqT.of (s2 _ _ ht),by rfl,c2,p,_,_,rfl,rfl,Lo,s2 _ _ hp, ?_, ?_⟩
   .rw [A1,A1,Ad];exact AT (aD (by lia))
   rw[<-A9];intro c3 nc3;generalize hH3:upd H2 c3 _=H3;have s3:ag H2 H3:=hH3▸ag.new nc3;have Oq:H3 c3=some (.lst ((List.replicate (l1-KG).toNat (0:Int)++z1).map V.int)):=by rw[<-hH3];exact am
   clear hH3;have s3:=s2.trans s3;refine⟨(zB rfl),λd1 nd1=> ?_⟩;generalize hH4:upd H3 d1 _=H4;have s4:ag H3 H4:=hH4▸ag.new nd1;have OE:H4 d1=some (.lst [.int 0]):=by rw[<-hH4];exact am
   clear hH4;have Oq:=s4 _ _ Oq;have s4:=s3.trans s4;refine⟨_,rfl,u,_,_,_,rfl,rfl,SqT.of (s4 _ _ hu),by rfl,_,rfl,_,_,rfl,rfl,d1,_,_,rfl,rfl,OE,by lia,by lia, ?_, ?_⟩
   .rw [BX,Nat.one_mul];exact AT (aD (by lia))
   rw[lT];intro d2 nd2;generalize hH5:upd H4 d2 _=H5;have s5:ag H4 H5:=hH5▸ag.new nd2;have LP:H5 d2=some (.lst ((List.replicate (l2-KG).toNat (0:Int)).map V.int)):=by rw[<-hH5];exact am
   clear hH5;have Oq:=s5 _ _ Oq;have s5:=s4.trans s5;refine⟨_,rfl,u,_,_, .ref q,rfl,rfl,SqT.of (s5 _ _ hu),by rfl,d2,q,_,_,rfl,rfl,LP,s5 _ _ hq, ?_, ?_⟩
   .rw [A1,A1,Ad];exact AT (aD (by lia))
   rw[<-A9];intro d3 nd3;generalize hH6:upd H5 d3 _=H6;have s6:ag H5 H6:=hH6▸ag.new nd3;have Pe:H6 d3=some (.lst ((List.replicate (l2-KG).toNat (0:Int)++z2).map V.int)):=by rw[<-hH6];exact am
   clear hH6;have Oq:=s6 _ _ Oq;have s6:=s5.trans s6;refine⟨c3,d3,_,_,rfl,SqL.of Oq,SqL.of Pe,by simp;lia,by simp;lia,trivial,λl H7 s7 nl hl=> ?_⟩;refine⟨KG,l,_,rfl,SqL.of hl, ?_,λt' l' lo zs H' s' NI Mh Ln tr=> ?_⟩
   .simp [dI,eD];lia
   .have s7:=s6.trans s7;exact kk t' l' lo zs H' (s7.trans s') (s7.free NI) Mh Ln (fin tr)
theorem lX:OKQ T.X35 P w base 3 (spMx Ent cm):=FnOk.imp (JT T) λvs H Q E h=>by
 obtain⟨v,u,x,y,rfl,hv,hu,sx,sy,hB,kk⟩:=h;obtain⟨t,p,rfl,ht,hp⟩:=jN hv;obtain⟨t2,q,rfl,MF,hq⟩:=jN hu;exact⟨t,t2,p,q,x.1,y.1,x.2,y.2,rfl,ht,hp,MF,hq,sx.1,sy.1,sx.2.1,sx.2.2,sy.2.1,sy.2.2,hB,λt' l' lo zs H' s' NI Mh Ln e=>kk _ H' s' (by rw[show cm x y=(lo,zs) from e.symm];exact iG Mh Ln)⟩
theorem xU:OKQ T.X34 P w base 3 (spMx (λ_=>True) aW):=FnOk.imp (JU T) λvs H Q E h=>by
 obtain⟨v,u,x,y,rfl,hv,hu,sx,sy,hB,kk⟩:=h;obtain⟨t,p,rfl,ht,hp⟩:=jN hv;obtain⟨t2,q,rfl,MF,hq⟩:=jN hu;exact⟨t,t2,p,q,x.1,y.1,x.2,y.2,rfl,ht,hp,MF,hq,sx.1,sy.1,sx.2.1,sx.2.2,sy.2.1,sy.2.2,hB,λt' l' lo zs H' s' NI Mh Ln e=>kk _ H' s' (by rw[show aW x y=(lo,zs) from e.symm];exact iG Mh Ln)⟩
theorem JV:OKQ T.X36 P w base 3 spStS:=FnOk.imp (JS T) λvs H Q E h=>by
 obtain⟨n,rfl,h1,h2,kk⟩:=h;exact⟨n,rfl,h1,h2,λt' l' lo zs H' s' NI Mh Ln e=>kk _ H' s' (by obtain⟨e1,e2⟩:=e;subst e1 e2;exact iG (s:=fm n) Mh Ln)⟩
theorem iJ:OKQ T.X37 P w base 3 spOf:=by
 refine FbO T.X37 Hb λ_ _ _ _ H vs Q E hr h=> ?_;obtain⟨n,rfl,kk⟩:=h;refine⟨_,(ak (ay (pcq (iI T) hr T.X33 (ae ah (ae (av (ae (pv 0) af)) af))))), ?_⟩;refine⟨_,rfl,(zB rfl),λl H1 nl s1 hl=> ?_⟩;refine⟨0,l,[n],rfl,SqL.of hl,by simp,λt' l' lo zs H' s' NI Mh Ln tr=>kk _ H' (s1.trans s') ?_⟩;rw[show ofN n=(lo,zs) from tr.toC.symm];exact iG Mh Ln
theorem JW (h1:1<=n) (h2:n<=50):Sms (fm n):=by
 have h:=Il h1;unfold Sup at h;unfold Sms;lia
theorem xV:OKQ T.X38 P w base 4 spStr:=by
 refine FbO T.X38 kW λ_ _ _ _ H vs Q E hr h=> ?_;obtain⟨v,ws,rfl,hv,hB,kk⟩:=h;refine⟨_,(aj (pSA (i:=1) kW.nd (pcq (iJ T) hr T.X37 (ae ah af)))
  (aj (aE AH rfl (bv (pv 0)) (pGA (i:=2) kW.nd) (ak (pSA (i:=1) kW.nd (pcq (lX T) hr T.X35 (ae (pv 1) (ae (pcq (JV T) hr T.X36 (ae (pv 2) af)) af))))))
  (ak (ay (pv 1))))), ?_⟩
 refine⟨1,rfl,λv1 H1 s1 LJ=> ?_⟩;obtain⟨la,LR,rfl,hl,Nk⟩:=aH hv;obtain rfl:=gT Nk;have L8:=s1 _ _ hl;refine⟨_,rfl,la,rfl,⟨_,SqL.of L8⟩,bM (xs:=ws.map V.int) (λi σ H2=>(∃vp v2,σ=[some (.ref la),some vp,v2]/\Is H2 (shD ((ws.take i).foldl (λt w=>cm t (fm w.toNat)) (ofN 1))) vp)/\ag H1 H2) ⟨⟨v1,none,rfl,LJ⟩,ag.refl _⟩ (λi σ H2 _ h=>SqL.of (h.2 _ _ L8)) ?_ ?_⟩
 .rintro i y σ H2 hi ⟨⟨vp,v2,rfl,hvp⟩,s2⟩;rw[AE] at hi;obtain⟨wt,hw,rfl⟩:=AA.mp hi;obtain⟨c1,c2,c3⟩:=wC hB i wt hw;have c1:=eJ c1;obtain⟨n,rfl⟩:=Al (show 0<=wt by lia);refine⟨_,rfl,_,rfl,n,rfl,by lia,by lia,λvt H3 s3 Na=> ?_⟩;refine⟨vp,vt,_,_,rfl,hvp.mono s3,Na,c1.1,JW (by lia) (by lia),c1.2,λvm H4 s4 hvm=> ?_⟩;refine⟨⟨vm,_,rfl, ?_⟩,(s2.trans s3).trans s4⟩;rw[pZ hw];exact hvm
 .rintro σ H2 ⟨⟨vp,v2,rfl,hvp⟩,s2⟩;rw[A1,AQ] at hvp;exact⟨_,rfl,kk vp H2 (s1.trans s2) hvp⟩
theorem JX:OKQ T.X39 P w base 12 spSFQ:=by
 refine FbO T.X39 jw λ_ _ _ _ H vs Q E hr h=> ?_;obtain⟨d,k,rfl,hW,kk⟩:=h;refine⟨_,(aj (aZ (pcq (xH T) hr T.X2 (ae (pv 0) (ae (pv 1) af))))
  (aj (pSA (i:=2) jw.nd (pcq (iJ T) hr T.X37 (ae ah af)))
  (aj (aE AH rfl (bv (pcq (Jw T) hr T.X27 (ae (pv 0) (ae (pv 1) af)))) (pGA (i:=3) jw.nd) (aj (si (i:=4) jw.nd rfl (by trivial) (.inl rfl) (XN:=["d","k","total","drawing","weights"]) (sc:=ao kX) (N:=["lift"]) (own:=1) (js:=[]) rfl (by ac_nf) rfl rfl (bv (pv 3)) (λ_ _ _ _=>(cg (i:=0) (show List.Nodup (["lift"]:P' Str) by ac_nf) rfl (Or.inl rfl) (.inr rfl))) (fG (by decide)) (λ_ _ _ _=>eT) (λ_ _ _ _=>(az bX (pv 0) ah (λ_ _=>rfl))))
  (ak (pSA (i:=2) jw.nd (pcq (xU T) hr T.X34 (ae (pv 2) (ae (pcq (lX T) hr T.X35 (ae (pcq (iJ T) hr T.X37 (ae (pcq (JB T) hr T.X32 (ae (pv 0) (ae (pv 3) af))) af)) (ae (pcq (xV T) hr T.X38 (ae (ai dk (pv 4) (pv 4)) af)) af))) af)))))))
  (ak (ay (pv 2)))))), ?_⟩
 refine⟨_,rfl,_,rfl,d,k,rfl,hW, ?_⟩;have d15:1<=d/\d<=5:=by unfold Wide at hW;lia
 refine⟨0,rfl,λvz H1 s1 hvz=> ?_⟩;rw[wB] at hvz;obtain⟨w1,g4'⟩:=IM hW;obtain⟨_,_,g2⟩:=w4 hW;refine⟨_,rfl,_,rfl,d,k,rfl,hW,w1,λS l H2 pS s2 nl hl=> ?_⟩;have hl:=hl.mono bC;have eN:S.foldl (λt x=>aW t (fq d x)) zer=v91 d k:=by rw[Iw pS,g2]
 have eA:∀x∈S,(jE d x=true/\mkB d x=true)/\(gF (gD x) (ofN 1)=true/\smS (iu (gD x))=true)/\smS (ofN (hmD d x))=true/\jI (fq d x)=true:=λx hx=>by
  obtain⟨a,b⟩:=g4' x (pS.mem_iff.mp hx);unfold p6 at b;simp only[AD] at b;exact⟨a,b.1.1,b.1.2,b.2⟩
 clear w1 g4' g2 pS;have a1:=Ix (f:=fq d) λx hx=>(eA x hx).2.2.2;obtain⟨_,LR,e,KQ,Nk⟩:=aH hl;cases e;have NB:LR.length=S.length:=by rw[Nk.length,A1]
 refine⟨l,rfl,⟨_,SqL.of KQ⟩,bM (xs:=LR) (λj σ H3=>(∃vt v3 v4,σ=[some (.int d),some (.int k),some vt,v3,v4]/\Is H3 (shD ((S.take j).foldl (λt x=>aW t (fq d x)) zer)) vt)/\ag H2 H3) ⟨⟨vz,none,none,rfl,hvz.mono s2⟩,ag.refl _⟩ (λj σ H3 _ h=>SqL.of (h.2 _ _ KQ)) ?_ ?_⟩
 .rintro j y σ H3 hj ⟨⟨vt,v3,v4,rfl,Na⟩,s3⟩;obtain⟨x,KW,hy⟩:=bA Nk hj;obtain⟨⟨o1,o2⟩,⟨a2,a3⟩,a4,a5⟩:=eA x (AU KW);have a3:=eJ a3;have a4:=eJ a4;have a5:Sms (fq d x):=(wQ a5).sms (by lia) (by lia);obtain⟨o1,_,x20,_,_⟩:=HQ o1;have OH:=hy.mono s3;obtain⟨ya,yvs,rfl,M8,hyi⟩:=aH OH;have Oi:yvs.length=x.length:=by rw[hyi.length,A1]
  refine⟨_,rfl,ya,rfl,⟨_,SqL.of M8⟩,λacc na=> ?_⟩;refine i7 (xs:=yvs) (own:=1) (js:=[]) (λi H4=>ag H3 H4/\H4 acc=some (.lst ((wsX (x.take i)).map V.int))) ⟨ag.new na,am⟩ (λi H4 _ h=>SqL.of (h.1 _ _ M8)) ?_ ?_ fH eU ?_
  .rintro i z H4 hi ⟨s4,Ky⟩;obtain⟨p,LA,hz⟩:=bA hyi hi;have hil:i<x.length:=(AG.mp LA).1;have hz4:=hz.mono s4;refine kg ?_;refine⟨_,rfl,_,2,_,hz4,rfl,rfl,λu hu=> ?_⟩;rw[aX hu];refine⟨acc,_,_,rfl,rfl,Ky,aD (by unfold wsX;simp;lia),s4.put na, ?_⟩;rw[am];unfold wsX;rw[AY,LA,A9,A9];rfl
  .rintro H4 ⟨s4,Ky⟩;rw[Oi,AQ] at Ky;have hyL:Is H4 (lfs x) (.ref ya):=OH.mono s4;refine⟨_,rfl,_,rfl,_,rfl,d,_,x,rfl,d15.1,d15.2,hyL,o1,o2,λH5 s5=> ?_⟩;refine⟨hmD d x,rfl,λvn H6 s6 hvn=> ?_⟩;have OW:=s6 _ _ (s5 _ _ Ky);refine⟨_,rfl,_,rfl,_,_,aI OW (gU (wsX x)),aI OW (gU (wsX x)),AT (aD (by unfold wsX;simp;lia)),λq H7 nq s7 hq=> ?_⟩;refine⟨.ref q,gD x,rfl, ?_,a2,λvs H8 s8 OK=> ?_⟩
   .unfold gD;rw[A9];exact hq
   refine⟨vn,vs,_,_,rfl,(hvn.mono s7).mono s8,OK,a4.1,a3.1,a4.2,λvm H9 s9 hvm=> ?_⟩;have s49:=((((s5.trans s6).trans s7).trans s8).trans s9);refine⟨vt,vm,_,_,rfl,(Na.mono s4).mono s49,hvm,a1 j,a5,trivial,λva Ha sa hva=> ?_⟩;exact⟨⟨va,_,_,rfl,by rw[pZ KW];exact hva⟩,((s3.trans s4).trans s49).trans sa⟩
  .rintro σ H R R' k' ⟨v1,e1,xs,i,dd,h1,e2,e3,h⟩;exact⟨v1,e1,xs,i,dd,h1,e2,e3,λu hu=>k' _ _ (h u hu)⟩
 .rintro σ H3 ⟨⟨vt,v3,v4,rfl,Na⟩,s3⟩;rw[NB,AQ,eN] at Na;exact⟨_,rfl,kk vt H3 ((s1.trans s2).trans s3) Na⟩
theorem xW:∀n:Nat,FnOk P w K mg base CX0 (n+13) T.f40 T.d40 ["asked","known"] (spESh P w n)
 |0=>⟨λvs H Q E h=>(by obtain⟨_,_,_,_,_,_,_,a,_,h,_⟩:=h;have:=a.mu;lia),λA outer s H args us vs Q E _ _ _ _ h=>(by obtain⟨_,_,_,_,_,_,_,a,_,h,_⟩:=h;have:=a.mu;lia)⟩
 |n+1=>by
  have ih:=xW n;refine T.X40.F.ok gq (λvs H Q E h=> ?_) (λKM A outer s H vs Q E hr h=> ?_)
  .obtain⟨_,_,_,_,_,rfl,_⟩:=h;rfl
  .obtain⟨v,kn,q,L,Kv,rfl,hv,aq,hkL,hn,hD,hK,kk⟩:=h;refine⟨_,(aj (bc (eS (aO dj (az bX (pv 0) ah (λ_ _=>rfl)) ah (aL _)) (fz (aO fA (az bX (pv 0) ah (λ_ _=>rfl)) ah (aL _)))).pt (ak (ay (pcq (iJ T) hr T.X37 (ae (yJ (aO dj (az bX (pv 0) ah (λ_ _=>rfl)) ah (aL _)) ah ah) af) (by lia)))) aY)
   (aj (bc (yB (GF (nF hr) (pv 0) (pv 1)) rfl) (aj (pSA (i:=2) gq.nd (pcq (iJ T) hr T.X37 (ae ah af) (by lia)))
   (aj (aE AH rfl (bv (pcq (JN T) hr T.X19 (ae (pv 0) af) (by lia))) (cp rfl (aK (pGA (i:=3) gq.nd) (aK (pGA (i:=4) gq.nd) (aK (pGA (i:=5) gq.nd) bV)))) (aj (pSA (i:=6) gq.nd (pcq (lX T) hr T.X35 (ae (pcq (iJ T) hr T.X37 (ae (pv 3) af) (by lia)) (ae (pcq (xV T) hr T.X38 (ae (pv 4) af) (by lia)) af)) (by lia)))
   (ak (pSA (i:=2) gq.nd (pcq (xU T) hr T.X34 (ae (pv 2) (ae (pcq (lX T) hr T.X35 (ae (pv 6) (ae (cP ih hr (by rfl) T.X40.m T.X40.F.kp T.X40.B .nil gN (ae (pv 5) (ae (pv 1) af))) af)) (by lia)) af)) (by lia))))))
   (ak (GG (nF hr) (pv 1) (pv 0) (pv 2) rfl)))) aY)
   (ak (ay (GE (nF hr) (pv 1) (pv 0) (λ_ _=>rfl)))))), ?_⟩
   refine⟨_,rfl,_,0,_,hv,rfl,rfl,λu1 k1=> ?_⟩;rw[aX k1];refine⟨rfl,_,rfl,dE (λh1=> ?br1) (λh1=>⟨_,rfl,_,1,_,hv,rfl,rfl,λu2 k2=> ?_⟩)⟩
   rotate_left 1
   rw[aX k2];refine⟨_,_,rfl,rfl,_,rfl,bG (λhz=> ?br2) (λhz=> ?_)⟩;case br1|br2=>
    have hE:q.d=1\/q.k<0:=by first|exact .inl h1|exact .inr hz
    refine⟨_,rfl,_,1,_,hv,rfl,rfl,λu3 k3=> ?_⟩;rw[aX k3];refine⟨rfl,_,rfl,dE (λh2=> ?_) (λh2=> ?_)⟩
    .refine⟨1,rfl,λv' H' s' Pb=>kk Kv v' H' (But.of_same s') (hD.mono s') (hK.lts (eP hD (But.of_same s'))) ?_⟩;rw[lQ hE,AB h2];exact Pb
    .refine⟨0,rfl,λv' H' s' Pb=>kk Kv v' H' (But.of_same s') (hD.mono s') (hK.lts (eP hD (But.of_same s'))) ?_⟩;rw[lQ hE,A6 h2];exact Pb
   have hz:¬q.k<0:=hz;have h1:¬q.d=1:=h1;have d2:2<=q.d:=by have:=aq.d1;lia
   have hk:=qh hv;refine⟨_,rfl,_,rfl,kn,Kv,kq q,rfl,hD,hk,_,rfl, ?_⟩;cases hin:aP Kv (kq q) with
   |some u=>exact aT ⟨_,rfl,_,rfl,kn,Kv,kq q,u,rfl,hD,hk,hin,kk Kv u H (But.of_same (ag.refl _)) hD hK (hK.2.2 _ _ hin)⟩
   |none=>
    refine bu ?_;refine⟨0,rfl,λv0 H1 s1 hv0=> ?_⟩;rw[wB] at hv0;have hD1:=hD.mono s1;have hK1:=hK.lts (eP hD (But.of_same s1));have LJ:=hv.mono s1;refine⟨_,rfl,v,q,L,rfl,LJ,aq,d2,λl0 H2 s2 nl0 Nx=> ?_⟩;have hS:∀x∈b9 q,AskOk L x.2.2/\muF x.2.2+1<=muF q/\x.2.2.k<=KL L:=λx hx=>⟨(aq.less d2 hx).1,(aq.less d2 hx).2,Int.le_trans (Iy aq d2 hx) hkL⟩;have hW:=wI aq (by lia);have hA:=wM (w5 aq d2 (by lia) hkL).1;generalize b9 q=S at hS hW Nx hA;obtain⟨_,LR,e,hl0',hli'⟩:=aH Nx;cases e;have KQ:H2 l0=some (.lst LR):=bC _ _ hl0';have Nk:Iss H2 (S.map smD) LR:=hli'.mono bC;have NB:LR.length=S.length:=by rw[Nk.length,A1]
    have hD2:=hD1.mono s2;have hK2:=hK1.lts (eP hD1 (But.of_same s2));have l0kn:l0≠kn:=by
     obtain⟨_,_,xs,_,e⟩:=id hD1;rintro rfl;rw[e] at nl0;cases nl0
    refine⟨l0,rfl,⟨_,SqL.of KQ⟩,bM (xs:=LR) (λi σ H3=>(∃vt v3 v4 v5 v6,σ=[some v,some (.ref kn),some vt,v3,v4,v5,v6]/\Is H3 (shD ((S.take i).foldl (λt x=>aW t (cm (sOn x) (sF x.2.2))) zer)) vt)/\But kn H2 H3/\∃MX,DM P w H3 kn MX/\KnE L H3 MX) ⟨⟨v0,none,none,none,none,rfl,hv0.mono s2⟩,But.of_same (ag.refl _),Kv,hD2,hK2⟩ (λi σ H3 _ h=>SqL.of (h.2.1 _ _ KQ l0kn)) ?_ ?_⟩
    .rintro i y σ H3 hi ⟨⟨vt,v3,v4,v5,v6,rfl,Na⟩,MI,PQ,PR,hK3⟩;obtain⟨x,KW,hy⟩:=bA Nk hi;obtain⟨x1,x2,x3⟩:=hS x (AU KW);have c:=hA i x KW;unfold jH at c;simp only[AD] at c;obtain⟨⟨⟨⟨⟨⟨c1,c2⟩,c3⟩,c4⟩,c5⟩,c6⟩,c7⟩:=c;have c1:=eJ c1;have c3:=eJ c3;have c4:=eJ c4;have c5:=eJ c5;have c6:=eJ c6;have c7:=eJ c7;have hx3:Is H3 (smD x) y:=hy.lts (eP hD2 MI);obtain⟨t,tvs,rfl,ht,PU⟩:=bP hx3;obtain⟨u1,us,rfl,Ld,PU⟩:=aR PU;obtain⟨u2,us,rfl,L7,PU⟩:=aR PU;obtain⟨u3,us,rfl,hu3,PU⟩:=aR PU;rw[bQ PU,aX Ld] at ht;refine⟨t,_,rfl,SqT.of ht,rfl,_,_,rfl,_,_,rfl,_,_,rfl,rfl, ?_⟩;refine⟨_,rfl,x.1,rfl,λvn H4 s4 hvn=> ?_⟩;refine⟨_,rfl,u2,x.2.1,rfl,L7.mono s4,c2,λvs H5 s5 OK=> ?_⟩;refine⟨vn,vs,_,_,rfl,hvn.mono s5,OK,c4.1,c3.1,c4.2,λvf H6 s6 hvf=> ?_⟩;have NJ:=(s4.trans s5).trans s6;have b6:But kn H3 H6:=But.of_same NJ;refine⟨_,rfl,_,rfl,_,rfl,_,rfl,u3,kn,x.2.2,L,PQ,rfl,hu3.mono NJ,x1,x3,by lia,PR.mono NJ,hK3.lts (eP PR b6),λkvs7 vw H7 Nw hD7 hK7 hvw=> ?_⟩;have l67:=eP (PR.mono NJ) Nw;refine⟨vf,vw,_,_,rfl,hvf.lts l67,hvw,c5.1,c6.1,c5.2,λvm H8 s8 hvm=> ?_⟩;refine⟨vt,vm,_,_,rfl,((Na.mono NJ).lts l67).mono s8,hvm,c1.1,c7.1,trivial,λva H9 s9 hva=> ?_⟩;have Oh:=s8.trans s9;refine⟨⟨va,_,_,_,_,rfl, ?_⟩,((MI.trans b6).trans Nw).trans (But.of_same Oh),kvs7,hD7.mono Oh,hK7.lts (eP hD7 (But.of_same Oh))⟩;rw[pZ KW];exact hva
    .rintro σ H3 ⟨⟨vt,v3,v4,v5,v6,rfl,Na⟩,MI,PQ,PR,hK3⟩;rw[NB,AQ,<-hW] at Na;have but03:But kn H H3:=(But.of_same (s1.trans s2)).trans MI;have hv3:Is H3 (qD q) v:=(LJ.mono s2).lts (eP hD2 MI);have Po:=hK3.len aq.L5;refine⟨_,rfl,_,rfl,_,rfl,kn,PQ,kq q,rfl,PR,qh hv3,by rw[B3];lia,λH4 hD4 k4=> ?_⟩;have but4:But kn H3 H4:=λc o e n=>by rw[k4 c n];exact e
     have l34:=eP PR but4;have hv4:=hv3.lts l34;exact⟨_,rfl,_,rfl,kn,_,kq q,vt,rfl,hD4,qh hv4,by rw[rR,AB rfl],kk _ vt H4 (but03.trans but4) hD4 ((hK3.lts l34).put aq (by lia) (Na.lts l34)) (Na.lts l34)⟩
theorem jP:FnOk P w K mg base (CX1 P w) 54 T.f41 T.d41 ["d","k","held","free"] (spSX T.c_NoBound T.c_NoEnds):=by
 refine T.X41.F.okx Hc (λvs H Q E h=> ?_) (λKM A outer s H vs Q E hr h hR hp=> ?_)
 .obtain⟨_,_,_,_,rfl,_⟩:=h;rfl
 .obtain⟨v,u,r1,r2,rfl,h⟩:=h;refine⟨_,(ak (ay (pcq (xW T 40) hr T.X40 (ae (cP (JO T) (hr.mono (by decide)) (by rfl) T.X20.m T.X20.F.kp T.X20.B .nil hp (ae (pv 0) (ae (pv 1) (ae (pv 2) (ae (pv 3) af))))) (ae GH af))))), ?_⟩;rcases h with⟨d,k,a,b,rfl,rfl,hw,h1,h2,ra,rb,e,la,lb,kk⟩|h|h
  .have aq:=xT hw ra rb e la lb;refine⟨_,rfl,_,rfl,_,rfl,_,rfl, .int d, .int k,r1,r2,rfl, .inl ⟨d,k,a,b,rfl,rfl,hw,h1,h2,ra,rb,e,la,lb,λu H1 s1 hu=> ?_⟩⟩;intro kn H2 nkn hD k2;have s2:ag H1 H2:=λb o e=>by rw[k2 b (by rintro rfl;rw[nkn] at e;cases e)];exact e
   have nknH:H kn=none:=s1.free nkn;refine⟨u,kn,_,d,[],rfl,hu.mono s2,aq,by unfold Wide at hw;show(k:Int)<=KL d;unfold KL;split<;>lia,by have:=aq.mu;lia,hD,⟨by simp,(λx hx=>nomatch hx),λq v e=>nomatch e⟩,λMX v' H3 MI PR hK3 Pb=>kk v' H3 ?_ Pb⟩
   exact But.same (s1.trans s2) nknH MI
  .exact⟨_,rfl,_,rfl,_,rfl,_,rfl,v,u,r1,r2,rfl, .inr (.inl h)⟩
  .exact⟨_,rfl,_,rfl,_,rfl,_,rfl,v,u,r1,r2,rfl, .inr (.inr h)⟩
def fw (k n:Nat):P' (P' Int):=(List.range n).map λa:Nat=>[((a+1:Nat):Int),(k:Int)]
def fx (i:Nat):P' (P' Int):=(List.range i).flatMap λk=>fw k 4
theorem JY (k n:Nat):fw k (n+1)=fw k n++[[((n+1:Nat):Int),(k:Int)]]:=by unfold fw;rw[Az,A9];rfl
theorem xX (i:Nat):fx (i+1)=fx i++fw i 4:=by unfold fx;rw[Az,Ay];simp
theorem xY (k n:Nat):(fw k n).length=n:=by unfold fw;simp
theorem qB:∀i:Nat,(fx i).length=4*i
 |0=>rfl
 |i+1=>by rw[xX,AC,xY,qB i];lia
def Prs (H:Hp) (l:P5) (xs:P' (P' Int)):Prop:=∃vs,H l=some (.lst vs)/\Iss H (xs.map tI) vs
theorem Prs.add {l t:P5}{xs:P' (P' Int)}{x:P' Int} (g:Prs H l xs) (s:ag H H2) (nt:H t=none) (ht:H2 t=some (.tup (x.map V.int))):∃vs,H2 l=some (.lst vs)/\vs.length=xs.length/\Prs (upd H2 l (.lst (vs++[.ref t]))) l (xs++[x]):=by
 obtain⟨vs,hl,hi⟩:=g;have tl:t≠l:=by rintro rfl;rw[hl] at nt;cases nt
 refine⟨vs,s _ _ hl,by rw[hi.length,A1],_,am, ?_⟩;rw[A9];refine Iss.append ?_ (ax (eV (by rw[au tl];exact ht)) aA);have go:∀{xs:P' (P' Int)}{vs:P' V},Iss H (xs.map tI) vs->Iss (upd H2 l (.lst (vs++[.ref t]))) (xs.map tI) vs->True:=λ_ _=>trivial;have mono:∀{ys:P' (P' Int)}{us:P' V}{H':Hp},(∀b zs,H b=some (.tup zs)->H' b=some (.tup zs))->Iss H (ys.map tI) us->Iss H' (ys.map tI) us:=by
  intro ys;induction ys with
  |nil=>intro us H' _ h;rw[bQ h];exact aA
  |cons y ys ih=>
   intro us H' k h;obtain⟨u,us,rfl,q,r⟩:=aR h;obtain⟨a,rfl,ha⟩:=bY q;exact ax (eV (k _ _ ha)) (ih k r)
 exact mono (λb zs e=>by rw[au (by rintro rfl;rw[hl] at e;cases e)];exact s _ _ e) hi
def fW (n:Nat):P' (P' Int):=(List.range n).map λa:Nat=>[5,(a:Int)]
theorem JZ (n:Nat):fW (n+1)=fW n++[[5,(n:Int)]]:=by unfold fW;rw[Az,A9];rfl
theorem J0 (n:Nat):(fW n).length=n:=by unfold fW;simp
def nT9:P' (Nat×Nat):=((List.range 7).flatMap λk=>[(1,k),(2,k),(3,k),(4,k)])++[(5,0),(5,1),(5,2),(5,3)]
theorem J':fx 7++fW 4=nT9.map λx=>[(x.1:Int),(x.2:Int)]:=by decide
theorem Ka:nT9.length=32:=by decide
theorem Kb:∀x∈nT9,Wide x.1 x.2:=by
 unfold Wide;decide
def Kc:Sp:=λvs H Q _=>vs=[]/\∀l H',ag H H'->H l=none->Is H' (.l ((nT9.map λx=>[(x.1:Int),(x.2:Int)]).map tI)) (.ref l)->Q (.ref l) H'
theorem Kd:OKQ T.X44 P w base 1 Kc:=by
 refine FbO T.X44 jy λ_ _ _ _ H vs Q E hr h=> ?_;obtain⟨rfl,kk⟩:=h;refine⟨_,(aj (pSA (i:=0) jy.nd (av af))
  (aj (aE AH rfl (cH (by rfl) T.n_range (ae ah af)) (pGA (i:=1) jy.nd) (ak (aE AH rfl (gI (by rfl) T.n_range (ae ah (ae ah af))) (pGA (i:=2) jy.nd) (ak (aZ (cu Ab BD BC dB (pv 0) (ae (bK (ae (pv 2) (ae (pv 1) af))) af)))))))
  (aj (aE AH rfl (cH (by rfl) T.n_range (ae ah af)) (pGA (i:=1) jy.nd) (ak (aZ (cu Ab BD BC dB (pv 0) (ae (bK (ae ah (ae (pv 1) af))) af)))))
  (ak (ay (pv 0)))))), ?_⟩
 refine⟨AJ _,λl H5 nlH Pu M'=> ?_⟩;have g0:Prs H5 l (fx 0):=⟨_,M',aA⟩;clear M';refine⟨7,rfl,by decide,by decide,ci (lo:=0) (n:=7) (λi σ H2=>(∃v1 v2,σ=[some (.ref l),v1,v2])/\ag H H2/\Prs H2 l (fx i)) ⟨⟨none,none,rfl⟩,Pu,g0⟩ ?_ ?_⟩
 .rintro i σ H2 hi ⟨⟨v1,v2,rfl⟩,s2,g2⟩;rw[show(0:Int)+(i:Int)=(i:Int) by lia];refine⟨1,_,rfl,⟨by decide,by decide,by decide,by decide⟩, ?_⟩;rw[show((5:Int)-1).toNat=4 from rfl];refine ci (lo:=1) (n:=4) (λj σ H3=>(∃v2,σ=[some (.ref l),some (.int (i:Int)),v2])/\ag H H3/\Prs H3 l (fx i++fw i j)) ⟨⟨_,rfl⟩,s2,by simpa[fw] using g2⟩ ?_ ?_
  .rintro j σ H3 hj ⟨⟨v2,rfl⟩,s3,g3⟩;obtain⟨vs0,Nx,_⟩:=id g3;rw[show(1:Int)+(j:Int)=((j+1:Nat):Int) by lia];refine⟨_,rfl, .inl ⟨rfl,_,SqL.of Nx⟩,_,rfl,_,rfl,(zB rfl),λt H4 nt s4 ht=> ?_⟩;obtain⟨vs,OV,hvl,g4⟩:=g3.add s4 nt (x:=[((j+1:Nat):Int),(i:Int)]) ht;refine⟨l,vs,_,rfl,rfl,OV,aD (by rw[hvl,AC,qB,xY];lia),⟨_,rfl⟩,(s3.trans s4).put nlH, ?_⟩;rw[JY i j,<-B0];exact g4
  .rintro σ H3 ⟨⟨v2,rfl⟩,s3,g3⟩;rw[<-xX] at g3;exact⟨⟨_,_,rfl⟩,s3,g3⟩
 .rintro σ H3 ⟨⟨v1,v2,rfl⟩,s3,g3⟩;refine⟨4,rfl,by decide,by decide,ci (lo:=0) (n:=4) (λi σ H2=>(∃v1,σ=[some (.ref l),v1,v2])/\ag H H2/\Prs H2 l (fx 7++fW i)) ⟨⟨_,rfl⟩,s3,by simpa[fW] using g3⟩ ?_ ?_⟩
  .rintro i σ H2 hi ⟨⟨v1,rfl⟩,s2,g2⟩;rw[show(0:Int)+(i:Int)=(i:Int) by lia];obtain⟨vs0,Nx,_⟩:=id g2;refine⟨_,rfl, .inl ⟨rfl,_,SqL.of Nx⟩,_,rfl,(zB rfl),λt H4 nt s4 ht=> ?_⟩;obtain⟨vs,OV,hvl,g4⟩:=g2.add s4 nt (x:=[5,(i:Int)]) ht;refine⟨l,vs,_,rfl,rfl,OV,aD (by rw[hvl,AC,qB,J0];lia),⟨_,rfl⟩,(s2.trans s4).put nlH, ?_⟩;rw[JZ i,<-B0];exact g4
  .rintro σ H4 ⟨⟨v1,rfl⟩,s4,vs,OV,hi4⟩;rw[J'] at hi4;exact⟨_,rfl,kk l H4 s4 nlH (aI OV hi4)⟩
theorem xZ:∀xs:P' Int,cw (xs.map D.i)<=1
 |[]=>by simp[cw]
 |x::xs=>by
  have:=xZ xs;rw[AW,cw,dep];lia
theorem x6:∀xs:P' Int,cb (xs.map D.i) (xs.map D.i)
 |[]=>by simp[cb]
 |x::xs=>by
  rw[AW];unfold cb;exact⟨by simp[Kin],x6 xs⟩
theorem qC (h:Is H (shD s) v) (k:Is H (shD s) u):EqR K H 3 v u true:=by
 have e:=h.eqr (K:=K) (n:=3) (by have:=xZ s.2;unfold shD;simp only[dep,cw];lia) (by have:=x6 s.2;unfold shD;simp[Kin,cb,this]) k;rw[Ec] at e;exact e
theorem Ke:OKQ T.X45 P w base 1 spLRo:=by
 refine FbO T.X45 gr λ_ _ _ _ H vs Q E hr h=> ?_;obtain⟨d,z,rfl,z0,d1,d5,kk⟩:=h;refine⟨_,(aj (pSA (i:=2) gr.nd (av (ae (ai fI (av (ae ah af)) (pv 0)) (ae (ai fI (av (ae ah af)) (pv 0)) af))))
  (aj (pSA (i:=3) gr.nd (pv 0))
  (aj (jX AH (aO gb (pv 3) ah (aL _)) (aj (pSA (i:=4) gr.nd (ai aB ah (ai dz (pv 1) (pv 3))))
  (aj (pSA (i:=1) gr.nd (ai sj (pv 1) ah))
  (aj (mh (ai aB (az bh (az bh (pv 2) (ai dz (pv 1) ah) (λ_ _=>rfl)) (ai aJ (pv 4) ah) (λ_ _=>rfl)) ah) (yU (az bh (pv 2) (ai dz (pv 1) ah) (λ_ _=>rfl)) (ai aJ (pv 4) ah) iT))
  (aj (pSA (i:=1) gr.nd (ai sj (pv 1) ah))
  (ak (pSA (i:=3) gr.nd (ai aJ (pv 3) (pv 4)))))))))
  (ak (ay (pv 2)))))), ?_⟩
 refine⟨(zB rfl),λa1 H1 n1 s1 h1=>⟨_,rfl, .i 0,d,aI h1 (ax aU aA),rfl,by lia,by lia,AT (aD (by lia)),λl1 H2 nl1 s2 L8=> ?_⟩⟩;refine⟨(zB rfl),λa3 H3 n3 s3 h3=>⟨_,rfl, .i 0,d,aI h3 (ax aU aA),rfl,by lia,by lia,AT (aD (by lia)),λl2 H4 nl2 s4 KQ=> ?_⟩⟩;refine⟨(zB rfl),λt H5 nt s5 ht=> ?_⟩;rw[AV,<-Bw] at L8 KQ;obtain⟨_,e,g1⟩:=cf L8;cases e;obtain⟨_,e,g2⟩:=cf KQ;cases e;have Lz:=s1.trans s2;have Pu:=(Lz.trans s3).trans s4;have l12:l1≠l2:=by rintro rfl;rw[s3 _ _ g1] at nl2;cases nl2
 have g1:=s4 _ _ (s3 _ _ g1);have t1:t≠l1:=by rintro rfl;rw[g1] at nt;cases nt
 have t2:t≠l2:=by rintro rfl;rw[g2] at nt;cases nt
 have n1H:H l1=none:=s1.free nl1;have n2H:H l2=none:=(Lz.trans s3).free nl2;have nn0:∀n:Nat,Nn (List.replicate n 0):=λn i=>by
  rw[A4,Cq];split<;>simp
 have w0:wtF (List.replicate d 0)=0:=by
  have:=pP (n:=d) (t:=[]) (i:=1);rw[DD] at this;exact this
 refine⟨_,rfl, ?_⟩;refine jZ (λσ H5=>∃(hh ff:P' Int) (m z:Int) (v5:Qc V),σ=[some (.int d),some (.int z),some (.ref t),some (.int m),v5]/\ag H H5/\0<=z/\H5 t=some (.lst [.ref l1, .ref l2])/\H5 l1=some (.lst (hh.map V.int))/\H5 l2=some (.lst (ff.map V.int))/\hh.length=d/\ff.length=d/\Nn hh/\Nn ff/\0<=m/\m<=5/\wtF hh+wtF ff+m=d)
  (fun(σ:L2.St) _=>match σ[3]? with|some (some (V.int i))=>i.toNat|_=>0) ⟨_,_,d,z,none,rfl,Pu.trans s5,z0,ht,s5 _ _ g1,s5 _ _ g2,by simp,by simp,nn0 d,nn0 d,by lia,by lia,by rw[w0];lia⟩ ?_ ?_
 .rintro σ H5 ⟨hh,ff,m,z,v5,rfl,sm,z0,ht,h1,h2,hl,fl,hn,fn,m0,m5,hw⟩;refine⟨_,rfl,_,_,rfl,rfl,_,rfl,bG (λLy=> ?_) (λLy=> ?_)⟩
  .have Ly:m>0:=Ly;have md:m<=(d:Int):=by
    have wa:=bJ (i:=1) (by decide) hn;have wb:=bJ (i:=1) (by decide) fn;unfold wtF at hw;lia
   have y0:0<=z%m:=Int.emod_nonneg _ (by lia);have ym:z%m<m:=Int.emod_lt_of_pos _ Ly;refine⟨_,rfl,_,rfl,_,_,rfl,rfl,Ly,_,_,rfl,rfl, ?_⟩;generalize z%m=y at y0 ym;refine⟨_,rfl,_,_,rfl,rfl,⟨by decide,by decide⟩, ?_⟩;have f5:0<=z.fdiv 5:=Int.fdiv_nonneg z0 (by decide);dsimp only;generalize z.fdiv 5=z1 at f5;obtain⟨n,rfl⟩:=Al y0;have en:(1+(n:Int)-1)=(n:Int):=by lia
   have wm:∀{t:P' Int},t.length=d->wtF (wmF t n 1)=wtF t+(1+(n:Int))*1:=λht=>ik (by lia);have f2:0<=z1.fdiv 2:=Int.fdiv_nonneg f5 (by decide);have r2:z1%2=0\/z1%2=1:=by lia
   rcases r2 with e2|e2
   .have at2:atI [V.ref l1,V.ref l2] (z1%2)=some (.ref l1):=by rw[e2];rfl
    refine⟨_,rfl,_,rfl,_,_,rfl,rfl,by decide,t,_,_,_,rfl,rfl,SqL.of ht,at2,_,rfl,_,_,rfl,rfl,l1,_,_,_,rfl,rfl,SqL.of h1,by rw[en];exact cS (by lia),_,_,rfl,rfl,_,rfl,_,rfl,_,_,rfl,rfl,by decide,t,_,_,_,rfl,rfl,SqL.of ht,at2,_,rfl,_,_,rfl,rfl,l1,_,_,n,rfl,rfl,h1,by rw[en];exact gR (by rw[A1];lia), ?_⟩;rw[xC];refine⟨_,rfl,_,_,rfl,rfl,⟨by decide,by decide⟩,_,rfl,_,rfl,_,_,rfl,rfl,⟨wmF hh n 1,ff,_,z1.fdiv 2,_,rfl,sm.put n1H,f2,by rw[au t1];exact ht,am,by rw[au l12.symm];exact h2,by rw[dg];exact hl,fl,im (by lia) hn (by have:=hn n;lia),fn,by lia,by lia,by rw[wm hl];lia⟩, ?_⟩;show(m-(1+(n:Int))).toNat<m.toNat;lia
   .have at2:atI [V.ref l1,V.ref l2] (z1%2)=some (.ref l2):=by rw[e2];rfl
    refine⟨_,rfl,_,rfl,_,_,rfl,rfl,by decide,t,_,_,_,rfl,rfl,SqL.of ht,at2,_,rfl,_,_,rfl,rfl,l2,_,_,_,rfl,rfl,SqL.of h2,by rw[en];exact cS (by lia),_,_,rfl,rfl,_,rfl,_,rfl,_,_,rfl,rfl,by decide,t,_,_,_,rfl,rfl,SqL.of ht,at2,_,rfl,_,_,rfl,rfl,l2,_,_,n,rfl,rfl,h2,by rw[en];exact gR (by rw[A1];lia), ?_⟩;rw[xC];refine⟨_,rfl,_,_,rfl,rfl,⟨by decide,by decide⟩,_,rfl,_,rfl,_,_,rfl,rfl,⟨hh,wmF ff n 1,_,z1.fdiv 2,_,rfl,sm.put n2H,f2,by rw[au t2];exact ht,by rw[au l12];exact h1,am,hl,by rw[dg];exact fl,hn,im (by lia) fn (by have:=fn n;lia),by lia,by lia,by rw[wm fl];lia⟩, ?_⟩;show(m-(1+(n:Int))).toNat<m.toNat;lia
  .have Ly:¬m>0:=Ly;exact⟨_,rfl,kk t l1 l2 hh ff H5 sm ht h1 h2 hl fl hn fn (by lia)⟩
 .rintro σ H Q Q' k ⟨v1,e1,i1,i2,e2,e3,b,e4,h⟩;exact⟨v1,e1,i1,i2,e2,e3,b,e4,k _ _ h⟩
theorem fX:OKQ T.X46 P w base 1 spLTr:=by
 refine FbO T.X46 uV λ_ _ _ _ H vs Q E hr h=> ?_;obtain⟨v,t,rfl,hv,tl,kk⟩:=h;refine⟨_,(aj (pSA (i:=1) uV.nd (iS Eh (by rfl) T.n_list boot_list (ae (pv 0) af)))
  (aj (jX AH (ma (aO gb (aS dA (by rfl) T.n_len D8 (ae (pv 1) af)) ah (aL _)) (l9 (aO dj (az bh (pv 1) (gJ gK ah) (λ_ _=>rfl)) ah (aL _)))).pt (ak (aZ (rK Ab PySem.F.slot_list_pop PySem.F.type_list_pop rN (pv 1)))))
  (ak (ay (pv 1))))), ?_⟩
 refine⟨_,rfl,v,_,rfl, .inl hv,λl H1 nl s1 hl=> ?_⟩;obtain⟨_,e,L8⟩:=cf (t:=t) hl;cases e;refine jZ (λσ H2=>∃cs:P' Int,σ=[some v,some (.ref l)]/\ag H H2/\H2 l=some (.lst (cs.map V.int))/\trF cs=trF t/\cs.length<=5)
  (fun(_:L2.St) H2=>match H2 l with|some (.lst xs)=>xs.length|_=>0) ⟨t,rfl,s1,L8,rfl,tl⟩ ?_ ?_
 .rintro σ H2 ⟨cs,rfl,s2,h2,et,cl⟩;refine⟨_,rfl,l,_,rfl, .inl (SqL.of h2),_,_,rfl,rfl,_,rfl,bG (λhp=> ?_) (λhp=> ?_)⟩
  .have hp:0<cs.length:=by rw[A1] at hp;lia
   obtain⟨c,x,rfl⟩:=pO (t:=cs) (by rintro rfl;cases hp);have bo:atI ((c++[x]).map V.int) (-1)=some (.int x):=by
    unfold atI ixN;rw[A1,AC,A6 (by decide),AB (by simp;lia)];show((c++[x]).map V.int)[((-1:Int)+((c.length+1:Nat):Int)).toNat]? =_;rw[show((-1:Int)+((c.length+1:Nat):Int)).toNat=c.length by lia,AE,Bg (A8 _),DO];rfl
   refine⟨_,rfl,1,rfl,l,_,-1, .int x,rfl,rfl,SqL.of h2,bo,rfl,_,rfl,dE (λhx=> ?_) (λhx=> ?_)⟩
   .have hx:x=0:=hx;subst hx;refine⟨_,rfl, .inl ⟨rfl,_,SqL.of h2⟩,l,_, .int 0,rfl,rfl,h2, ?_,⟨c,rfl,s2.put nl, ?_, ?_, ?_⟩, ?_⟩
    .rw [A1,AC,AE];show((c++[0])[c.length+1-1]?).map _=_;rw[Nat.add_sub_cancel,Bg (A8 _),DO];rfl
    .rw [am,A9];show some (HO.lst ((c.map V.int++[V.int 0]).dropLast))=_;rw[List.dropLast_concat]
    .rw [<-et,lI]
    .rw [AC] at cl;lia
    .show(match upd H2 l _ l with|some (.lst xs)=>xs.length|_=>0)<(match H2 l with|some (.lst xs)=>xs.length|_=>0);rw[am,h2];simp only[A1,AC,List.length_dropLast,AZ,C2];lia
   .have hx:x≠0:=hx;rw[vY hx] at et;rw[<-et] at kk;exact⟨_,rfl,kk l H2 s2 nl (bj h2)⟩
  .have hp:cs=[]:=by
    rw[A1] at hp;exact BQ.mp (by lia)
   subst hp;rw[<-et] at kk;exact aT ⟨_,rfl,kk l H2 s2 nl (bj h2)⟩
 .rintro σ H Q Q' k ⟨v1,e1,p1,ys,e2,e3,i1,i2,e4,e5,b,e6,h⟩;refine⟨v1,e1,p1,ys,e2,e3,i1,i2,e4,e5,b,e6, ?_⟩;cases b with
  |false=>exact k _ _ h
  |true=>
   obtain⟨w1,f1,n1,f2,p2,xs,j,u,g1,g2,g3,g4,g5,b,g6,g⟩:=h;exact⟨w1,f1,n1,f2,p2,xs,j,u,g1,g2,g3,g4,g5,b,g6,k _ _ g⟩
theorem x8:OKQ T.X48 P w base 1 spCho:=by
 refine FbO T.X48 kZ λ_ _ _ _ H vs Q E hr h=> ?_;obtain⟨n,k,rfl,h1,h2,kk⟩:=h;refine⟨_,(aj (pSA (i:=2) kZ.nd ah)
  (aj (aE AH rfl (cH (by rfl) T.n_range (ae (pv 1) af)) (pGA (i:=3) kZ.nd) (ak (pSA (i:=2) kZ.nd (ai mj (ai bt (pv 2) (ai aJ (pv 0) (pv 3))) (ai aB (pv 3) ah)))))
  (ak (ay (pv 2))))), ?_⟩
 refine⟨_,rfl,(k:Int),rfl,by lia,by lia,ci (lo:=0) (n:=(k:Int).toNat) (λi σ H2=>(∃v3,σ=[some (.int n),some (.int k),some (.int (chF n i)),v3])/\H2=H) ⟨⟨none,rfl⟩,rfl⟩ ?_ ?_⟩
 .rintro i σ H2 hi ⟨⟨v3,rfl⟩,rfl⟩;refine⟨_,rfl,_,rfl,_,rfl,_,_,rfl,rfl,_,_,rfl,rfl, .inr ⟨by lia,by lia⟩,_,rfl,_,_,rfl,rfl,_,_,rfl,rfl,⟨by lia,by lia⟩,⟨some (.int (0+(i:Int))), ?_⟩,rfl⟩;rw[show chF n (i+1)=chF n i*(n-(0+(i:Int)))/((0+(i:Int))+1) by rw[Bh];rfl];rfl
 .rintro σ H2 ⟨⟨v3,rfl⟩,rfl⟩;rw[AV];exact⟨_,rfl,kk⟩
theorem x9:OKQ T.X47 P w base 1 spRwL:=by
 refine FbO T.X47 He λ_ _ _ _ H vs Q E hr h=> ?_;obtain⟨v,t,rfl,hv,tl,kk⟩:=h;refine⟨_,(ak (ay (aS (gh rfl) (by rfl) T.n_sum DW (ae (dP (XN:=["_law_row"]) (sc:=ao kY) (N:=["_law_at","_law_row"]) (own:=1) (js:=[0]) rfl (by ac_nf) rfl rfl (cH (by rfl) T.n_range (ae (aS dA (by rfl) T.n_len D8 (ae (pv 0) af)) af)) (λ_ _ _ _=>(cg (i:=0) (show List.Nodup (["_law_at","_law_row"]:P' Str) by ac_nf) rfl (Or.inl rfl) (.inr rfl))) (fG (by decide)) (λ_ _ _ _=>eT) (λ_ _ _ _=>(ai bt (ai aB (pv 0) ah) (az (Dx (K:=K) rfl) (pv 1) (pv 0) (λ_ _=>rfl))))) af)))), ?_⟩;obtain⟨a,rfl,ha⟩:=cf hv;refine⟨_,rfl,a,_,rfl, .inl (SqL.of ha),_,rfl,by rw[A1];lia,by rw[A1];lia,λacc na=> ?_⟩;rw[A1,AV];refine kf (lo:=0) (n:=t.length) (own:=1) (js:=[0]) (λi H2=>ag H H2/\H2 acc=some (.lst (((List.range i).map λj:Nat=>((j:Int)+1)*t.getD j 0).map V.int))) ⟨ag.new na,am⟩ ?_ ?_ fH eU ?_
 .rintro i H2 hi ⟨s2,Ky⟩;rw[Bh];refine⟨_,rfl,_,_,rfl,rfl,_,rfl,_,rfl,a,_,_,_,rfl,rfl,SqL.of (s2 _ _ ha),cS hi,_,_,rfl,rfl, .inl ⟨by lia,by lia⟩,acc,_,_,rfl,rfl,Ky,aD (by rw[A1,A1,B6];lia),s2.put na, ?_⟩;rw[am,qv (x:=t.getD i 0) (by rw[A4,A2 hi];rfl),A9];rfl
 .rintro H2 ⟨s2,Ky⟩;refine⟨acc,_,rfl,SqL.of Ky, ?_⟩;rw[qw];exact kk H2 s2
 .rintro σ H R R' k ⟨v1,e1,i1,i2,e2,e3,v2,e4,v3,e5,p,xs,i,u,g1,g2,g3,g4,i3,i4,e6,e7,c,h⟩;exact⟨v1,e1,i1,i2,e2,e3,v2,e4,v3,e5,p,xs,i,u,g1,g2,g3,g4,i3,i4,e6,e7,c,k _ _ h⟩
theorem iK {t:P' Int}(hl:t.length=n) (h:Nn t) (n5:n<=5):dN (trF t)/\(trF t).length<=n/\br n (trF t)=t/\wtF (trF t)=wtF t:=by
 obtain⟨h1,h2,h3⟩:=vZ hl;have hw:wtF (trF t)=wtF t:=by
  conv=>rhs;rw[<-h2]
  exact pP.symm
 have hn:Nn (trF t):=λi=>by
  by_cases hi:i<(trF t).length
  .have:=h i;rw[<-h2] at this;unfold br at this
   rwa [A4,Cd hi,<-A4] at this
  .rw [A4,CN (by lia)];exact Bf 0
 refine⟨⟨hn,by lia,h3.imp_right λzu76=> ?_⟩,h1,h2,hw⟩;obtain⟨s,x,e,x0⟩:=zu76;refine⟨s,x,e, ?_⟩;rw[e] at hn;have:=(wg hn).2;lia
theorem Kf:OKQ T.X51 P w base 1 spLWi:=by
 refine FbO T.X51 gs λ_ _ _ _ H vs Q E hr h=> ?_;obtain⟨v,t,rfl,hv,tn,ts,tl,kk⟩:=h;refine⟨_,(aj (pSA (i:=1) gs.nd (av (ae (av af) af)))
  (aj (aE AH rfl (bv (pv 0)) (pGA (i:=2) gs.nd) (aj (pSA (i:=3) gs.nd (av af))
  (aj (aE AH rfl (bv (pv 1)) (pGA (i:=4) gs.nd) (ak (aE AH rfl (cH (by rfl) T.n_range (ae (ai aB (pv 2) ah) af)) (pGA (i:=5) gs.nd) (ak (aZ (cu Ab BD BC dB (pv 3) (ae (ai dk (pv 4) (av (ae (pv 5) af))) af)))))))
  (ak (pSA (i:=1) gs.nd (pv 3))))))
  (ak (ay (pv 1))))), ?_⟩
 obtain⟨a,rfl,ha⟩:=cf hv;refine⟨AJ _,λe0 H1 N7 s1 Oj=>⟨(zB rfl),λf0 H2 nf0 s2 hf0=> ?_⟩⟩;have Lz:=s1.trans s2;have NK:H f0=none:=s1.free nf0;refine⟨_,rfl,a,rfl,⟨_,SqL.of (Lz _ _ ha)⟩,bM (xs:=t.map V.int) (λi σ H3=>(∃fo v2 v3 v4 v5,σ=[some (.ref a),some (.ref fo),v2,v3,v4,v5]/\H fo=none/\Is (nw H H3) (.l ((rwF (t.take i)).map rwL)) (.ref fo))/\ag H H3) ⟨⟨f0,none,none,none,none,rfl,NK,aI (by rw[cM NK];exact hf0) (ax (iE N7 (bj (t:=[]) (s2 _ _ Oj))) aA)⟩,Lz⟩ (λi σ H3 _ h=>SqL.of (h.2 _ _ ha)) ?_ ?_⟩
 .rintro i y σ H3 hi ⟨⟨fo,v2,v3,v4,v5,rfl,L9,La⟩,s3⟩;rw[AE] at hi;obtain⟨x,hx,rfl⟩:=AA.mp hi;have il:i<t.length:=(AG.mp hx).1;have x0:0<=x:=by
   have:=tn i;rw[A4,hx] at this;exact this
  have nx:rwF (t.take (i+1))=rwS (rwF (t.take i)) x:=by
   rw[AY,hx];unfold rwF;rw[BP];rfl
  have big:(rwS (rwF (t.take i)) x).length<=32:=by rw[<-nx];exact lF tn ts (i+1)
  have OS:∀b∈rwF (t.take i),b.length<=5:=λb hb=>by
   have:=(io (vO tn i) hb).len;rw[Aa] at this;lia
  rw[nx];generalize rwF (t.take i)=F at La big OS;obtain⟨_,MZ,e,KE,M0⟩:=aH La;cases e;have KE:H3 fo=some (.lst MZ):=bC _ _ KE;have M0:Iss H3 (F.map rwL) MZ:=M0.mono bC;have NE:MZ.length=F.length:=by rw[M0.length,A1]
  refine⟨AJ _,λlo H4 MP s4 My=> ?_⟩;have M1:H lo=none:=s3.free MP;have part:∀j,(rwS (F.take j) x).length<=32:=λj=>by
   rw[pJ] at big⊢;refine As (C7 _ ?_) big;rw[Aa];lia
  refine⟨_,rfl,fo,rfl,⟨_,SqL.of (s4 _ _ KE)⟩,bM (xs:=MZ) (λj σ H5=>(∃v4 v5,σ=[some (.ref a),some (.ref fo),some (.int x),some (.ref lo),v4,v5])/\ag H3 H5/\Acc H3 H5 lo ((rwS (F.take j) x).map rwL)) ⟨⟨_,_,rfl⟩,s4,Acc.start My⟩ (λj σ H5 _ h=>SqL.of (h.2.1 _ _ KE)) ?_ ?_⟩
  .rintro j b σ H5 hj ⟨⟨v4,v5,rfl⟩,s5,Ky⟩;obtain⟨bb,Nd,hb⟩:=bA M0 hj;have NV:rwS (F.take (j+1)) x=rwS (F.take j) x++(List.range (x+1).toNat).map λh:Nat=>bb++[(h:Int)]:=by
    unfold rwS;rw[AY,Nd,Ay];simp
   have pj:=part (j+1);rw[NV] at pj⊢;rw[AC,A1,B6] at pj;generalize rwS (F.take j) x=R at Ky pj;refine⟨_,rfl,_,_,rfl,rfl,_,rfl,by lia,by lia,ci (lo:=0) (n:=(x+1).toNat) (λm σ H6=>(∃v5,σ=[some (.ref a),some (.ref fo),some (.int x),some (.ref lo),some b,v5])/\ag H3 H6/\Acc H3 H6 lo ((R++(List.range m).map λh:Nat=>bb++[(h:Int)]).map rwL)) ⟨⟨_,rfl⟩,s5,by simpa using Ky⟩ ?_ ?_⟩
   .rintro m σ H6 hm ⟨⟨v5,rfl⟩,s6,⟨zs,Lg,hz⟩⟩;rw[Bh];have zl:=hz.length;rw[A1,AC,A1,B6] at zl;refine⟨_,rfl, .inl ⟨rfl,_,SqL.of Lg⟩,_,rfl,_,rfl,(zB rfl),λq H7 nq s7 hq=> ?_⟩;refine⟨bb.map .i,[.i (m:Int)],(hb.mono s6).mono s7,aI hq (ax aU aA),AT (aD (by have:=OS bb (AU Nd);rw[A1];show _+1<=1000;lia)),λp H8 np s8 hp=> ?_⟩;have s68:=s7.trans s8;refine⟨lo,zs,_,rfl,rfl,s68 _ _ Lg,aD (by lia),⟨_,rfl⟩,(s6.trans s68).put MP, ?_⟩;have en:R++(List.range (m+1)).map (λh:Nat=>bb++[(h:Int)])=(R++(List.range m).map λh:Nat=>bb++[(h:Int)])++[bb++[(m:Int)]]:=by
     rw[Az,A9,<-B0];rfl
    rw[en,A9];refine Acc.add s6 s68 Lg hz (iE (s7.free np) ?_);show Is H8 (.l ((bb++[(m:Int)]).map .i)) _;rw[A9];exact hp
   .rintro σ H6 ⟨⟨v5,rfl⟩,s6,Ky⟩;exact⟨⟨_,_,rfl⟩,s6,Ky⟩
  .rintro σ H5 ⟨⟨v4,v5,rfl⟩,s5,Ky⟩;rw[NE,AQ] at Ky;exact⟨_,rfl,⟨lo,_,_,_,_,rfl,M1,(Ky.is MP).mono (jB s3)⟩,s3.trans s5⟩
 .rintro σ H3 ⟨⟨fo,v2,v3,v4,v5,rfl,L9,La⟩,s3⟩;rw[A1,AQ] at La;exact⟨_,rfl,kk fo H3 s3 L9 La⟩
theorem jQ {f:P' Int}{sp:Nat} (h:sp<=5):∀n:Nat,(grG f sp n).length<=6^n/\∀x∈grG f sp n,x.2<=5/\x.1.length=n
 |0=>⟨A8 _,λx hx=>by rw[Aq.mp hx];exact⟨h,rfl⟩⟩
 |n+1=>by
  obtain⟨h1,h2⟩:=jQ (f:=f) h n;have e:grG f sp (n+1)=grS f (grG f sp n) n:=iC;rw[e];have gl:∀X:P' (P' Int×Nat),(∀x∈X,x.2<=5)->(grS f X n).length<=X.length*6:=λX=>by
   induction X with
   |nil=>intro _;exact A8 _
   |cons x X ih=>
    intro hX;unfold grS at ih⊢;rw[BI,AC,A1,B6,AZ];have:=ih λy hy=>hX y (AN _ hy);have:=hX x AS;have:=Nat.div_le_self x.2 (n+1);lia
  refine⟨?_,λx hx=> ?_⟩
  .have:=gl _ λx hx=>(h2 x hx).1;rw[Nat.pow_succ];have:=C7 6 h1;lia
  .obtain⟨y,hy,hx⟩:=B2.mp hx;obtain⟨j,hj,rfl⟩:=At.mp hx;obtain⟨y5,yl⟩:=h2 y hy;exact⟨by show y.2-j*(n+1)<=5;lia,by show(y.1++[_]).length=n+1;rw[AC,yl];rfl⟩
theorem Kg:OKQ T.X50 P w base 2 spLGr:=by
 refine FbO T.X50 fL λ_ _ _ _ H vs Q E hr h=> ?_;obtain⟨v,t,sp,rfl,hv,tl,sp5,kk⟩:=h;refine⟨_,(aj (pSA (i:=2) fL.nd (av (ae (bK (ae (av af) (ae (pv 1) af))) af)))
  (aj (aE AH rfl (cH (by rfl) T.n_range (ae (aS dA (by rfl) T.n_len D8 (ae (pv 0) af)) af)) (pGA (i:=3) fL.nd) (aj (pSA (i:=4) fL.nd (av af))
  (aj (aE AH rfl (bv (pv 2)) (cp rfl (aK (pGA (i:=5) fL.nd) (aK (pGA (i:=6) fL.nd) bV))) (ak (aE AH rfl (cH (by rfl) T.n_range (ae (ai aB (ai mj (pv 6) (ai aB (pv 3) ah)) ah) af)) (pGA (i:=7) fL.nd) (ak (aZ (cu Ab BD BC dB (pv 4) (ae (bK (ae (ai dk (pv 5) (av (ae (ai aB (az bh (pv 0) (pv 3) (λ_ _=>rfl)) (pv 7)) af))) (ae (ai aJ (pv 6) (ai bt (pv 7) (ai aB (pv 3) ah))) af))) af)))))))
  (ak (pSA (i:=2) fL.nd (pv 4))))))
  (ak (ay (dP (XN:=["_law_free","_law_spare","_law_rows_here","_law_at","_law_more","_law_row","_law_left","_law_j"]) (sc:=ao k7) (N:=["_law_row","_law_left"]) (own:=2) (js:=[]) rfl (by ac_nf) rfl rfl (bv (pv 2)) (λ_ _ _ _=>(ku (K:=K) rfl rfl (aK (cg (i:=0) (show List.Nodup (["_law_row","_law_left"]:P' Str) by ac_nf) rfl (Or.inl rfl) (.inr rfl)) (aK (cg (i:=1) (show List.Nodup (["_law_row","_law_left"]:P' Str) by ac_nf) rfl (Or.inl rfl) (.inr rfl)) bV)))) ko (λ_ _ _ _=>(mH (aO dj (pv 1) ah (aL _)))) (λ_ _ _ _=>(pv 0))))))), ?_⟩
 obtain⟨a,rfl,ha⟩:=cf hv;refine⟨AJ _,λe0 H1 N7 s1 Oj=>⟨_,rfl,(zB rfl),λt0 H2 nt0 s2 ht0=>⟨(zB rfl),λf0 H3 nf0 s3 hf0=> ?_⟩⟩⟩;have LQ:=(s1.trans s2).trans s3;have NK:H f0=none:=(s1.trans s2).free nf0;have Pz:Is (nw H H3) (.l ((grG t sp 0).map rlD)) (.ref f0):=aI (by rw[cM NK];exact hf0) (ax (bO (by rw[cM (s1.free nt0)];exact s3 _ _ ht0) (ax (iE N7 (bj (t:=[]) (s3 _ _ (s2 _ _ Oj)))) (ax aU aA))) aA);refine⟨_,rfl,a,_,rfl, .inl (SqL.of (LQ _ _ ha)),_,rfl,by rw[A1];lia,by rw[A1];lia, ?_⟩;rw[A1,AV];refine ci (lo:=0) (n:=t.length) (λi σ H3=>(∃fo v3 v4 v5 v6 v7,σ=[some (.ref a),some (.int sp),some (.ref fo),v3,v4,v5,v6,v7]/\H fo=none/\Is (nw H H3) (.l ((grG t sp i).map rlD)) (.ref fo))/\ag H H3) ⟨⟨f0,none,none,none,none,none,rfl,NK,Pz⟩,LQ⟩ ?_ ?_
 .clear Pz LQ;rintro i σ H3 hi ⟨⟨fo,v3,v4,v5,v6,v7,rfl,L9,La⟩,s3⟩;rw[Bh];have nx:grG t sp (i+1)=grS t (grG t sp i) i:=iC;have big:(grS t (grG t sp i) i).length<=7776:=by
   rw[<-nx];exact As (jQ sp5 (i+1)).1 (show 6^(i+1)<=6^5 from C6 (by decide) (by lia))
  have OS:∀b∈grG t sp i,b.2<=5/\b.1.length<=5:=λb hb=>⟨((jQ sp5 i).2 b hb).1,by rw[((jQ sp5 i).2 b hb).2];lia⟩;rw[nx];generalize grG t sp i=F at La big OS;obtain⟨_,MZ,e,KE,M0⟩:=aH La;cases e;have KE:H3 fo=some (.lst MZ):=bC _ _ KE;have M0:Iss H3 (F.map rlD) MZ:=M0.mono bC;have NE:MZ.length=F.length:=by rw[M0.length,A1]
  refine⟨AJ _,λlo H4 MP s4 My=> ?_⟩;have M1:H lo=none:=s3.free MP;have part:∀j,(grS t (F.take j) i).length<=7776:=λj=>by
   have:(grS t F i).length=(grS t (F.take j) i).length+(grS t (F.drop j) i).length:=by
    conv=>lhs;rw[<-Bn j F]
    unfold grS;rw[Ay,AC]
   lia
  refine⟨_,rfl,fo,rfl,⟨_,SqL.of (s4 _ _ KE)⟩,bM (xs:=MZ) (λj σ H5=>(∃v5 v6 v7,σ=[some (.ref a),some (.int sp),some (.ref fo),some (.int i),some (.ref lo),v5,v6,v7])/\ag H3 H5/\Acc H3 H5 lo ((grS t (F.take j) i).map rlD)) ⟨⟨_,_,_,rfl⟩,s4,Acc.start My⟩ (λj σ H5 _ h=>SqL.of (h.2.1 _ _ KE)) ?_ ?_⟩
  .rintro j b σ H5 hj ⟨⟨v5,v6,v7,rfl⟩,s5,Ky⟩;obtain⟨bb,Nd,hb⟩:=bA M0 hj;obtain⟨tb,ub,rfl,htb,hub⟩:=qi (hb.mono s5);have NV:grS t (F.take (j+1)) i=grS t (F.take j) i++(List.range (bb.2/(i+1)+1)).map λm:Nat=>(bb.1++[t.getD i 0+(m:Int)],bb.2-m*(i+1)):=by
    unfold grS;rw[AY,Nd,Ay];simp
   have pj:=part (j+1);rw[NV] at pj⊢;rw[AC,A1,B6] at pj;generalize grS t (F.take j) i=R at Ky pj;obtain⟨b5,bl⟩:=OS bb (AU Nd);obtain⟨qq,hqq⟩:∃qq:Nat,bb.2/(i+1)=qq:=⟨_,rfl⟩;have q5:qq<=5:=by have:=Nat.div_le_self bb.2 (i+1);lia
   have qm:qq*(i+1)<=bb.2:=by rw[<-hqq];exact Nat.div_mul_le_self _ _
   have eq:(bb.2:Int)/((i:Int)+1)=(qq:Int):=by
    rw[<-hqq,Int.natCast_ediv];rfl
   refine⟨tb,_,rfl,SqT.of htb,rfl,_,_,rfl,_,_,rfl,rfl, ?_⟩;refine⟨_,rfl,_,rfl,_,_,rfl,rfl,_,_,rfl,rfl,⟨by lia,by lia⟩,_,_,rfl,rfl,_,rfl,by rw[eq];lia,by rw[eq];lia, ?_⟩;rw[eq,hqq,show((qq:Int)+1).toNat=qq+1 by lia];rw[hqq] at pj;refine ci (lo:=0) (n:=qq+1) (λm σ H6=>(∃v7,σ=[some (.ref a),some (.int sp),some (.ref fo),some (.int i),some (.ref lo),some ub,some (.int (bb.2:Int)),v7])/\ag H3 H6/\Acc H3 H6 lo ((R++(List.range m).map λm:Nat=>(bb.1++[t.getD i 0+(m:Int)],bb.2-m*(i+1))).map rlD)) ⟨⟨_,rfl⟩,s5,by simpa using Ky⟩ ?_ ?_
   .rintro m σ H6 hm ⟨⟨v7,rfl⟩,s6,⟨zs,Lg,hz⟩⟩;rw[Bh];have zl:=hz.length;rw[A1,AC,A1,B6] at zl;obtain⟨Mi,hdd2,hb2⟩:=M0.of_get hj;rw[AE,Nd] at hdd2;cases hdd2;obtain⟨tb2,ub2,e2,htb2,hub2⟩:=qi hb2;cases e2;obtain rfl:ub2=ub:=by
     have:=s5 _ _ htb2;rw[htb] at this;cases this;rfl
    refine⟨_,rfl, .inl ⟨rfl,_,SqL.of Lg⟩,_,rfl,_,rfl,_,rfl,a,_,_,_,rfl,rfl,SqL.of ((s3.trans s6) _ _ ha),cS hi,_,rfl,_,_,rfl,rfl,(zB rfl),λq H7 nq s7 hq=> ?_⟩;refine⟨bb.1.map .i,[.i (t.getD i 0+(m:Int))],(hub2.mono s6).mono s7,aI hq (ax aU aA),AT (aD (by rw[A1];show _+1<=1000;lia)),λp H8 np s8 hp=> ?_⟩;have mm:m*(i+1)<=bb.2:=As (C7 _ (by lia)) qm;refine⟨_,rfl,_,rfl,_,rfl,_,_,rfl,rfl,_,_,rfl,rfl, .inl ⟨by lia,by lia⟩,_,_,rfl,rfl,(zB rfl),λtt H9 ntt s9 OU=> ?_⟩;have PV:=(s7.trans s8).trans s9;refine⟨lo,zs,_,rfl,rfl,PV _ _ Lg,iD (by lia),⟨_,rfl⟩,(s6.trans PV).put MP, ?_⟩;have en:R++(List.range (m+1)).map (λm:Nat=>(bb.1++[t.getD i 0+(m:Int)],bb.2-m*(i+1)))=(R++(List.range m).map λm:Nat=>(bb.1++[t.getD i 0+(m:Int)],bb.2-m*(i+1)))++[(bb.1++[t.getD i 0+(m:Int)],bb.2-m*(i+1))]:=by
     rw[Az,A9,<-B0];rfl
    rw[en,A9];have ei:(((bb.2-m*(i+1):Nat)):Int)=(bb.2:Int)-(m:Int)*((i:Int)+1):=by
     rw[Int.ofNat_sub mm,Int.natCast_mul];rfl
    have htt':nw H6 H9 tt=some (.tup [.ref p, .int ((bb.2:Int)-(m:Int)*((i:Int)+1))]):=by rw[cM ((s7.trans s8).free ntt)];exact OU
    refine Acc.add s6 PV Lg hz (bO htt' (ax (iE (s7.free np) (Is.mono s9 ?_)) (ax (by rw[show(((bb.1++[t.getD i 0+(m:Int)],bb.2-m*(i+1)):P' Int×Nat).2)=bb.2-m*(i+1) from rfl,ei];exact aU) aA)));show Is H8 (.l ((bb.1++[t.getD i 0+(m:Int)]).map .i)) _;rw[A9];exact hp
   .rintro σ H6 ⟨⟨v7,rfl⟩,s6,Ky⟩;exact⟨⟨_,_,_,rfl⟩,s6,Ky⟩
  .rintro σ H5 ⟨⟨v5,v6,v7,rfl⟩,s5,Ky⟩;rw[NE,AQ] at Ky;exact⟨_,rfl,⟨lo,_,_,_,_,_,rfl,M1,(Ky.is MP).mono (jB s3)⟩,s3.trans s5⟩
 .clear Pz LQ;rintro σ H4 ⟨⟨fo,v3,v4,v5,v6,v7,rfl,L9,La⟩,s4⟩;obtain⟨_,bvs,e,hb4,Ob⟩:=aH La;cases e;have NA:=bC _ _ hb4;have Nz:bvs.length=(grG t sp t.length).length:=by rw[Ob.length,A1]
  have bl:=(jQ (f:=t) sp5 t.length).1;have b6:6^t.length<=6^5:=C6 (by decide) tl;refine⟨_,rfl,fo,rfl,⟨_,SqL.of NA⟩,λacc na=> ?_⟩;refine i7 (xs:=bvs) (own:=2) (js:=[]) (λj H5=>ag H4 H5/\∃vs,H5 acc=some (.lst vs)/\Iss (nw H H4) (((((grG t sp t.length).take j).filter λx=>decide (x.2=0)).map (·.1)).map rwL) vs) ⟨ag.new na,[],am,aA⟩ (λj H5 _ h=>SqL.of (h.1 _ _ NA)) ?_ ?_ kr ?_ ?_
  .rintro j y H5 hj ⟨s5,vs,Ky,hi⟩;obtain⟨x,KW,hy⟩:=bA Ob hj;obtain⟨tx,u,rfl,ht,hu⟩:=qi hy;have vl:vs.length<=7776:=by
    rw[hi.length,A1,A1];refine As (CM _ _) ?_;rw[Aa];lia
   refine⟨tx,_,rfl,SqT.of (s5 _ _ (bC _ _ ht)),rfl,_,_,rfl,_,_,rfl,rfl, ?_⟩;refine⟨_,rfl,rfl,_,rfl,dE (λc=> ?_) (λc=> ?_)⟩
   .have c:x.2=0:=by have:((x.2:Nat):Int)=0:=c;lia
    refine⟨_,rfl,acc,vs,_,rfl,rfl,Ky,iD (by lia),s5.put na,_,am, ?_⟩;rw[AY,KW,Bo];have ef:(Option.toList (some x)).filter (λx=>decide (x.2=0))=[x]:=by simp[c]
    rw[ef,A9,A9];exact hi.append (ax hu aA)
   .have c:¬x.2=0:=λz=>c (by show((x.2:Nat):Int)=0;lia);refine⟨s5,vs,Ky, ?_⟩;rw[AY,KW,Bo];have ef:(Option.toList (some x)).filter (λx=>decide (x.2=0))=[]:=by simp[c]
    rw[ef,B8];exact hi
  .rintro H5 ⟨s5,vs,Ky,hi⟩;rw[Nz,AQ] at hi;refine kk acc H5 (s4.trans s5) (s4.free na) (aI (by rw[cM (s4.free na)];exact Ky) (hi.mono (gx s5)))
  .rintro σ H R R' k' ⟨v1,e1,e2,b,e3,h⟩;exact⟨v1,e1,e2,b,e3,k' _ _ h⟩
  .rintro σ H R R' k' ⟨v1,e1,h⟩;exact⟨v1,e1,k' _ _ h⟩
theorem yb:OKQ T.X49 P w base 1 spLAd:=by
 refine FbO T.X49 dY λ_ _ _ _ H vs Q E hr h=> ?_;obtain⟨t,st,v,n,D,E0,sh,ws,rfl,ht,hv,LO,Os,hE,kk⟩:=h;refine⟨_,(aj (pSA (i:=4) dY.nd mB)
  (aj (aE AH rfl (cH (by rfl) T.n_range (ae (aS dA (by rfl) T.n_len D8 (ae (az bW (pv 1) ah (λ_ _=>rfl)) af)) af)) (pGA (i:=5) dY.nd) (ak (i5 (cQ hr) (pv 4) (ai aB (az bW (pv 1) ah (λ_ _=>rfl)) (pv 5)) (ai bt (pv 3) (az bh (az bW (pv 1) ah (λ_ _=>rfl)) (pv 5) (λ_ _=>rfl))) rfl)))
  (aj (aE AH rfl (bv (pv 2)) (pGA (i:=6) dY.nd) (aj (pSA (i:=7) dY.nd mB)
  (aj (aE AH rfl (nE (pv 4)) (pGA (i:=9) dY.nd) (ak (aE AH rfl (cH (by rfl) T.n_range (ae (pv 6) af)) (pGA (i:=8) dY.nd) (aj (pSA (i:=5) dY.nd (ai aB (ai aJ (ai aB (pv 9) ah) (pv 6)) (ai bt ah (pv 8))))
  (ak (i5 (cQ hr) (pv 7) (pv 5) (ai aB (ka (cQ hr) (pv 7) (pv 5) ah ⟨rfl,rfl,rfl,rfl⟩) (j' (cQ hr) (pv 4) (pv 9) (λ_ _=>rfl))) rfl))))))
  (ak (pSA (i:=4) dY.nd (pv 7))))))
  (ak (aE AH rfl (nE (pv 4)) (pGA (i:=9) dY.nd) (ak (i5 (cQ hr) (pv 0) (pv 9) (ai aB (ka (cQ hr) (pv 0) (pv 9) ah ⟨rfl,rfl,rfl,rfl⟩) (j' (cQ hr) (pv 4) (pv 9) (λ_ _=>rfl))) rfl))))))), ?_⟩
 unfold gH at hE;cases hc:smS sh&&decide (-(2^30)<n)&&decide (n<2^30)&&ws.all (λw=>decide (1<=w)&&decide (w<=10))&&decide (ws.length<=10) with
 |false=>rw[hc] at hE;cases hE
 |true=>
 rw[hc] at hE
 replace hE:((ws.foldl iA (some (dr sh n sh.2.length))).bind λR=>bif iz (fU D R) then some (fU D R) else none)=some E0:=hE
 simp only[AD,Af,Ao] at hc;obtain⟨⟨⟨⟨c1,c2⟩,c3⟩,c4⟩,c5⟩:=hc;obtain⟨⟨m1,m2,m3⟩,m4⟩:=eJ c1;obtain⟨tv,pf,rfl,htv,hpf⟩:=jN hv;obtain⟨R1,hR1,hE⟩:=A7.mp hE;have hle:(fU D R1).length<=300/\fU D R1=E0:=by
  cases hl:iz (fU D R1) with
  |false=>rw[hl] at hE;cases hE
  |true=>
   rw[hl] at hE;exact⟨Ar hl,Ae hE⟩
 obtain⟨hle,rfl⟩:=hle;clear hE;refine λp np=> ?_;have tp:t≠p:=by rintro rfl;rw[ht] at np;cases np
 have pp:pf≠p:=by rintro rfl;rw[hpf] at np;cases np
 have tvp:tv≠p:=by rintro rfl;rw[htv] at np;cases np
 refine⟨_,rfl,tv,_,_,_,rfl,rfl,SqT.of ((ag.new np) _ _ htv),by rfl,pf,_,rfl, .inl (SqL.of ((ag.new np) _ _ hpf)),_,rfl,by rw[A1];lia,by rw[A1];lia, ?_⟩;rw[A1,AV];refine ci (lo:=0) (n:=sh.2.length) (λi σ H2=>(∃v5 v6 v7 v8 v9,σ=[some (.ref t),some (.ref tv),some (.ref st),some (.int n),some (.ref p),v5,v6,v7,v8,v9])/\ag H H2/\H2 p=some (.dK (tK (dr sh n i)))) ⟨⟨none,none,none,none,none,rfl⟩,ag.new np,am⟩ ?_ ?_
 .rintro i σ H2 hi ⟨⟨v5,v6,v7,v8,v9,rfl⟩,s2,N3⟩;rw[Bh];refine⟨_,rfl,_,rfl,tv,_,_,_,rfl,rfl,SqT.of (s2 _ _ htv),by rfl,_,rfl,pf,_,_,_,rfl,rfl,SqL.of (s2 _ _ hpf),cS hi,_,_,rfl,rfl, .inl ⟨by lia,by lia⟩,_,rfl,_,rfl,tv,_,_,_,rfl,rfl,SqT.of (s2 _ _ htv),by rfl,_,rfl,_,_,rfl,rfl,p,_,rfl,dD.k (k:= .inl (sh.1+(i:Int))) N3 ?_, ?_⟩
  .rw [iq];have:=wX sh n i;exact aD (by lia)
  rw[lJ (wY sh n i).1];exact⟨⟨_,_,_,_,_,rfl⟩,s2.put np,by rw[am];exact BF (λx=>some (HO.dK (tK x))) IB.symm⟩
 .rintro σ H2 ⟨⟨v5,v6,v7,v8,v9,rfl⟩,s2,N3⟩;refine⟨_,rfl,st,rfl,⟨_,SqL.of (s2 _ _ LO)⟩,bM (xs:=ws.map V.int) (λi σ H3=>(∃p v5 v6 v7 v8 v9 R,σ=[some (.ref t),some (.ref tv),some (.ref st),some (.int n),some (.ref p),v5,v6,v7,v8,v9]/\H p=none/\(ws.take i).foldl iA (some (dr sh n sh.2.length))=some R/\OkP R/\H3 p=some (.dK (tK R)))/\ag H H3) ⟨⟨p,_,_,_,_,_,_,rfl,np,rfl,wY _ _ _,N3⟩,s2⟩ (λi σ H3 _ h=>SqL.of (h.2 _ _ LO)) ?_ ?_⟩
  .clear N3 s2 np tp pp tvp;rintro i y σ H3 hi ⟨⟨p,v5,v6,v7,v8,v9,R,rfl,np,hR,okR,hp3⟩,s3⟩;rw[AE] at hi;obtain⟨x,hx,rfl⟩:=AA.mp hi;have xb:=c4 x (AU hx);obtain⟨R2,hR2⟩:=jJ (f:=iA) (λ_=>rfl) hR1 (i+1);have e2:iA (some R) x=some R2:=by
    have:=jK (f:=iA) (o:=some (dr sh n sh.2.length)) hx;rw[hR2,hR] at this;exact this.symm
   have e3:(fT R x).length<=300/\fT R x=R2:=by
    have e2:(bif iz (fT R x) then some (fT R x) else none)=some R2:=e2;cases hl:iz (fT R x) with
    |false=>rw[hl] at e2;cases e2
    |true=>rw[hl] at e2;exact⟨Ar hl,Ae e2⟩
   obtain⟨e3,rfl⟩:=e3;clear e2;refine λwd nwd=> ?_;have nwdH:H wd=none:=s3.free nwd;have pw:p≠wd:=by rintro rfl;rw[hp3] at nwd;cases nwd
   refine⟨_,rfl,p,tK R,rfl, .inl (by rw[au pw];exact hp3),λo H4 LX k4=> ?_⟩;have s4:ag H H4:=λb ob e=>by
    rw[k4 b (by rintro rfl;rw[np] at e;cases e)];exact(s3.trans (ag.new nwd)) _ _ e
   have hw4:H4 wd=some (.dK (tK [])):=by rw[k4 wd pw.symm,am];rfl
   refine uF (λj σ H5=>(∃v5 v8 v9,σ=[some (.ref t),some (.ref tv),some (.ref st),some (.int n),some (.ref p),v5,some (.int x),some (.ref wd),v8,v9])/\ag H H5/\H5 p=some (.frz o (.dK (tK R)))/\∃Wq,(R.take j).foldl (λWq y=>du (kI y.1) (bi R y.1) x Wq x.toNat) []=Wq/\OkP Wq/\H5 wd=some (.dK (tK Wq))) ⟨⟨_,_,_,rfl⟩,s4,LX,_,rfl,OkP.nil,hw4⟩ (λj σ H5 _ h=>h.2.2.1) ?_ ?_
   .clear hw4 s4 LX k4;rintro j ky vv σ H5 hj ⟨⟨v5,v8,v9,rfl⟩,s5,LX,Wq,eW,Mk,hw5⟩;obtain⟨y,hy,q,rfl,hq,hkq⟩:=ql okR hj;have nxt:=jK (f:=λWq y=>du (kI y.1) (bi R y.1) x Wq x.toNat) (o:=([]:Pw)) hy;rw[eW,hkq,hq] at nxt;have part:(du q (bi R (.inl q)) x Wq x.toNat).length<=300:=by
     rw[<-nxt];exact As (p9 (λWq y=>Iz _ _ _ Wq _) R [] (j+1)) e3
    refine⟨_,rfl,_,rfl,by lia,by lia, ?_⟩;refine ci (lo:=0) (n:=x.toNat) (λm σ H6=>(∃v5 v8,σ=[some (.ref t),some (.ref tv),some (.ref st),some (.int n),some (.ref p),v5,some (.int x),some (.ref wd),v8,some (.int q)])/\ag H H6/\H6 p=some (.frz o (.dK (tK R)))/\OkP (du q (bi R (.inl q)) x Wq m)/\H6 wd=some (.dK (tK (du q (bi R (.inl q)) x Wq m)))) ⟨⟨_,_,rfl⟩,s5,LX,Mk,hw5⟩ ?_ ?_
    .rintro m σ H6 hm ⟨⟨v5,v8,rfl⟩,s6,LX,okM,hw6⟩;rw[Bh];refine⟨_,rfl,_,_,rfl,rfl,_,rfl,_,_,rfl,rfl,_,rfl,_,_,rfl,rfl, .inl ⟨by decide,by decide⟩,_,_,rfl,rfl, ?_⟩;refine⟨_,rfl,wd,rfl, .inl ⟨_, .inl hw6⟩,_,rfl,_,cW.k (k:= .inl (q+1-x+2*(m:Int))) hw6, ?_⟩;rw[qk];refine⟨_,rfl,_,rfl,p,_,rfl,qo (.inr ⟨o,LX⟩) hy hq,_,_,rfl,rfl,_,rfl,_,rfl,wd,_,rfl,dD.k (k:= .inl (q+1-x+2*(m:Int))) hw6 ?_, ?_⟩
     .rw [iq];have:=IA q (bi R (.inl q)) x Wq (i:=m) (m:=x.toNat) (by lia);exact aD (by lia)
     rw[lJ okM.1];have NV:du q (bi R (.inl q)) x Wq (m+1)=bT (du q (bi R (.inl q)) x Wq m) (.inl (q+1-x+2*(m:Int))) (bi (du q (bi R (.inl q)) x Wq m) (.inl (q+1-x+2*(m:Int)))+bi R (.inl q)):=iC;rw[<-NV];exact⟨⟨_,_,rfl⟩,s6.put nwdH,by rw[au pw];exact LX,by rw[NV];exact okM.set _ _,am⟩
    .rintro σ H6 ⟨⟨v5,v8,rfl⟩,s6,LX,okM,hw6⟩;exact⟨⟨_,_,_,rfl⟩,s6,LX,_,nxt,okM,hw6⟩
   .rintro σ H5 ⟨⟨v5,v8,v9,rfl⟩,s5,LX,Wq,eW,Mk,hw5⟩;rw[iq,AQ] at eW;have eW:fT R x=Wq:=eW;subst eW;exact⟨_,rfl,⟨wd,_,_,_,_,_,_,rfl,nwdH,hR2,Mk,hw5⟩,s5⟩
  .clear N3 s2 np tp pp tvp;rintro σ H3 ⟨⟨p,v5,v6,v7,v8,v9,R,rfl,np,hR,okR,hp3⟩,s3⟩;rw[A1,AQ,hR1] at hR;cases hR;have tp:t≠p:=by rintro rfl;rw[ht] at np;cases np
   refine⟨_,rfl,p,tK R1,rfl, .inl hp3,λo H4 LX k4=> ?_⟩;have ht4:H4 t=some (.dK (tK D)):=by rw[k4 t tp];exact s3 _ _ ht
   have b4:But t H H4:=λb ob e n=>by
    rw[k4 b (by rintro rfl;rw[np] at e;cases e)];exact s3 _ _ e
   refine uF (λj σ H5=>(∃v5 v6 v7 v8 v9,σ=[some (.ref t),some (.ref tv),some (.ref st),some (.int n),some (.ref p),v5,v6,v7,v8,v9])/\But t H H5/\H5 p=some (.frz o (.dK (tK R1)))/\∃Wq,(R1.take j).foldl (λD x=>adS D (kI x.1) (bi R1 x.1)) D=Wq/\OkP Wq/\H5 t=some (.dK (tK Wq))) ⟨⟨_,_,_,_,_,rfl⟩,b4,LX,_,rfl,Os,ht4⟩ (λj σ H5 _ h=>h.2.2.1) ?_ ?_
   .clear ht4 b4 LX k4;rintro j ky vv σ H5 hj ⟨⟨v5,v6,v7,v8,v9,rfl⟩,b5,LX,Wq,eW,Mk,Ot⟩;obtain⟨y,hy,q,rfl,hq,hkq⟩:=ql okR hj;have nxt:=jK (f:=λD (x:Key×Int)=>adS D (kI x.1) (bi R1 x.1)) (o:=D) hy;rw[eW,hkq,hq] at nxt;have part:Wq.length<=300:=by
     rw[<-eW];exact As (p9 (λWq y=>qc Wq _ _) R1 D j) hle
    refine⟨_,rfl,t,rfl, .inl ⟨_, .inl Ot⟩,_,rfl,_,cW.k (k:= .inl q) Ot, ?_⟩;rw[qk];refine⟨_,rfl,_,rfl,p,_,rfl,qo (.inr ⟨o,LX⟩) hy hq,_,_,rfl,rfl,_,rfl,_,rfl,t,_,rfl,dD.k (k:= .inl q) Ot ?_, ?_⟩
    .rw [iq];exact aD (by lia)
    rw[lJ Mk.1];exact⟨⟨_,_,_,_,_,rfl⟩,λb ob e n=>by rw[au n];exact b5 b ob e n,by rw[au tp.symm];exact LX,_,nxt,Mk.set _ _,am⟩
   .rintro σ H5 ⟨⟨v5,v6,v7,v8,v9,rfl⟩,b5,LX,Wq,eW,Mk,Ot⟩;rw[iq,AQ] at eW;have eW:fU D R1=Wq:=eW;subst eW;exact kk H5 b5 Ot Mk
theorem Kh:OKQ T.X52 P w base 55 (spLPt hmP):=by
 refine FbO T.X52 k8 λKM A outer s H vs Q E hr h=> ?_;obtain⟨t,d,k,v1,v2,hh,ff,D,E0,S,rfl,hw,d2,aq,LJ,Mj,ht,Os,hS,hE,kk⟩:=h;refine⟨_,(ak (aE AH rfl (cH (by rfl) T.n_range (ae (pv 1) af)) (pGA (i:=5) k8.nd) (ak (bc (aO gb (az bh (pv 4) (pv 5) (λ_ _=>rfl)) ah (aL _)) (aj (pSA (i:=6) k8.nd (ai dk (ai dk (fE gL (pv 3) fC (fD (pv 5))) (av (ae (ai aB (az bh (pv 3) (pv 5) (λ_ _=>rfl)) ah) af))) (fE gL (pv 3) (fD (ai aB (pv 5) ah)) fC)))
  (aj (pSA (i:=7) k8.nd (ai dk (ai dk (fE gL (pv 4) fC (fD (pv 5))) (av (ae (ai aJ (az bh (pv 4) (pv 5) (λ_ _=>rfl)) ah) af))) (fE gL (pv 4) (fD (ai aB (pv 5) ah)) fC)))
  (ak (aZ (pcq (yb T) hr T.X49 (ae (pv 0) (ae (cP (jP T) (hr.mono (by decide)) (by rfl) T.X41.m T.X41.F.kp T.X41.B .nil kj (ae (pv 1) (ae (pv 2) (ae (pcq (fX T) hr T.X46 (ae (pv 6) af)) (ae (pcq (fX T) hr T.X46 (ae (pv 7) af)) af))))) (ae (av (ae (ai aB (pv 5) ah) af)) (ae ah af))))))))) aY)))), ?_⟩
 obtain⟨ha,rfl,hha⟩:=cf LJ;obtain⟨fa,rfl,Ou⟩:=cf Mj;have hl:hh.length=d:=aq.hl;have fl:ff.length=d:=aq.fl;have d5:=aq.L5;unfold hmP at hE;have hN:∀x,ft S d k hh ff none x=none:=λx=>by unfold ft;split<;>rfl
 have ta:ha≠t:=by rintro rfl;rw[ht] at hha;cases hha
 have tf:fa≠t:=by rintro rfl;rw[ht] at Ou;cases Ou
 refine⟨_,rfl,_,rfl,by lia,by lia, ?_⟩;rw[AV];refine ci (lo:=0) (n:=d) (λi σ H2=>(∃v5 v6 v7,σ=[some (.ref t),some (.int d),some (.int k),some (.ref ha),some (.ref fa),v5,v6,v7])/\But t H H2/\∃Wq,(List.range i).foldl (ft S d k hh ff) (some D)=some Wq/\OkP Wq/\H2 t=some (.dK (tK Wq))) ⟨⟨none,none,none,rfl⟩,But.of_same (ag.refl _),_,rfl,Os,ht⟩ ?_ ?_
 .rintro i σ H2 hi ⟨⟨v5,v6,v7,rfl⟩,b2,Wq,eW,Mk,MF⟩;rw[Bh];have PX:=b2 _ _ hha ta;have Ov:=b2 _ _ Ou tf;obtain⟨W2,PY⟩:=IC hN hE (i:=i+1) (by lia);have e2:ft S d k hh ff (some Wq) i=some W2:=by
   have:=iC (f:=ft S d k hh ff) (o:=some D) (i:=i);rw[PY,eW] at this;exact this.symm
  refine⟨_,rfl,_,rfl,fa,_,_,_,rfl,rfl,SqL.of Ov,cS (by lia),_,_,rfl,rfl,_,rfl,bG (λhg=> ?_) (λhg=> ?_)⟩
  .have hg:ff.getD i 0>0:=hg;unfold ft at e2;rw[AB hg] at e2
   replace e2:((S ⟨d,k,wmF hh i 1,wmF ff i (-1)⟩).bind λs=>gH Wq s [(i:Int)+1] 1)=some W2:=e2
   obtain⟨sv,PZ,e2⟩:=A7.mp e2;have PZ:=hS _ _ PZ;subst PZ;have eh:cC ⟨d,k,hh,ff⟩ i=[(1,[(i:Int)+1],⟨d,k,wmF hh i 1,wmF ff i (-1)⟩)]:=AB hg;obtain⟨a',_⟩:=aq.held (x:=(1,[(i:Int)+1],⟨d,k,wmF hh i 1,wmF ff i (-1)⟩)) (B2.mpr ⟨i,Ag.mpr (by show i<ff.length;lia),by rw[eh];exact AS⟩);have a':AskOk d ⟨d,k,wmF hh i 1,wmF ff i (-1)⟩:=a';have ei:(i:Int)+1=((i+1:Nat):Int):=rfl;have cv:∀{t:P' Int}{m:Int},i<t.length->((t.take i).map L2.D.i++[L2.D.i (t.getD i 0+m)])++(t.drop (i+1)).map L2.D.i=(wmF t i m).map L2.D.i:=fun{t m} h=>by
    rw[<-Jr (m:=m) h,A9,A9];rfl
   refine⟨_,rfl,_,rfl,(i:Int),rfl,ha,_,rfl,SqL.of PX, ?_⟩;rw[qe,<-List.map_take];intro p1 n1;have s1:ag H2 (upd H2 p1 (.lst ((hh.take i).map V.int))):=ag.new n1;have g1:upd H2 p1 (.lst ((hh.take i).map V.int)) p1=some (.lst ((hh.take i).map V.int)):=am;generalize upd H2 p1 (.lst ((hh.take i).map V.int))=H3 at s1 g1⊢;refine⟨_,rfl,_,rfl,ha,_,_,_,rfl,rfl,SqL.of (s1 _ _ PX),cS (by lia),_,_,rfl,rfl,(zB rfl),λp2 H4 n2 s2 h2=> ?_⟩;refine⟨(hh.take i).map .i,[.i (hh.getD i 0+1)],bj (s2 _ _ g1),aI h2 (ax aU aA),AT (aD (by rw[A1,Aa];show _+1<=1000;lia)),λp3 H5 n3 s3 h3=> ?_⟩;have OX:=(s1.trans s2).trans s3;refine⟨_,rfl,_,rfl,_,_,rfl,rfl,_,rfl,ha,_,rfl,SqL.of (OX _ _ PX), ?_⟩;rw[ei,lU (by rw[A1];lia),<-List.map_drop];intro p4 n4;have s4:ag H5 (upd H5 p4 (.lst ((hh.drop (i+1)).map V.int))):=ag.new n4;have g4:upd H5 p4 (.lst ((hh.drop (i+1)).map V.int)) p4=some (.lst ((hh.drop (i+1)).map V.int)):=am;generalize upd H5 p4 (.lst ((hh.drop (i+1)).map V.int))=H6 at s4 g4⊢;refine⟨_,(hh.drop (i+1)).map .i,h3.mono s4,bj g4,AT (aD (by simp only[AC,A1,Aa,CZ,AZ,C2];lia)),λp5 H7 n5 s5 h5=> ?_⟩;rw[cv (t:=hh) (m:=1) (by lia)] at h5;have s27:=(OX.trans s4).trans s5;refine⟨_,rfl,_,rfl,(i:Int),rfl,fa,_,rfl,SqL.of (s27 _ _ Ov), ?_⟩;rw[qe,<-List.map_take];intro q1 m1;have r1:ag H7 (upd H7 q1 (.lst ((ff.take i).map V.int))):=ag.new m1;have k1:upd H7 q1 (.lst ((ff.take i).map V.int)) q1=some (.lst ((ff.take i).map V.int)):=am;generalize upd H7 q1 (.lst ((ff.take i).map V.int))=H8 at r1 k1⊢;have NF:=s27.trans r1;refine⟨_,rfl,_,rfl,fa,_,_,_,rfl,rfl,SqL.of (NF _ _ Ov),cS (by lia),_,_,rfl,rfl,(zB rfl),λq2 H9 m2 r2 k2=> ?_⟩;refine⟨(ff.take i).map .i,[.i (ff.getD i 0+(-1))],bj (r2 _ _ k1),aI k2 (ax aU aA),AT (aD (by rw[A1,Aa];show _+1<=1000;lia)),λq3 HA m3 r3 k3=> ?_⟩;have s2A:=(NF.trans r2).trans r3;refine⟨_,rfl,_,rfl,_,_,rfl,rfl,_,rfl,fa,_,rfl,SqL.of (s2A _ _ Ov), ?_⟩;rw[ei,lU (by rw[A1];lia),<-List.map_drop];intro q4 m4;have r4:ag HA (upd HA q4 (.lst ((ff.drop (i+1)).map V.int))):=ag.new m4;have k4:upd HA q4 (.lst ((ff.drop (i+1)).map V.int)) q4=some (.lst ((ff.drop (i+1)).map V.int)):=am;generalize upd HA q4 (.lst ((ff.drop (i+1)).map V.int))=HB at r4 k4⊢;refine⟨_,(ff.drop (i+1)).map .i,k3.mono r4,bj k4,AT (aD (by simp only[AC,A1,Aa,CZ,AZ,C2];lia)),λq5 HC m5 r5 k5=> ?_⟩;rw[cv (t:=ff) (m:= -1) (by lia)] at k5;have s2C:=(s2A.trans r4).trans r5;have h5:Is HC (rwL (wmF hh i 1)) (.ref p5):=h5.mono ((((r1.trans r2).trans r3).trans r4).trans r5);have w1:(wmF hh i 1).length=d:=a'.hl;have w2:(wmF ff i (-1)).length=d:=a'.fl;obtain⟨x1,x2,x3,x4⟩:=iK w1 a'.hn d5;obtain⟨y1,y2,y3,y4⟩:=iK w2 a'.fn d5;refine⟨_,rfl,_,rfl,_,rfl,_,rfl, .ref p5,_,rfl,h5,by lia,λt1 HD sD nt1 ht1=> ?_⟩;refine⟨_,rfl, .ref q5,_,rfl,Is.mono sD k5,by lia,λt2 HE sE nt2 hx2=> ?_⟩;refine⟨.int d, .int k, .ref t1, .ref t2,rfl, .inl ⟨d,k,_,_,rfl,rfl,hw,ht1.mono sE,hx2,x1,y1,by rw[x4,y4];exact a'.wt,x2,y2,λvv HF sF' OY=> ?_⟩⟩;rw[x3,y3] at OY;refine⟨_,rfl,_,_,rfl,rfl,(zB rfl),λsa HG nG sG hG=> ?_⟩;have s2G:=(((s2C.trans sD).trans sE).trans sF').trans sG;refine⟨t,sa,vv,1,Wq,W2,_,[(i:Int)+1],rfl,s2G _ _ MF,OY.mono sG,hG,Mk,e2,λH' b' Mh ok'=> ?_⟩;exact⟨⟨_,_,_,rfl⟩,λc o e n=>b' c o (s2G _ _ (b2 c o e n)) n,W2,PY,ok',Mh⟩
  .have hg:¬ff.getD i 0>0:=hg;unfold ft at e2;rw[A6 hg] at e2;cases e2;exact⟨⟨_,_,_,rfl⟩,b2,Wq,PY,Mk,MF⟩
 .rintro σ H2 ⟨⟨v5,v6,v7,rfl⟩,b2,Wq,eW,Mk,MF⟩;rw[hE] at eW;cases eW;exact kk H2 b2 MF Mk
theorem yc {a:P' Int} (h:Le a b) (hs:b.sum<=5) (hi:i<a.length):0<=a.getD i 0/\a.getD i 0<=b.getD i 0/\b.getD i 0<=5/\0<=chF (b.getD i 0) (a.getD i 0).toNat/\chF (b.getD i 0) (a.getD i 0).toNat<=32:=by
 have ll:=h.len;have e1:a[i]? =some (a.getD i 0):=by rw[A4,A2 hi];rfl
 have e2:b[i]? =some (b.getD i 0):=by rw[A4,A2 (by lia)];rfl
 obtain⟨y0,yx⟩:=qx h e2 e1;have x5:=qy (Le.nn h).2 e2;obtain⟨c0,c1⟩:=pM y0 yx (by lia);have c2:(2:Int)^(b.getD i 0).toNat<=2^5:=by
  have:(b.getD i 0).toNat=0\/(b.getD i 0).toNat=1\/(b.getD i 0).toNat=2\/(b.getD i 0).toNat=3\/(b.getD i 0).toNat=4\/(b.getD i 0).toNat=5:=by lia
  rcases this with e|e|e|e|e|e<;>rw[e]<;>decide
 have d5:(2:Int)^5=32:=by decide
 exact⟨y0,yx,by lia,c0,by lia⟩
theorem Ki {k:Int}(a:AskOk (d+1) ⟨(d:Int),k,kp,fr⟩):∃s u,kp=s++[0]/\fr=u++[0]/\AskOk d ⟨(d:Int),k,s,u⟩/\cF ⟨(d:Int),k,kp,fr⟩=cF ⟨(d:Int),k,s,u⟩:=by
 have w1:0<=wtG 1 kp:=bJ (i:=1) (by decide) a.hn;have w2:0<=wtG 1 fr:=bJ (i:=1) (by decide) a.fn;have L5:=a.L5;have w:wtF kp+wtF fr=(d:Int):=a.wt;obtain⟨s,e1,s1,s2,s3⟩:=wj (t:=kp) a.hl a.hn (by unfold wtF at*;lia);obtain⟨u,e2,u1,u2,u3⟩:=wj (t:=fr) a.fl a.fn (by unfold wtF at*;lia);have b:AskOk d ⟨(d:Int),k,s,u⟩:=⟨s1,u1,s2,u2,by show wtF s+wtF u=(d:Int);rw[s3,u3];exact w,a.d1,Bf _,by lia,a.k6⟩;refine⟨s,u,e1,e2,b, ?_⟩;rw[e1,e2];exact vX b
def Kj {f a:P' Int}:iB h f a b (m+1)=iB h f a b m*chF (h.getD m 0) (a.getD m 0).toNat*chF (b.getD m 0) (f.getD m 0).toNat:=iC
theorem yd {f:P' Int}:eK f b (m+1)=eK f b m++List.replicate (b.getD m 0-f.getD m 0).toNat ((m:Int)+1):=by
 unfold eK;rw[Az,Ay];simp
theorem Kk:OKQ T.X53 P w base 55 (spLPt flP):=by
 refine FbO T.X53 dZ λKM A outer s H vs Q E hr h=> ?_;obtain⟨t,d,k,v1,v2,hh,ff,D,E0,S,rfl,hw,d2,aq,LJ,Mj,ht,Os,hS,hE,kk⟩:=h;refine⟨_,(ak (aE AH rfl (bv (pcq (Kf T) hr T.X51 (ae (pv 3) af))) (pGA (i:=5) dZ.nd) (aj (pSA (i:=6) dZ.nd (ai aJ (ai aJ (ai aJ (pv 1) ah) (pcq (x9 T) hr T.X47 (ae (pv 5) af))) (pcq (x9 T) hr T.X47 (ae (pv 4) af))))
  (aj (bc (aO fA (pv 6) ah (aL _)) (ak yO) aY)
  (ak (aE AH rfl (bv (pcq (Kg T) hr T.X50 (ae (pv 4) (ae (pv 6) af)))) (pGA (i:=7) dZ.nd) (aj (pSA (i:=8) dZ.nd (ai aB (ai aJ (ai aJ (ai aB (pv 2) (aS (gh rfl) (by rfl) T.n_sum DW (ae (pv 7) af))) (aS (gh rfl) (by rfl) T.n_sum DW (ae (pv 4) af))) (pv 1)) ah))
  (ak (bc (aO j5 (pv 8) ah (aL _)) (aj (pSA (i:=9) dZ.nd ah)
  (aj (pSA (i:=10) dZ.nd (av af))
  (aj (aE AH rfl (cH (by rfl) T.n_range (ae (pv 1) af)) (pGA (i:=11) dZ.nd) (aj (pSA (i:=9) dZ.nd (ai bt (ai bt (pv 9) (pcq (x8 T) hr T.X48 (ae (az bh (pv 3) (pv 11) (λ_ _=>rfl)) (ae (az bh (pv 5) (pv 11) (λ_ _=>rfl)) af)))) (pcq (x8 T) hr T.X48 (ae (az bh (pv 7) (pv 11) (λ_ _=>rfl)) (ae (az bh (pv 4) (pv 11) (λ_ _=>rfl)) af)))))
  (ak (pSA (i:=10) dZ.nd (ai dk (pv 10) (ai fI (av (ae (ai aB (pv 11) ah) af)) (ai aJ (az bh (pv 7) (pv 11) (λ_ _=>rfl)) (az bh (pv 4) (pv 11) (λ_ _=>rfl)))))))))
  (ak (aZ (pcq (yb T) hr T.X49 (ae (pv 0) (ae (cP (jP T) (hr.mono (by decide)) (by rfl) T.X41.m T.X41.F.kp T.X41.B .nil kj (ae (ai aJ (pv 1) ah) (ae (pv 8) (ae (pcq (fX T) hr T.X46 (ae (pv 5) af)) (ae (pcq (fX T) hr T.X46 (ae (pv 7) af)) af))))) (ae (pv 10) (ae (pv 9) af)))))))))) aY))))))))), ?_⟩
 have hl:hh.length=d:=aq.hl;have fl:ff.length=d:=aq.fl;have d5:=aq.L5;have sm:=aq.sums;have wq:wtF hh+wtF ff=(d:Int):=aq.wt;have wf:0<=wtG 1 ff:=bJ (i:=1) (by decide) aq.fn;have wh0:0<=wtG 1 hh:=bJ (i:=1) (by decide) aq.hn;unfold flP at hE;have bN:∀{kp x},dw S d k hh ff kp none x=none:=fun{kp x}=>by unfold dw;split<;>rfl
 have hN:∀x,dM S d k hh ff none x=none:=λx=>by
  unfold dM;split
  .rfl
  .have:∀l:P' (P' Int),l.foldl (dw S d k hh ff x) none=none:=λl=>by
    induction l with
    |nil=>rfl
    |cons y l ih=>rw[Bj,bN,ih]
   exact this _
 refine⟨_,rfl,v1,hh,rfl,LJ,aq.hn,sm.2.1,by lia,λkl H1 s1 nkl hkl=> ?_⟩;obtain⟨_,Kv,e,M3,PK⟩:=aH hkl;cases e;have M3:H1 kl=some (.lst Kv):=bC _ _ M3;have PK:Iss H1 ((rwF hh).map rwL) Kv:=PK.mono bC;have PL:Kv.length=(rwF hh).length:=by rw[PK.length,A1]
 have ht1:=s1 _ _ ht;have tk:kl≠t:=by rintro rfl;rw[ht1] at M3;cases M3
 refine⟨kl,rfl,⟨_,SqL.of M3⟩,bM (xs:=Kv) (λi σ H2=>(∃v5 v6 v7 v8 v9 P0 NL,σ=[some (.ref t),some (.int d),some (.int k),some v1,some v2,v5,v6,v7,v8,v9,P0,NL])/\But t H1 H2/\∃Wq,((rwF hh).take i).foldl (dM S d k hh ff) (some D)=some Wq/\OkP Wq/\H2 t=some (.dK (tK Wq))) ⟨⟨none,none,none,none,none,none,none,rfl⟩,But.of_same (ag.refl _),_,rfl,Os,ht1⟩ (λi σ H2 _ h=>SqL.of (h.2.1 _ _ M3 tk)) ?_ ?_⟩
 .rintro i y σ H2 hi ⟨⟨v5,v6,v7,v8,v9,P0,NL,rfl⟩,b2,Wq,eW,Mk,MF⟩;obtain⟨kp,hkp,hy⟩:=bA PK hi;have MV:=AU hkp;have lk:Le kp hh:=io aq.hn MV;have lkl:kp.length=d:=lk.len.trans hl;have wk0:=bJ (i:=1) (by decide) (Le.nn lk).1;have l12:=qj ht1 b2;have hy2:=hy.lts l12;have hv1':=(LJ.mono s1).lts l12;have P1:=(Mj.mono s1).lts l12;obtain⟨W2,PY⟩:=jJ hN hE (i+1);have e2:dM S d k hh ff (some Wq) kp=some W2:=by
   have:=jK (f:=dM S d k hh ff) (o:=some D) hkp;rw[PY,eW] at this;exact this.symm
  refine⟨_,rfl,_,_,rfl,rfl,_,rfl,y,kp,rfl,hy2,by lia,λH3 s3=>⟨_,_,rfl,rfl,_,rfl,v2,ff,rfl,P1.mono s3,by lia,λH4 s4=>⟨_,_,rfl,rfl, ?_⟩⟩⟩;have ON:=s3.trans s4;refine⟨_,rfl,_,_,rfl,rfl,_,rfl,bG (λhs=> ?_) (λhs=> ?_)⟩
  .have hs:(d:Int)-1-wtF kp-wtF ff<0:=hs;unfold dM at e2;rw[AB hs] at e2;cases e2;exact⟨⟨_,_,_,_,_,_,_,rfl⟩,λc o e n=>ON _ _ (b2 c o e n),Wq,PY,Mk,ON _ _ MF⟩
  .have hs:¬(d:Int)-1-wtF kp-wtF ff<0:=hs;unfold dM at e2;rw[A6 hs] at e2;generalize MT:((d:Int)-1-wtF kp-wtF ff).toNat=sp at e2;refine⟨_,rfl,_,rfl,v2,ff,sp, ?_,P1.mono ON,by lia,by unfold wtF at*;lia,λal H5 s5 nal hal=> ?_⟩
   .show [v2,V.int ((d:Int)-1-wtF kp-wtF ff)]=[v2,V.int (sp:Int)];rw[show((d:Int)-1-wtF kp-wtF ff)=(sp:Int) by lia]
   obtain⟨_,avs,e,M4,OJ⟩:=aH hal;cases e;have M4:H5 al=some (.lst avs):=bC _ _ M4;have OJ:Iss H5 ((grF ff sp).map rwL) avs:=OJ.mono bC;have alen:avs.length=(grF ff sp).length:=by rw[OJ.length,A1]
   generalize grF ff sp=O at OJ alen e2;have OX:=ON.trans s5;have Ot:=OX _ _ MF;have tl:al≠t:=by rintro rfl;rw[Ot] at M4;cases M4
   refine⟨al,rfl,⟨_,SqL.of M4⟩,bM (xs:=avs) (λj σ H6=>(∃v7 v8 v9 P0 NL,σ=[some (.ref t),some (.int d),some (.int k),some v1,some v2,some y,some (.int ((d:Int)-1-wtF kp-wtF ff)),v7,v8,v9,P0,NL])/\But t H5 H6/\∃W',(O.take j).foldl (dw S d k hh ff kp) (some Wq)=some W'/\OkP W'/\H6 t=some (.dK (tK W'))) ⟨⟨_,_,_,_,_,rfl⟩,But.of_same (ag.refl _),_,rfl,Mk,Ot⟩ (λj σ H6 _ h=>SqL.of (h.2.1 _ _ M4 tl)) ?_ ?_⟩
   .rintro j b σ H6 hj ⟨⟨v7,v8,v9,P0,NL,rfl⟩,b6,W3,eW3,Ow,ht6⟩;obtain⟨fr,PN,hb⟩:=bA OJ hj;have l56:=qj Ot b6;have hb6:=hb.lts l56;have hy6:=(hy2.mono OX).lts l56;have hv16:=(hv1'.mono OX).lts l56;have hv26:=(P1.mono OX).lts l56;obtain⟨ba,rfl,hba⟩:=cf hb6;obtain⟨fa,rfl,Ou⟩:=cf hv26;obtain⟨ha,rfl,hha⟩:=cf hv16;obtain⟨ya,rfl,M8⟩:=cf hy6;obtain⟨W4,eW4⟩:=jJ (λ_=>bN) e2 (j+1);have e3:dw S d k hh ff kp (some W3) fr=some W4:=by
     have:=jK (f:=dw S d k hh ff kp) (o:=some Wq) PN;rw[eW4,eW3] at this;exact this.symm
    refine⟨_,rfl,_,rfl,ba,fr,rfl,SqL.of hba,_,_,rfl,rfl,_,rfl,fa,ff,rfl,SqL.of Ou,_,_,rfl,rfl,_,rfl,_,_,rfl,rfl,_,_,rfl,rfl, ?_⟩;refine⟨_,rfl,_,_,rfl,rfl,_,rfl,bG (λhg=> ?_) (λhg=> ?_)⟩
    .have hg:(k:Int)+fr.sum-ff.sum-(d:Int)+1>=0:=hg;unfold dw at e3;rw[AB hg] at e3
     replace e3:(bif lS d k ff kp fr then(S ⟨(d:Int)-1,(k:Int)+fr.sum-ff.sum-d+1,kp,fr⟩).bind λs=>gH W3 s (eK ff fr d) (iB hh ff kp fr d) else none)=some W4:=e3
     cases ho:lS d k ff kp fr with
     |false=>rw[ho] at e3;cases e3
     |true=>
     rw[ho] at e3
     replace e3:((S ⟨(d:Int)-1,(k:Int)+fr.sum-ff.sum-d+1,kp,fr⟩).bind λs=>gH W3 s (eK ff fr d) (iB hh ff kp fr d))=some W4:=e3
     unfold lS at ho;simp only[AD,Af] at ho;obtain⟨⟨o1,o2⟩,o3⟩:=ho;have f4:=wZ o1;have frl:fr.length=d:=by rw[<-f4.len,fl]
     obtain⟨sv,PZ,e3⟩:=A7.mp e3;have PZ:=hS _ _ PZ;subst PZ;have f1:AskOk d ⟨(d:Int)-1,(k:Int)+fr.sum-ff.sum-d+1,kp,fr⟩:=⟨lkl,frl,(Le.nn lk).1,(Le.nn f4).2,o2,by show(1:Int)<=(d:Int)-1;lia,by show(d:Int)-1<=(d:Int);lia,d5,o3⟩;have f5:fr.sum<=5:=f1.sums.2.2.2;refine⟨AJ _,λsl H7 n7 s7 h7=>⟨_,rfl,_,rfl,by lia,by lia, ?_⟩⟩;rw[AV];refine ci (lo:=0) (n:=d) (λm σ H8=>∃sl NL,σ=[some (.ref t),some (.int d),some (.int k),some (.ref ha),some (.ref fa),some (.ref ya),some (.int ((d:Int)-1-wtF kp-wtF ff)),some (.ref ba),some (.int ((k:Int)+fr.sum-ff.sum-(d:Int)+1)),some (.int (iB hh ff kp fr m)),some (.ref sl),NL]/\ag H6 H8/\H8 sl=some (.lst ((eK ff fr m).map V.int))/\(eK ff fr m).length<=5*m) ⟨sl,_,rfl,s7,h7,A8 _⟩ ?_ ?_
     .rintro m σ H8 hm ⟨sl,NL,rfl,s8,h8,l8⟩;rw[Bh];obtain⟨x0,x1,x2,x3,x4⟩:=yc lk sm.2.1 (i:=m) (by lia);obtain⟨y0,y1,y2,y3,y4⟩:=yc f4 f5 (i:=m) (by lia);refine⟨_,rfl,_,rfl,_,rfl,ha,_,_,_,rfl,rfl,SqL.of (s8 _ _ hha),cS (by lia),_,rfl,_,rfl,ya,_,_,_,rfl,rfl,SqL.of (s8 _ _ M8),cS (by lia),hh.getD m 0,(kp.getD m 0).toNat, ?_,by lia,by lia, ?_⟩
      .rw [show(((kp.getD m 0).toNat:Nat):Int)=kp.getD m 0 by lia];rfl
      refine⟨_,_,rfl,rfl, .inr ⟨by lia,by lia⟩,_,rfl,_,rfl,ba,_,_,_,rfl,rfl,SqL.of (s8 _ _ hba),cS (by lia),_,rfl,_,rfl,fa,_,_,_,rfl,rfl,SqL.of (s8 _ _ Ou),cS (by lia),fr.getD m 0,(ff.getD m 0).toNat, ?_,by lia,by lia, ?_⟩
      .rw [show(((ff.getD m 0).toNat:Nat):Int)=ff.getD m 0 by lia];rfl
      refine⟨_,_,rfl,rfl, .inr ⟨by lia,by lia⟩, ?_⟩;refine⟨_,rfl,_,rfl,_,_,rfl,rfl,(zB rfl),λq1 H9 n9 s9 h9=> ?_⟩;have PV:=s8.trans s9;refine⟨_,rfl,_,rfl,ba,_,_,_,rfl,rfl,SqL.of (PV _ _ hba),cS (by lia),_,rfl,_,rfl,fa,_,_,_,rfl,rfl,SqL.of (PV _ _ Ou),cS (by lia),_,_,rfl,rfl, .i ((m:Int)+1),fr.getD m 0-ff.getD m 0,aI h9 (ax aU aA),rfl,by lia,by lia,AT (aD (by lia)),λq2 HA nA sA hA=> ?_⟩;rw[<-Bw] at hA;refine⟨(eK ff fr m).map .i,(List.replicate (fr.getD m 0-ff.getD m 0).toNat ((m:Int)+1)).map .i,bj (sA _ _ (s9 _ _ h8)),hA,AT (aD (by rw[A1,A1,Ad];lia)),λq3 HB nB sB hB=> ?_⟩;rw[<-A9,<-yd] at hB;obtain⟨_,e,hB⟩:=cf (t:=eK ff fr (m+1)) hB;cases e;rw[Kj];exact⟨q3,_,rfl,(PV.trans sA).trans sB,hB,by rw[yd,AC,Ad];lia⟩
     .rintro σ H8 ⟨sl,NL,rfl,s8,h8,l8⟩;obtain⟨n,rfl⟩:∃n,d=n+1:=⟨d-1,by lia⟩;obtain⟨m,hm⟩:=Al hg;have ed:((n+1:Nat):Int)-1=(n:Int):=by lia
      have hvw:sF ⟨((n+1:Nat):Int)-1,(k:Int)+fr.sum-ff.sum-((n+1:Nat):Int)+1,kp,fr⟩=sF ⟨(n:Int),(m:Int),kp,fr⟩:=by rw[hm,ed]
      rw[hvw] at e3;rw[hm,ed] at f1;obtain⟨su,uu,e1,e2',b1,_⟩:=Ki f1;have n5:n<=5:=by lia
      have k6:(m:Int)<=(k:Int):=by
       have g1:=f4.gain (i:=1) (by decide);have g2:wtF kp+wtF fr=((n+1:Nat):Int)-1:=o2;unfold wtF at g2 wk0;lia
      have hwn:Wide n m:=by unfold Wide at hw⊢;lia
      obtain⟨r1,r2,r3,r4⟩:=iK b1.hl b1.hn n5;obtain⟨q1,q2,q3,q4⟩:=iK b1.fl b1.fn n5;have t1:trF kp=trF su:=by rw[e1,lI]
      have t2:trF fr=trF uu:=by rw[e2',lI]
      have es:sF ⟨(n:Int),(m:Int),kp,fr⟩=sF ⟨(n:Int),(m:Int),su,uu⟩:=by rw[e1,e2'];exact IS b1
      rw[es] at e3;refine⟨_,rfl,_,rfl,_,_,rfl,rfl,_,rfl,_,rfl, .ref ya,kp,rfl,bj (s8 _ _ M8),by lia,λl7 H9 s9 n9 h9=> ?_⟩;refine⟨_,rfl, .ref ba,fr,rfl,bj (s9 _ _ (s8 _ _ hba)),by lia,λl8 HA sA nA hA=> ?_⟩;rw[t1] at h9;rw[t2] at hA;refine⟨_,_, .ref l7, .ref l8,rfl, .inl ⟨n,m,_,_,BF V.int ed,BF V.int hm,hwn,h9.mono sA,hA,r1,q1,by rw[r4,q4];exact b1.wt,r2,q2,λvv HB sB OY=> ?_⟩⟩;have r3:br n (trF su)=su:=r3;have q3:br n (trF uu)=uu:=q3;rw[r3,q3] at OY;have s6B:=((s8.trans s9).trans sA).trans sB;have s8B:=(s9.trans sA).trans sB;refine⟨_,rfl,_,rfl,t,sl,vv,_,W3,W4,_,_,rfl,s6B _ _ ht6,OY,s8B _ _ h8,Ow,e3,λH' b' Mh ok'=> ?_⟩;exact⟨⟨_,_,_,_,_,rfl⟩,λc o e n=>b' c o (s6B _ _ (b6 c o e n)) n,W4,eW4,ok',Mh⟩
    .have hg:¬(k:Int)+fr.sum-ff.sum-(d:Int)+1>=0:=hg;unfold dw at e3;rw[A6 hg] at e3;cases e3;exact⟨⟨_,_,_,_,_,rfl⟩,b6,W3,eW4,Ow,ht6⟩
   .rintro σ H6 ⟨⟨v7,v8,v9,P0,NL,rfl⟩,b6,W3,eW3,Ow,ht6⟩;rw[alen,AQ,e2] at eW3;cases eW3;exact⟨⟨_,_,_,_,_,_,_,rfl⟩,λc o e n=>b6 c o (OX _ _ (b2 c o e n)) n,_,PY,Ow,ht6⟩
 .rintro σ H2 ⟨⟨v5,v6,v7,v8,v9,P0,NL,rfl⟩,b2,Wq,eW,Mk,MF⟩;rw[PL,AQ,hE] at eW;cases eW;exact kk H2 (λc o e n=>b2 c o (s1 _ _ e) n) MF Mk
theorem Kl:OKQ T.X54 P w base 56 spLDu:=by
 refine FbO T.X54 uW λ_ _ _ _ H vs Q E hr h=> ?_;obtain⟨d,k,v1,v2,hh,ff,D,rfl,hw,aq,LJ,Mj,hD,kk⟩:=h;refine⟨_,(aj (pSA (i:=4) uW.nd mB)
  (aj (bc (aO dj (pv 0) ah (aL _)) (aj (bc (aO dj (pv 1) ah (aL _)) (ak (i5 (cQ hr) (pv 4) ah ah rfl)) aY)
  (ak (ay (pv 4)))) aY)
  (aj (aZ (pcq (Kh T) hr T.X52 (ae (pv 4) (ae (pv 0) (ae (pv 1) (ae (pv 2) (ae (pv 3) af)))))))
  (aj (aZ (pcq (Kk T) hr T.X53 (ae (pv 4) (ae (pv 0) (ae (pv 1) (ae (pv 2) (ae (pv 3) af)))))))
  (ak (ay (pv 4))))))), ?_⟩
 refine λl nl=>⟨_,rfl,rfl,_,rfl,dE (λe=> ?_) (λe=> ?_)⟩
 .have e:d=1:=by have:(d:Int)=1:=e;lia
  obtain⟨_,rfl⟩:d=1/\D=dE1 k:=hD.elim (λh=>h) λh=>absurd h.1 (by lia);refine⟨_,rfl,rfl,_,rfl,dE (λe=> ?_) (λe=> ?_)⟩
  .have e:k=0:=by have:(k:Int)=0:=e;lia
   refine⟨_,rfl,l,_,rfl,dD.k (k:= .inl 0) am (by decide),⟨_,rfl,kk l _ ((ag.new nl).put nl) nl ?_ ?_⟩⟩
   .rw [am];unfold dE1;rw[AB e];rfl
   .unfold dE1;rw[AB e];exact OkP.nil.set 0 1
  .have e:¬k=0:=λz=>e (by show(k:Int)=0;lia);refine⟨_,rfl,kk l _ (ag.new nl) nl ?_ ?_⟩
   .rw [am];unfold dE1;rw[A6 e];rfl
   .unfold dE1;rw[A6 e];exact OkP.nil
 .have e:¬d=1:=λz=>e (by show(d:Int)=1;lia);have d1:1<=d:=by unfold Wide at hw;lia
  obtain⟨d2,S,hS,hE⟩:2<=d/\DuE d k hh ff D:=hD.elim (λh=>absurd h.1 e) λh=>h;have hN:∀x,dM S d k hh ff none x=none:=λx=>by
   unfold dM;split
   .rfl
   .have:∀l:P' (P' Int),l.foldl (dw S d k hh ff x) none=none:=λl=>by
     induction l with
     |nil=>rfl
     |cons y l ih=>
      rw[Bj];have:dw S d k hh ff x none y=none:=by unfold dw;split<;>rfl
      rw[this,ih]
    exact this _
  obtain⟨Wq,hW⟩:∃Wq,hmP S d k hh ff (some [])=some Wq:=jJ hN hE 0;have hE:flP S d k hh ff (some Wq)=some D:=by rw[<-hW];exact hE
  have s1:ag H (upd H l (.dK [])):=ag.new nl;refine⟨_,rfl,_,rfl,_,rfl,_,rfl,_,rfl,l,d,k,v1,v2,hh,ff,[],Wq,S,rfl,hw,d2,aq,LJ.mono s1,Mj.mono s1,am,OkP.nil,hS,hW,λH2 b2 h2 ok2=> ?_⟩;have b02:But l H H2:=λc o e n=>b2 c o (s1 _ _ e) n;have Lz:ag H H2:=But.same (ag.refl _) nl b02;refine⟨_,rfl,_,rfl,_,rfl,_,rfl,_,rfl,l,d,k,v1,v2,hh,ff,Wq,D,S,rfl,hw,d2,aq,LJ.mono Lz,Mj.mono Lz,h2,ok2,hS,hE,λH3 b3 h3 ok3=> ?_⟩;exact⟨_,rfl,kk l H3 (But.same Lz nl b3) nl h3 ok3⟩
theorem ye {a:P' Int}(h:Is H (rwL a) v) (k:Is H (rwL a) u):EqR K H 1 v u true:=by
 have:=xB (K:=K) h k
 rwa [BA rfl] at this
def nzT (D:Pw) (i:Nat):P' Int:=((D.take i).filter λx=>decide (bi D x.1≠0)).map λx=>kI x.1
theorem Km:OKQ T.X55 P w base 2 spLSa:=by
 refine FbO T.X55 oY λKM A outer s H vs Q E hr h=> ?_;obtain⟨v,t,sh,D,rfl,hv,ht,Os,hS,kk⟩:=h;refine⟨_,(aj (pSA (i:=2) oY.nd (aS Ff (by rfl) T.n_sorted boot_sorted (ae (dP (XN:=["_law_told","_law_due_here","_law_powers","_law_numbers"]) (sc:=ao jz) (N:=["_law_power","_law_due_here"]) (own:=1) (js:=[1]) rfl (by ac_nf) rfl rfl (nE (pv 1)) (λ_ _ _ _=>(cg (i:=0) (show List.Nodup (["_law_power","_law_due_here"]:P' Str) by ac_nf) rfl (Or.inl rfl) (.inr rfl))) (fG (by decide)) (λ_ _ _ _=>(mH (aO qY (j' (cQ hr) (pv 1) (pv 0) (λ_ _=>rfl)) ah (aL _)))) (λ_ _ _ _=>(pv 0))) af)))
  (aj (bc (aO (mL hr) (pv 2) (av af) (aL _)) (ak (ay (iP (mL hr) (pv 0) (bK (ae ah (ae (av af) af))) (aL _)))) aY)
  (aj (si (i:=3) oY.nd rfl (by trivial) (.inl rfl) (XN:=["_law_told","_law_due_here","_law_powers","_law_numbers"]) (sc:=ao jz) (N:=["_law_power","_law_due_here"]) (own:=1) (js:=[1]) rfl (by ac_nf) rfl rfl (gI (by rfl) T.n_range (ae (az bh (pv 2) ah (λ_ _=>rfl)) (ae (ai aB (az bh (pv 2) (gJ gK ah) (λ_ _=>rfl)) ah) af))) (λ_ _ _ _=>(cg (i:=0) (show List.Nodup (["_law_power","_law_due_here"]:P' Str) by ac_nf) rfl (Or.inl rfl) (.inr rfl))) (fG (by decide)) (λ_ _ _ _=>eT) (λ_ _ _ _=>(ka (cQ hr) (pv 1) (pv 0) ah ⟨rfl,rfl,rfl,rfl⟩)))
  (ak (ay (iP (mL hr) (pv 0) (bK (ae (az bh (pv 2) ah (λ_ _=>rfl)) (ae (pv 3) af))) (aL _))))))), ?_⟩
 have nlen:∀i,(nzT D i).length<=D.length:=λi=>by
  unfold nzT;rw[A1];refine As (CM _ _) ?_;rw[Aa];lia
 refine⟨_,rfl,t,tK D,rfl, .inl ht,λo H1 LX k1 acc na=> ?_⟩;have b1:But t H H1:=λc ob e n=>by rw[k1 c n];exact e
 have dl:D.length<=300/\(nzK D).length<=60:=by
  unfold eO at hS;cases hz:nzK D with
  |nil=>rw[hz] at hS;simp only[AD,Af] at hS;exact⟨hS.2,by simp⟩
  |cons a l=>rw[hz] at hS;simp only[AD,Af] at hS;exact⟨hS.2,hS.1.1.1.1.2⟩
 refine Gf (own:=1) (js:=[1]) (λi H2=>ag H1 H2/\H2 acc=some (.lst ((nzT D i).map V.int))) ⟨ag.new na,am⟩ (λi H2 _ h=>h.1 _ _ LX) ?_ ?_ fH ?_ ?_
 .rintro i ky vv H2 hi ⟨s2,Ky⟩;obtain⟨y,hy,q,rfl,hq,hkq⟩:=ql Os hi;have nl:=nlen i;have nx:nzT D (i+1)=nzT D i++(if bi D y.1≠0 then [kI y.1] else []):=by
   unfold nzT;rw[AY,hy,Bo,A9];congr 1
   by_cases c:bi D y.1≠0<;>simp[c]
  refine⟨_,rfl,_,rfl,t,_,rfl,qo (.inr ⟨o,s2 _ _ LX⟩) hy hq,rfl,_,rfl,mE (λc=> ?_) (λc=> ?_)⟩
  .rw [nx,AB (by rw[hq];exact c),hkq];refine⟨_,rfl,acc,_,_,rfl,rfl,Ky,aD (by rw[A1];lia),s2.put na, ?_⟩;rw[am,A9];rfl
  .rw [nx,A6 (by rw[hq];exact λh=>h c),B8];exact⟨s2,Ky⟩
 .rintro H2 ⟨s2,Ky⟩;have en:nzT D (tK D).length=nzK D:=by
   unfold nzT nzK;rw[iq,AQ]
  rw[en] at Ky;have hfz2:=s2 _ _ LX;refine⟨acc,nzK D,rfl,SqL.of Ky,by lia,λzs p pz sz np=> ?_⟩;have s3:ag H2 (upd H2 p (.lst (zs.map V.int))):=ag.new np;have hp:upd H2 p (.lst (zs.map V.int)) p=some (.lst (zs.map V.int)):=am;generalize upd H2 p (.lst (zs.map V.int))=H3 at s3 hp⊢;have s13:=s2.trans s3;have b3:But t H H3:=λc ob e n=>s13 _ _ (b1 c ob e n);have hv3:Is H3 (shD sh) v:=hv.lts (qj ht b3);refine⟨_,rfl,AJ _,λe0 H4 N7 s4 Oj=> ?_⟩;have hp4:=s4 _ _ hp;refine⟨1,_,xB (bj hp4) (bj (t:=[]) Oj),by decide,_,rfl, ?_⟩;unfold eO at hS;cases hz:nzK D with
  |nil=>
   rw[hz] at hS pz;simp only[AD,Af] at hS;obtain rfl:zs=[]:=BQ.mp pz.length_eq;have es:=hS.1;subst es;refine bu ⟨_,rfl,AJ _,λe1 H5 ne1 s5 he1=>⟨(zB rfl),λtt H6 ntt s6 OU=> ?_⟩⟩;have NJ:=(s4.trans s5).trans s6;exact⟨3,true,qC (hv3.mono NJ) (iG (s:=(0,[])) OU (s6 _ _ he1)),by decide,kk H6 λc ob e n=>NJ _ _ (b3 c ob e n)⟩
  |cons a l=>
   rw[hz] at hS pz;simp only[AD,Af] at hS;obtain⟨⟨⟨⟨⟨es,_⟩,h100⟩,b1'⟩,b2'⟩,_⟩:=hS;obtain⟨m,hm,zlo,zhi,lohi⟩:=IT pz sz;have ne:zs≠[]:=by rintro rfl;cases hm
   rw[Am ne];have at0:atI (zs.map V.int) 0=some (.int (mnL a l)):=by rw[<-zlo];exact xa (ks:=zs) (i:=0) (by lia)
   have at1:atI (zs.map V.int) (-1)=some (.int (mxL a l)):=by
    rw[<-zhi];unfold atI ixN;rw[A1,hm,A6 (by decide),AB (by lia)];show(zs.map V.int)[((-1:Int)+((m+1:Nat):Int)).toNat]? =_;rw[show((-1:Int)+((m+1:Nat):Int)).toNat=m by lia,AE,A2 (by lia),A4,A2 (by lia)];rfl
   generalize My:mnL a l=lo at*
   generalize hhi:mxL a l=hi at*
   obtain⟨n,hn⟩:=Al (show 0<=hi+1-lo by lia);refine aT ?_;refine⟨_,rfl,p,_,_,_,rfl,rfl,SqL.of hp4,at0,_,rfl,1,rfl,p,_,_,_,rfl,rfl,SqL.of hp4,at1,_,_,rfl,rfl,_,_,rfl,⟨by lia,by lia,by lia,by lia⟩,λac na2=> ?_⟩;rw[hn,AV];rw[hn,AV] at es;refine kf (lo:=lo) (n:=n) (own:=1) (js:=[1]) (λi H5=>ag H4 H5/\H5 ac=some (.lst (((List.range i).map λj:Nat=>bi D (.inl (lo+(j:Int)))).map V.int))) ⟨ag.new na2,am⟩ ?_ ?_ fH eU ?_
   .rintro i H5 hi ⟨s5,hac⟩;have hfz5:=s5 _ _ (s4 _ _ (s3 _ _ hfz2));refine⟨_,rfl,t,rfl, .inl ⟨_, .inr ⟨o,hfz5⟩⟩,_,rfl,_, .inl ⟨tK D, .inl (lo+(i:Int)), .inr ⟨o,hfz5⟩,rfl,rfl⟩, ?_⟩;rw[qk];refine⟨ac,_,_,rfl,rfl,hac,aD (by rw[A1,A1,B6];lia),s5.put na2, ?_⟩;rw[am,Az,A9,A9];rfl
   .rintro H5 ⟨s5,hac⟩;have hp5:=s5 _ _ hp4;refine⟨_,rfl,_,rfl,p,_,_,_,rfl,rfl,SqL.of hp5,at0,_,rfl,(zB rfl),λtt H6 ntt s6 OU=> ?_⟩;have NJ:=(s4.trans s5).trans s6;subst es;exact⟨3,true,qC (hv3.mono NJ) (iG OU (s6 _ _ hac)),by decide,kk H6 λc ob e n=>NJ _ _ (b3 c ob e n)⟩
   .rintro σ H R R' k ⟨v1,e1,a,e2,i1,v2,e3,o',g,h⟩;exact⟨v1,e1,a,e2,i1,v2,e3,o',g,k _ _ h⟩
 .rintro σ H R R' k ⟨v1,e1,v2,e2,a,u,e3,g1,e4,b,e5,h⟩;exact⟨v1,e1,v2,e2,a,u,e3,g1,e4,b,e5,k _ _ h⟩
 .rintro σ H R R' k ⟨v1,e1,h⟩;exact⟨v1,e1,k _ _ h⟩
theorem lY:OKQ T.X56 P w base 55 spLRe:=by
 refine T.X56.F.oky uX (λvs H Q E h=> ?_) (λKM A outer s H vs Q E hr h hF=> ?_)
 .obtain⟨_,_,_,_,_,rfl,_⟩:=h;rfl
 .obtain⟨v,u,r1,r2,bd,rfl,On,kk⟩:=h;refine⟨_,(aj (Gb (i:=5) hF uX.nd rfl (by trivial) rfl (by rfl) T.m_NoBound (by rfl) T.m_NoEnds (Ga (jP T) (hr.mono (by decide)) (by rfl) T.X41.m T.X41.F.kp T.X41.B .nil (λpn z=>(ae (pv 0) (ae (pv 1) (ae (pv 2) (ae (pv 3) af)))))) (λe=>(ak (ay (me (iP dj (aS (sK (K:=K) rfl) (by rfl) T.n_isinstance DY (ae (pv 5) (ae (qJ (v:= .ref T.c_NoBound) (by rfl) T.m_NoBound (by rfl)) af))) (pv 4) (aL _)) (jT (aS (sK (K:=K) rfl) (by rfl) T.n_isinstance DY (ae (pv 5) (ae (jS (v:= .ty "ValueError") (by rfl) T.n_ValueError PyProof.Rows.Boot.«ValueError» (by rfl)) af)))))))))
   (ak (ay dh))), ?_⟩
  refine⟨λC _ H'=>((bd=true/\C= .ref T.c_NoBound)\/(bd=false/\C= .ref T.c_NoEnds))/\ag H H', ?_,λC e H' ⟨eC,sH⟩ he=> ?_⟩
  .refine⟨_,rfl,_,rfl,_,rfl,_,rfl,v,u,r1,r2,rfl, ?_⟩;rcases On with⟨eb,tv,tu,hn⟩|⟨eb,d,k,e1,e2,hW,On⟩
   .exact .inr (.inl ⟨tv,tu,hn, .inl ⟨eb,rfl⟩,ag.refl _⟩)
   .exact .inr (.inr ⟨d,k,e1,e2,hW,On,λH' s'=>⟨.inr ⟨eb,rfl⟩,s'⟩⟩)
  .have s2:ag H (upd H' e (dQ C e)):=sH.trans (ag.new he);have hx:upd H' e (dQ C e) e=some (dQ C e):=am;generalize upd H' e (dQ C e)=H2 at s2 hx⊢;rcases eC with⟨rfl,eC⟩|⟨rfl,eC⟩
   .cases eC;refine⟨T.e_NoBound_NoBound_or_NoEnds,_,rfl,e,_, .ref T.c_NoBound,_,true,rfl,hx,T.X_NoBound,rfl,T.k_NoBound_NoBound,_,rfl,rfl,_,rfl,bu ?_⟩;exact⟨_,rfl,e,_, .ty "ValueError",_,true,rfl,hx,T.X_NoBound,rfl,T.k_NoBound_ValueError,kk H2 s2⟩
   .cases eC;refine⟨T.e_NoEnds_NoBound_or_NoEnds,_,rfl,e,_, .ref T.c_NoBound,_,false,rfl,hx,T.X_NoEnds,rfl,T.k_NoEnds_NoBound,_,rfl,rfl,_,rfl,bu ?_⟩;exact⟨_,rfl,e,_, .ty "ValueError",_,true,rfl,hx,T.X_NoEnds,rfl,T.k_NoEnds_ValueError,kk H2 s2⟩
theorem lZ {x:Int} (h:0<x):fu [x]:=⟨Nn.cons.mpr ⟨Int.le_of_lt h,λi=>by simp⟩, .inr ⟨[],x,rfl,h⟩⟩
theorem fY:fu []:=⟨λi=>by simp, .inl rfl⟩
theorem Kn:OKQ T.X57 P w base 1 spLOd:=by
 refine FbO T.X57 k9 λ_ _ _ _ H vs Q E hr h=> ?_;obtain⟨d,z,rfl,z0,d1,d5,kk⟩:=h;refine⟨_,(aj (pSA (i:=2) k9.nd (av (ae (av (ae (av af) (ae (av (ae (ai aB (pv 0) ah) af)) af))) (ae (av (ae (av (ae ah (ae ah af))) (ae (av (ae (pv 0) af)) af))) (ae (av (ae (av af) (ae (av (ae (pv 0) (ae ah af))) af))) (ae (av (ae (av (ae ah af)) (ae (av (ae (pv 0) af)) af))) (ae (av (ae qI (ae (av (ae (pv 0) af)) af))) (ae (av (ae (av af) (ae iL af))) af))))))))
  (aj (pSA (i:=2) k9.nd (ai gM (pv 2) (av (ae (av (ae (av af) (ae (av (ae (gJ gK ah) (ae (ai aB (pv 0) ah) af))) af))) (ae (av (ae (av (ae dh af)) (ae (av (ae (ai aJ (pv 0) ah) af)) af))) (ae (av (ae (av af) (ae (av af) af))) (ae (av (ae (bK af) (ae (av (ae (pv 0) af)) af))) af)))))))
  (aj (pSA (i:=2) k9.nd (ai gM (pv 2) (av (ae (av (ae (av af) (ae (av (ae (ai aB (ai ml ah ah) (ai dz (pv 1) (ai ml ah ah))) af)) af))) (ae (av (ae (av af) (ae (av (ae (iS zr (by rfl) T.n_str boot_str (ae (pv 0) af)) af)) af))) af)))))
  (ak (ay (az bh (pv 2) (ai dz (pv 1) ah) (λ_ _=>rfl))))))), ?_⟩
 have nn1:∀{x:Int},0<=x->Nn [x]:=λh=>Nn.cons.mpr ⟨h,λi=>by simp⟩;have w1:∀x:Int,wtF [x]=x:=λx=>by simp[wtF,wtG]
 have w0:wtF []=0:=rfl;have dp:(0:Int)<(d:Int):=by lia
 have hlog:((d:Int)).natAbs.log2<1920:=by
  have:d=1\/d=2\/d=3\/d=4\/d=5:=by lia
  rcases this with rfl|rfl|rfl|rfl|rfl<;>decide
 have two:∀{H:Hp}{a b:P5}{x y:P' Int},H a=some (.lst (x.map V.int))->H b=some (.lst (y.map V.int))->fu x->fu y->x.length<=5->y.length<=5->wtF x+wtF y≠d->Bad d H (.ref a) (.ref b):=λha hb rx ry lx ly Lp=> .inr (.inr ⟨_,_,bj ha,bj hb,rx,ry,lx,ly,Lp⟩);refine⟨AJ _,λa H1 na s1 ha=>⟨_,rfl,_,_,rfl,rfl,(zB rfl),λb H2 nb s2 hb=>⟨(zB rfl),λc0 K0 nc s3 hc0=> ?_⟩⟩⟩;have bd0:Bad d K0 (.ref a) (.ref b):=two (x:=[]) (y:=[(d:Int)+1]) (s3 _ _ (s2 _ _ ha)) (s3 _ _ hb) fY (lZ (by lia)) (by simp) (by simp) (by rw[w0,w1];lia);have S0:=(s1.trans s2).trans s3;clear s1 s2 s3 ha hb na nb nc;refine⟨(zB rfl),λa H1 na s1 ha=>⟨_,rfl,(zB rfl),λb H2 nb s2 hb=>⟨(zB rfl),λc1 K1 nc s3 NP=> ?_⟩⟩⟩;have bd1:Bad d K1 (.ref a) (.ref b):= .inl (.inr (.inr ⟨a,[0],rfl,s3 _ _ (s2 _ _ ha),nn1 (by decide)⟩));have S1:=(s1.trans s2).trans s3;clear s1 s2 s3 ha hb na nb nc;refine⟨AJ _,λa H1 na s1 ha=>⟨_,rfl,(zB rfl),λb H2 nb s2 hb=>⟨(zB rfl),λc2 K2 nc s3 Lo=> ?_⟩⟩⟩;have bd2:Bad d K2 (.ref a) (.ref b):= .inr (.inl ⟨[],bj (t:=[]) (s3 _ _ (s2 _ _ ha)),fY, .inr (.inr ⟨b,[(d:Int)],rfl,s3 _ _ hb,nn1 (by lia)⟩)⟩);have S2:=(s1.trans s2).trans s3;clear s1 s2 s3 ha hb na nb nc;refine⟨(zB rfl),λa H1 na s1 ha=>⟨_,rfl,(zB rfl),λb H2 nb s2 hb=>⟨(zB rfl),λc3 K3 nc s3 Oq=> ?_⟩⟩⟩;have bd3:Bad d K3 (.ref a) (.ref b):=two (x:=[1]) (y:=[(d:Int)]) (s3 _ _ (s2 _ _ ha)) (s3 _ _ hb) (lZ (by decide)) (lZ dp) (by simp) (by simp) (by rw[w1,w1];lia);have S3:=(s1.trans s2).trans s3;clear s1 s2 s3 ha hb na nb nc;refine⟨_,rfl,(zB rfl),λb H2 nb s2 hb=>⟨(zB rfl),λc4 K4 nc s3 hc4=> ?_⟩⟩;have bd4:Bad d K4 .non (.ref b):= .inl (.inl (.inl ⟨.inr (.inr (.inl rfl)),λ_ _ e=>nomatch e⟩));have S4:=s2.trans s3;clear s2 s3 hb nb nc;refine⟨AJ _,λa H1 na s1 ha=>⟨(zB rfl),λc5 K5 nc s3 hc5=> ?_⟩⟩;have bd5:Bad d K5 (.ref a) (.str (Str.ofString "d")):= .inr (.inl ⟨[],bj (t:=[]) (s3 _ _ ha),fY, .inl (.inl ⟨.inr (.inr (.inr (.inl ⟨_,rfl⟩))),λ_ _ e=>nomatch e⟩)⟩);have S5:=s1.trans s3;clear s1 s3 ha na nc;refine⟨(zB rfl),λL1 J1 nL s6 Pk=> ?_⟩;refine⟨_,rfl,AJ _,λa H1 na s1 ha=>⟨1,rfl,_,rfl,_,_,rfl,rfl,(zB rfl),λb H2 nb s2 hb=>⟨(zB rfl),λc6 K6 nc s3 hc6=> ?_⟩⟩⟩;have bd6:Bad d K6 (.ref a) (.ref b):= .inr (.inl ⟨[],bj (t:=[]) (s3 _ _ (s2 _ _ ha)),fY, .inr (.inl ⟨b,_,0,_,rfl,s3 _ _ hb,rfl,λj hj=>absurd hj (by lia),bw.int,λn e=>by cases e;decide⟩)⟩);have S6:=(s1.trans s2).trans s3;clear s1 s2 s3 ha hb na nb nc;refine⟨(zB rfl),λa H1 na s1 ha=>⟨_,rfl,_,_,rfl,rfl,(zB rfl),λb H2 nb s2 hb=>⟨(zB rfl),λc7 K7 nc s3 hc7=> ?_⟩⟩⟩;have bd7:Bad d K7 (.ref a) (.ref b):= .inl (.inr (.inl ⟨a,_,0,_,rfl,s3 _ _ (s2 _ _ ha),rfl,λj hj=>absurd hj (by lia), .inr (.inl ⟨_,rfl⟩),λn e=>nomatch e⟩));have S7:=(s1.trans s2).trans s3;clear s1 s2 s3 ha hb na nb nc;refine⟨AJ _,λa H1 na s1 ha=>⟨AJ _,λb H2 nb s2 hb=>⟨(zB rfl),λc8 K8 nc s3 hc8=> ?_⟩⟩⟩;have bd8:Bad d K8 (.ref a) (.ref b):=two (x:=[]) (y:=[]) (s3 _ _ (s2 _ _ ha)) (s3 _ _ hb) fY fY (by simp) (by simp) (by rw[w0];lia);have S8:=(s1.trans s2).trans s3;clear s1 s2 s3 ha hb na nb nc;refine⟨AJ _,λa H1 na s1 ha=>⟨_,rfl,(zB rfl),λb H2 nb s2 hb=>⟨(zB rfl),λc9 K9 nc s3 hc9=> ?_⟩⟩⟩;have ha':=s3 _ _ (s2 _ _ ha);have bd9:Bad d K9 (.ref a) (.ref b):= .inl (.inl (.inl ⟨.inr (.inr (.inr (.inr (.inr ⟨a,[],rfl,ha'⟩)))),λc xs e h=>by cases e;rw[ha'] at h;cases h⟩));have S9:=(s1.trans s2).trans s3;clear s1 s2 s3 ha hb na nb nc ha';refine⟨(zB rfl),λL2 J2 nL2 s7 hL2=> ?_⟩;have hL1':=(((S6.trans S7).trans S8).trans S9).trans s7;refine⟨L1,L2,_,_,rfl,rfl,hL1' _ _ Pk,hL2,(zB rfl),λL3 nL3=> ?_⟩;have s8:ag J2 (upd J2 L3 (.lst ([V.ref c0, .ref c1, .ref c2, .ref c3, .ref c4, .ref c5]++[.ref c6, .ref c7, .ref c8, .ref c9]))):=ag.new nL3;have hL3:upd J2 L3 (.lst ([V.ref c0, .ref c1, .ref c2, .ref c3, .ref c4, .ref c5]++[.ref c6, .ref c7, .ref c8, .ref c9])) L3=some (.lst ([V.ref c0, .ref c1, .ref c2, .ref c3, .ref c4, .ref c5]++[.ref c6, .ref c7, .ref c8, .ref c9])):=am;generalize upd J2 L3 (.lst ([V.ref c0, .ref c1, .ref c2, .ref c3, .ref c4, .ref c5]++[.ref c6, .ref c7, .ref c8, .ref c9]))=J3 at s8 hL3⊢;refine⟨_,rfl,AJ _,λa H1 na s1 ha=>⟨_,_,rfl,rfl,⟨by decide,by decide,by decide⟩,_,rfl,_,_,rfl,rfl,⟨by decide,by decide,by decide⟩,_,_,rfl,rfl,by decide,_,_,rfl,rfl,(zB rfl),λb H2 nb s2 hb=>⟨(zB rfl),λcA KA nc s3 hcA=> ?_⟩⟩⟩;have big:(1000:Int)<=10^(30:Int).toNat:=by decide
 have zm:0<=z%10^(20:Int).toNat:=Int.emod_nonneg _ (by decide);have bdA:Bad d KA (.ref a) (.ref b):=two (x:=[]) (y:=[(10:Int)^(30:Int).toNat+z%10^(20:Int).toNat]) (s3 _ _ (s2 _ _ ha)) (s3 _ _ hb) fY (lZ (by lia)) (by simp) (by simp) (by rw[w0,w1];lia);have SA:=(s1.trans s2).trans s3;clear s1 s2 s3 ha hb na nb nc;refine⟨AJ _,λa H1 na s1 ha=>⟨_,rfl,_,rfl,hlog,(zB rfl),λb H2 nb s2 hb=>⟨(zB rfl),λcB KB nc s3 hcB=> ?_⟩⟩⟩;have bdB:Bad d KB (.ref a) (.ref b):= .inr (.inl ⟨[],bj (t:=[]) (s3 _ _ (s2 _ _ ha)),fY, .inr (.inl ⟨b,_,0,_,rfl,s3 _ _ hb,rfl,λj hj=>absurd hj (by lia), .inr (.inr (.inr (.inl ⟨_,rfl⟩))),λn e=>nomatch e⟩)⟩);have SB:=(s1.trans s2).trans s3;clear s1 s2 s3 ha hb na nb nc;refine⟨(zB rfl),λL4 J4 nL4 s9 hL4=> ?_⟩;refine⟨L3,L4,_,_,rfl,rfl,((SA.trans SB).trans s9) _ _ hL3,hL4,(zB rfl),λL5 nL5=> ?_⟩;have sX:ag J4 (upd J4 L5 (.lst ([V.ref c0, .ref c1, .ref c2, .ref c3, .ref c4, .ref c5]++[.ref c6, .ref c7, .ref c8, .ref c9]++[.ref cA, .ref cB]))):=ag.new nL5;have hL5:upd J4 L5 (.lst ([V.ref c0, .ref c1, .ref c2, .ref c3, .ref c4, .ref c5]++[.ref c6, .ref c7, .ref c8, .ref c9]++[.ref cA, .ref cB])) L5=some (.lst ([V.ref c0, .ref c1, .ref c2, .ref c3, .ref c4, .ref c5]++[.ref c6, .ref c7, .ref c8, .ref c9]++[.ref cA, .ref cB])):=am;generalize upd J4 L5 (.lst ([V.ref c0, .ref c1, .ref c2, .ref c3, .ref c4, .ref c5]++[.ref c6, .ref c7, .ref c8, .ref c9]++[.ref cA, .ref cB]))=J5 at sX hL5⊢;have TB:=s9.trans sX;have TA:=SB.trans TB;have T9:=(s7.trans s8).trans (SA.trans TA);have T8:=S9.trans T9;have T7:=S8.trans T8;have T6:=S7.trans T7;have T5:=s6.trans (S6.trans T6);have T4:=S5.trans T5;have T3:=S4.trans T4;have T2:=S3.trans T3;have T1:=S2.trans T2;have T0:=S1.trans T1;have e0:ag H J5:=S0.trans T0;have z12:0<=z%12:=Int.emod_nonneg _ (by decide);have z13:z%12<12:=Int.emod_lt_of_pos _ (by decide);obtain⟨m,hm⟩:=Al z12;have fin:∃c x y,atI ([V.ref c0, .ref c1, .ref c2, .ref c3, .ref c4, .ref c5]++[.ref c6, .ref c7, .ref c8, .ref c9]++[.ref cA, .ref cB]) (m:Int)=some (.ref c)/\J5 c=some (.lst [x,y])/\Bad d J5 x y:=by
  have hm:m=0\/m=1\/m=2\/m=3\/m=4\/m=5\/m=6\/m=7\/m=8\/m=9\/m=10\/m=11:=by lia
  rcases hm with rfl|rfl|rfl|rfl|rfl|rfl|rfl|rfl|rfl|rfl|rfl|rfl
  .exact⟨_,_,_,rfl,T0 _ _ hc0,bd0.mono T0⟩
  .exact⟨_,_,_,rfl,T1 _ _ NP,bd1.mono T1⟩
  .exact⟨_,_,_,rfl,T2 _ _ Lo,bd2.mono T2⟩
  .exact⟨_,_,_,rfl,T3 _ _ Oq,bd3.mono T3⟩
  .exact⟨_,_,_,rfl,T4 _ _ hc4,bd4.mono T4⟩
  .exact⟨_,_,_,rfl,T5 _ _ hc5,bd5.mono T5⟩
  .exact⟨_,_,_,rfl,T6 _ _ hc6,bd6.mono T6⟩
  .exact⟨_,_,_,rfl,T7 _ _ hc7,bd7.mono T7⟩
  .exact⟨_,_,_,rfl,T8 _ _ hc8,bd8.mono T8⟩
  .exact⟨_,_,_,rfl,T9 _ _ hc9,bd9.mono T9⟩
  .exact⟨_,_,_,rfl,TA _ _ hcA,bdA.mono TA⟩
  .exact⟨_,_,_,rfl,TB _ _ hcB,bdB.mono TB⟩
 obtain⟨c,x,y,hat,hc,bd⟩:=fin;exact⟨_,rfl,_,rfl,_,_,rfl,rfl,by decide,L5,_,_,_,rfl,rfl,SqL.of hL5,by rw[hm];exact hat,kk c x y J5 e0 hc bd⟩
theorem Ko:OKQ T.X58 P w base 59 (sp_law K):=by
 refine FbO T.X58 fM λ_ _ _ _ H vs Q E hr h=> ?_;obtain⟨a,ns,rfl,hS,hl,kk⟩:=h;refine⟨_,(aj (mh (az Ei (zA (Kd T) (hr.mono (by decide)) (by rfl) T.X44.m T.X44.F.kp T.X44.B .nil gN) (ai dz (pcq (qp T) hr T.X43 (ae (pv 0) (ae ah af))) ah) (λ_ _=>rfl)) (cp rfl (aK (pGA (i:=1) fM.nd) (aK (pGA (i:=2) fM.nd) bV))))
  (aj (mh (pcq (Ke T) hr T.X45 (ae (pv 1) (ae (pcq (qp T) hr T.X43 (ae (pv 0) (ae ah af))) af))) (Do rfl (aK (pGA (i:=3) fM.nd) (aK (pGA (i:=4) fM.nd) bV))))
  (aj (bc (aO (mM hr) (cP (jP T) (hr.mono (by decide)) (by rfl) T.X41.m T.X41.F.kp T.X41.B .nil kj (ae (pv 1) (ae (pv 2) (ae (av af) (ae (av (ae (pv 1) af)) af))))) (pcq (JX T) hr T.X39 (ae (pv 1) (ae (pv 2) af))) (aL _)) (ak (ay dh)) aY)
  (aj (yX (i:=5) (j:=6) rfl fM.nd rfl rfl (by decide) rfl rfl (ae (pcq (fX T) hr T.X46 (ae (pv 3) af)) (ae (pcq (fX T) hr T.X46 (ae (pv 4) af)) af)) rfl)
  (aj (Eb (bc (eS (aO fA (pv 1) ah (aL _)) (fz (aO fA (pv 2) ah (aL _)))).pt (aj (pSA (i:=7) fM.nd (cP (jP T) (hr.mono (by decide)) (by rfl) T.X41.m T.X41.F.kp T.X41.B .nil kj (ae (pv 1) (ae (pv 2) (ae (pv 5) (ae (pv 6) af))))))
  (aj (bc (eS (aO (mM hr) (pv 5) (pcq (fX T) hr T.X46 (ae (pv 3) af)) (aL _)) (fz (aO (mM hr) (pv 6) (pcq (fX T) hr T.X46 (ae (pv 4) af)) (aL _)))).pt (ak (ay dh)) aY)
  (ak (bc (di (eR (pcq (Km T) hr T.X55 (ae (pv 7) (ae (pcq (Kl T) hr T.X54 (ae (pv 1) (ae (pv 2) (ae (pv 3) (ae (pv 4) af))))) af))))) (ak (ay dh)) aY)))) aY))
  (aj (pSA (i:=8) fM.nd (pcq (Kn T) hr T.X57 (ae (pv 1) (ae (pcq (qp T) hr T.X43 (ae (pv 0) (ae ah af))) af))))
  (aj (bc (eS (di (eR (pcq (lY T) hr T.X56 (ae (pv 1) (ae (pv 2) (ae (az bh (pv 8) ah (λ_ _=>rfl)) (ae (az bh (pv 8) ah (λ_ _=>rfl)) (ae dh af)))))))) (fz (di (eR (pcq (lY T) hr T.X56 (ae ah (ae (pv 2) (ae (az bh (pv 8) ah (λ_ _=>rfl)) (ae (az bh (pv 8) ah (λ_ _=>rfl)) (ae dh af)))))))))).pt (ak (ay dh)) aY)
  (ak (ay (me (pcq (lY T) hr T.X56 (ae (pv 1) (ae ah (ae (pv 5) (ae (pv 6) (ae dh af)))))) (jT (pcq (lY T) hr T.X56 (ae qI (ae (pv 2) (ae (pv 5) (ae (pv 6) (ae dh af))))))))))))))))), ?_⟩
 refine⟨rfl,λl H1 s1 nl hL=> ?_⟩;refine⟨_,rfl,a,ns,0,rfl,s1.seq hS,by decide,by decide,λz hz=>⟨_,_,rfl,rfl,(show(0:Int)<32 by decide), ?_⟩⟩;have z0:0<=z%32:=Int.emod_nonneg _ (by decide);have z1:z%32<32:=Int.emod_lt_of_pos _ (by decide);obtain⟨m,hm⟩:=Al z0;have hml:m<nT9.length:=by rw[Ka];lia
 have hat:atI ((nT9.map λx=>[(x.1:Int),(x.2:Int)]).map tI) ((m:Nat):Int)=some (tI [(nT9[m].1:Int),(nT9[m].2:Int)]):=j8 (by rw[AE,AE,A2 hml];rfl);have hW:=Kb _ (List.getElem_mem hml);generalize nT9[m].1=d at hat hW;generalize nT9[m].2=k at hat hW;refine⟨_,((m:Nat):Int),_,hL,BF V.int hm,hat,λu hu=> ?_⟩;obtain⟨t,rfl,ht⟩:=bY hu;refine⟨t,_,rfl,SqT.of ht,rfl,_,_,rfl,_,_,rfl,rfl, ?_⟩;clear hat hL ht hu;have d15:1<=d/\d<=5:=by unfold Wide at hW;lia
 refine⟨_,rfl,_,rfl,a,ns,1,rfl,s1.seq hS,by decide,by decide,λz hz=>⟨d,z,rfl,hz,d15.1,d15.2,λtr l1 l2 hh ff H2 s2 htr L8 KQ Ln fl' hn fn hw=> ?_⟩⟩;refine⟨tr,_,rfl,SqL.of htr,rfl,_,_,rfl,_,_,rfl,rfl, ?_⟩;have Lz:=s1.trans s2;have aq:AskOk d ⟨d,k,hh,ff⟩:=⟨Ln,fl',hn,fn,hw,by show(1:Int)<=(d:Int);lia,Bf _,d15.2,by unfold Wide at hW;show(k:Int)<=6;lia⟩;obtain⟨x1,x2,x3,x4⟩:=iK (t:=hh) Ln hn d15.2;obtain⟨y1,y2,y3,y4⟩:=iK (t:=ff) fl' fn d15.2;have ro:dN [(d:Int)]:=⟨λi=>by cases i<;>simp,by simp, .inr ⟨[],d,rfl,by lia⟩⟩
 have re:dN []:=⟨λi=>by simp,by simp, .inl rfl⟩;have we:wtF []+wtF [(d:Int)]=d:=by simp[wtF,wtG]
 refine⟨_,rfl,_,rfl,AJ _,λp1 H3 n1 s3 h1=>⟨_,rfl,(zB rfl),λp2 H4 n2 s4 h2=> ?_⟩⟩;refine⟨.int d, .int k,_,_,rfl, .inl ⟨d,k,[],[(d:Int)],rfl,rfl,hW,bj (s4 _ _ h1),bj h2,re,ro,we,by simp,by simpa using d15.1,λve H5 s5 hve=> ?_⟩⟩;rw[IR hW (xT hW re ro we (by simp) (by simpa using d15.1))] at hve;refine⟨_,rfl,_,rfl,d,k,rfl,hW,λvf H6 s6 hvf=>⟨3,true,qC (hve.mono s6) hvf,by decide,_,rfl,aT ?_⟩⟩;have Op:=((s3.trans s4).trans s5).trans s6;have s06:=Lz.trans Op;clear h1 h2 hve hvf;refine⟨_,rfl, .ref l1,hh,rfl,bj (Op _ _ L8),by lia,λm1 H7 s7 nm1 hm1=>⟨_,rfl, .ref l2,ff,rfl,bj (s7 _ _ (Op _ _ KQ)),by lia,λm2 H8 s8 nm2 hm2=> ?_⟩⟩;have NF:=(Op.trans s7).trans s8;have s08:=Lz.trans NF;have hm1:=hm1.mono s8;clear s3 s4 s5 s6 Op s06 s7;refine⟨_,_,rfl,λσ H9=>(∃v7,σ=[some (.ref a),some (.int d),some (.int k),some (.ref l1),some (.ref l2),some (.ref m1),some (.ref m2),v7,none])/\ag H8 H9, ?_, ?_⟩
 .refine⟨_,rfl,_,_,rfl,rfl,_,rfl,bG (λc=> ?f1) (λc=>⟨_,rfl,_,_,rfl,rfl,_,rfl,bG (λc2=> ?f2) (λc2=>⟨⟨_,rfl⟩,ag.refl _⟩)⟩)⟩;case f1|f2=>
   have cs:d=1\/(2<=d/\(d<5\/k<2)):=by
    first
    |(have c:(d:Int)<5:=c;lia)
    |(have c2:(k:Int)<2:=c2;lia)
   clear c;refine⟨_,rfl,_,rfl,_,rfl,_,rfl, .int d, .int k, .ref m1, .ref m2,rfl, .inl ⟨d,k,_,_,rfl,rfl,hW,hm1,hm2,x1,y1,by rw[x4,y4];exact hw,x2,y2,λvv H9 s9 OY=> ?_⟩⟩;rw[x3,y3] at OY;have s29:=NF.trans s9;refine⟨_,rfl,_,rfl, .ref l1,hh,rfl,bj (s29 _ _ L8),by lia,λq1 HA sA nq1 LI=>⟨1,true,ye ((hm1.mono s9).mono sA) LI,by decide,_,rfl,aT ?_⟩⟩;have s2A:=s29.trans sA;refine⟨_,rfl,_,rfl, .ref l2,ff,rfl,bj (s2A _ _ KQ),by lia,λq2 HB sB nq2 hq2=>⟨1,true,ye (((hm2.mono s9).mono sA).mono sB) hq2,by decide,_,rfl,aT ?_⟩⟩;have s2B:=s2A.trans sB;obtain⟨D,hD,sd⟩:∃D,((d=1/\D=dE1 k)\/(2<=d/\DuE d k hh ff D))/\eO (sF ⟨d,k,hh,ff⟩) D=true:=by
    rcases cs with e|⟨d2,c⟩
    .subst e;exact⟨_, .inl ⟨rfl,rfl⟩,du1⟩
    .obtain⟨D,h,e⟩:=IN hW d2 c aq;exact⟨D, .inr ⟨d2,h⟩,e⟩
   refine⟨_,rfl,_,rfl,_,rfl,_,rfl,_,rfl,d,k, .ref l1, .ref l2,hh,ff,D,rfl,hW,aq,bj (s2B _ _ L8),bj (s2B _ _ KQ),hD,λdl HC sC ndl Pi Os=> ?_⟩;have s9C:=(sA.trans sB).trans sC;refine⟨_,dl,_,D,rfl,OY.mono s9C,Pi,Os,sd,λHD bD=>⟨true,rfl,aT ⟨⟨_,rfl⟩, ?_⟩⟩⟩;have s8C:=s9.trans s9C;intro c o e;exact bD c o (s8C _ _ e) (by rintro rfl;rw[(s9.trans (sA.trans sB)) _ _ e] at ndl;cases ndl)
 .rintro σ H9 ⟨⟨v7,rfl⟩,s9⟩;have s09:=s08.trans s9;refine⟨_,rfl,_,rfl,a,ns,2,rfl,s09.seq hS,by decide,by decide,λz hz=>⟨d,z,rfl,hz,d15.1,d15.2,λlo w1 w2 HA sA My On=> ?_⟩⟩;have no6:∀H:Hp,xD true H (.int 6) (.int k) w1 w2:=λH=> .inl ⟨rfl,bw.int,bw.int,λ⟨d',k',e1,e2,hw'⟩=>by
   have:d'=6:=by have:=V.int.inj e1;lia
   unfold Wide at hw';lia⟩
  refine⟨_,rfl,_,rfl,_,rfl,lo,_,_,_,rfl,rfl,SqL.of My,rfl,_,rfl,lo,_,_,_,rfl,rfl,SqL.of My,rfl, .int d, .int k,w1,w2,false,rfl, .inr ⟨rfl,d,k,rfl,rfl,hW,On⟩,λHB sB=>⟨true,rfl,aT ?_⟩⟩;have My:=sB _ _ My;refine⟨_,rfl,_,rfl,lo,_,_,_,rfl,rfl,SqL.of My,rfl,_,rfl,lo,_,_,_,rfl,rfl,SqL.of My,rfl, .int 6, .int k,w1,w2,true,rfl,no6 _,λHC sC=>⟨true,rfl,aT ?_⟩⟩;refine⟨_,rfl,_,rfl,_,rfl, .int d, .int 7,_,_,true,rfl, .inl ⟨rfl,bw.int,bw.int,λ⟨d',k',e1,e2,hw'⟩=> ?_⟩,λHD sD=>⟨_,rfl,bu ?_⟩⟩
  .have:k'=7:=by have:=V.int.inj e2;lia
   unfold Wide at hw';lia
  exact⟨_,rfl,_,rfl,_,rfl, .non, .int k,_,_,true,rfl, .inl ⟨rfl, .inr (.inr (.inl rfl)),bw.int,λKJ=>by obtain⟨d',k',e1,e2,hw'⟩:=KJ;exact nomatch e1⟩,λHE sE=>kk _⟩
end
theorem fb0 {n:Str}{d:P7} (F:Fun K n n st f d) (e:mg n=some (.ref f)) (hp:ps.length=0:=by exact rfl) (h:∀(kV dc pm:P3) (an:Qc P5) (cd ct:P3),bindArgs (W.fnOf n n (dC st) (cI st) (ao st) .none kV dc pm an cd ct) ⟨[],[]⟩=pure (ps.zip []):=by intros;exact rfl):Fb K mg n st ps f d:=by
 refine⟨F,F.binds λkV dc pm an cd ct us hl=> ?_,e⟩;rw[hp] at hl;rcases us with _|⟨y,us⟩
 .exact h kV dc pm an cd ct
 .simp at hl
theorem fb1 {n:Str}{d:P7} (F:Fun K n n st f d) (e:mg n=some (.ref f)) (hp:ps.length=1:=by exact rfl) (h:∀(kV dc pm:P3) (an:Qc P5) (cd ct x0:P3),bindArgs (W.fnOf n n (dC st) (cI st) (ao st) .none kV dc pm an cd ct) ⟨[x0],[]⟩=pure (ps.zip [x0]):=by intros;exact rfl):Fb K mg n st ps f d:=by
 refine⟨F,F.binds λkV dc pm an cd ct us hl=> ?_,e⟩;rw[hp] at hl;rcases us with _|⟨x0,us⟩
 .simp at hl
 rcases us with _|⟨y,us⟩
 .exact h kV dc pm an cd ct x0
 .simp at hl
theorem fb2 {n:Str}{d:P7} (F:Fun K n n st f d) (e:mg n=some (.ref f)) (hp:ps.length=2:=by exact rfl) (h:∀(kV dc pm:P3) (an:Qc P5) (cd ct x0 x1:P3),bindArgs (W.fnOf n n (dC st) (cI st) (ao st) .none kV dc pm an cd ct) ⟨[x0,x1],[]⟩=pure (ps.zip [x0,x1]):=by intros;exact rfl):Fb K mg n st ps f d:=by
 refine⟨F,F.binds λkV dc pm an cd ct us hl=> ?_,e⟩;rw[hp] at hl;rcases us with _|⟨x0,us⟩
 .simp at hl
 rcases us with _|⟨x1,us⟩
 .simp at hl
 rcases us with _|⟨y,us⟩
 .exact h kV dc pm an cd ct x0 x1
 .simp at hl
theorem fb3 {n:Str}{d:P7} (F:Fun K n n st f d) (e:mg n=some (.ref f)) (hp:ps.length=3:=by exact rfl) (h:∀(kV dc pm:P3) (an:Qc P5) (cd ct x0 x1 x2:P3),bindArgs (W.fnOf n n (dC st) (cI st) (ao st) .none kV dc pm an cd ct) ⟨[x0,x1,x2],[]⟩=pure (ps.zip [x0,x1,x2]):=by intros;exact rfl):Fb K mg n st ps f d:=by
 refine⟨F,F.binds λkV dc pm an cd ct us hl=> ?_,e⟩;rw[hp] at hl;rcases us with _|⟨x0,us⟩
 .simp at hl
 rcases us with _|⟨x1,us⟩
 .simp at hl
 rcases us with _|⟨x2,us⟩
 .simp at hl
 rcases us with _|⟨y,us⟩
 .exact h kV dc pm an cd ct x0 x1 x2
 .simp at hl
theorem fb4 {n:Str}{d:P7} (F:Fun K n n st f d) (e:mg n=some (.ref f)) (hp:ps.length=4:=by exact rfl) (h:∀(kV dc pm:P3) (an:Qc P5) (cd ct x0 x1 x2 x3:P3),bindArgs (W.fnOf n n (dC st) (cI st) (ao st) .none kV dc pm an cd ct) ⟨[x0,x1,x2,x3],[]⟩=pure (ps.zip [x0,x1,x2,x3]):=by intros;exact rfl):Fb K mg n st ps f d:=by
 refine⟨F,F.binds λkV dc pm an cd ct us hl=> ?_,e⟩;rw[hp] at hl;rcases us with _|⟨x0,us⟩
 .simp at hl
 rcases us with _|⟨x1,us⟩
 .simp at hl
 rcases us with _|⟨x2,us⟩
 .simp at hl
 rcases us with _|⟨x3,us⟩
 .simp at hl
 rcases us with _|⟨y,us⟩
 .exact h kV dc pm an cd ct x0 x1 x2 x3
 .simp at hl
theorem fb5 {n:Str}{d:P7} (F:Fun K n n st f d) (e:mg n=some (.ref f)) (hp:ps.length=5:=by exact rfl) (h:∀(kV dc pm:P3) (an:Qc P5) (cd ct x0 x1 x2 x3 x4:P3),bindArgs (W.fnOf n n (dC st) (cI st) (ao st) .none kV dc pm an cd ct) ⟨[x0,x1,x2,x3,x4],[]⟩=pure (ps.zip [x0,x1,x2,x3,x4]):=by intros;exact rfl):Fb K mg n st ps f d:=by
 refine⟨F,F.binds λkV dc pm an cd ct us hl=> ?_,e⟩;rw[hp] at hl;rcases us with _|⟨x0,us⟩
 .simp at hl
 rcases us with _|⟨x1,us⟩
 .simp at hl
 rcases us with _|⟨x2,us⟩
 .simp at hl
 rcases us with _|⟨x3,us⟩
 .simp at hl
 rcases us with _|⟨x4,us⟩
 .simp at hl
 rcases us with _|⟨y,us⟩
 .exact h kV dc pm an cd ct x0 x1 x2 x3 x4
 .simp at hl
def Hf (K:W.Frag) (n:Str) (st:Qd) (f:P5):Prop:=W.nsIn K mainGlobals n=some (some (.ref f))/\∃d,Fun K n n st f d
def Kp {n:Str}{od an:Qc P5}{sl:Array (Qc P3)}{oc kV dc pm cd ct:P3} (a:W.nsIn K mainGlobals n=some (some (.ref f))) (l:K.lookup f=some ⟨oc,od, .func (W.fnOf n n (dC st) (cI st) (ao st) .none kV dc pm an cd ct),sl⟩) (c:W.codeIn K cd n=true) (k:W.keepIn K (.ref f)=true):Hf K n st f:=⟨a,_,zZ l c k⟩
theorem Kq {l:W.OpenLaw}{w:P8}{h:Qb}{fa:P5} (X:K.In h) (G:h.Ns mainGlobals mg) (Ou:mg "law"=some (.ref fa))
  {f0 f1 f2 f3 f4 f5 f6 f7 f8 f9 f10 f11 f12 f13 f14 f15 f16 f17 f18 f19 f20 f21 f22 f23 f24 f25 f26 f27 f28 f29 f30 f31 f32 f33 f34 f35 f36 f37 f38 f39 f40 f41 f42 f43 f44 f45 f46 f47 f48 f49 f50 f51 f52 f53 f54 f55 f56 f57 f58:P5}
  (h0:Hf K "is_whole" nO f0)
  (h1:Hf K "need_between" nP f1)
  (h2:Hf K "need_wide" nQ f2)
  (h3:Hf K "need_degree" nR f3)
  (h4:Hf K "choose" nS f4)
  (h5:Hf K "is_row" nT f5)
  (h6:Hf K "row_weight" jm f6)
  (h7:Hf K "need_rows" nU f7)
  (h8:Hf K "without_last_noughts" nV f8)
  (h9:Hf K "sum_by_place" nW f9)
  (h10:Hf K "product_by_place" nX f10)
  (h11:Hf K "with_more" nY f11)
  (h12:Hf K "filled_up" nZ f12)
  (h13:Hf K "rows_within" kN f13)
  (h14:Hf K "rows_beyond" og f14)
  (h15:Hf K "choices" oh f15)
  (h16:Hf K "weights_gained" oj f16)
  (h17:Hf K "with_one_held" om f17)
  (h18:Hf K "with_one_degree_fewer" on f18)
  (h19:Hf K "summands" oq f19)
  (h20:Hf K "asked_of" ot f20)
  (h21:Hf K "ends_at" ou f21)
  (h22:Hf K "sound" ow f22)
  (h23:Hf K "lost" ox f23)
  (h24:Hf K "lifts_from" oy f24)
  (h25:Hf K "leaving" oz f25)
  (h26:Hf K "with_floor" jv f26)
  (h27:Hf K "drawings" kR f27)
  (h28:Hf K "need_sound" oA f28)
  (h29:Hf K "end_marks" oB f29)
  (h30:Hf K "put_between" oC f30)
  (h31:Hf K "how_many_orders" oD f31)
  (h32:Hf K "how_many" oE f32)
  (h33:Hf K "shade" oF f33)
  (h34:Hf K "added" oG f34)
  (h35:Hf K "mixed" oH f35)
  (h36:Hf K "stretch" kU f36)
  (h37:Hf K "of_number" oI f37)
  (h38:Hf K "stretched" oJ f38)
  (h39:Hf K "shade_by_floors" kX f39)
  (h40:Hf K "ends_shade" oK f40)
  (h41:Hf K "shade_by_ends" oM f41)
  (h42:Hf K "_law_cell_at" oN f42)
  (h43:Hf K "_law_number" oO f43)
  (h44:Hf K "_law_pairs" oP f44)
  (h45:Hf K "_law_rows" oQ f45)
  (h46:Hf K "_law_cut" oR f46)
  (h47:Hf K "_law_weight" kY f47)
  (h48:Hf K "_law_choose" oS f48)
  (h49:Hf K "_law_add" oT f49)
  (h50:Hf K "_law_greater" k7 f50)
  (h51:Hf K "_law_lesser" oU f51)
  (h52:Hf K "_law_held_more" oV f52)
  (h53:Hf K "_law_floor_less" oW f53)
  (h54:Hf K "_law_due" oX f54)
  (h55:Hf K "_law_same" jz f55)
  (h56:Hf K "_law_refused" oZ f56)
  (h57:Hf K "_law_odd_rows" o0 f57)
  (h58:Hf K "law" o6 f58)
  (zz:∀n∈["isinstance","int","bool","range","list","sum","enumerate","max","len","tuple","min","zip","sorted","set","abs","ValueError","str"],W.nsIn K mainGlobals n=some none)
  {A_WIDE:P5} (da_WIDE:W.nsIn K mainGlobals "WIDE"=some (some (.ref A_WIDE))) (dt_WIDE:kA K A_WIDE [(1,6),(2,6),(3,6),(4,6),(5,3)]=true)
  {C_NoBound:P5} (ca_NoBound:W.nsIn K mainGlobals "NoBound"=some (some (.ref C_NoBound)))
  {C_NoEnds:P5} (ca_NoEnds:W.nsIn K mainGlobals "NoEnds"=some (some (.ref C_NoEnds)))
  {C_NoDrawing:P5} (ca_NoDrawing:W.nsIn K mainGlobals "NoDrawing"=some (some (.ref C_NoDrawing)))
  (cx_NoBound:W.excIn K C_NoBound bmV "ValueError.__new__"=true) (xc_NoBound:XC K C_NoBound)
  (cx_NoEnds:W.excIn K C_NoEnds bmV "ValueError.__new__"=true) (xc_NoEnds:XC K C_NoEnds)
  (cx_NoDrawing:W.excIn K C_NoDrawing bmV "ValueError.__new__"=true) (xc_NoDrawing:XC K C_NoDrawing)
  (ce_NoBound_NoBound_or_NoEnds:W.exmAny K (.ref C_NoBound) [.ref C_NoBound, .ref C_NoEnds]=some true)
  (ce_NoEnds_NoBound_or_NoEnds:W.exmAny K (.ref C_NoEnds) [.ref C_NoBound, .ref C_NoEnds]=some true)
  (ck_NoBound_ValueError:W.kitOne K (.ref C_NoBound) (.type "ValueError")=some true)
  (ck_NoBound_NoBound:W.kitOne K (.ref C_NoBound) (.ref C_NoBound)=some true)
  (ck_NoEnds_ValueError:W.kitOne K (.ref C_NoEnds) (.type "ValueError")=some true)
  (ck_NoEnds_NoBound:W.kitOne K (.ref C_NoEnds) (.ref C_NoBound)=some false)
  (ck_NoDrawing_ValueError:W.kitOne K (.ref C_NoDrawing) (.type "ValueError")=some true)
  (ck_NoDrawing_NoBound:W.kitOne K (.ref C_NoDrawing) (.ref C_NoBound)=some false)
  :∃fd:P7,(∀(s:P4) (v:P3),BindsTo s fd ⟨[v],[]⟩ [("_law_script",v)])/\∀base:Qb,K.In base->base.Ns mainGlobals mg->FnOk l.prog w K mg base CX0 59 fa fd ["_law_script"] (sp_law K):=by
 obtain⟨a0,d0,F0⟩:=h0;obtain⟨a1,d1,F1⟩:=h1;obtain⟨a2,d2,F2⟩:=h2;obtain⟨a3,d3,F3⟩:=h3;obtain⟨a4,d4,F4⟩:=h4;obtain⟨a5,d5,F5⟩:=h5;obtain⟨a6,d6,F6⟩:=h6;obtain⟨a7,d7,F7⟩:=h7;obtain⟨a8,d8,F8⟩:=h8;obtain⟨a9,d9,F9⟩:=h9;obtain⟨a10,d10,F10⟩:=h10;obtain⟨a11,d11,F11⟩:=h11;obtain⟨a12,d12,F12⟩:=h12;obtain⟨a13,d13,F13⟩:=h13;obtain⟨a14,d14,F14⟩:=h14;obtain⟨a15,d15,F15⟩:=h15;obtain⟨a16,d16,F16⟩:=h16;obtain⟨a17,d17,F17⟩:=h17;obtain⟨a18,d18,F18⟩:=h18;obtain⟨a19,d19,F19⟩:=h19;obtain⟨a20,d20,F20⟩:=h20;obtain⟨a21,d21,F21⟩:=h21;obtain⟨a22,d22,F22⟩:=h22;obtain⟨a23,d23,F23⟩:=h23;obtain⟨a24,d24,F24⟩:=h24;obtain⟨a25,d25,F25⟩:=h25;obtain⟨a26,d26,F26⟩:=h26;obtain⟨a27,d27,F27⟩:=h27;obtain⟨a28,d28,F28⟩:=h28;obtain⟨a29,d29,F29⟩:=h29;obtain⟨a30,d30,F30⟩:=h30;obtain⟨a31,d31,F31⟩:=h31;obtain⟨a32,d32,F32⟩:=h32;obtain⟨a33,d33,F33⟩:=h33;obtain⟨a34,d34,F34⟩:=h34;obtain⟨a35,d35,F35⟩:=h35;obtain⟨a36,d36,F36⟩:=h36;obtain⟨a37,d37,F37⟩:=h37;obtain⟨a38,d38,F38⟩:=h38;obtain⟨a39,d39,F39⟩:=h39;obtain⟨a40,d40,F40⟩:=h40;obtain⟨a41,d41,F41⟩:=h41;obtain⟨a42,d42,F42⟩:=h42;obtain⟨a43,d43,F43⟩:=h43;obtain⟨a44,d44,F44⟩:=h44;obtain⟨a45,d45,F45⟩:=h45;obtain⟨a46,d46,F46⟩:=h46;obtain⟨a47,d47,F47⟩:=h47;obtain⟨a48,d48,F48⟩:=h48;obtain⟨a49,d49,F49⟩:=h49;obtain⟨a50,d50,F50⟩:=h50;obtain⟨a51,d51,F51⟩:=h51;obtain⟨a52,d52,F52⟩:=h52;obtain⟨a53,d53,F53⟩:=h53;obtain⟨a54,d54,F54⟩:=h54;obtain⟨a55,d55,F55⟩:=h55;obtain⟨a56,d56,F56⟩:=h56;obtain⟨a57,d57,F57⟩:=h57;obtain⟨a58,d58,F58⟩:=h58;cases Ou.symm.trans (W.mg_of X G a58);have Wq:=F58;obtain⟨_,_,_,_,_,_,_,_,_,rfl,_⟩:=F58.ex;have g {n:Str}{v:P3} (e:W.nsIn K mainGlobals n=some (some v)):mg n=some v:=W.mg_of X G e;exact⟨_,λs v=> .of_eq rfl,λbase _ _=>Ko (⟨f0,_,f1,_,f2,_,f3,_,f4,_,f5,_,f6,_,f7,_,f8,_,f9,_,f10,_,f11,_,f12,_,f13,_,f14,_,f15,_,f16,_,f17,_,f18,_,f19,_,f20,_,f21,_,f22,_,f23,_,f24,_,f25,_,f26,_,f27,_,f28,_,f29,_,f30,_,f31,_,f32,_,f33,_,f34,_,f35,_,f36,_,f37,_,f38,_,f39,_,f40,_,f41,_,f42,_,f43,_,f44,_,f45,_,f46,_,f47,_,f48,_,f49,_,f50,_,f51,_,f52,_,f53,_,f54,_,f55,_,f56,_,f57,_,fa,_,fb1 F0 (g a0),fb3 F1 (g a1),fb2 F2 (g a2),fb1 F3 (g a3),fb2 F4 (g a4),fb1 F5 (g a5),fb1 F6 (g a6),fb3 F7 (g a7),fb1 F8 (g a8),fb2 F9 (g a9),fb2 F10 (g a10),fb3 F11 (g a11),fb2 F12 (g a12),fb1 F13 (g a13),fb3 F14 (g a14),fb2 F15 (g a15),fb2 F16 (g a16),fb4 F17 (g a17),fb4 F18 (g a18),fb1 F19 (g a19),fb4 F20 (g a20),fb2 F21 (g a21),fb2 F22 (g a22),fb1 F23 (g a23),fb4 F24 (g a24),fb3 F25 (g a25),fb4 F26 (g a26),fb2 F27 (g a27),fb2 F28 (g a28),fb2 F29 (g a29),fb4 F30 (g a30),fb2 F31 (g a31),fb2 F32 (g a32),fb2 F33 (g a33),fb2 F34 (g a34),fb2 F35 (g a35),fb1 F36 (g a36),fb1 F37 (g a37),fb1 F38 (g a38),fb2 F39 (g a39),fb2 F40 (g a40),fb4 F41 (g a41),fb2 F42 (g a42),fb2 F43 (g a43),fb0 F44 (g a44),fb2 F45 (g a45),fb1 F46 (g a46),fb1 F47 (g a47),fb2 F48 (g a48),fb4 F49 (g a49),fb2 F50 (g a50),fb1 F51 (g a51),fb5 F52 (g a52),fb5 F53 (g a53),fb4 F54 (g a54),fb2 F55 (g a55),fb5 F56 (g a56),fb2 F57 (g a57),fb1 Wq (g a58),Ax X G (zz _ (by decide)),Ax X G (zz _ (by decide)),Ax X G (zz _ (by decide)),Ax X G (zz _ (by decide)),Ax X G (zz _ (by decide)),Ax X G (zz _ (by decide)),Ax X G (zz _ (by decide)),Ax X G (zz _ (by decide)),Ax X G (zz _ (by decide)),Ax X G (zz _ (by decide)),Ax X G (zz _ (by decide)),Ax X G (zz _ (by decide)),Ax X G (zz _ (by decide)),Ax X G (zz _ (by decide)),Ax X G (zz _ (by decide)),Ax X G (zz _ (by decide)),Ax X G (zz _ (by decide)),A_WIDE,g da_WIDE,dt_WIDE,C_NoBound,g ca_NoBound,C_NoEnds,g ca_NoEnds,C_NoDrawing,g ca_NoDrawing,cx_NoBound,xc_NoBound,cx_NoEnds,xc_NoEnds,cx_NoDrawing,xc_NoDrawing,ce_NoBound_NoBound_or_NoEnds,ce_NoEnds_NoBound_or_NoEnds,ck_NoBound_ValueError,ck_NoBound_NoBound,ck_NoEnds_ValueError,ck_NoEnds_NoBound,ck_NoDrawing_ValueError,ck_NoDrawing_NoBound⟩:Fns K mg)⟩
theorem walk {l:W.OpenLaw}{q:P6}{L6:P' Str}{XP:(Str->Qc P3)->Qb->Prop}{YP:P8->Qb->Prop}{d:DefRec}{K:Params->W.Frag} (hn:l.most=some 63) (hdf:d.params.defaults=[])
  (hY:∀(w:P8) (h:Qb),YP w h->(K w.params).In h)
  (F:∀(w:P8) (mg:Str->Qc P3) (fa:P5) (h:Qb),(K w.params).In h->h.Ns mainGlobals mg->mg d.name=some (.ref fa)->
   ∃fd:P7,(∀(s:P4) (u:P3),BindsTo s fd ⟨[u],[]⟩ [("_law_script",u)])/\∀base:Qb,(K w.params).In base->base.Ns mainGlobals mg->FnOk l.prog w (K w.params) mg base CX0 59 fa fd ["_law_script"] (sp_law (K w.params))):
  W.WalkO q L6 XP YP l.row.toRowW d [] (λf vs=>PySem.call f vs):=
 L2.zY (n:=63) (k:=59) (x:="_law_script") (CX:=λ_=>CX0) (sp:=λw=>sp_law (K w.params)) hn (by decide) hdf ⟨rfl,by decide,by decide⟩ hY F (λ_ _ a ns hl _ hS=>⟨a,ns,rfl,hS,hl,λ_=>rfl⟩) λ_ _ _ _ _ z=>z
end Mine
open PySem PySem.W PyProof.Rows
set_option genSizeOf false
set_option genInjectivity false
structure PySem.W.Fast:Prop where
 (tw1423701960331342601 tw10215706166455643875 tw989713096577817941 tw5473297674307178910 tw14240220330621429961 tw17603368135360307280 tw5648201670156090235 tw10111967011106937346 tw16926890847151306139 tw12491008302775468861 tw6057761091309544381 tw17181221268461705377 tw7394141299895901725 tw4365039540810574992 tw2480534553458383056 tw3349303976606417086 tw4708905404538415098 tw10875955646982117843 tw13627654019688260824 tw4461731078561897011 tw17319549691577048144 tw14259349786193200536 tw466953747908902895 tw6550753269838280905 tw9813258079394121465 tw3158210131866582285 tw8341059414696519855 tw6152492376150147615 tw8009653149161880769 tw2881799019361233135 tw12266867646629283259 tw8795740947766699068 tw1262079532911358464 tw6079032034636804900 tw8187663384176748346 tw3336715133251780626 tw9784864409018902842 tw5597442772587451887 tw15993690910830160242 tw16424404899198936002 tw12787106420185097173 tw6397986059932546206 tw1372856137667126430 tw15450568378395281858 tw13616742068040672314 tw6147422227128028281 tw8792887724734637728 tw9520967180794905764 tw9493643455172703146 tw9034627953042224945 tw2277234836461944343 tw12661789913304641968 tw18176288845651168055 tw9423628134200897484 tw13867845567820973364 tw4924959615830113544 tw12559310376609400003 tw5259569401812390742 tw383591266885104261 tw6244969701234013679 tw9757696242385200511 tw4351445360437823606 tw1662421154318106071 tw12801661753300315713 tw11971177412360200140 tw9456347758678167621 tw17317819106050407608 tw12929614664954029133 tw4208923158688828492 tw11844033400503328294 tw15743843372036829203 tw9541984380293858828 tw4011331748976245293 tw3072821077114215177 tw3970604445011749753 tw5593654520251694983 tw12421722152126235290 tw14680749467079234727 tw16190062093602004999 tw4232392071097032368 tw11540920810447112014 tw14825591731530752664 tw186522231932578362 tw12158823390314121635 tw10738279114422027699 tw18331378493670130382 tw9349600030617199886 tw7569461867066542876 tw16722546029420584905 tw17654852424593595046 tw1651823263009726958 tw18245983032622346345 tw8116933772470213056 tw1113456519881748907 tw7591774647136594106 tw9358447814741644768 tw17063410597232075708 tw17043259467142219239 tw15869946279837026880 tw9593732353848690661 tw7152331129329878337 tw1264732249353631848 tw9817938603549974120 tw4593260165367885776 tw17901546558660805326 tw10194972031914979545 tw16770590026213433041 tw18331830942849552533 tw13402684389039553929 tw9417519237577114446 tw756060395318845515 tw142006957184359871 tw2270164617553137406 tw4239085421835057707 tw9162506132987540535 tw2225227648198407659 tw6921570488438073270 tw10474178889472523086 tw11901609186394806058 tw9647980891305674399 tw17103784721770680178 tw4956994670531362463 tw8180164901268501652 tw11777704303606593012 tw12222267791371720609 tw9703050242780732725 tw5128406273050532442 tw17206804188738199214 tw9092902788055853859 tw7967083685278875100 tw16358175900061834745 tw10524682637091672038 tw13840531642500062461 tw16192892991256077069 tw819009952906787977 tw10049749926219488184 tw8200447325390981466 tw17347703987923504356 tw4546061805816121665 tw10843395926715008991 tw10466562450564911791 tw7852556246800880594 tw1592445425370462938 tw12386109785558780352 tw15244675926444375803 tw4704257275426389609 tw7850082051694164948 tw18184483804052731830 tw16799384137280512843 tw854332176523933024 tw7797698599758616847 tw9422622732010400573 tw13572585848825751293 tw8989373311201311347 tw8845011382986949780 tw7509074015722241713 tw11528730657467924800 tw1026439582803071250 tw17161352549406003392 tw11817189468214732983 tw5717910536638325504 tw11067961504942646458 tw14217300503200720506 tw17339657347699040560 tw1240244239624776994 tw2418038104993657335 tw16910463242756142738 tw6533623591664778238 tw6859281396342229162 tw3312138604065965072 tw4052891970035066801 tw2785843963478594579 tw10676807826009076690 tw12548085301836999382 tw12792753485903626163 tw2756776959500107841 tw9043640023976294117 tw7578043792887899502 tw10554762748938844209 tw10167316507664593880 tw13006749334566707194 tw3884674788624267344 tw7722893162613628498 tw14311976731951238970 tw16865230872274276078 tw16186053582236756300 tw5480308084471556573 tw151725513306876712 tw3065650318929408211 tw12588703653404404684 tw15651632544115244137 tw9858933924482865978 tw10009302959080405383 tw15129017670893077617 tw1223868233855831587 tw16679925460904163082 tw9045190422101890917 tw9835882910132180163 tw13121772940679355281 tw3363221179023675167 tw3804588758495228223 tw7868312416018817366 tw13153162750167579558 tw3815214481193681423 tw14392556364800595717 tw16781745227681298377 tw1437576251197751450 tw9186138481945606420 tw12377541905860420932 tw1103774410837704420 tw14468266548240414470 tw13759234095437525427 tw7055532982695936625 tw17647897241354093664 tw3274922658811396446 tw11949432915475085349 tw16059497845634248363 tw17155329136844427213 tw8383445347980559204 tw8605356749402155715 tw2422955076477057155 tw9518771467835406435 tw17520145530739134300 tw698458815182456233 tw4617599463961949350 tw5799266936447317766 tw4069853914313543841 tw10079352270325350632 tw14814187344346767711 tw17227276882996612982 tw10998097908710874710 tw4120100287407752834 tw17346512527579630798 tw15953143964012148269 tw5723209972817101699 tw10656273992725047389 tw4670533823341864027 tw12868147634532063317 tw16025865242247258239 tw14430287399483576067 tw10378708775184803456 tw2774104780652770094 tw7600277880343106111 tw5607231055621366803 tw5660149545754654964 tw11750130673747806493 tw3615785038834777860 tw5161456706246694854 tw18146432216371973532 tw7357992179033802680 tw7785777809041619356 tw3760124127225642327 tw8141711975990196780 tw2564906204922349611 tw13055617898926019456 tw7292459183551901065 tw17044283339930115779 tw10704138515861507486 tw14966458282338061221 tw5684403804167775638 tw13745562112215221048 tw10768455936600281791 tw11554177745113636219 tw16821472814780138483 tw13315638719186030037 tw14229999910861282854 tw6487726486266976961 tw14688328299921804702 tw15347382534947616689 tw3337411828328347944 tw10651427829510986401 tw12062962049201437070 tw12334580673181940582 tw4979606388548672296 tw13606831675589286222 tw10987944115070452387 tw15552252821871640118 tw7845155725913563625 tw17502051719627767340 tw16153718448715000695 tw2343784173404738496 tw4561997595118478563 tw9374198690606296345 tw18337265993442924668 tw4133203635476090951 tw268908156623776312 tw17286708780551964247 tw14689141373218518693 tw12046849401515619213 tw17195487567168291198 tw14969569057161230453 tw8583241954775450479 tw3054748523960357805 tw15270041915370400553 tw5125520145283266414 tw327900809782287971 tw3124214522240885359 tw6193443239759849515 tw3160575189926320879 tw16583646028476528614 tw3451585648432399728 tw8004151956000759303 tw14295627119997838197 tw16281463287778025925 tw11851507832757846081 tw17148925066763762786 tw8956933489246080211 tw17091838145128058093 tw16653702550890309223 tw17122385907407849121 tw15517590424916811371 tw13146469018064404809 tw5415837848724337314 tw2372547428399764 tw17230566764471351566 tw3761939109612180906 tw3214981909734608898 tw15067388796778046455 tw5990403242690449655 tw10860341206821970448 tw8072704204646214992 tw10048560926573764359 tw3192004652640329547 tw17888569051451526298 tw2977606853450095294 tw957874288000505009 tw15744038900483772157 tw14737711238677487247 tw16210415902918930243 tw13540059735612469437 tw2046314839519626352 tw5691750660901261307 tw10085679625941996621 tw2801293090107241041 tw8451982721922869077 tw16243658234978409862 tw6814904656777628005 tw12590597385103580488 tw4460116127773092775 tw16961587048956661594 tw2796925596785496199 tw6919454060224608285 tw8710844843299744876 tw934254115537197134 tw15664950906911005703 tw3917559752579005505 tw2029584985553436588 tw2866587192919420092 tw11278088559456143399 tw8278822032840012734 tw4303443211264271447 tw8588629738919316787 tw2304847783893412672 tw4759024533054813116 tw14995247470752286019 tw2797065306944142977 tw16812173352704928242 tw14439851981353745309 tw15988799541992764886 tw14971811795884597120 tw12292871046789234036 tw5522692519728072392 tw4422480609724371811 tw13536997000444999392 tw10916516202097115571 tw1565525759311351792 tw9167215530054346929 tw7485859993714377998 tw14092930663533622821 tw10412493565781817995 tw3517289662546329991 tw8775296102458626275 tw7667750110758099882 tw13880931451000285979 tw18227863813888881102 tw12416246860177991663 tw17839634297047906371 tw2128202644310826423 tw13328743255142933672 tw8275373060811594824 tw7338630089477254248 tw12753153099197325696 tw17397310725833197776 tw9819685723803321693 tw14363011665013321298 tw5709642878768467649 tw16666632811100896817 tw5720157274548318055 tw3112559240840687533 tw16247165145631342742 tw11958060319829909238 tw16205761938205215843 tw3233177704380179375 tw15771224546189645518 tw1581952348237441078 tw1387137938138729080 tw8455543643135073028 tw2753492504169210694 tw14751065837765072581 tw234883839212486918 tw9491969927232383313 tw6779867177584645979 tw11657306032320979451 tw7555316033461343086 tw15031210427737144429 tw13772090194154778579 tw7039180716145270848 tw7431085888034148696 tw9356515489686831598 tw7517222062286730830 tw4794129677617399647 tw11936083373865339904 tw6714682795832249235 tw14051529593111820804 tw7884264847330751398 tw13264559951419062458 tw11461012590835694772 tw18259597693020431399 tw453389518286323043 tw6725636008665547415 tw18226572072640661435 tw14727556173812078248 tw17078107328608436805:True)
set_option maxRecDepth 100000 in
set_option maxHeartbeats 0 in
theorem PySem.Challenge.cw_floorcurves_k72_ends_shaded_holds : PySem.Challenge.rw_floorcurves_k72_ends_shaded.Holds := by
 w_on; o_law; k_head; (case hw => w_witness2)
 k_fill
 refine Mine.walk (l := PySem.Challenge.rw_floorcurves_k72_ends_shaded) rfl rfl (λw h Y => PySem.W.kIn_of Y) ?F
 case F =>
  intro w mg fa h KX G hmg
  refine' Mine.Kq KX G hmg ?h0 ?h1 ?h2 ?h3 ?h4 ?h5 ?h6 ?h7 ?h8 ?h9 ?h10 ?h11 ?h12 ?h13 ?h14 ?h15 ?h16 ?h17 ?h18 ?h19 ?h20 ?h21 ?h22 ?h23 ?h24 ?h25 ?h26 ?h27 ?h28 ?h29 ?h30 ?h31 ?h32 ?h33 ?h34 ?h35 ?h36 ?h37 ?h38 ?h39 ?h40 ?h41 ?h42 ?h43 ?h44 ?h45 ?h46 ?h47 ?h48 ?h49 ?h50 ?h51 ?h52 ?h53 ?h54 ?h55 ?h56 ?h57 ?h58 ?zz ?da_WIDE ?dt_WIDE ?ca_NoBound ?ca_NoEnds ?ca_NoDrawing ?cx_NoBound ?xc_NoBound ?cx_NoEnds ?xc_NoEnds ?cx_NoDrawing ?xc_NoDrawing ?ce_NoBound_NoBound_or_NoEnds ?ce_NoEnds_NoBound_or_NoEnds ?ck_NoBound_ValueError ?ck_NoBound_NoBound ?ck_NoEnds_ValueError ?ck_NoEnds_NoBound ?ck_NoDrawing_ValueError ?ck_NoDrawing_NoBound
  (case h0 | h1 | h2 | h3 | h4 | h5 | h6 | h7 | h8 | h9 | h10 | h11 | h12 | h13 | h14 | h15 | h16 | h17 | h18 | h19 | h20 | h21 | h22 | h23 | h24 | h25 | h26 | h27 | h28 | h29 | h30 | h31 | h32 | h33 | h34 | h35 | h36 | h37 | h38 | h39 | h40 | h41 | h42 | h43 | h44 | h45 | h46 | h47 | h48 | h49 | h50 | h51 | h52 | h53 | h54 | h55 | h56 | h57 | h58 => refine' Mine.Kp ?a ?l ?c ?k; (case a => k_is); (case l => k_is); (case c => k_is); (case k => k_is))
  (case zz => intro n hn; simp only [List.mem_cons, List.not_mem_nil, or_false] at hn; rcases hn with rfl | rfl | rfl | rfl | rfl | rfl | rfl | rfl | rfl | rfl | rfl | rfl | rfl | rfl | rfl | rfl | rfl <;> k_is)
  (case da_WIDE => k_is)
  (case dt_WIDE => first | k_is | kit_is | kts_exm | kernel_rfl)
  (case ca_NoBound | ca_NoEnds | ca_NoDrawing | cx_NoBound | cx_NoEnds | cx_NoDrawing => first | k_is | kit_is | kts_exm | kernel_rfl)
  (case xc_NoBound | xc_NoEnds | xc_NoDrawing => constructor <;> first | k_is | kit_is | kts_exm | kernel_rfl)
  (case ce_NoBound_NoBound_or_NoEnds | ce_NoEnds_NoBound_or_NoEnds | ck_NoBound_ValueError | ck_NoBound_NoBound | ck_NoEnds_ValueError | ck_NoEnds_NoBound | ck_NoDrawing_ValueError | ck_NoDrawing_NoBound => first | k_is | kit_is | kts_exm | kernel_rfl)
