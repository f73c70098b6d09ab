import PyProof.Rows.All
import Wide.All
import OpenK.AllK
import Wide.FinOn
import KE.KTryMore
import PyProof.NsDelKeeps
import PyProof.ListRange
import PyProof.Draws
import PyProof.EnumMake
import KE.KUnpack
import KE.KLam
import KE.KRevIter
import KE.KDictOf
import PyProof.AttrMissSeq
import KE.KDictList
import KE.LcSums
import KE.KSortTup
import KE.KIntText
import PyProof.StrLawsTight
import PyProof.StrLawsChain
import PyProof.Rows.StrItems
import PyProof.NeKinds
import PyProof.Rows.SetFrom
import PyProof.DictFindH
import Lean
import PyProof.EqAt
import PyProof.EqKinds
import PyProof.TupleCall
import PyProof.ListStr
import KE.KRevSl
import PyProof.Rows.Range3
import PySem.Challenge.RW_spreadwords_k08_alike_to_a_length
set_option Elab.async false
set_option linter.all false
set_option maxRecDepth 100000
set_option maxHeartbeats 4000000
namespace L2
open PySem PySem.Spec PyProof.Rows
abbrev Key:=Sum Int Str
def keyIs:Key→Value→Bool
 | .inl k,v=>Value.isInt k v
 | .inr x,v=>Value.isStrOf x v
def keyH (w:World):Key→Int
 | .inl k=>hashInt k
 | .inr x=>hashStr w x
theorem keyIs_shape:∀ {k:Key} {v:Value},keyIs k v=true→(∃ i t,k=Sum.inl i∧v=Value.int i t)∨(∃ x t,k=Sum.inr x∧v=Value.str x t)
 | .inl i,v,h=>by
  obtain ⟨t,e⟩:=Value.isInt_shape (k:=i) (v:=v) h
  exact .inl ⟨i,t,rfl,e⟩
 | .inr x,v,h=>by
  obtain ⟨t,e⟩:=Value.isStrOf_shape (x:=x) (v:=v) h
  exact .inr ⟨x,t,rfl,e⟩
theorem keyIs_int (i:Int) (t:Tok):keyIs (.inl i) (.int i t)=true:=by simp [keyIs,Value.isInt]
theorem keyIs_str (x:Str) (t:Tok):keyIs (.inr x) (.str x t)=true:=by simp [keyIs,Value.isStrOf]
theorem key_ll (a b:Int):decide ((Sum.inl a:Key)=Sum.inl b)=(a==b):=by
 by_cases e:a=b
 ·subst e; simp
 ·have h:¬ (Sum.inl a:Key)=Sum.inl b:=fun q=>e (Sum.inl.inj q)
  rw [decide_eq_false h]
  exact (beq_eq_false_iff_ne.mpr e).symm
theorem key_rr (a b:Str):decide ((Sum.inr a:Key)=Sum.inr b)=decide (a=b):=by
 by_cases e:a=b
 ·subst e; simp
 ·have h:¬ (Sum.inr a:Key)=Sum.inr b:=fun q=>e (Sum.inr.inj q)
  rw [decide_eq_false h,decide_eq_false e]
theorem key_lr (a:Int) (b:Str):decide ((Sum.inl a:Key)=Sum.inr b)=false:=decide_eq_false (fun q=>nomatch q)
theorem key_rl (a:Str) (b:Int):decide ((Sum.inr a:Key)=Sum.inl b)=false:=decide_eq_false (fun q=>nomatch q)
def mixKind (prog:Program) (w:World):PySem.KeyKind prog w Key where
 is:=keyIs
 hash:=keyH w
 inj:=fun v a b ha hb=>by
  rcases keyIs_shape ha with ⟨i,t,rfl,rfl⟩ | ⟨x,t,rfl,rfl⟩
  ·rcases keyIs_shape hb with ⟨j,u,rfl,e⟩ | ⟨y,u,rfl,e⟩
   ·injection e with e1 _; rw [e1]
   ·exact nomatch e
  ·rcases keyIs_shape hb with ⟨j,u,rfl,e⟩ | ⟨y,u,rfl,e⟩
   ·exact nomatch e
   ·injection e with e1 _; rw [e1]
 byValue:=fun k v h=>by
  rcases keyIs_shape h with ⟨i,t,rfl,rfl⟩ | ⟨x,t,rfl,rfl⟩ <;> rfl
 pyHash:=fun hv h=>by
  rcases keyIs_shape hv with ⟨i,t,rfl,rfl⟩ | ⟨x,t,rfl,rfl⟩
  ·exact wpAny_pyHash_int h
  ·exact wpAny_pyHash_str h
 eqBool:=fun hu hv h=>by
  rcases keyIs_shape hu with ⟨i,t,rfl,rfl⟩ | ⟨x,t,rfl,rfl⟩
  ·rcases keyIs_shape hv with ⟨j,u,rfl,rfl⟩ | ⟨y,u,rfl,rfl⟩
   ·rw [key_ll] at h; exact wpAny_eqBool_int h
   ·rw [key_lr] at h; exact SeqAt.EqAt.int_str i t y u _ _ _ _ h
  ·rcases keyIs_shape hv with ⟨j,u,rfl,rfl⟩ | ⟨y,u,rfl,rfl⟩
   ·rw [key_rl] at h; exact SeqAt.EqAt.str_int x t j u _ _ _ _ h
   ·rw [key_rr] at h; exact wpAny_eqBool_str h
 «strs»:=fun k x t v h=>by
  rcases keyIs_shape h with ⟨i,u,rfl,e⟩ | ⟨y,u,rfl,e⟩
  ·exact nomatch e
  ·injection e with e1 _
   subst e1
   cases v <;> rfl
theorem mixKind_int (prog:Program) (w:World) (i:Int) (t:Tok):(mixKind prog w).is (.inl i) (.int i t)=true:=keyIs_int i t
theorem mixKind_str (prog:Program) (w:World) (x:Str) (t:Tok):(mixKind prog w).is (.inr x) (.str x t)=true:=keyIs_str x t
end L2
namespace L2
open PySem PySem.Spec PyProof.Rows
inductive V where
 | non | bl (b:Bool) | int (i:Int) | str (x:Str) | byt (b:Array UInt8) | flt (b:UInt64) | ref (a:Addr) | ty (n:String)
 deriving DecidableEq
def RelV:V→Value→Prop
 | .non,u=>u=Value.none
 | .bl b,u=>u=Value.bool b
 | .int i,u=>∃ t,u=Value.int i t
 | .str x,u=>∃ t,u=Value.str x t
 | .byt b,u=>∃ t,u=Value.bytes b t
 | .flt b,u=>∃ t,u=Value.float b t
 | .ref a,u=>u=Value.ref a
 | .ty n,u=>u=Value.type n
abbrev Vals:List V→List Value→Prop:=Paired RelV
theorem Vals.length {xs:List V} {us:List Value} (r:Vals xs us):xs.length=us.length:=Paired.length r
theorem Vals.get:∀ {xs:List V} {us:List Value} {i:Nat} {x:V},Vals xs us→xs[i]? = some x→∃ u,us[i]? = some u∧RelV x u
 | _,_,_,_,.nil,e=>by simp at e
 | _,_,0,_,.cons r _,e=>by simp at e; subst e; exact ⟨_,rfl,r⟩
 | _,_,i+1,x,.cons _ t,e=>by
  obtain ⟨u,h1,h2⟩:=Vals.get (i:=i) (x:=x) t (by simpa using e)
  exact ⟨u,by simpa using h1,h2⟩
theorem Vals.set {x:V} {u:Value} (r:RelV x u):∀ {xs:List V} {us:List Value} (i:Nat),Vals xs us→Vals (xs.set i x) (us.set i u)
 | _,_,_,.nil=>.nil
 | _,_,0,.cons _ t=>.cons r t
 | _,_,i+1,.cons q t=>.cons q (Vals.set r i t)
theorem Vals.append:∀ {xs ys:List V} {us ws:List Value},Vals xs us→Vals ys ws→Vals (xs ++ ys) (us ++ ws)
 | _,_,_,_,.nil,s=>s
 | _,_,_,_,.cons r t,s=>.cons r (Vals.append t s)
theorem Vals.none_of:∀ {xs:List V} {us:List Value} {i:Nat},Vals xs us→xs[i]? = none→us[i]? = none:=fun {xs us i} r e=>by
 have h1:=r.length
 have h2:xs.length≤i:=List.getElem?_eq_none_iff.mp e
 exact List.getElem?_eq_none_iff.mpr (by omega)
def RelO:Option V→Option Value→Prop
 | some v,some u=>RelV v u
 | none,none=>True
 | _,_=>False
def KV {κ:Type}:List (κ × V)→List (κ × Value)→Prop:=Paired fun (p:κ × V) (q:κ × Value)=>p.1=q.1∧RelV p.2 q.2
def kV:Key→V
 | .inl i=>.int i
 | .inr x=>.str x
inductive HO where
  | lst (xs:List V)
  | tup (xs:List V)
  | dK (kvs:List (Key × V)) | dT (kvs:List (List Key × V))
  | set (S:Int→Bool) (n:Nat)
  | ins (C dx:Addr) (fs:List (Str × V))
  | own (x:Addr)
  | xd (fs:List (Str × V))
  | met (f x:Addr)
  | rng (lo hi:Int)
  | frz (o:Obj) (u:HO)
  | tbl (ps:Array Value)
  | ext (φ:Heap→Prop)
abbrev Hp:=Addr→Option HO
def upd (H:Hp) (a:Addr) (o:HO):Hp:=fun b=>if b=a then some o else H b
theorem upd_same {H:Hp} {a:Addr} {o:HO}:upd H a o a=some o:=by unfold upd; rw [if_pos rfl]
theorem upd_ne {H:Hp} {a b:Addr} {o:HO} (h:b≠a):upd H a o b=H b:=by unfold upd; rw [if_neg h]
theorem upd_upd {H:Hp} {a:Addr} {o u:HO}:upd (upd H a o) a u=upd H a u:=by
 funext b; unfold upd; split <;> rfl
theorem ne_of {H:Hp} {a b:Addr} {o u:HO} (h:H a=some o) (h':H b=some u) (d:o≠u):a≠b:=by
 intro e; subst e; rw [h] at h'; exact d (Option.some.inj h')
theorem ne_of_none {H:Hp} {a b:Addr} {o:HO} (h:H a=some o) (h':H b=none):a≠b:=by
 intro e; subst e; rw [h] at h'; cases h'
section
variable (P:Program) (w:World)
def ObjOk (H:Hp) (h:Heap) (a:Addr):HO→Prop
 | .lst xs=>xs.length≤sizeLine∧∃ (its:List Value) (n:Nat),Vals xs its∧h.get? a=some { cls:=.type "list",data:=.seq its.toArray n }
 | .tup xs=>xs.length≤sizeLine∧∃ its:List Value,Vals xs its∧IsTup h a its.toArray
 | .dK kvs=>kvs.length≤sizeLine∧(a==sysModules)=false∧∃ vs,KV kvs vs∧h.DictOf (mixKind P w) a vs
 | .dT kvs=>kvs.length≤sizeLine∧(a==sysModules)=false∧∃ xs:List (List Key × Addr × Value),
   Paired (fun (p:List Key × V) (q:List Key × Addr × Value)=>p.1=q.1∧H q.2.1=some (.tup (p.1.map kV))∧RelV p.2 q.2.2) kvs xs∧
   ∃ o es ep,h.get? a=some o∧o.ExactDict∧o.data=.dict es ep∧es.toList=xs.map (entryOfKey (tupleKind (mixKind P w)))∧(xs.map (·.1)).Nodup
 | .set S n=>h.SetOf (intKind P w) a S n
 | .ins C dx fs=>H dx=some (.own a)∧fs.length≤1000∧dx≠a∧h.get? a=some (PySem.W.instObj C dx)∧
   ∃ mA,h.Ns1 dx mA∧(∀ f,RelO (fs.lookup f) (mA f))∧PySem.Within mA (fs.map (·.1))
 | .own _=>∃ o,h.get? a=some o
 | .xd fs=>∃ mA,h.Ns1 a mA∧∀ f,RelO (fs.lookup f) (mA f)
 | .rng lo hi=>∃ t u v,h.get? a=some { cls:=.type "range",data:=.fields #[.int lo t,.int hi u,.int 1 v] }
 | .frz o u=>h.get? a=some o∧ObjOk H h a u
 | .tbl ps=>h.get? a=some { cls:=.none,data:=.fields ps }
 | .met f x=>h.get? a=some (PySem.W.methodObj (.ref f) (.ref x))
 | .ext φ=>φ h∧(∃ o,h.get? a=some o)∧∀ h1 h2:Heap,φ h1→(∀ o,h1.get? a=some o→h2.get? a=some o)→φ h2
def HOk (H:Hp) (h:Heap):Prop:=∀ a o,H a=some o→ObjOk P w H h a o
end
section
variable {P:Program} {w:World} {H H':Hp} {h h':Heap} {a:Addr} {o:HO}
theorem ObjOk.lt (x:ObjOk P w H h a o):a < h.objs.size:=by
 cases o with
 | lst xs=>obtain ⟨_,_,_,_,e⟩:=x; exact Heap.lt_size e
 | tup xs=>obtain ⟨_,_,_,p⟩:=x; exact p.lt
 | dK kvs=>obtain ⟨_,_,_,_,o,_,_,e,_⟩:=x; exact Heap.lt_size e
 | dT kvs=>obtain ⟨_,_,_,_,o,_,_,e,_⟩:=x; exact Heap.lt_size e
 | set S n=>obtain ⟨o,_,_,_,e,_⟩:=x; exact Heap.lt_size e
 | ins C dx fs=>obtain ⟨_,_,_,e,_⟩:=x; exact Heap.lt_size e
 | own y=>obtain ⟨_,e⟩:=x; exact Heap.lt_size e
 | xd fs=>obtain ⟨_,⟨_,_,_,e,_⟩,_⟩:=x; exact Heap.lt_size e
 | rng lo hi=>obtain ⟨_,_,_,e⟩:=x; exact Heap.lt_size e
 | frz ob u=>obtain ⟨e,_⟩:=x; exact Heap.lt_size e
 | tbl ps=>exact Heap.lt_size (show h.get? a=some _ from x)
 | met f y=>exact Heap.lt_size (show h.get? a=some _ from x)
 | ext φ=>obtain ⟨_,⟨_,e⟩,_⟩:=x; exact Heap.lt_size e
theorem Paired.mapP {α β:Type} {F G:α→β→Prop}:∀ {l₁:List α} {l₂:List β},Paired F l₁ l₂→(∀ a b,F a b→G a b)→Paired G l₁ l₂
 | _,_,.nil,_=>.nil
 | _,_,.cons r t,f=>.cons (f _ _ r) (Paired.mapP t f)
theorem ObjOk.stay (x:ObjOk P w H h a o) (k:∀ b u,(b=a∨H b=some (.own a))→h.get? b=some u→h'.get? b=some u)
  (ho:∀ b,H b=some (.own a)→H' b=some (.own a)) (ht:∀ b xs,H b=some (.tup xs)→H' b=some (.tup xs)):ObjOk P w H' h' a o:=by
 induction o with
 | lst xs=>obtain ⟨z,its,n,r,e⟩:=x; exact ⟨z,its,n,r,k _ _ (.inl rfl) e⟩
 | tup xs=>obtain ⟨z,its,r,ob,e,c⟩:=x; exact ⟨z,its,r,ob,k _ _ (.inl rfl) e,c⟩
 | dK kvs=>obtain ⟨z,y,vs,r,ob,es,ep,e,c⟩:=x; exact ⟨z,y,vs,r,ob,es,ep,k _ _ (.inl rfl) e,c⟩
 | dT kvs=>
  obtain ⟨z,y,xs,r,ob,es,ep,e,c⟩:=x
  exact ⟨z,y,xs,Paired.mapP r fun p q z=>⟨z.1,ht _ _ z.2.1,z.2.2⟩,ob,es,ep,k _ _ (.inl rfl) e,c⟩
 | set S n=>obtain ⟨ob,es,ep,t,e,c⟩:=x; exact ⟨ob,es,ep,t,k _ _ (.inl rfl) e,c⟩
 | ins C dx fs=>
  obtain ⟨d,z,ne,e,mA,⟨od,es,ep,e2,c⟩,r⟩:=x
  exact ⟨ho _ d,z,ne,k _ _ (.inl rfl) e,mA,⟨od,es,ep,k _ _ (.inr d) e2,c⟩,r⟩
 | own y=>obtain ⟨ob,e⟩:=x; exact ⟨ob,k _ _ (.inl rfl) e⟩
 | xd fs=>obtain ⟨mA,⟨od,es,ep,e,c⟩,r⟩:=x; exact ⟨mA,⟨od,es,ep,k _ _ (.inl rfl) e,c⟩,r⟩
 | rng lo hi=>obtain ⟨t,u,v,e⟩:=x; exact ⟨t,u,v,k _ _ (.inl rfl) e⟩
 | frz ob u ih=>obtain ⟨e,q⟩:=x; exact ⟨k _ _ (.inl rfl) e,ih q⟩
 | tbl ps=>
  have e:h.get? a=some { cls:=.none,data:=.fields ps }:=x
  show h'.get? a=some { cls:=.none,data:=.fields ps }
  exact k a _ (.inl rfl) e
 | met f y=>
  have e:h.get? a=some (PySem.W.methodObj (.ref f) (.ref y)):=x
  show h'.get? a=some (PySem.W.methodObj (.ref f) (.ref y))
  exact k a _ (.inl rfl) e
 | ext φ=>obtain ⟨p,⟨o,e⟩,st⟩:=x; exact ⟨st _ _ p fun o q=>k _ _ (.inl rfl) q,⟨o,k _ _ (.inl rfl) e⟩,st⟩
theorem HOk.lt (x:HOk P w H h) (e:H a=some o):a < h.objs.size:=(x a o e).lt
theorem HOk.fresh (x:HOk P w H h) (e:h.objs.size≤a):H a=none:=by
 cases q:H a with
 | none=>rfl
 | some u=>exact absurd (Nat.lt_of_lt_of_le (x.lt q) e) (Nat.lt_irrefl _)
theorem HOk.kept (x:HOk P w H h) (k:∀ b u,h.get? b=some u→h'.get? b=some u):HOk P w H h':=fun a o e=>
 (x a o e).stay (fun b u _ q=>k b u q) (fun _ q=>q) fun _ _ q=>q
theorem HOk.laid (x:HOk P w H h) (k:∀ b u,h.get? b=some u→h'.get? b=some u) (hp:h.objs.size≤a) (new:ObjOk P w (upd H a o) h' a o):HOk P w (upd H a o) h':=fun b u e=>by
 have hn:=x.fresh hp
 by_cases hb:b=a
 ·subst hb; rw [upd_same] at e; cases e; exact new
 ·rw [upd_ne hb] at e
  exact (x b u e).stay (fun c v _ q=>k c v q) (fun c q=>by rw [upd_ne (ne_of_none q hn)]; exact q) fun c xs q=>by rw [upd_ne (ne_of_none q hn)]; exact q
end
def Rd (H:Hp) (a:Addr) (u:HO):Prop:=H a=some u∨∃ o,H a=some (.frz o u)
theorem Rd.ok {P:Program} {w:World} {H:Hp} {h:Heap} {a:Addr} {u:HO} (r:Rd H a u) (x:HOk P w H h):ObjOk P w H h a u:=by
 rcases r with r | ⟨o,r⟩
 ·exact x a u r
 ·obtain ⟨_,q⟩:=x a _ r
  exact q
def Mut:Option HO→Prop
 | some (.lst _)=>True
 | some (.dK _)=>True
 | some (.dT _)=>True
 | some (.set _ _)=>True
 | some (.ins _ _ _)=>True
 | some (.ext _)=>True
 | _=>False
section
variable {P:Program} {w:World} {H:Hp} {h h':Heap} {x e:Addr} {o':HO}
theorem HOk.write (ok:HOk P w H h) (mu:Mut (H x)) (he:e=x∨H e=some (.own x)) (k:∀ b u,b≠e→h.get? b=some u→h'.get? b=some u) (heo:∃ u,h'.get? e=some u)
  (new:ObjOk P w (upd H x o') h' x o'):HOk P w (upd H x o') h':=fun b u q=>by
 have nown:∀ c y,H c=some (.own y)→c≠x:=fun c y r z=>by subst z; rw [r] at mu; exact mu
 have ntup:∀ c xs,H c=some (.tup xs)→c≠x:=fun c xs r z=>by subst z; rw [r] at mu; exact mu
 by_cases hb:b=x
 ·subst hb; rw [upd_same] at q; cases q; exact new
 ·rw [upd_ne hb] at q
  by_cases hbe:b=e
  ·have q':H b=some (.own x):=by
    rcases he with z | z
    ·exact absurd (hbe.trans z) hb
    ·rw [hbe]; exact z
   rw [q] at q'; cases q'
   obtain ⟨v,hv⟩:=heo
   exact ⟨v,by rw [hbe]; exact hv⟩
  ·refine (ok b u q).stay (fun c v hc r=>k c v ?_ r) (fun c r=>by rw [upd_ne (nown c b r)]; exact r) fun c xs r=>by rw [upd_ne (ntup c xs r)]; exact r
   rcases hc with rfl | hc
   ·exact hbe
   ·rintro rfl
    rcases he with z | z
    ·exact nown c b hc z
    ·rw [hc] at z; cases z; exact hb rfl
end
structure Un (fs ex:List Addr) (H H':Hp) (h h':Heap):Prop where
 keep:∀ b o,h.get? b=some o→H b=none→b∉fs→b∉ex→h'.get? b=some o
 slot:∀ b o,h.get? b=some o→H b=none→b∈fs→b∉ex→∃ sl,h'.get? b=some { o with slots:=sl }
 free:∀ b o,h.get? b=some o→H b=none→b∉ex→H' b=none
 there:∀ b o,h.get? b=some o→b∉ex→∃ o',h'.get? b=some o'
 tups:∀ b xs,H b=some (.tup xs)→H' b=some (.tup xs)
 frzs:∀ b o u,H b=some (.frz o u)→H' b=some (.frz o u)
 tbls:∀ b ps,H b=some (.tbl ps)→∃ more,H' b=some (.tbl (ps ++ more))
section
variable {fs fs' ex ex':List Addr} {H H1 H2:Hp} {h h1 h2 h':Heap} {a x e:Addr} {o:HO}
theorem Un.any (u:Un fs ex H H1 h h1) {b:Addr} {ob:Obj} (q:h.get? b=some ob) (n:H b=none) (hx:b∉ex):∃ sl,h1.get? b=some { ob with slots:=sl }:=by
 by_cases hb:b∈fs
 ·exact u.slot b ob q n hb hx
 ·exact ⟨ob.slots,u.keep b ob q n hb hx⟩
theorem Un.kept (k:∀ b u,h.get? b=some u→h'.get? b=some u):Un fs ex H H h h':=
 ⟨fun b ob q _ _ _=>k b ob q,fun b ob q _ _ _=>⟨ob.slots,k b ob q⟩,fun _ _ _ n _=>n,fun b ob q _=>⟨ob,k b ob q⟩,fun _ _ q=>q,fun _ _ _ q=>q,fun _ ps q=>⟨#[],by rw [q]; simp⟩⟩
theorem Un.refl:Un fs ex H H h h:=Un.kept fun _ _ q=>q
theorem Un.laid (k:∀ b u,h.get? b=some u→h'.get? b=some u) (hp:h.objs.size≤a) (hn:H a=none):Un fs ex H (upd H a o) h h' where
 keep:=fun b u q _ _ _=>k b u q
 slot:=fun b u q _ _ _=>⟨u.slots,k b u q⟩
 free:=fun b u q n _=>by rw [upd_ne (Nat.ne_of_lt (Nat.lt_of_lt_of_le (Heap.lt_size q) hp))]; exact n
 there:=fun b u q _=>⟨u,k b u q⟩
 tups:=fun b xs q=>by rw [upd_ne (ne_of_none q hn)]; exact q
 frzs:=fun b u xs q=>by rw [upd_ne (ne_of_none q hn)]; exact q
 tbls:=fun b ps q=>⟨#[],by rw [upd_ne (ne_of_none q hn),q]; simp⟩
theorem Un.write (mu:Mut (H x)) (he:e=x∨H e=some (.own x)) (k:∀ b u,b≠e→h.get? b=some u→h'.get? b=some u) (heo:∃ u,h'.get? e=some u):Un fs ex H (upd H x o) h h':=by
 have hx:∀ b,H b=none→b≠x:=fun b n z=>by subst z; rw [n] at mu; exact mu
 have hb:∀ b,H b=none→b≠e:=fun b n z=>by
  subst z
  rcases he with r | r
  ·exact hx b n r
  ·rw [n] at r; cases r
 have hm:∀ b u,H b=some u→¬ Mut (some u)→b≠x:=fun b u q nm z=>by subst z; rw [q] at mu; exact nm mu
 refine ⟨fun b u q n _ _=>k b u (hb b n) q,fun b u q n _ _=>⟨u.slots,k b u (hb b n) q⟩,fun b u q n _=>by rw [upd_ne (hx b n)]; exact n,fun b u q _=>?_,
  fun b xs q=>by rw [upd_ne (hm b _ q fun z=>z)]; exact q,fun b u xs q=>by rw [upd_ne (hm b _ q fun z=>z)]; exact q,fun b ps q=>⟨#[],by rw [upd_ne (hm b _ q fun z=>z),q]; simp⟩⟩
 by_cases hbe:b=e
 ·subst hbe; exact heo
 ·exact ⟨u,k b u hbe q⟩
end
def trk (h:Heap) (H:Hp):List Addr:=(List.range h.objs.size).filter fun a=>(H a).isSome
def hidT (h:Heap) (H:Hp):Heap:=PySem.W.hideAll h (trk h H)
theorem hidT_size (h:Heap) (H:Hp):(hidT h H).objs.size=h.objs.size:=PySem.W.hideAll_size _ _
theorem hidT_get {h:Heap} {H:Hp} {b:Addr} {o:Obj} (e:h.get? b=some o) (n:H b=none):(hidT h H).get? b=some o:=
 PySem.W.hideAll_get _ e fun hm=>by
  have q:(H b).isSome=true:=(List.mem_filter.mp hm).2
  rw [n] at q; simp at q
theorem of_hidT {h:Heap} {H:Hp} {b:Addr} {o:Obj} (e:(hidT h H).get? b=some o):h.get? b=some o∧H b=none:=by
 have e':h.get? b=some o:=PySem.W.of_hideAll (trk h H) e
 refine ⟨e',?_⟩
 cases q:H b with
 | none=>rfl
 | some x=>
  have hm:b∈trk h H:=List.mem_filter.mpr ⟨List.mem_range.mpr (Heap.lt_size e'),by simp [q]⟩
  have z:(hidT h H).get? b=none:=PySem.W.hideAll_none (trk h H) hm
  rw [z] at e; cases e
def allNews (g h:Heap) (L:Addr):List (Addr × Obj):=(List.range h.objs.size).filterMap fun a=>if a=L∨(g.get? a).isSome=true then none else (h.get? a).map fun o=>(a,o)
def rest (g h:Heap) (L d:Addr):List (Addr × Obj):=(allNews g h L).filter fun p=>decide (p.1≠d)
end L2
namespace L2
open PySem PySem.Spec PyProof.Rows
structure Mod (K:PySem.W.Frag) (mg:Str→Option Value) (base:Heap):Prop where
 kin:K.In base
 glob:base.Ns mainGlobals mg
 blt:∃ mb,base.Ns builtinsNs mb∧∀ x:Str,x≠"__name__"→mb x=bootBuiltins x
 nolimit:base.NoLimit
structure Cx where
 prog:Program
 w:World
 K:PySem.W.Frag
 mg:Str→Option Value
 base:Heap
 A:Around
 N:List Str
 s₀:Shared
 H₀:Hp
 env:Env
 outer:List Env
 stack:List Env
 ex:List Addr
 fn:Str→Bool
 calm:Bool
 pn:List (Addr × Obj)
 xe:Value→Shared→Prop
def frs (l:List Env):List Addr:=l.filterMap (·.frame)
abbrev Cx.fs (X:Cx):List Addr:=frs X.outer
def Vis (sc:Scope) (x:Str):Prop:=sc.names.lookup x=some .local∨sc.names.lookup x=some .cell∨sc.names.lookup x=some .free
def Loc (sc:Scope) (x:Str):Prop:=sc.names.lookup x=some .local∨sc.names.lookup x=some .cell
def Look (env:Env) (h:Heap) (m:Str→Option Value) (x:Str) (u:Value):Prop:=
 (env.kindOf x=some .local∧m x=some u)∨((env.kindOf x=some .cell∨env.kindOf x=some .free)∧∃ c,env.cells.lookup x=some c∧h.IsCell c (some u))
structure Cx.Ok (X:Cx):Prop where
 mod:Mod X.K X.mg X.base
 kind:X.env.scope.kind=.function
 glob:X.env.globals=mainGlobals
 blt:X.env.builtins=builtinsNs
 above:X.s₀.heap.objs.size≤X.env.locals
 inj:∀ x y c,X.env.cells.lookup x=some c→X.env.cells.lookup y=some c→x=y
 has:∀ x,(X.env.kindOf x=some .cell∨X.env.kindOf x=some .free)→∃ c,X.env.cells.lookup x=some c
 cab:∀ x c,X.fn x=true→X.env.cells.lookup x=some c→X.s₀.heap.objs.size≤c
 hd:X.calm=true→X.A.handled=none
 frames:X.A.frames=some X.stack
 stk:X.stack=X.outer∨(X.stack=X.env :: X.outer∧X.env.frame=some X.env.locals)
 exf:∀ b∈X.ex,b≠X.env.locals∧∀ x c,X.env.cells.lookup x=some c→c≠b
 bs:∀ b o,X.base.get? b=some o→X.s₀.heap.get? b=some o∧X.H₀ b=none
 bsz:X.base.objs.size≤X.s₀.heap.objs.size
 noex:∀ b o,X.base.get? b=some o→b∉X.ex
 exfs:∀ b∈X.ex,b∉X.fs
 funs:X.s₀.heap.FunFrames X.base X.outer
 frf:∀ b∈X.fs,X.H₀ b=none
structure Inv (X:Cx) (pins:List (Addr × Obj)) (σ:List (Option V)) (H:Hp) (s:Shared):Prop where
 ok:X.Ok
 os:s.os=X.s₀.os
 bare:AllBare s.gens
 base:Un X.fs X.ex X.H₀ H X.s₀.heap s.heap
 loc:∃ m,s.heap.Ns X.env.locals m∧∀ (i:Nat) (x:Str) (v:V),X.N[i]? = some x→σ[i]? = some (some v)→Vis X.env.scope x→∃ u,RelV v u∧Look X.env s.heap m x u
 cell:∀ x c,X.env.cells.lookup x=some c→∃ v,s.heap.IsCell c v
 free:H X.env.locals=none
 freeC:∀ x c,X.env.cells.lookup x=some c→H c=none
 pin:∀ p∈X.pn ++ pins,s.heap.get? p.1=some p.2∧H p.1=none∧p.1≠X.env.locals∧p.1∉X.fs∧∀ v,p.2.data≠.cell v
 hok:HOk X.prog X.w H s.heap
 len:σ.length=X.N.length
section
variable {X:Cx} {pins:List (Addr × Obj)} {σ:List (Option V)} {H H':Hp} {s:Shared} {h':Heap}
theorem Cx.Ok.nofr (ok:X.Ok) {b:Addr} {o:Obj} (e:X.base.get? b=some o):b∉X.fs:=fun hb=>by
 have:=(ok.funs.mem hb).1
 rw [e] at this; cases this
theorem Inv.bs (I:Inv X pins σ H s):∀ b o,X.base.get? b=some o→s.heap.get? b=some o∧H b=none:=fun b o e=>
 ⟨I.base.keep b o (I.ok.bs b o e).1 (I.ok.bs b o e).2 (I.ok.nofr e) (I.ok.noex b o e),I.base.free b o (I.ok.bs b o e).1 (I.ok.bs b o e).2 (I.ok.noex b o e)⟩
theorem Inv.bk (I:Inv X pins σ H s):∀ b o,X.base.get? b=some o→s.heap.get? b=some o:=fun b o e=>(I.bs b o e).1
theorem Inv.mod (I:Inv X pins σ H s):Mod X.K X.mg X.base:=I.ok.mod
theorem Inv.kIn (I:Inv X pins σ H s):X.K.In s.heap:=I.ok.mod.kin.keeps I.bk
theorem Inv.lt (I:Inv X pins σ H s):X.env.locals < s.heap.objs.size:=let ⟨_,hn,_⟩:=I.loc; hn.lt
theorem Inv.sz (I:Inv X pins σ H s):X.s₀.heap.objs.size≤s.heap.objs.size:=Nat.le_trans I.ok.above (Nat.le_of_lt I.lt)
theorem Inv.nofs (I:Inv X pins σ H s) {a:Addr} (h:s.heap.objs.size≤a):a∉X.fs:=fun hb=>by
 obtain ⟨_,o,ho,_⟩:=I.ok.funs.mem hb
 exact absurd (Nat.lt_of_lt_of_le (Heap.lt_size ho) (Nat.le_trans I.sz h)) (Nat.lt_irrefl _)
theorem Inv.cne (I:Inv X pins σ H s):∀ x c,X.env.cells.lookup x=some c→c≠X.env.locals:=fun x c e z=>by
 obtain ⟨v,o,ho,hd⟩:=I.cell x c e
 obtain ⟨m,⟨o',es,ep,ho',hd',_⟩,_⟩:=I.loc
 rw [z,ho'] at ho; cases ho; rw [hd'] at hd; cases hd
theorem Inv.funs (I:Inv X pins σ H s):s.heap.FunFrames X.base X.outer:=by
 have all:∀ (l:List Env),(∀ b∈frs l,b∈X.fs)→X.s₀.heap.FunFrames X.base l→s.heap.FunFrames X.base l:=by
  intro l
  induction l with
  | nil=>intro _ _; trivial
  | cons env r ih=>
   intro hs hl
   obtain ⟨hk,⟨L,o,hf,hn,ho,hd⟩,hr⟩:=hl
   have hL:L∈X.fs:=hs L (by unfold frs; rw [List.filterMap_cons,hf]; exact List.mem_cons_self)
   obtain ⟨sl,e⟩:=I.base.slot L o ho (I.ok.frf L hL) hL fun z=>I.ok.exfs L z hL
   exact ⟨hk,⟨L,_,hf,hn,e,hd⟩,ih (fun b hb=>hs b (by unfold frs; rw [List.filterMap_cons,hf]; exact List.mem_cons_of_mem _ hb)) hr⟩
 exact all X.outer (fun _ hb=>hb) I.ok.funs
theorem Inv.stack (I:Inv X pins σ H s):s.heap.FunFrames X.base X.stack:=by
 rcases I.ok.stk with e | ⟨e,hf⟩
 ·rw [e]; exact I.funs
 ·rw [e]
  obtain ⟨m,hn,_⟩:=I.loc
  refine .cons (by rw [I.ok.kind]; decide) hf hn ?_ I.funs
  exact Heap.get?_none_of_le (Nat.le_trans I.ok.bsz I.ok.above)
theorem Inv.stkSub (I:Inv X pins σ H s):∀ b∈frs X.stack,b∈X.env.locals :: X.fs:=fun b hb=>by
 rcases I.ok.stk with e | ⟨e,hf⟩
 ·rw [e] at hb; exact List.mem_cons_of_mem _ hb
 ·rw [e] at hb
  unfold frs at hb
  rw [List.filterMap_cons,hf] at hb
  exact hb
theorem Inv.stkFree (I:Inv X pins σ H s):∀ b∈frs X.stack,H b=none:=fun b hb=>by
 rcases List.mem_cons.mp (I.stkSub b hb) with e | hb
 ·rw [e]; exact I.free
 ·obtain ⟨_,o,ho,_⟩:=I.ok.funs.mem hb
  exact I.base.free b o ho (I.ok.frf b hb) fun z=>I.ok.exfs b z hb
theorem Inv.step {g':Array GenState} {t':Nat} {d':Drawn} {ch:List Addr} (I:Inv X pins σ H s)
  (hch:∀ b∈ch,(b∈X.ex∨X.s₀.heap.objs.size≤b)∧b≠X.env.locals∧(∀ x c,X.env.cells.lookup x=some c→c≠b)∧∀ p∈X.pn ++ pins,p.1≠b)
  (keep:∀ b o,b≠X.env.locals→b∉X.fs→b∉ch→s.heap.get? b=some o→H b=none→h'.get? b=some o)
  (slot:∀ b o,b≠X.env.locals→b∈X.fs→b∉ch→s.heap.get? b=some o→H b=none→∃ sl,h'.get? b=some { o with slots:=sl }) (free:∀ b o,b∉ch→s.heap.get? b=some o→H b=none→H' b=none)
  (there:∀ b o,b∉ch→s.heap.get? b=some o→∃ o',h'.get? b=some o')
  (tups:∀ b xs,H b=some (.tup xs)→H' b=some (.tup xs)) (frzs:∀ b o u,H b=some (.frz o u)→H' b=some (.frz o u)) (tbls:∀ b ps,H b=some (.tbl ps)→∃ more,H' b=some (.tbl (ps ++ more)))
  (ns:∀ m,s.heap.Ns X.env.locals m→h'.Ns X.env.locals m) (hok:HOk X.prog X.w H' h') (hg:AllBare g') :
  Inv X pins σ H' { s with heap:=h',gens:=g',drawn:=d',toks:=t' }:=by
 have neL:∀ b o,X.s₀.heap.get? b=some o→b≠X.env.locals:=fun b o e=>Nat.ne_of_lt (Nat.lt_of_lt_of_le (Heap.lt_size e) I.ok.above)
 have neC:∀ b o,X.s₀.heap.get? b=some o→b∉X.ex→b∉ch:=fun b o e hx hb=>by
  rcases (hch b hb).1 with z | z
  ·exact hx z
  ·exact absurd (Nat.lt_of_lt_of_le (Heap.lt_size e) z) (Nat.lt_irrefl _)
 have cellK:∀ x c,X.env.cells.lookup x=some c→∀ v,s.heap.IsCell c v→h'.IsCell c v:=fun x c e v ⟨o,ho,hd⟩=>by
  have nch:c∉ch:=fun z=>(hch c z).2.2.1 x c e rfl
  by_cases hc:c∈X.fs
  ·obtain ⟨sl,q⟩:=slot c o (I.cne x c e) hc nch ho (I.freeC x c e)
   exact ⟨_,q,hd⟩
  ·exact ⟨o,keep c o (I.cne x c e) hc nch ho (I.freeC x c e),hd⟩
 refine ⟨I.ok,I.os,hg,⟨fun b o e n hb hx=>?_,fun b o e n hb hx=>?_,fun b o e n hx=>?_,fun b o e hx=>?_,fun b xs e=>tups b xs (I.base.tups b xs e),fun b o xs e=>frzs b o xs (I.base.frzs b o xs e),fun b ps e=>?_⟩,?_,fun x c e=>?_,?_,fun x c e=>?_,fun p hp=>?_,hok,I.len⟩
 ·exact keep b o (neL b o e) hb (neC b o e hx) (I.base.keep b o e n hb hx) (I.base.free b o e n hx)
 ·obtain ⟨sl,e1⟩:=I.base.slot b o e n hb hx
  obtain ⟨sl',e2⟩:=slot b _ (neL b o e) hb (neC b o e hx) e1 (I.base.free b o e n hx)
  exact ⟨sl',e2⟩
 ·obtain ⟨o',e1⟩:=I.base.there b o e hx
  exact free b o' (neC b o e hx) e1 (I.base.free b o e n hx)
 ·obtain ⟨o',e1⟩:=I.base.there b o e hx
  exact there b o' (neC b o e hx) e1
 ·obtain ⟨m1,e1⟩:=I.base.tbls b ps e
  obtain ⟨m2,e2⟩:=tbls b _ e1
  exact ⟨m1 ++ m2,by rw [e2,Array.append_assoc]⟩
 ·obtain ⟨m,hn,hl⟩:=I.loc
  refine ⟨m,ns m hn,fun i x v e1 e2 e3=>?_⟩
  obtain ⟨u,r,l⟩:=hl i x v e1 e2 e3
  refine ⟨u,r,?_⟩
  rcases l with l | ⟨k,c,e,z⟩
  ·exact .inl l
  ·exact .inr ⟨k,c,e,cellK x c e _ z⟩
 ·obtain ⟨v,z⟩:=I.cell x c e
  exact ⟨v,cellK x c e v z⟩
 ·obtain ⟨m,⟨o,_,_,ho,_⟩,_⟩:=I.loc
  exact free _ o (fun z=>(hch _ z).2.1 rfl) ho I.free
 ·obtain ⟨v,o,ho,hd⟩:=I.cell x c e
  exact free c o (fun z=>(hch c z).2.2.1 x c e rfl) ho (I.freeC x c e)
 ·obtain ⟨e,n,ne,nf,d⟩:=I.pin p hp
  have nch:p.1∉ch:=fun z=>(hch p.1 z).2.2.2 p hp rfl
  exact ⟨keep p.1 p.2 ne nf nch e n,free p.1 p.2 nch e n,ne,nf,d⟩
theorem Inv.un {t':Nat} (I:Inv X pins σ H s) (u:Un X.fs [] H H' s.heap h') (hok:HOk X.prog X.w H' h'):Inv X pins σ H' { s with heap:=h',toks:=t' }:=by
 obtain ⟨m,⟨o,es,ep,ho,r⟩,_⟩:=id I.loc
 obtain ⟨sl,hL⟩:=u.any ho I.free (by simp)
 exact I.step (g':=s.gens) (d':=s.drawn) (ch:=[]) (fun _ z=>nomatch z) (fun b o _ hb _ e n=>u.keep b o e n hb (by simp)) (fun b o _ hb _ e n=>u.slot b o e n hb (by simp)) (fun b o _ e n=>u.free b o e n (by simp)) (fun b o _ e=>u.there b o e (by simp)) u.tups u.frzs u.tbls (fun m' hm=>by
  obtain ⟨o',es',ep',ho',r'⟩:=hm
  rw [ho] at ho'; cases ho'
  exact ⟨_,es',ep',hL,r'⟩) hok I.bare
theorem Inv.call {g':Array GenState} {t':Nat} {d':Drawn} {ch:List Addr} (I:Inv X pins σ H s) (u:Un (frs X.stack) ch H H' s.heap h') (hok:HOk X.prog X.w H' h') (hg:AllBare g')
  (hch:∀ b∈ch,(b∈X.ex∨X.s₀.heap.objs.size≤b)∧b≠X.env.locals∧(∀ x c,X.env.cells.lookup x=some c→c≠b)∧∀ p∈X.pn ++ pins,p.1≠b) :
  Inv X pins σ H' { s with heap:=h',gens:=g',drawn:=d',toks:=t' }:=by
 obtain ⟨m,⟨o,es,ep,ho,r⟩,_⟩:=id I.loc
 obtain ⟨sl,hL⟩:=u.any ho I.free fun z=>(hch _ z).2.1 rfl
 exact I.step (ch:=ch) hch (fun b o hL hb hc e n=>u.keep b o e n (fun z=>(List.mem_cons.mp (I.stkSub b z)).elim hL hb) hc) (fun b o _ _ hc e n=>u.any e n hc) (fun b o hc e n=>u.free b o e n hc) (fun b o hc e=>u.there b o e hc) u.tups u.frzs u.tbls (fun m' hm=>by
  obtain ⟨o',es',ep',ho',r'⟩:=hm
  rw [ho] at ho'; cases ho'
  exact ⟨_,es',ep',hL,r'⟩) hok hg
theorem Inv.turned {t':Nat} {it:Addr} (I:Inv X pins σ H s) (k:∀ b o,b≠it→s.heap.get? b=some o→h'.get? b=some o) (hn:H it=none) (hL:it≠X.env.locals)
  (h1:it∈X.ex∨X.s₀.heap.objs.size≤it) (h2:∀ x c,X.env.cells.lookup x=some c→c≠it) (h3:∀ p∈X.pn ++ pins,p.1≠it):Inv X pins σ H { s with heap:=h',toks:=t' }:=by
 have nit:∀ b u,H b=some u→b≠it:=fun b u e z=>by rw [z,hn] at e; cases e
 refine I.step (g':=s.gens) (d':=s.drawn) (ch:=[it]) (fun b hb=>?_) (fun b o _ _ hc e _=>k b o (fun z=>hc (by simp [z])) e) (fun b o _ _ hc e _=>⟨o.slots,k b o (fun z=>hc (by simp [z])) e⟩) (fun _ _ _ _ n=>n)
  (fun b o hc e=>⟨o,k b o (fun z=>hc (by simp [z])) e⟩) (fun _ _ e=>e) (fun _ _ _ e=>e) (fun b ps e=>⟨#[],by rw [e]; simp⟩) (fun m hm=>?_) (fun b u e=>?_) I.bare
 ·have e:b=it:=by simpa using hb
  subst e
  exact ⟨h1,hL,h2,h3⟩
 ·obtain ⟨o,es,ep,ho,r⟩:=hm
  exact ⟨o,es,ep,k _ o (Ne.symm hL) ho,r⟩
 ·refine (I.hok b u e).stay (fun c v hc q=>k c v ?_ q) (fun _ q=>q) fun _ _ q=>q
  rcases hc with z | z
  ·rw [z]; exact nit b u e
  ·exact nit c _ z
theorem Inv.tok (I:Inv X pins σ H s) (t:Nat):Inv X pins σ H { s with toks:=t }:=I.un (h':=s.heap) (t':=t) Un.refl I.hok
theorem Inv.kept {t':Nat} (I:Inv X pins σ H s) (k:∀ b u,s.heap.get? b=some u→h'.get? b=some u):Inv X pins σ H { s with heap:=h',toks:=t' }:=I.un (Un.kept k) (I.hok.kept k)
theorem Inv.laid {a:Addr} {o:HO} {t':Nat} (I:Inv X pins σ H s) (k:∀ b u,s.heap.get? b=some u→h'.get? b=some u) (hp:s.heap.objs.size≤a) (new:ObjOk X.prog X.w (upd H a o) h' a o) :
  Inv X pins σ (upd H a o) { s with heap:=h',toks:=t' }:=I.un (Un.laid k hp (I.hok.fresh hp)) (I.hok.laid k hp new)
theorem Inv.write {x e:Addr} {o:HO} {t':Nat} (I:Inv X pins σ H s) (mu:Mut (H x)) (he:e=x∨H e=some (.own x)) (k:∀ b u,b≠e→s.heap.get? b=some u→h'.get? b=some u) (heo:∃ u,h'.get? e=some u)
  (new:ObjOk X.prog X.w (upd H x o) h' x o):Inv X pins σ (upd H x o) { s with heap:=h',toks:=t' }:=I.un (Un.write mu he k heo) (I.hok.write mu he k heo new)
theorem Inv.weak {σ':List (Option V)} (I:Inv X pins σ H s) (hl:σ'.length=σ.length) (w:∀ (i:Nat) v,σ'[i]? = some (some v)→σ[i]? = some (some v)):Inv X pins σ' H s:=
 ⟨I.ok,I.os,I.bare,I.base,let ⟨m,hn,hl'⟩:=I.loc; ⟨m,hn,fun i x v e1 e2 e3=>hl' i x v e1 (w i v e2) e3⟩,I.cell,I.free,I.freeC,I.pin,I.hok,hl.trans I.len⟩
theorem Inv.pins_of {pins':List (Addr × Obj)} (I:Inv X pins σ H s) (h:∀ p∈pins',s.heap.get? p.1=some p.2∧H p.1=none∧p.1≠X.env.locals∧p.1∉X.fs∧∀ v,p.2.data≠.cell v):Inv X pins' σ H s:=
 ⟨I.ok,I.os,I.bare,I.base,I.loc,I.cell,I.free,I.freeC,fun p hp=>(List.mem_append.mp hp).elim (fun z=>I.pin p (List.mem_append_left _ z)) (h p),I.hok,I.len⟩
theorem nodup_ix {N:List Str} (hN:N.Nodup) {i j:Nat} {x:Str} (a:N[i]? = some x) (b:N[j]? = some x):i=j:=by
 obtain ⟨h1,e1⟩:=List.getElem?_eq_some_iff.mp a
 obtain ⟨h2,e2⟩:=List.getElem?_eq_some_iff.mp b
 exact (List.getElem_inj hN).mp (e1.trans e2.symm)
theorem store_ok2 {M:Model} {A:Around} {E:Value→Shared→Prop} {i:Nat} {x:Str} {v:V} {u:Value} {Q:Unit→Shared→Prop} (I:Inv X pins σ H s) (hN:X.N.Nodup) (hi:X.N[i]? = some x) (hx:Loc X.env.scope x) (r:RelV v u)
  (h:∀ s',Inv X pins (σ.set i (some v)) H s'→(∃ a,Heap.SameBut a s.heap s'.heap∧(a=X.env.locals∨X.env.cells.lookup x=some a))→Q () s') (hf:X.fn x=true∨X.env.scope.names.lookup x=some .local:=by first | exact .inl rfl | exact .inr rfl | assumption):wpAny M A (storeName X.env x u) Q E s:=by
 obtain ⟨m,hn,hl⟩:=id I.loc
 have hcls:(X.env.scope.kind==.class || (X.env.scope.kind==.module && X.env.locals != X.env.globals))=false:=by rw [I.ok.kind]; rfl
 have hiσ:i < σ.length:=by rw [I.len]; exact (List.getElem?_eq_some_iff.mp hi).1
 have cne:=I.cne
 have tracked:∀ {a:Addr} {h':Heap},(∃ o,s.heap.get? a=some o∧H a=none)→Heap.SameBut a s.heap h'→HOk X.prog X.w H h':=fun {a h'} ha hs b ob e=>by
  obtain ⟨_,_,hfree⟩:=ha
  refine (I.hok b ob e).stay (fun c w' hc q=>(hs.2 c ?_).trans q) (fun _ q=>q) fun _ _ q=>q
  rintro rfl
  rcases hc with rfl | hc
  ·rw [hfree] at e; cases e
  ·rw [hfree] at hc; cases hc
 rcases hx with hk | hk
 ·refine wpAny_storeName_local hk hn (fun h' hn' hs=>?_) hcls
  obtain ⟨oL,_,_,hoL,_⟩:=id hn
  refine h _ ⟨I.ok,I.os,I.bare,⟨fun b o e n hb hx=>?_,fun b o e n hb hx=>?_,I.base.free,fun b o e hx=>?_,I.base.tups,I.base.frzs,I.base.tbls⟩,⟨_,hn',fun j y v' e1 e2 e3=>?_⟩,fun y c e=>?_,I.free,I.freeC,fun p hp=>?_,tracked ⟨oL,hoL,I.free⟩ hs,by simpa using I.len⟩ ⟨_,hs,.inl rfl⟩
  ·exact (hs.2 b (Nat.ne_of_lt (Nat.lt_of_lt_of_le (Heap.lt_size e) I.ok.above))).trans (I.base.keep b o e n hb hx)
  ·obtain ⟨sl,e1⟩:=I.base.slot b o e n hb hx
   exact ⟨sl,(hs.2 b (Nat.ne_of_lt (Nat.lt_of_lt_of_le (Heap.lt_size e) I.ok.above))).trans e1⟩
  ·obtain ⟨o',e1⟩:=I.base.there b o e hx
   exact ⟨o',(hs.2 b (Nat.ne_of_lt (Nat.lt_of_lt_of_le (Heap.lt_size e) I.ok.above))).trans e1⟩
  ·by_cases hj:j=i
   ·subst hj
    rw [hi] at e1; cases e1
    rw [List.getElem?_set_self hiσ] at e2
    cases e2
    exact ⟨u,r,.inl ⟨hk,by simp⟩⟩
   ·rw [List.getElem?_set_ne (Ne.symm hj)] at e2
    obtain ⟨u',r',q⟩:=hl j y v' e1 e2 e3
    refine ⟨u',r',?_⟩
    rcases q with ⟨k,e⟩ | ⟨k,c,e,z⟩
    ·refine .inl ⟨k,?_⟩
     have:y≠x:=fun e=>hj (nodup_ix hN e1 (e▸hi))
     simp [this,e]
    ·exact .inr ⟨k,c,e,z.sameBut hs (cne y c e)⟩
  ·obtain ⟨w',z⟩:=I.cell y c e
   exact ⟨w',z.sameBut hs (cne y c e)⟩
  ·obtain ⟨e,n,ne,nf,d⟩:=I.pin p hp
   exact ⟨(hs.2 p.1 ne).trans e,n,ne,nf,d⟩
 ·have hfn:X.fn x=true:=by
   rcases hf with z | z
   ·exact z
   ·rw [z] at hk; cases hk
  obtain ⟨c,hc⟩:=I.ok.has x (.inl hk)
  obtain ⟨w',z⟩:=I.cell x c hc
  refine wpAny_storeName_cell I.ok.kind hk hc z (fun h' hc' hs=>?_)
  obtain ⟨oc,hoc,hocd⟩:=id z
  refine h { s with heap:=h' } ⟨I.ok,I.os,I.bare,⟨fun b o e n hb hx=>?_,fun b o e n hb hx=>?_,I.base.free,fun b o e hx=>?_,I.base.tups,I.base.frzs,I.base.tbls⟩,⟨m,hn.sameBut hs (Ne.symm (cne x c hc)),fun j y v' e1 e2 e3=>?_⟩,fun y c' e=>?_,I.free,I.freeC,fun p hp=>?_,tracked ⟨oc,hoc,I.freeC x c hc⟩ hs,by simpa using I.len⟩ ⟨c,hs,.inr hc⟩
  ·exact (hs.2 b (Nat.ne_of_lt (Nat.lt_of_lt_of_le (Heap.lt_size e) (I.ok.cab x c hfn hc)))).trans (I.base.keep b o e n hb hx)
  ·obtain ⟨sl,e1⟩:=I.base.slot b o e n hb hx
   exact ⟨sl,(hs.2 b (Nat.ne_of_lt (Nat.lt_of_lt_of_le (Heap.lt_size e) (I.ok.cab x c hfn hc)))).trans e1⟩
  ·obtain ⟨o',e1⟩:=I.base.there b o e hx
   exact ⟨o',(hs.2 b (Nat.ne_of_lt (Nat.lt_of_lt_of_le (Heap.lt_size e) (I.ok.cab x c hfn hc)))).trans e1⟩
  ·by_cases hj:j=i
   ·subst hj
    rw [hi] at e1; cases e1
    rw [List.getElem?_set_self hiσ] at e2
    cases e2
    exact ⟨u,r,.inr ⟨.inl hk,c,hc,hc'⟩⟩
   ·rw [List.getElem?_set_ne (Ne.symm hj)] at e2
    obtain ⟨u',r',q⟩:=hl j y v' e1 e2 e3
    refine ⟨u',r',?_⟩
    rcases q with q | ⟨k,c',e,z'⟩
    ·exact .inl q
    ·refine .inr ⟨k,c',e,z'.sameBut hs ?_⟩
     rintro rfl
     exact hj (nodup_ix hN e1 (I.ok.inj _ _ _ e hc▸hi))
  ·by_cases hcc:c'=c
   ·subst hcc; exact ⟨_,hc'⟩
   ·obtain ⟨w2,z2⟩:=I.cell y c' e
    exact ⟨w2,z2.sameBut hs hcc⟩
  ·obtain ⟨e,n,ne,nf,d⟩:=I.pin p hp
   refine ⟨(hs.2 p.1 ?_).trans e,n,ne,nf,d⟩
   intro q
   rw [q,hoc] at e
   have q':oc=p.2:=Option.some.inj e
   exact d w' (by rw [← q']; exact hocd)
theorem store_ok {M:Model} {A:Around} {E:Value→Shared→Prop} {i:Nat} {x:Str} {v:V} {u:Value} {Q:Unit→Shared→Prop} (I:Inv X pins σ H s) (hN:X.N.Nodup) (hi:X.N[i]? = some x) (hx:Loc X.env.scope x) (r:RelV v u)
  (h:∀ s',Inv X pins (σ.set i (some v)) H s'→Q () s') (hf:X.fn x=true∨X.env.scope.names.lookup x=some .local:=by first | exact .inl rfl | exact .inr rfl | assumption):wpAny M A (storeName X.env x u) Q E s:=
 store_ok2 I hN hi hx r (fun s' I' _=>h s' I') hf
theorem Inv.call' {s':Shared} {ch:List Addr} (I:Inv X pins σ H s) (ho:s'.os=s.os) (u:Un (frs X.stack) ch H H' s.heap s'.heap) (hok:HOk X.prog X.w H' s'.heap) (hg:AllBare s'.gens)
  (hch:∀ b∈ch,(b∈X.ex∨X.s₀.heap.objs.size≤b)∧b≠X.env.locals∧(∀ x c,X.env.cells.lookup x=some c→c≠b)∧∀ p∈X.pn ++ pins,p.1≠b):Inv X pins σ H' s':=by
 obtain ⟨h',g',d',t',o'⟩:=s'
 have e:o'=s.os:=ho
 subst e
 exact I.call (g':=g') (t':=t') (d':=d') u hok hg hch
end
abbrev XK:=Value→Option Addr→Hp→Prop
abbrev St:=List (Option V)
abbrev VK:=V→Hp→Prop
abbrev TE:=St→Hp→VK→Prop
abbrev TT:=St→Hp→(Bool→Hp→Prop)→Prop
abbrev TA:=St→Hp→(List V→Hp→Prop)→Prop
structure Ends where
 nx:St→Hp→Prop
 rt:VK
 bk:St→Hp→Prop:=fun _ _=>False
 ct:St→Hp→Prop:=fun _ _=>False
abbrev TS:=Ends→St→Hp→Prop
def EP (X:Cx) (pins:List (Addr × Obj)) (σ:St) (Q:VK) (u:Value) (s':Shared):Prop:=∃ v H',Inv X pins σ H' s'∧RelV v u∧Q v H'
def TP (X:Cx) (pins:List (Addr × Obj)) (σ:St) (Q:Bool→Hp→Prop) (b:Bool) (s':Shared):Prop:=∃ H',Inv X pins σ H' s'∧Q b H'
def AP (X:Cx) (pins:List (Addr × Obj)) (σ:St) (Q:List V→Hp→Prop) (us:List Value) (s':Shared):Prop:=∃ vs H',Inv X pins σ H' s'∧Vals vs us∧Q vs H'
def SP (X:Cx) (pins:List (Addr × Obj)) (D:Ends) (f:Flow) (s':Shared):Prop:=
 match f with
 | .next=>∃ σ' H',Inv X pins σ' H' s'∧D.nx σ' H'
 | .brk=>∃ σ' H',Inv X pins σ' H' s'∧D.bk σ' H'
 | .cont=>∃ σ' H',Inv X pins σ' H' s'∧D.ct σ' H'
 | .ret u=>∃ v σ' H',Inv X pins σ' H' s'∧RelV v u∧D.rt v H'
def PE (X:Cx) (e:Expr) (t:TE):Prop:=
 ∀ (pins:List (Addr × Obj)) (s:Shared) (σ:St) (H:Hp) (Q:VK),Inv X pins σ H s→t σ H Q→wpAny (model X.prog X.w) X.A (eval e X.env) (EP X pins σ Q) X.xe s
def PT (X:Cx) (e:Expr) (t:TT):Prop:=
 ∀ (pins:List (Addr × Obj)) (s:Shared) (σ:St) (H:Hp) (Q:Bool→Hp→Prop),Inv X pins σ H s→t σ H Q→wpAny (model X.prog X.w) X.A (isTrue e X.env (eval e X.env)) (TP X pins σ Q) X.xe s
def PW (X:Cx) (e:Expr) (t:TT):Prop:=
 ∀ (whole:Sem Value) (pins:List (Addr × Obj)) (s:Shared) (σ:St) (H:Hp) (Q:Bool→Hp→Prop),Inv X pins σ H s→t σ H Q→wpAny (model X.prog X.w) X.A (isTrue e X.env whole) (TP X pins σ Q) X.xe s
theorem PW.pt {X:Cx} {e:Expr} {t:TT} (h:PW X e t):PT X e t:=h _
def PA (X:Cx) (es:List Expr) (t:TA):Prop:=
 ∀ (pos:Pos) (pins:List (Addr × Obj)) (s:Shared) (σ:St) (H:Hp) (Q:List V→Hp→Prop),Inv X pins σ H s→t σ H Q→wpAny (model X.prog X.w) X.A (spliced (backTo pos (starEach es X.env))) (AP X pins σ Q) X.xe s
def PS (X:Cx) (st:Stmt) (t:TS):Prop:=
 ∀ (pins:List (Addr × Obj)) (s:Shared) (σ:St) (H:Hp) (D:Ends),Inv X pins σ H s→t D σ H→wpAny (model X.prog X.w) X.A (exec st X.env) (SP X pins D) X.xe s
def PSs (X:Cx) (st:List Stmt) (t:TS):Prop:=
 ∀ (pins:List (Addr × Obj)) (s:Shared) (σ:St) (H:Hp) (D:Ends),Inv X pins σ H s→t D σ H→wpAny (model X.prog X.w) X.A (execs st X.env) (SP X pins D) X.xe s
theorem thn {α:Type} {t:Sem α} {Q Q':α→Shared→Prop} {M:Model} {A:Around} {E:Value→Shared→Prop} {s:Shared} (h:wpAny M A t Q E s) (hQ:∀ a s,Q a s→Q' a s):wpAny M A t Q' E s:=wpAny_mono h hQ fun _ _ x=>x
end L2
namespace L2
open PySem PySem.Spec PyProof.Rows
section
variable {X:Cx}
inductive tVarI (i:Nat) (σ:St) (H:Hp) (Q:VK):Prop
 | mk (v:_) (h1:σ[i]? = some (some v)) (h2:Q v H):tVarI i σ H Q
def tVar (i:Nat):TE:=fun σ H Q=>tVarI i σ H Q
def tC (v:V):TE:=fun _ H Q=>Q v H
theorem pe_var {i:Nat} {x:Str} {pos:Pos} (hN:X.N[i]? = some x) (hv:Vis X.env.scope x) (hd:(x==("__debug__" : Str))=false:=by decide) (hcd:(x==("__classdict__" : Str))=false:=by decide):PE X (.Name x pos) (tVar i):=by
 intro pins s σ H Q I h
 obtain ⟨v,e,h⟩:=h
 obtain ⟨m,hn,hl⟩:=I.loc
 obtain ⟨u,r,l⟩:=hl i x v hN e hv
 have fin:EP X pins σ Q u s:=⟨v,H,I,r,h⟩
 rcases l with ⟨hk,hm⟩ | ⟨hk,c,hc,hcell⟩
 ·exact wpAny_Name (wpAny_loadName_local I.ok.kind hk hn hm fin) hd
 ·rcases hk with hk | hk
  ·exact wpAny_Name (wpAny_loadName_cell I.ok.kind hk hc hcell fin) hd
  ·exact wpAny_Name (wpAny_loadName_free I.ok.kind hk hc hcell fin hcd) hd
theorem pe_int {i j pos}:PE X (.Constant (.int i) j pos) (tC (.int i)):=fun _ _ _ H _ I h=>wpAny_Constant_int ⟨.int i,H,I.tok _,⟨_,rfl⟩,h⟩
theorem pe_bl {b j pos}:PE X (.Constant (.bool b) j pos) (tC (.bl b)):=fun _ _ _ H _ I h=>Constant_bool ⟨.bl b,H,I,rfl,h⟩
theorem pe_non {j pos}:PE X (.Constant .none j pos) (tC .non):=fun _ _ _ H _ I h=>Constant_none ⟨.non,H,I,rfl,h⟩
theorem pe_str {x j pos}:PE X (.Constant (.str x) j pos) (tC (.str x)):=fun _ _ _ H _ I h=>Calls.Constant_str ⟨.str x,H,I.tok _,⟨_,rfl⟩,h⟩
def Gl (X:Cx) (x:Str):Prop:=X.env.kindOf x=some .globalImplicit
theorem ld_glob {E:Value→Shared→Prop} {pins:List (Addr × Obj)} {s:Shared} {σ:St} {H:Hp} {x:Str} {u:Value} {pos:Pos} {Q:Value→Shared→Prop} (I:Inv X pins σ H s) (hg:Gl X x) (hm:X.mg x=some u) (h:Q u s)
  (hd:(x==("__debug__" : Str))=false:=by decide):wpAny (model X.prog X.w) X.A (eval (.Name x pos) X.env) Q E s:=
 Calls.Name_function_global I.ok.kind hg (Calls.loadGlobal_global (by rw [I.ok.glob]; exact I.mod.glob.keeps I.bk) hm h) hd
theorem ld_blt {E:Value→Shared→Prop} {pins:List (Addr × Obj)} {s:Shared} {σ:St} {H:Hp} {x:Str} {u:Value} {pos:Pos} {Q:Value→Shared→Prop} (I:Inv X pins σ H s) (hg:Gl X x) (hm:X.mg x=none) (hv:bootBuiltins x=some u) (h:Q u s)
  (hn:x≠"__name__":=by decide) (hd:(x==("__debug__" : Str))=false:=by decide):wpAny (model X.prog X.w) X.A (eval (.Name x pos) X.env) Q E s:=by
 obtain ⟨mb,h1,h2⟩:=I.mod.blt
 exact Calls.Name_function_global I.ok.kind hg (Calls.loadGlobal_builtin (by rw [I.ok.glob]; exact I.mod.glob.keeps I.bk) hm (by rw [I.ok.blt]; exact h1.keeps I.bk) ((h2 x hn).trans hv) h) hd
theorem pe_glob {x:Str} {v:V} {u:Value} {pos:Pos} (hg:Gl X x) (hm:X.mg x=some u) (r:RelV v u) (hd:(x==("__debug__" : Str))=false:=by decide):PE X (.Name x pos) (tC v):=
 fun _ _ _ H _ I h=>ld_glob I hg hm ⟨v,H,I,r,h⟩ hd
theorem pe_bltn {x:Str} {v:V} {u:Value} {pos:Pos} (hg:Gl X x) (hm:X.mg x=none) (hv:bootBuiltins x=some u) (r:RelV v u) (hn:x≠"__name__":=by decide) (hd:(x==("__debug__" : Str))=false:=by decide):PE X (.Name x pos) (tC v):=
 fun _ _ _ H _ I h=>ld_blt I hg hm hv ⟨v,H,I,r,h⟩ hn hd
variable {a b:Expr} {ta tb:TE} {pos:Pos}
def PC (X:Cx) (op:CmpOp) (a b:Expr) (t:TE):Prop:=
 ∀ (pins:List (Addr × Obj)) (s:Shared) (σ:St) (H:Hp) (Q:VK),Inv X pins σ H s→t σ H Q→
  wpAny (model X.prog X.w) X.A (eval a X.env) (fun v s₁=>wpAny (model X.prog X.w) X.A (eval b X.env) (fun u s₂=>wpAny (model X.prog X.w) X.A (compareOp op v u) (EP X pins σ Q) X.xe s₂) X.xe s₁) X.xe s
theorem nobehind (b:Expr) {op:CmpOp} (h:op≠.In) (h2:op≠.NotIn):behindInMarks op b=false:=by
 have e1:(op==CmpOp.In)=false:=by cases op <;> first | rfl | exact absurd rfl h
 have e2:(op==CmpOp.NotIn)=false:=by cases op <;> first | rfl | exact absurd rfl h2
 cases b <;> simp [behindInMarks,e1,e2]
inductive tBI (Q:Bool→Hp→Prop) (x:V) (H1:Hp):Prop
 | mk (c:_) (h1:x=.bl c) (h2:Q c H1):tBI Q x H1
def tB (t:TE):TT:=fun σ H Q=>t σ H fun x H1=>tBI Q x H1
theorem pt_cmp {op:CmpOp} {t:TE} (h:PC X op a b t) (h1:behindInMarks op b=false:=by first | exact nobehind _ (by decide) (by decide) | rfl):PT X (.Compare a [op] [b] pos) (tB t):=by
 intro pins s σ H Q I hw
 refine wpAny_isTrue_Compare1 (thn (h pins s σ H _ I hw) fun v s1 h1=>thn h1 fun u s2 h2=>thn h2 fun c s3 ⟨x,H1,I1,r1,q1⟩=>?_) h1
 obtain ⟨d,rfl,q⟩:=q1
 cases r1
 exact wpAny_truthy_bool ⟨H1,I1,q⟩
variable {tA tB':TT} {rest:List Expr}
def tAnd (t u:TT):TT:=fun σ H Q=>t σ H fun c H1=>if c=true then u σ H1 Q else Q false H1
def tNot (t:TT):TT:=fun σ H Q=>t σ H fun c H1=>Q (!c) H1
theorem pw_and1 (ha:PT X a tA):PW X (.BoolOp .And [a] pos) tA:=by
 intro wh pins s σ H Q I h
 refine isTrue_and (thn (ha pins s σ H Q I h) fun c s1 e=>?_)
 cases c with
 | true=>exact isTrue_and_nil e
 | false=>exact e
theorem pw_and (ha:PT X a tA) (hb:PW X (.BoolOp .And (b :: rest) pos) tB'):PW X (.BoolOp .And (a :: b :: rest) pos) (tAnd tA tB'):=by
 intro wh pins s σ H Q I h
 refine isTrue_and (thn (ha pins s σ H _ I h) fun c s1 ⟨H1,I1,q1⟩=>?_)
 cases c with
 | true=>exact hb wh pins s1 σ H1 Q I1 q1
 | false=>exact ⟨H1,I1,q1⟩
theorem pt_not (ha:PT X a tA):PT X (.UnaryOp .Not a pos) (tNot tA):=by
 intro pins s σ H Q I h
 exact isTrue_not (ha pins s σ H (fun c H1=>Q (!c) H1) I h)
inductive tAndVI (tb:TE) (σ:St) (Q:VK) (x:V) (H1:Hp):Prop
 | mk (c:_) (h1:x=.bl c) (h2:if c=true then tb σ H1 Q else Q (.bl false) H1):tAndVI tb σ Q x H1
def tAndV (ta tb:TE):TE:=fun σ H Q=>ta σ H fun x H1=>tAndVI tb σ Q x H1
inductive tOrVI (tb:TE) (σ:St) (Q:VK) (x:V) (H1:Hp):Prop
 | mk (c:_) (h1:x=.bl c) (h2:if c=true then Q (.bl true) H1 else tb σ H1 Q):tOrVI tb σ Q x H1
def tOrV (ta tb:TE):TE:=fun σ H Q=>ta σ H fun x H1=>tOrVI tb σ Q x H1
theorem pe_one {op} {t:TE} (h:PE X a t):PE X (.BoolOp op [a] pos) t:=fun pins s σ H Q I hw=>BoolOp_one (h pins s σ H Q I hw)
theorem pe_and (ha:PE X a ta) (hb:PE X (.BoolOp .And (b :: rest) pos) tb):PE X (.BoolOp .And (a :: b :: rest) pos) (tAndV ta tb):=by
 intro pins s σ H Q I h
 refine BoolOp_and (thn (ha pins s σ H _ I h) fun v s1 ⟨x,H1,I1,r1,q1⟩=>?_)
 obtain ⟨c,rfl,q1⟩:=q1
 cases r1
 refine wpAny_truthy_bool ?_
 cases c with
 | true=>exact hb pins s1 σ H1 Q I1 q1
 | false=>exact ⟨.bl false,H1,I1,rfl,q1⟩
theorem pe_or (ha:PE X a ta) (hb:PE X (.BoolOp .Or (b :: rest) pos) tb):PE X (.BoolOp .Or (a :: b :: rest) pos) (tOrV ta tb):=by
 intro pins s σ H Q I h
 refine BoolOp_or (thn (ha pins s σ H _ I h) fun v s1 ⟨x,H1,I1,r1,q1⟩=>?_)
 obtain ⟨c,rfl,q1⟩:=q1
 cases r1
 refine wpAny_truthy_bool ?_
 cases c with
 | false=>exact hb pins s1 σ H1 Q I1 q1
 | true=>exact ⟨.bl true,H1,I1,rfl,q1⟩
end
end L2
namespace L2
open PySem PySem.Spec PyProof.Rows
def SqL (K:PySem.W.Frag) (H:Hp) (a:Addr) (xs:List V):Prop:=
 Rd H a (.lst xs)∨
  ∃ (o:Obj) (its:Array Value) (n:Nat),K.lookup a=some o∧o.cls=.type "list"∧o.dict=none∧o.data=.seq its n∧its.size≤sizeLine∧Vals xs its.toList
def SqT (K:PySem.W.Frag) (H:Hp) (a:Addr) (xs:List V):Prop:=
 Rd H a (.tup xs)∨
  ∃ (o:Obj) (its:Array Value) (n:Nat),K.lookup a=some o∧o.cls=.type "tuple"∧o.data=.seq its n∧its.size≤sizeLine∧Vals xs its.toList
def absV:Value→Option V
 | .none=>some .non
 | .bool b=>some (.bl b)
 | .int i _=>some (.int i)
 | .str x _=>some (.str x)
 | .bytes b _=>some (.byt b)
 | .float b _=>some (.flt b)
 | .ref a=>some (.ref a)
 | .type n=>some (.ty n)
 | _=>none
theorem RelV.abs {x:V} {u:Value} (r:RelV x u):absV u=some x:=by
 cases x with
 | non=>cases r; rfl
 | bl _=>cases r; rfl
 | int _=>obtain ⟨t,rfl⟩:=r; rfl
 | str _=>obtain ⟨t,rfl⟩:=r; rfl
 | byt _=>obtain ⟨t,rfl⟩:=r; rfl
 | flt _=>obtain ⟨t,rfl⟩:=r; rfl
 | ref _=>cases r; rfl
 | ty _=>cases r; rfl
theorem RelV.inj {x y:V} {u:Value} (r:RelV x u) (q:RelV y u):x=y:=Option.some.inj (r.abs.symm.trans q.abs)
theorem Vals.inj:∀ {xs ys:List V} {us:List Value},Vals xs us→Vals ys us→xs=ys
 | _,_,_,.nil,.nil=>rfl
 | _,_,_,.cons r t,.cons r' t'=>by rw [r.inj r',Vals.inj t t']
section
variable {X:Cx} {pins:List (Addr × Obj)} {σ:St} {H:Hp} {s:Shared} {a:Addr} {xs ys:List V}
theorem SqL.of {K:PySem.W.Frag} (h:H a=some (.lst xs)):SqL K H a xs:=.inl (.inl h)
theorem SqT.of {K:PySem.W.Frag} (h:H a=some (.tup xs)):SqT K H a xs:=.inl (.inl h)
theorem Inv.list (I:Inv X pins σ H s) (h:SqL X.K H a xs):∃ its:List Value,Vals xs its∧PlainL s.heap a its.toArray∧xs.length≤sizeLine:=by
 rcases h with h | ⟨o,its,n,hk,hc,hd,hs,hz,r⟩
 ·obtain ⟨z,its,n,r,e⟩:=h.ok I.hok
  exact ⟨its,r,⟨_,n,e,rfl,rfl,rfl⟩,z⟩
 ·refine ⟨its.toList,r,⟨o,n,I.kIn a o hk,hc,hd,by simpa using hs⟩,?_⟩
  have e:=r.length
  simp only [Array.length_toList] at e
  omega
theorem Inv.tuple (I:Inv X pins σ H s) (h:SqT X.K H a xs):∃ its:List Value,Vals xs its∧IsTup s.heap a its.toArray∧xs.length≤sizeLine:=by
 rcases h with h | ⟨o,its,n,hk,hc,hs,hz,r⟩
 ·obtain ⟨z,its,r,p⟩:=h.ok I.hok
  exact ⟨its,r,p,z⟩
 ·refine ⟨its.toList,r,⟨o,I.kIn a o hk,hc,n,by simpa using hs⟩,?_⟩
  have e:=r.length
  simp only [Array.length_toList] at e
  omega
theorem Inv.list_inj (I:Inv X pins σ H s) (h:SqL X.K H a xs) (h':SqL X.K H a ys):xs=ys:=by
 obtain ⟨its,r,⟨o,n,e,_,_,d⟩,_⟩:=I.list h
 obtain ⟨its',r',⟨o',n',e',_,_,d'⟩,_⟩:=I.list h'
 rw [e] at e'; cases e'
 rw [d] at d'
 injection d' with d1 _
 have:its=its':=by simpa using congrArg Array.toList d1
 subst this
 exact r.inj r'
end
abbrev Cx.wish (X:Cx) (E:Value→Shared→Prop):Cx:={ X with xe:=E }
abbrev Cx.nox (X:Cx):Cx:=X.wish fun _ _=>False
theorem Cx.Ok.wish {X:Cx} (ok:X.Ok) (E:Value→Shared→Prop):(X.wish E).Ok:=
 ⟨ok.mod,ok.kind,ok.glob,ok.blt,ok.above,ok.inj,ok.has,ok.cab,ok.hd,ok.frames,ok.stk,ok.exf,ok.bs,ok.bsz,ok.noex,ok.exfs,ok.funs,ok.frf⟩
theorem Cx.Ok.unwish {X:Cx} {E:Value→Shared→Prop} (ok:(X.wish E).Ok):X.Ok:=
 ⟨ok.mod,ok.kind,ok.glob,ok.blt,ok.above,ok.inj,ok.has,ok.cab,ok.hd,ok.frames,ok.stk,ok.exf,ok.bs,ok.bsz,ok.noex,ok.exfs,ok.funs,ok.frf⟩
section
variable {X:Cx} {pins:List (Addr × Obj)} {σ:St} {H:Hp} {s:Shared} {E:Value→Shared→Prop}
theorem Inv.wish (I:Inv X pins σ H s) (E:Value→Shared→Prop):Inv (X.wish E) pins σ H s:=⟨I.ok.wish E,I.os,I.bare,I.base,I.loc,I.cell,I.free,I.freeC,I.pin,I.hok,I.len⟩
theorem Inv.unwish (I:Inv (X.wish E) pins σ H s):Inv X pins σ H s:=⟨I.ok.unwish,I.os,I.bare,I.base,I.loc,I.cell,I.free,I.freeC,I.pin,I.hok,I.len⟩
theorem SP.unwish {D:Ends} {f:Flow} {s':Shared} (h:SP (X.wish E) pins D f s'):SP X pins D f s':=by
 cases f with
 | next=>obtain ⟨σ',H',I,q⟩:=h; exact ⟨σ',H',I.unwish,q⟩
 | brk=>obtain ⟨σ',H',I,q⟩:=h; exact ⟨σ',H',I.unwish,q⟩
 | cont=>obtain ⟨σ',H',I,q⟩:=h; exact ⟨σ',H',I.unwish,q⟩
 | ret u=>obtain ⟨v,σ',H',I,r,q⟩:=h; exact ⟨v,σ',H',I.unwish,r,q⟩
theorem PSs.nox {st:List Stmt} {t:TS} (h:PSs X.nox st t):PSs X st t:=fun pins s σ H D I hw=>
 wpAny_mono (h pins s σ H D (I.wish _) hw) (fun _ _ q=>q.unwish) fun _ _ z=>False.elim z
end
section
variable {X:Cx} {st:Stmt} {rest:List Stmt} {t u:TS} {e:Expr} {te:TE} {pos:Pos}
def tNext:TS:=fun D σ H=>D.nx σ H
def tSeq (t u:TS):TS:=fun D σ H=>t { D with nx:=u D } σ H
theorem pss_nil:PSs X [] tNext:=fun _ _ σ H _ I h=>wpAny_execs_nil ⟨σ,H,I,h⟩
theorem pss_cons (h1:PS X st t) (h2:PSs X rest u):PSs X (st :: rest) (tSeq t u):=by
 intro pins s σ H D I h
 refine wpAny_execs_cons (thn (h1 pins s σ H { D with nx:=u D } I h) fun f s1 q=>?_)
 cases f with
 | next=>
  obtain ⟨σ',H',I',q⟩:=q
  exact h2 pins s1 σ' H' D I' q
 | ret v=>exact q
 | brk=>exact q
 | cont=>exact q
theorem pss_one (h1:PS X st t):PSs X [st] t:=by
 intro pins s σ H D I h
 refine wpAny_execs_cons (thn (h1 pins s σ H D I h) fun f s1 q=>?_)
 cases f with
 | next=>exact wpAny_execs_nil q
 | ret v=>exact q
 | brk=>exact q
 | cont=>exact q
theorem Inv.quiet {pins:List (Addr × Obj)} {σ:St} {H:Hp} {s:Shared} (I:Inv X pins σ H s):interactive X.env=false:=by simp [interactive,I.ok.kind]
def tDrop (te:TE):TS:=fun D σ H=>te σ H fun _ H1=>D.nx σ H1
theorem ps_expr (he:PE X e te) (hs:swapsWith e none pos.line X.env=pure false:=by rfl):PS X (.Expr e pos) (tDrop te):=by
 intro pins s σ H D I h
 exact wpAny_Expr_any (thn (he pins s σ H _ I h) fun v s1 ⟨x,H1,I1,r1,q1⟩=>⟨σ,H1,I1,q1⟩) I.quiet hs
def tRet (te:TE):TS:=fun D σ H=>te σ H D.rt
theorem ps_ret (he:PE X e te):PS X (.Return (some e) pos) (tRet te):=by
 intro pins s σ H D I h
 exact wpAny_Return_some (thn (he pins s σ H _ I h) fun v s1 ⟨x,H1,I1,r1,q1⟩=>⟨x,σ,H1,I1,r1,q1⟩)
def tIfS (c:TT) (t u:TS):TS:=fun D σ H=>c σ H fun b H1=>if b=true then t D σ H1 else u D σ H1
theorem ps_if {c:Expr} {a b:List Stmt} {tc:TT} (hc:PT X c tc) (ha:PSs X a t) (hb:PSs X b u):PS X (.If c a b pos) (tIfS tc t u):=by
 intro pins s σ H D I h
 refine wpAny_If (thn (hc pins s σ H _ I h) fun d s1 ⟨H1,I1,q1⟩=>?_)
 cases d with
 | true=>exact ha pins s1 σ H1 D I1 q1
 | false=>exact hb pins s1 σ H1 D I1 q1
end
abbrev TG:=V→St→Hp→(St→Hp→Prop)→Prop
abbrev TGs:=List V→St→Hp→(St→Hp→Prop)→Prop
def PG (X:Cx) (target:Expr) (t:TG):Prop:=
 ∀ (pins:List (Addr × Obj)) (s:Shared) (σ:St) (H:Hp) (v:V) (u:Value) (Q:St→Hp→Prop),Inv X pins σ H s→RelV v u→t v σ H Q→
  wpAny (model X.prog X.w) X.A (assign target X.env u) (fun _ s'=>∃ σ' H',Inv X pins σ' H' s'∧Q σ' H') X.xe s
def PGs (X:Cx) (ts:List Expr) (t:TGs):Prop:=
 ∀ (pins:List (Addr × Obj)) (s:Shared) (σ:St) (H:Hp) (vs:List V) (us:List Value) (Q:St→Hp→Prop),Inv X pins σ H s→Vals vs us→t vs σ H Q→
  wpAny (model X.prog X.w) X.A (assignInOrder ((assignEach ts X.env).map (·.2)) us) (fun _ s'=>∃ σ' H',Inv X pins σ' H' s'∧Q σ' H') X.xe s
abbrev TSet:=V→V→V→Hp→(Hp→Prop)→Prop
def PSet (X:Cx) (t:TSet):Prop:=
 ∀ (pins:List (Addr × Obj)) (s:Shared) (σ:St) (H:Hp) (o i v:V) (ov iv u:Value) (Q:Hp→Prop),Inv X pins σ H s→RelV o ov→RelV i iv→RelV v u→t o i v H Q→
  wpAny (model X.prog X.w) X.A (setItem ov iv u) (fun _ s'=>∃ H',Inv X pins σ H' s'∧Q H') X.xe s
section
variable {X:Cx} {pos:Pos}
def gName (i:Nat):TG:=fun v σ H Q=>Q (σ.set i (some v)) H
theorem pg_name {i:Nat} {x:Str} (hN:X.N.Nodup) (hi:X.N[i]? = some x) (hx:Loc X.env.scope x) (hf:X.fn x=true∨X.env.scope.names.lookup x=some .local:=by first | exact .inl rfl | exact .inr rfl | assumption):PG X (.Name x pos) (gName i):=by
 intro pins s σ H v u Q I r h
 exact wpAny_assign_Name (store_ok I hN hi hx r (fun s' I'=>⟨_,H,I',h⟩) hf)
def gNil:TGs:=fun vs σ H Q=>vs=[]∧Q σ H
inductive gConsI (t:TG) (u:TGs) (vs:List V) (σ:St) (H:Hp) (Q:St→Hp→Prop):Prop
 | mk (v r:_) (h1:vs=v :: r) (h2:t v σ H fun σ' H'=>u r σ' H' Q):gConsI t u vs σ H Q
def gCons (t:TG) (u:TGs):TGs:=fun vs σ H Q=>gConsI t u vs σ H Q
theorem pgs_nil:PGs X [] gNil:=by
 intro pins s σ H vs us Q I r h
 obtain ⟨e,h⟩:=h
 subst e
 cases r
 exact assignInOrder_nil ⟨σ,H,I,h⟩
theorem pgs_cons {e:Expr} {es:List Expr} {t:TG} {u:TGs} (h1:PG X e t) (h2:PGs X es u)
  (hs:(assignEach (e :: es) X.env).map (·.2)=assign e X.env :: (assignEach es X.env).map (·.2):=by rfl):PGs X (e :: es) (gCons t u):=by
 intro pins s σ H vs us Q I r h
 obtain ⟨v,vr,e1,h⟩:=h
 subst e1
 cases r with
 | cons r rr=>
  rw [hs]
  refine assignInOrder_cons (thn (h1 pins s σ H _ _ _ I r h) fun _ s1 ⟨σ1,H1,I1,q1⟩=>?_)
  exact h2 pins s1 σ1 H1 _ _ Q I1 rr q1
inductive gTupI (K:PySem.W.Frag) (n:Nat) (t:TGs) (v:V) (σ:St) (H:Hp) (Q:St→Hp→Prop):Prop
 | mk (a xs:_) (h1:v=.ref a) (h2:SqT K H a xs) (h3:xs.length=n) (h4:t xs σ H Q):gTupI K n t v σ H Q
def gTup (K:PySem.W.Frag) (n:Nat) (t:TGs):TG:=fun v σ H Q=>gTupI K n t v σ H Q
theorem pg_tup {es:List Expr} {k:Nat} {t:TGs} {n:Nat} (hc:X.calm=true) (h:PGs X es t)
  (hn:(assignEach es X.env).length=n:=by rfl) (hst:(assignEach es X.env).findIdx? (·.1)=none:=by rfl):PG X (.Tuple es k pos) (gTup X.K n t):=by
 intro pins s σ H v u Q I r hw
 obtain ⟨a,xs,e1,hq,hl,hw⟩:=hw
 subst e1
 cases r
 obtain ⟨its,rv,ht,hz⟩:=I.tuple hq
 refine assign_Tuple_tuple (I.ok.hd hc) ht (by simp [hn,← hl,rv.length]) hst fun h' hx=>?_
 have I1:Inv X pins σ H { s with heap:=h' }:=I.kept (t':=s.toks) fun b o e=>hx b o (Nat.ne_of_lt (Heap.lt_size e)) e
 exact h pins _ σ H xs _ Q I1 (by simpa using rv) hw
def gSub (to ti:TE) (t:TSet):TG:=fun v σ H Q=>to σ H fun o H1=>ti σ H1 fun i H2=>t o i v H2 fun H3=>Q σ H3
theorem pg_sub {o i:Expr} {to ti:TE} {t:TSet} (ho:PE X o to) (hi:PE X i ti) (hs:PSet X t)
  (ha:∀ v,assign (.Subscript o i pos) X.env v=(do
   let ov ← holding [v] (eval o X.env)
   let iv ← holding [v,ov] (eval i X.env)
   standAt pos
   holding [v,ov,iv] (setItem ov iv v)
   release [v,ov,iv] []):=by intro _; rfl):PG X (.Subscript o i pos) (gSub to ti t):=by
 intro pins s σ H v u Q I r h
 rw [ha]
 refine wpAny_bind (wpAny_holding (thn (ho pins s σ H _ I h) fun ov s1 ⟨x,H1,I1,r1,q1⟩=>?_))
 refine wpAny_bind (wpAny_holding (thn (hi pins s1 σ H1 _ I1 q1) fun iv s2 ⟨y,H2,I2,r2,q2⟩=>?_))
 refine wpAny_bind (wpAny_standAt (wpAny_bind (wpAny_holding (thn (hs pins s2 σ H2 x y v ov iv u _ I2 r1 r2 r q2) fun _ s3 ⟨H3,I3,q3⟩=>?_))))
 exact wpAny_release ⟨σ,H3,I3,q3⟩
def tAsg (te:TE) (g:TG):TS:=fun D σ H=>te σ H fun x H1=>g x σ H1 D.nx
theorem ps_asg {tg e:Expr} {te:TE} {g:TG} (he:PE X e te) (hg:PG X tg g) (hs:swapsWithSole [tg] e pos.line X.env=pure false:=by rfl) (hw:swappedStores [tg] e X.env=pure none:=by rfl)
  (h1:(assignEach [tg] X.env).map (·.2)=[assign tg X.env]:=by rfl):PS X (.Assign [tg] e pos) (tAsg te g):=by
 intro pins s σ H D I h
 refine wpAny_Assign_stores (thn (he pins s σ H _ I h) fun v s1 ⟨x,H1,I1,r1,q1⟩=>?_) hs hw
 rw [h1]
 exact thn (hg pins s1 σ H1 x v _ I1 r1 q1) fun _ s2 q=>q
theorem ps_set {i:Nat} {x:Str} {e:Expr} {te:TE} {pos':Pos} (hN:X.N.Nodup) (hi:X.N[i]? = some x) (hx:Loc X.env.scope x) (he:PE X e te) (hs:swapsWith e (some (.Name x pos')) pos.line X.env=pure false:=by rfl) (hf:X.fn x=true∨X.env.scope.names.lookup x=some .local:=by first | exact .inl rfl | exact .inr rfl | assumption) :
  PS X (.Assign [.Name x pos'] e pos) (tAsg te (gName i)):=by
 intro pins s σ H D I h
 refine wpAny_Assign_Name (thn (he pins s σ H _ I h) fun v s1 ⟨y,H1,I1,r1,q1⟩=>?_) hs
 exact store_ok I1 hN hi hx r1 (fun s2 I2=>⟨_,H1,I2,q1⟩) hf
inductive tParI (i:Nat) (j:Nat) (D:Ends) (σ:St) (vs:List V) (H1:Hp):Prop
 | mk (v w:_) (h1:vs=[v,w]) (h2:D.nx ((σ.set i (some v)).set j (some w)) H1):tParI i j D σ vs H1
def tPar (i j:Nat) (ta:TA):TS:=fun D σ H=>ta σ H fun vs H1=>tParI i j D σ vs H1
theorem ps_par {i j:Nat} {x y:Str} {a b:Expr} {ta:TA} {px py pt:Pos} {kt k2 pt2} (hc:X.calm=true) (hN:X.N.Nodup) (hi:X.N[i]? = some x) (hj:X.N[j]? = some y) (hij:i≠j)
  (hx:X.env.scope.names.lookup x=some .local) (hy:X.env.scope.names.lookup y=some .local) (ha:PA X [a,b] ta)
  (hw:swappedStores [.Tuple [.Name x px,.Name y py] kt pt] (.Tuple [a,b] k2 pt2) X.env=pure (some [x,y]))
  (hs:swapsWithSole [.Tuple [.Name x px,.Name y py] kt pt] (.Tuple [a,b] k2 pt2) pos.line X.env=pure false:=by rfl) :
  PS X (.Assign [.Tuple [.Name x px,.Name y py] kt pt] (.Tuple [a,b] k2 pt2) pos) (tPar i j ta):=by
 intro pins s σ H D I h
 rw [exec_Assign_arm]
 refine wpAny_bind (wpAny_standAt ?_)
 rw [hs]
 refine wpAny_bind (wpAny_pure ?_)
 rw [if_neg (by decide)]
 refine wpAny_bind (Tuple_ (thn (ha _ pins s σ H _ I h) fun us s1 ⟨vs,H1,I1,r1,q1⟩=>?_))
 obtain ⟨v,w,e1,q1⟩:=q1
 subst e1
 obtain ⟨u1,u2,rfl,rv,rw'⟩:∃ u1 u2,us=[u1,u2]∧RelV v u1∧RelV w u2:=by
  cases r1 with
  | cons p q=>
   cases q with
   | cons p' q'=>
    cases q'
    exact ⟨_,_,rfl,p,p'⟩
 refine wpAny_newObj_type ?_ (by show 2≤sizeLine; decide)
 have I2:Inv X pins σ H1 { s1 with heap:=s1.heap.push { cls:=.type "tuple",data:=.seq [u1,u2].toArray } }:=I1.kept (t':=s1.toks) fun b o e=>Heap.get?_push_of_some _ e
 rw [hw]
 refine wpAny_bind (wpAny_pure ?_)
 show wpAny (model X.prog X.w) X.A (do rule "assign.swapped-stores"; let items ← unpackItems (.ref s1.heap.objs.size) 2 none; assignInOrder [fun v=>bindName X.env y v,fun v=>bindName X.env x v] items.reverse; pure Flow.next) _ _ _
 refine wpAny_bind (wpAny_rule (wpAny_bind (unpackItems_tuple (items:=#[u1,u2]) (I.ok.hd hc) (IsTup.new s1.heap _) fun h' hx'=>?_)))
 have I3:=I2.kept (h':=h') (t':=s1.toks) fun b o e=>hx' b o (Nat.ne_of_lt (Heap.lt_size e)) e
 show wpAny _ _ (assignInOrder [fun v=>bindName X.env y v,fun v=>bindName X.env x v] [u2,u1] >>= fun _=>pure Flow.next) _ _ _
 refine wpAny_bind (assignInOrder_cons (wpAny_bindName (store_ok I3 hN hj (.inl hy) rw' (fun s2 I4=>?_) (.inr hy))))
 refine assignInOrder_cons (wpAny_bindName (store_ok I4 hN hi (.inl hx) rv (fun s3 I5=>assignInOrder_nil (wpAny_pure ?_)) (.inr hx)))
 rw [List.set_comm _ _ (Ne.symm hij)] at I5
 exact ⟨_,H1,I5,q1⟩
end
section
variable {X:Cx} {pos:Pos}
inductive tWhileI (c:TT) (tb:TS) (D:Ends) (σ:St) (H:Hp):Prop
 | mk (W:Nat→St→Hp→Prop) (h1:(∃ m,W m σ H)) (h2:∀ m σ H,W m σ H→c σ H fun b H1=>if b=true then ∃ N:St→Hp→Prop,(∀ σ' H',N σ' H'→∃ m',m' < m∧W m' σ' H')∧tb { D with nx:=N,ct:=N,bk:=D.nx } σ H1 else D.nx σ H1):tWhileI c tb D σ H
def tWhile (c:TT) (tb:TS):TS:=fun D σ H=>tWhileI c tb D σ H
theorem ps_while {c:Expr} {body:List Stmt} {tc:TT} {tb:TS} (hp:PassesOwn (model X.prog X.w) X.A X.env X.xe) (hc:PT X c tc) (hb:PSs X body tb):PS X (.While c body [] pos) (tWhile tc tb):=by
 intro pins s σ H D I h
 obtain ⟨W,⟨m0,w0⟩,turn⟩:=h
 refine wpAny_While (codeAny_whileLoop (fun n s'=>∃ σ' H',Inv X pins σ' H' s'∧W n σ' H') ?_ m0 ⟨σ,H,I,w0⟩)
 rintro n s1 ⟨σ1,H1,I1,w1⟩
 refine wpAny_passesOwn hp (thn (hc pins s1 σ1 H1 _ I1 (turn n σ1 H1 w1)) fun b s2 ⟨H2,I2,q2⟩=>?_)
 cases b with
 | true=>
  obtain ⟨N,hN,q2⟩:=q2
  rw [if_pos rfl]
  refine wpAny_passesOwn hp (thn (hb pins s2 σ1 H2 _ I2 q2) fun f s3 q3=>?_)
  cases f with
  | next=>
   obtain ⟨σ3,H3,I3,n3⟩:=q3
   obtain ⟨m',hm,w3⟩:=hN σ3 H3 n3
   exact ⟨m',hm,σ3,H3,I3,w3⟩
  | cont=>
   obtain ⟨σ3,H3,I3,n3⟩:=q3
   obtain ⟨m',hm,w3⟩:=hN σ3 H3 n3
   exact ⟨m',hm,σ3,H3,I3,w3⟩
  | brk=>exact q3
  | ret v=>exact q3
 | false=>
  rw [if_neg Bool.false_ne_true]
  exact wpAny_execs_nil ⟨σ1,H2,I2,q2⟩
end
structure It where
 go:Nat→Hp→Prop
 yld:Nat→Hp→V→Hp→Prop
 stop:Nat→Hp→Prop
def FpOk (X:Cx) (pins:List (Addr × Obj)) (H:Hp) (b:Addr):Prop:=
 H b=none∧b≠X.env.locals∧b∉X.fs∧(b∈X.ex∨X.s₀.heap.objs.size≤b)∧(∀ x c,X.env.cells.lookup x=some c→c≠b)∧∀ p∈X.pn ++ pins,p.1≠b
theorem Inv.fpOk {X:Cx} {pins:List (Addr × Obj)} {σ:St} {H H':Hp} {s:Shared} {b:Addr} (I:Inv X pins σ H s) (hb:s.heap.objs.size≤b) (hn:H' b=none):FpOk X pins H' b:=by
 refine ⟨hn,Nat.ne_of_gt (Nat.lt_of_lt_of_le I.lt hb),I.nofs hb,.inr (Nat.le_trans I.sz hb),fun x c e z=>?_,fun p hp z=>?_⟩
 ·obtain ⟨v,q⟩:=I.cell x c e
  exact absurd (Nat.lt_of_lt_of_le q.lt (by rw [z]; exact hb)) (Nat.lt_irrefl _)
 ·exact absurd (Nat.lt_of_lt_of_le (Heap.lt_size (I.pin p hp).1) (by rw [z]; exact hb)) (Nat.lt_irrefl _)
structure Turn (P:Program) (w:World) (K:PySem.W.Frag) (tg:Expr) (J:It) (fp:List Addr) (it:Addr) (tn:Nat→Heap→Prop):Prop where
 mem:it∈fp
 obj:∀ i h,tn i h→∀ b∈fp,∃ o,h.get? b=some o∧∀ v,o.data≠.cell v
 keep:∀ i h h',tn i h→(∀ b∈fp,∀ o,h.get? b=some o→h'.get? b=some o)→tn i h'
 item:∀ (X:Cx),X.prog=P→X.w=w→X.K=K→X.calm=true→∀ (i:Nat) (pins:List (Addr × Obj)) (s:Shared) (σ:St) (H:Hp) (E:Value→Shared→Prop),Inv X pins σ H s→(∀ b∈fp,FpOk X pins H b)→tn i s.heap→J.go i H→
  wpAny (model P w) X.A (pyNext (.ref it)) (fun r s1=>∃ u,r=some u∧
   wpAny (model P w) X.A (letOwnedTupleGo tg (.ref it) u) (fun _ s2=>∃ x H',Inv X pins σ H' s2∧RelV x u∧J.yld i H x H'∧tn (i+1) s2.heap∧∀ b∈fp,H' b=none) E s1) E s
 done:∀ (X:Cx),X.prog=P→X.w=w→X.K=K→X.calm=true→∀ (i:Nat) (pins:List (Addr × Obj)) (s:Shared) (σ:St) (H:Hp) (E:Value→Shared→Prop),Inv X pins σ H s→(∀ b∈fp,FpOk X pins H b)→tn i s.heap→J.stop i H→
  wpAny (model P w) X.A (pyNext (.ref it)) (fun r s1=>r=none∧Inv X pins σ H s1) E s
 self:∀ (A:Around) (i:Nat) (s:Shared) (Q:Value→Shared→Prop) (E:Value→Shared→Prop),tn i s.heap→Q (.ref it) s→wpAny (model P w) A (pyIter (.ref it)) Q E s
abbrev TI:=St→Hp→(It→Hp→Prop)→Prop
def PIE (X:Cx) (pins:List (Addr × Obj)) (σ:St) (tg:Expr) (R:It→Hp→Prop) (itv:Value) (s2:Shared):Prop:=
 ∃ (it:Addr) (fp:List Addr) (tn:Nat→Heap→Prop) (J:It) (H':Hp),itv=.ref it∧Inv X pins σ H' s2∧Turn X.prog X.w X.K tg J fp it tn∧tn 0 s2.heap∧(∀ b∈fp,FpOk X pins H' b)∧R J H'
def PI (X:Cx) (tg iter:Expr) (wi:TI):Prop:=
 ∀ (pins:List (Addr × Obj)) (s:Shared) (σ:St) (H:Hp) (R:It→Hp→Prop),Inv X pins σ H s→wi σ H R→
  wpAny (model X.prog X.w) X.A (eval iter X.env) (fun v s1=>wpAny (model X.prog X.w) X.A (pyIter v) (PIE X pins σ tg R) X.xe s1) X.xe s
theorem go_of {M:Model} {A:Around} {E:Value→Shared→Prop} {s:Shared} {tg:Expr} {it:Addr} {u:Value} {o:Obj} {n:String} {vs:Array Value} {Q:Unit→Shared→Prop} (ho:s.heap.get? it=some o) (hc:o.cls=.type n) (hd:o.data=.fields vs)
  (hn:["enumerate","zip","dict_itemiterator","dict_reverseitemiterator","odict_iterator","itertools.zip_longest","itertools.pairwise"].contains n=false) (hQ:Q () s):wpAny M A (letOwnedTupleGo tg (.ref it) u) Q E s:=by
 unfold letOwnedTupleGo
 cases tg <;> first
  | exact wpAny_pure hQ
  | (cases u <;> first
    | exact wpAny_pure hQ
    | (refine wpAny_bind (wpAny_load ho ?_)
       rw [hc,hd]
       show wpAny M A (if (["enumerate","zip","dict_itemiterator","dict_reverseitemiterator","odict_iterator","itertools.zip_longest","itertools.pairwise"].contains n && vs[0]? == some (rawInt _))=true then _ else _) Q E s
       rw [if_neg (by intro h; rw [hn,Bool.false_and] at h; cases h)]
       exact wpAny_pure hQ))
def Itl (K:PySem.W.Frag) (a:Addr):It:=
 ⟨fun i H=>∃ xs x,SqL K H a xs∧xs[i]? = some x,fun i H x H'=>H'=H∧∀ xs,SqL K H a xs→xs[i]? = some x,fun i H=>∃ xs,SqL K H a xs∧xs.length≤i⟩
def Itr (lo:Int) (n:Nat):It:=⟨fun i _=>i < n,fun i H x H'=>H'=H∧x=.int (lo+i),fun i _=>n≤i⟩
theorem turn_list {P:Program} {w:World} {K:PySem.W.Frag} {tg:Expr} (a it:Addr):Turn P w K tg (Itl K a) [it] it (fun i h=>h.IsListIter it a i) where
 mem:=by simp
 obj:=fun i h st b hb=>by
  have e:b=it:=by simpa using hb
  subst e
  obtain ⟨o,e,c,d⟩:=st
  exact ⟨o,e,fun v z=>by rw [d] at z; cases z⟩
 keep:=fun i h h' st k=>st.at fun o e=>k it (by simp) o e
 item:=by
  intro X hP hw hK hc i pins s σ H E I hf st hg
  subst hP hw hK
  obtain ⟨xs,x,hq,hx⟩:=hg
  obtain ⟨its,rv,p,hz⟩:=I.list hq
  obtain ⟨u,hu,ru⟩:=rv.get hx
  obtain ⟨f0,f1,f2,f3,f4,f5⟩:=hf it (by simp)
  refine wpAny_pyNext_list_item st p.isList (x:=u) (by simpa using hu) fun h' st' sb=>?_
  have I1:Inv X pins σ H { s with heap:=h' }:=I.turned (t':=s.toks) (fun b o hb e=>(sb.2 b hb).trans e) f0 f1 f3 f4 f5
  obtain ⟨o,e,c,d⟩:=id st'
  exact ⟨u,rfl,go_of (s:={ s with heap:=h' }) e c d (by decide) ⟨x,H,I1,ru,⟨rfl,fun ys hy=>by rw [I.list_inj hy hq]; exact hx⟩,st',fun b hb=>(hf b hb).1⟩⟩
 done:=by
  intro X hP hw hK hc i pins s σ H E I hf st hg
  subst hP hw hK
  obtain ⟨xs,hq,hx⟩:=hg
  obtain ⟨its,rv,p,hz⟩:=I.list hq
  obtain ⟨f0,f1,f2,f3,f4,f5⟩:=hf it (by simp)
  have hl:=rv.length
  exact wpAny_pyNext_list_end (I.ok.hd hc) st p.isList (by simp; omega) fun h' eb=>⟨rfl,I.turned (t':=s.toks) (fun b o hb e=>eb b o hb e) f0 f1 f3 f4 f5⟩
 self:=fun _ _ _ _ _ st h=>wpAny_pyIter_listiter st h
theorem turn_range {P:Program} {w:World} {K:PySem.W.Frag} {tg:Expr} (it:Addr) (lo:Int) (n:Nat):Turn P w K tg (Itr lo n) [it] it (fun i h=>IsRangeIter h it (lo+(i:Nat) * 1) ((n:Int) - (i:Nat)) 1) where
 mem:=by simp
 obj:=fun i h st b hb=>by
  have e:b=it:=by simpa using hb
  subst e
  exact ⟨_,st,fun v z=>by
   have z':Data.fields _=Data.cell v:=z
   cases z'⟩
 keep:=fun i h h' st k=>k it (by simp) _ st
 item:=by
  intro X hP hw hK hc i pins s σ H E I hf st hg
  subst hP hw hK
  obtain ⟨f0,f1,f2,f3,f4,f5⟩:=hf it (by simp)
  have W:=Walks.range (prog:=X.prog) (w:=X.w) (I.ok.hd hc) it lo 1 n
  refine W.item i s _ _ hg st fun v h' tk hv st' kk=>?_
  obtain ⟨t,rfl⟩:=hv
  have I1:Inv X pins σ H { s with heap:=h',toks:=tk }:=I.turned (fun b o hb e=>kk b o (by simpa using hb) e) f0 f1 f3 f4 f5
  refine ⟨_,rfl,go_of (s:={ s with heap:=h',toks:=tk }) (n:="range_iterator") st' rfl rfl (by decide) ⟨.int (lo+i),H,I1,⟨t,?_⟩,⟨rfl,rfl⟩,st',fun b hb=>(hf b hb).1⟩⟩
  rw [Int.mul_one]
 done:=by
  intro X hP hw hK hc i pins s σ H E I hf st hg
  subst hP hw hK
  obtain ⟨f0,f1,f2,f3,f4,f5⟩:=hf it (by simp)
  exact wpAny_pyNext_range_end (I.ok.hd hc) st (by have:n≤i:=hg; omega) fun h' eb=>⟨rfl,I.turned (t':=s.toks) (fun b o hb e=>eb b o hb e) f0 f1 f3 f4 f5⟩
 self:=fun _ _ _ _ _ st h=>wpAny_pyIter_rangeiter st h
end L2
namespace L2
open PySem PySem.Spec PyProof.Rows
section
variable {X:Cx} {tg:Expr}
inductive iListI (K:PySem.W.Frag) (R:It→Hp→Prop) (x:V) (H1:Hp):Prop
 | mk (a:_) (h1:x=.ref a) (h2:(∃ xs,SqL K H1 a xs)) (h3:R (Itl K a) H1):iListI K R x H1
def iList (K:PySem.W.Frag) (tl:TE):TI:=fun σ H R=>tl σ H fun x H1=>iListI K R x H1
theorem pi_list {l:Expr} {tl:TE} (hl:PE X l tl):PI X tg l (iList X.K tl):=by
 intro pins s σ H R I h
 refine thn (hl pins s σ H _ I h) fun v s1 ⟨x,H1,I1,r1,q1⟩=>?_
 obtain ⟨a,e,⟨xs,hq⟩,q⟩:=q1
 subst e
 cases r1
 obtain ⟨its,rv,p,hz⟩:=I1.list hq
 refine wpAny_pyIter_list p.isList ?_
 refine ⟨s1.heap.objs.size,[s1.heap.objs.size],_,_,H1,rfl,I1.kept (t':=s1.toks) fun b o e=>Heap.get?_push_of_some _ e,turn_list a _,⟨_,Heap.get?_push_size _ rfl,rfl,rfl⟩,fun b hb=>?_,q⟩
 have e:b=s1.heap.objs.size:=by simpa using hb
 subst e
 exact I1.fpOk (Nat.le_refl _) (I1.hok.fresh (Nat.le_refl _))
theorem range_it {pins:List (Addr × Obj)} {σ:St} {H:Hp} {s:Shared} {R:It→Hp→Prop} {E:Value→Shared→Prop} {lo hi:Int} {t u v:Tok} {tk:Nat} (I:Inv X pins σ H s) (h1 : -(2 ^ 62)≤lo) (h2:lo < 2 ^ 62) (h3 : -(2 ^ 62)≤hi) (h4:hi < 2 ^ 62)
  (q:R (Itr lo (hi - lo).toNat) H):wpAny (model X.prog X.w) X.A (pyIter (.ref s.heap.objs.size)) (PIE X pins σ tg R) E { s with heap:=s.heap.push { cls:=.type "range",data:=.fields #[.int lo t,.int hi u,.int 1 v] },toks:=tk }:=by
 refine wpAny_pyIter_range (IsRange.new ..) (small_one h1 h2 h3 h4) ?_
 have I1:Inv X pins σ H { s with heap:=s.heap.push { cls:=.type "range",data:=.fields #[.int lo t,.int hi u,.int 1 v] },toks:=tk }:=I.kept fun b o e=>Heap.get?_push_of_some _ e
 refine ⟨(s.heap.push { cls:=.type "range",data:=.fields #[.int lo t,.int hi u,.int 1 v] }).objs.size,[(s.heap.push { cls:=.type "range",data:=.fields #[.int lo t,.int hi u,.int 1 v] }).objs.size],_,_,H,rfl,
  I1.kept (t':=tk) fun b o e=>Heap.get?_push_of_some _ e,turn_range _ lo (hi - lo).toNat,?_,fun b hb=>?_,q⟩
 ·have e1:lo+((0:Nat):Int) * 1=lo:=by simp
  have e2:(((hi - lo).toNat:Nat):Int) - ((0:Nat):Int)=Builtin.Range.rangeSize lo hi 1:=by rw [rangeSize_one]; split <;> omega
  show IsRangeIter _ _ (lo+((0:Nat):Int) * 1) ((((hi - lo).toNat:Nat):Int) - ((0:Nat):Int)) 1
  rw [e1,e2]
  exact Heap.get?_push_size _ rfl
 ·have e:b=(s.heap.push { cls:=.type "range",data:=.fields #[.int lo t,.int hi u,.int 1 v] }).objs.size:=by simpa using hb
  subst e
  exact I1.fpOk (Nat.le_refl _) (I1.hok.fresh (Nat.le_refl _))
inductive iRng1I (R:It→Hp→Prop) (vs:List V) (H1:Hp):Prop
 | mk (j:Int) (h1:vs=[.int j]) (h2 : -(2 ^ 62)≤j) (h3:j < 2 ^ 62) (h4:R (Itr 0 j.toNat) H1):iRng1I R vs H1
def iRng1 (ta:TA):TI:=fun σ H R=>ta σ H fun vs H1=>iRng1I R vs H1
inductive iRng2I (R:It→Hp→Prop) (vs:List V) (H1:Hp):Prop
 | mk (i j:Int) (h1:vs=[.int i,.int j]) (h2:(-(2 ^ 62)≤i∧i < 2 ^ 62∧-(2 ^ 62)≤j∧j < 2 ^ 62)) (h3:R (Itr i (j - i).toNat) H1):iRng2I R vs H1
def iRng2 (ta:TA):TI:=fun σ H R=>ta σ H fun vs H1=>iRng2I R vs H1
theorem pi_range1 {a:Expr} {ta:TA} {p pos:Pos} (hg:Gl X "range") (hm:X.mg "range" = none) (ha:PA X [a] ta) (hs:starEach [a] X.env=[(false,eval a X.env)]:=by rfl):PI X tg (.Call (.Name "range" p) [a] [] pos) (iRng1 ta):=by
 intro pins s σ H R I h
 refine Call_ (ld_blt I hg hm boot_range (PyProof.Rows.callWith_type1 (thn (ha pos pins s σ H _ I h) fun us s1 ⟨vs,H1,I1,r1,q1⟩=>?_) hs rfl))
 obtain ⟨j,e,q1,q2,q⟩:=q1
 subst e
 cases r1 with
 | cons r rr=>
  cases rr
  obtain ⟨t,rfl⟩:=r
  exact call_range_1 (range_it I1 (by omega) (by omega) q1 q2 (by simpa using q))
theorem pi_range2 {a b:Expr} {ta:TA} {p pos:Pos} (hg:Gl X "range") (hm:X.mg "range" = none) (ha:PA X [a,b] ta) (hs:starEach [a,b] X.env=[(false,eval a X.env),(false,eval b X.env)]:=by rfl) (hs2:starEach [b] X.env=[(false,eval b X.env)]:=by rfl) :
  PI X tg (.Call (.Name "range" p) [a,b] [] pos) (iRng2 ta):=by
 intro pins s σ H R I h
 refine Call_ (ld_blt I hg hm boot_range (PyProof.Rows.callWith_type1 (thn (ha pos pins s σ H _ I h) fun us s1 ⟨vs,H1,I1,r1,q1⟩=>?_) (by rw [hs,hs2]) (by rw [hs2]; rfl)))
 obtain ⟨i,j,e,⟨q1,q2,q3,q4⟩,q⟩:=q1
 subst e
 cases r1 with
 | cons r rr=>
  cases rr with
  | cons r' rr=>
   cases rr
   obtain ⟨t,rfl⟩:=r
   obtain ⟨t',rfl⟩:=r'
   exact call_range_2 (range_it I1 q1 q2 q3 q4 q)
def tFor (wi:TI) (g:TG) (tb:TS):TS:=fun D σ H=>wi σ H fun J H1=>∃ W:Nat→Nat→St→Hp→Prop,(∃ m,W 0 m σ H1)∧∀ i m σ H,W i m σ H→
 (J.stop i H∧D.nx σ H)∨(J.go i H∧∃ N:St→Hp→Prop,(∀ σ' H',N σ' H'→∃ m',m' < m∧W (i+1) m' σ' H')∧∀ x H',J.yld i H x H'→g x σ H' fun σ2 H2=>tb { D with nx:=N,ct:=N,bk:=D.nx } σ2 H2)
def pinsAt (fp:List Addr) (h:Heap):List (Addr × Obj):=fp.filterMap fun b=>(h.get? b).map fun o=>(b,o)
theorem mem_pinsAt {fp:List Addr} {h:Heap} {b:Addr} {o:Obj} (hb:b∈fp) (e:h.get? b=some o):(b,o)∈pinsAt fp h:=List.mem_filterMap.mpr ⟨b,hb,by rw [e]; rfl⟩
theorem of_pinsAt {fp:List Addr} {h:Heap} {p:Addr × Obj} (hp:p∈pinsAt fp h):p.1∈fp∧h.get? p.1=some p.2:=by
 obtain ⟨b,hb,e⟩:=List.mem_filterMap.mp hp
 cases q:h.get? b with
 | none=>rw [q] at e; cases e
 | some o=>
  rw [q] at e
  have e':(b,o)=p:=Option.some.inj e
  subst e'
  exact ⟨hb,q⟩
theorem Inv.pinned {pins:List (Addr × Obj)} {σ:St} {H:Hp} {s:Shared} {fp:List Addr} (I:Inv X pins σ H s) (hf:∀ b∈fp,FpOk X pins H b) (ho:∀ b∈fp,∃ o,s.heap.get? b=some o∧∀ v,o.data≠.cell v):Inv X (pins ++ pinsAt fp s.heap) σ H s:=
 I.pins_of fun p hp=>(List.mem_append.mp hp).elim (fun z=>I.pin p (List.mem_append_right _ z)) fun z=>by
  obtain ⟨hb,e⟩:=of_pinsAt z
  obtain ⟨f0,f1,f2,_⟩:=hf p.1 hb
  obtain ⟨o,e',d⟩:=ho p.1 hb
  rw [e] at e'; cases e'
  exact ⟨e,f0,f1,f2,d⟩
theorem Inv.unpinned {pins pl:List (Addr × Obj)} {σ:St} {H:Hp} {s:Shared} (I:Inv X (pins ++ pl) σ H s):Inv X pins σ H s:=I.pins_of fun p hp=>I.pin p (List.mem_append_right _ (List.mem_append_left _ hp))
theorem ps_for {iter:Expr} {body:List Stmt} {wi:TI} {g:TG} {tb:TS} {pos:Pos} (hp:PassesOwn (model X.prog X.w) X.A X.env X.xe) (hc:X.calm=true) (hi:PI X tg iter wi) (hg:PG X tg g) (hb:PSs X body tb)
  (hs:∀ x,foldedSetIterable iter X.env x=pure x:=by intro _; rfl):PS X (.For tg iter body [] pos) (tFor wi g tb):=by
 intro pins s σ H D I h
 refine wpAny_For (thn (hi pins s σ H _ I h) fun v s1 h1=>thn h1 fun itv s2 h2=>?_) hs
 obtain ⟨it,fp,tn,J,H2,e,I2,T,st2,f2,W,⟨m0,w0⟩,turn⟩:=h2
 subst e
 have stat:∀ {H':Hp},(∀ b∈fp,H' b=none)→∀ b∈fp,FpOk X pins H' b:=fun hn b hb=>⟨hn b hb,(f2 b hb).2⟩
 refine codeAny_forLoop_any (fun n s'=>∃ i σ' H',Inv X pins σ' H' s'∧tn i s'.heap∧(∀ b∈fp,H' b=none)∧W i n σ' H') ?_ m0 ⟨0,σ,H2,I2,st2,fun b hb=>(f2 b hb).1,w0⟩
 rintro n s3 ⟨i,σ3,H3,I3,st3,fr3,w3⟩
 rcases turn i n σ3 H3 w3 with ⟨stop,qn⟩ | ⟨go,N,hN,step⟩
 ·refine wpAny_passesOwn hp (thn (T.done X rfl rfl rfl hc i pins s3 σ3 H3 X.xe I3 (stat fr3) st3 stop) fun r s4 ⟨hr,I4⟩=>?_)
  subst hr
  exact wpAny_execs_nil ⟨σ3,H3,I4,qn⟩
 ·refine wpAny_passesOwn hp (thn (T.item X rfl rfl rfl hc i pins s3 σ3 H3 X.xe I3 (stat fr3) st3 go) fun r s4 ⟨u,hr,h4⟩=>?_)
  subst hr
  refine wpAny_passesOwn hp (thn h4 fun _ s5 ⟨x,H5,I5,r5,y5,st5,fr5⟩=>?_)
  have I5':=I5.pinned (stat fr5) (T.obj _ _ st5)
  refine wpAny_passesOwn hp (thn (hg _ s5 σ3 H5 x u _ I5' r5 (step x H5 y5)) fun _ s6 ⟨σ6,H6,I6,q6⟩=>?_)
  refine wpAny_passesOwn hp (thn (hb _ s6 σ6 H6 _ I6 q6) fun f s7 q7=>?_)
  have again:∀ {σ7:St} {H7:Hp},Inv X (pins ++ pinsAt fp s5.heap) σ7 H7 s7→N σ7 H7→∃ m,m < n∧∃ i σ' H',Inv X pins σ' H' s7∧tn i s7.heap∧(∀ b∈fp,H' b=none)∧W i m σ' H':=fun {σ7 H7} I7 n7=>by
   obtain ⟨m',hm,w7⟩:=hN σ7 H7 n7
   refine ⟨m',hm,i+1,σ7,H7,I7.unpinned,T.keep _ _ _ st5 fun b hb o e=>(I7.pin (b,o) (List.mem_append_right _ (List.mem_append_right _ (mem_pinsAt hb e)))).1,fun b hb=>?_,w7⟩
   obtain ⟨o,e,d⟩:=T.obj _ _ st5 b hb
   exact (I7.pin (b,o) (List.mem_append_right _ (List.mem_append_right _ (mem_pinsAt hb e)))).2.1
  cases f with
  | next=>obtain ⟨σ7,H7,I7,n7⟩:=q7; exact again I7 n7
  | cont=>obtain ⟨σ7,H7,I7,n7⟩:=q7; exact again I7 n7
  | brk=>obtain ⟨σ7,H7,I7,q7⟩:=q7; exact ⟨σ7,H7,I7.unpinned,q7⟩
  | ret v=>obtain ⟨x7,σ7,H7,I7,r7,q7⟩:=q7; exact ⟨x7,σ7,H7,I7.unpinned,r7,q7⟩
end
theorem for_list {K:PySem.W.Frag} {a:Addr} {xs:List V} {g:TG} {tb:TS} {D:Ends} {σ:St} {H:Hp} (Pv:Nat→St→Hp→Prop) (h0:Pv 0 σ H) (hl:∀ i σ H,i≤xs.length→Pv i σ H→SqL K H a xs)
  (hs:∀ i x σ H,xs[i]? = some x→Pv i σ H→g x σ H fun σ2 H2=>tb { D with nx:=Pv (i+1),ct:=Pv (i+1),bk:=D.nx } σ2 H2) (hd:∀ σ H,Pv xs.length σ H→D.nx σ H) :
  ∃ W:Nat→Nat→St→Hp→Prop,(∃ m,W 0 m σ H)∧∀ i m σ H,W i m σ H→
   ((Itl K a).stop i H∧D.nx σ H)∨((Itl K a).go i H∧∃ N:St→Hp→Prop,(∀ σ' H',N σ' H'→∃ m',m' < m∧W (i+1) m' σ' H')∧∀ x H',(Itl K a).yld i H x H'→g x σ H' fun σ2 H2=>tb { D with nx:=N,ct:=N,bk:=D.nx } σ2 H2):=by
 refine ⟨fun i m σ H=>m=xs.length - i∧i≤xs.length∧Pv i σ H,⟨xs.length,by simp,Nat.zero_le _,h0⟩,?_⟩
 rintro i m σ H ⟨rfl,hi,p⟩
 have q:=hl i σ H hi p
 by_cases hlt:i < xs.length
 ·refine .inr ⟨⟨xs,xs[i],q,by simp [hlt]⟩,Pv (i+1),fun σ' H' p'=>⟨xs.length - (i+1),by omega,rfl,hlt,p'⟩,fun x H' y=>?_⟩
  obtain ⟨e,y⟩:=y
  subst e
  exact hs i x σ _ (y xs q) p
 ·have e:i=xs.length:=by omega
  subst e
  exact .inl ⟨⟨xs,q,Nat.le_refl _⟩,hd σ H p⟩
theorem for_range {lo:Int} {n:Nat} {g:TG} {tb:TS} {D:Ends} {σ:St} {H:Hp} (Pv:Nat→St→Hp→Prop) (h0:Pv 0 σ H)
  (hs:∀ i σ H,i < n→Pv i σ H→g (.int (lo+i)) σ H fun σ2 H2=>tb { D with nx:=Pv (i+1),ct:=Pv (i+1),bk:=D.nx } σ2 H2) (hd:∀ σ H,Pv n σ H→D.nx σ H) :
  ∃ W:Nat→Nat→St→Hp→Prop,(∃ m,W 0 m σ H)∧∀ i m σ H,W i m σ H→
   ((Itr lo n).stop i H∧D.nx σ H)∨((Itr lo n).go i H∧∃ N:St→Hp→Prop,(∀ σ' H',N σ' H'→∃ m',m' < m∧W (i+1) m' σ' H')∧∀ x H',(Itr lo n).yld i H x H'→g x σ H' fun σ2 H2=>tb { D with nx:=N,ct:=N,bk:=D.nx } σ2 H2):=by
 refine ⟨fun i m σ H=>m=n - i∧i≤n∧Pv i σ H,⟨n,by simp,Nat.zero_le _,h0⟩,?_⟩
 rintro i m σ H ⟨rfl,hi,p⟩
 by_cases hlt:i < n
 ·refine .inr ⟨hlt,Pv (i+1),fun σ' H' p'=>⟨n - (i+1),by omega,rfl,hlt,p'⟩,fun x H' y=>?_⟩
  obtain ⟨e,y⟩:=y
  subst e y
  exact hs i σ _ hlt p
 ·have e:i=n:=by omega
  subst e
  exact .inl ⟨Nat.le_refl _,hd σ H p⟩
end L2
namespace L2
open PySem PySem.Spec PyProof.Rows
abbrev R2:=V→V→Hp→VK→Prop
def OpR (X:Cx) (f:Value→Value→Sem Value) (r:R2):Prop:=
 ∀ (pins:List (Addr × Obj)) (s:Shared) (σ:St) (H:Hp) (x y:V) (v u:Value) (Q:VK),Inv X pins σ H s→RelV x v→RelV y u→r x y H Q→
  wpAny (model X.prog X.w) X.A (f v u) (EP X pins σ Q) X.xe s
def CallR (X:Cx) (f:Value) (r:List V→Hp→VK→Prop):Prop:=
 ∀ (pins:List (Addr × Obj)) (s:Shared) (σ:St) (H:Hp) (xs:List V) (us:List Value) (Q:VK),Inv X pins σ H s→Vals xs us→r xs H Q→
  wpAny (model X.prog X.w) X.A (call f us) (EP X pins σ Q) X.xe s
def TruR (X:Cx) (r:V→Hp→(Bool→Hp→Prop)→Prop):Prop:=
 ∀ (pins:List (Addr × Obj)) (s:Shared) (σ:St) (H:Hp) (x:V) (v:Value) (Q:Bool→Hp→Prop),Inv X pins σ H s→RelV x v→r x H Q→
  wpAny (model X.prog X.w) X.A (truthy v) (TP X pins σ Q) X.xe s
def tOp (r:R2) (ta tb:TE):TE:=fun σ H Q=>ta σ H fun x H1=>tb σ H1 fun y H2=>r x y H2 Q
inductive rII (C:Int→Int→Prop) (g:Int→Int→V) (x:V) (y:V) (H:Hp) (Q:VK):Prop
 | mk (i j:_) (h1:x=.int i) (h2:y=.int j) (h3:C i j) (h4:Q (g i j) H):rII C g x y H Q
def rI (C:Int→Int→Prop) (g:Int→Int→V):R2:=fun x y H Q=>rII C g x y H Q
inductive rI0I (g:Int→Int→V) (x:V) (y:V) (H:Hp) (Q:VK):Prop
 | mk (i j:_) (h1:x=.int i) (h2:y=.int j) (h3:Q (g i j) H):rI0I g x y H Q
def rI0 (g:Int→Int→V):R2:=fun x y H Q=>rI0I g x y H Q
section
variable {X:Cx} {a b c:Expr} {ta tb tc:TE} {pos:Pos}
theorem binT (ha:PE X a ta) (hb:PE X b tb) {pins:List (Addr × Obj)} {s:Shared} {σ:St} {H:Hp} {R:V→V→Hp→Prop} (I:Inv X pins σ H s)
  (h:ta σ H fun x H1=>tb σ H1 fun y H2=>R x y H2) {Q:Value→Shared→Prop} {f:Value→Value→Sem Value}
  (hf:∀ v u s2 x y H2,Inv X pins σ H2 s2→RelV x v→RelV y u→R x y H2→wpAny (model X.prog X.w) X.A (f v u) Q X.xe s2) :
  wpAny (model X.prog X.w) X.A (eval a X.env) (fun v s₁=>wpAny (model X.prog X.w) X.A (eval b X.env) (fun u s₂=>wpAny (model X.prog X.w) X.A (f v u) Q X.xe s₂) X.xe s₁) X.xe s:=by
 refine thn (ha pins s σ H _ I h) fun v s1 ⟨x,H1,I1,r1,q1⟩=>?_
 refine thn (hb pins s1 σ H1 _ I1 q1) fun u s2 ⟨y,H2,I2,r2,q2⟩=>?_
 exact hf v u s2 x y H2 I2 r1 r2 q2
theorem pe_op {op:Operator} {r:R2} (ho:OpR X (binaryOp op) r) (ha:PE X a ta) (hb:PE X b tb):PE X (.BinOp a op b pos) (tOp r ta tb):=by
 intro pins s σ H Q I h
 exact wpAny_BinOp (binT ha hb I h fun v u s2 x y H2 I2 rx ry q=>ho pins s2 σ H2 x y v u Q I2 rx ry q)
theorem opI {f:Value→Value→Sem Value} {C:Int→Int→Prop} {g:Int→Int→Int}
  (rule:∀ (i j:Int) (t u:Tok) (s:Shared) (Q:Value→Shared→Prop) (E:Value→Shared→Prop),C i j→Q (.int (g i j) s.toks) { s with toks:=s.toks+1 }→wpAny (model X.prog X.w) X.A (f (.int i t) (.int j u)) Q E s) :
  OpR X f (rI C fun i j=>.int (g i j)):=by
 intro pins s σ H x y v u Q I rx ry h
 obtain ⟨i,j,rfl,rfl,hc,q⟩:=h
 obtain ⟨t,rfl⟩:=rx
 obtain ⟨t',rfl⟩:=ry
 exact rule i j t t' s _ _ hc ⟨.int (g i j),H,I.tok _,⟨_,rfl⟩,q⟩
theorem opI0 {f:Value→Value→Sem Value} {g:Int→Int→Int}
  (rule:∀ (i j:Int) (t u:Tok) (s:Shared) (Q:Value→Shared→Prop) (E:Value→Shared→Prop),Q (.int (g i j) s.toks) { s with toks:=s.toks+1 }→wpAny (model X.prog X.w) X.A (f (.int i t) (.int j u)) Q E s) :
  OpR X f (rI0 fun i j=>.int (g i j)):=by
 intro pins s σ H x y v u Q I rx ry h
 obtain ⟨i,j,rfl,rfl,q⟩:=h
 obtain ⟨t,rfl⟩:=rx
 obtain ⟨t',rfl⟩:=ry
 exact rule i j t t' s _ _ ⟨.int (g i j),H,I.tok _,⟨_,rfl⟩,q⟩
theorem opB0 {f:Value→Value→Sem Value} {g:Int→Int→Bool}
  (rule:∀ (i j:Int) (t u:Tok) (s:Shared) (Q:Value→Shared→Prop) (E:Value→Shared→Prop),Q (.bool (g i j)) s→wpAny (model X.prog X.w) X.A (f (.int i t) (.int j u)) Q E s) :
  OpR X f (rI0 fun i j=>.bl (g i j)):=by
 intro pins s σ H x y v u Q I rx ry h
 obtain ⟨i,j,rfl,rfl,q⟩:=h
 obtain ⟨t,rfl⟩:=rx
 obtain ⟨t',rfl⟩:=ry
 exact rule i j t t' s _ _ ⟨.bl (g i j),H,I,rfl,q⟩
def CDiv (i j:Int):Prop:=0 < j∧j < 1073741824
def CPow (i j:Int):Prop:=0≤j∧j≤1000000∧i.natAbs < 2 ^ 64
def CMul (i j:Int):Prop:=(-(2 ^ 64) < i∧i < 2 ^ 64)∨(-(2 ^ 64) < j∧j < 2 ^ 64)
theorem CMul.ok {i j:Int} (h:CMul i j):IntMulOk i j:=by
 rcases h with ⟨h1,h2⟩ | ⟨h1,h2⟩
 ·exact .of_left (intBits_le_64 h1 h2)
 ·exact .of_right (intBits_le_64 h1 h2)
theorem op_add:OpR X (binaryOp .Add) (rI0 fun i j=>.int (i+j)):=opI0 fun _ _ _ _ _ _ _ q=>add_int q
theorem op_sub:OpR X (binaryOp .Sub) (rI0 fun i j=>.int (i - j)):=opI0 fun _ _ _ _ _ _ _ q=>sub_int q
theorem op_mul:OpR X (binaryOp .Mult) (rI CMul fun i j=>.int (i * j)):=opI fun _ _ _ _ _ _ _ hc q=>mul_int q hc.ok
theorem op_fdiv:OpR X (binaryOp .FloorDiv) (rI CDiv fun i j=>.int (i / j)):=opI fun i j _ _ _ _ _ hc q=>by
 have h1:(0:Int) < j:=hc.1
 have h2:j < 1073741824:=hc.2
 exact floordiv_int (by omega) (by rw [Int.fdiv_eq_ediv_of_nonneg i (by omega)]; exact q) (.inl (PyProof.noPylong_small (by omega)))
theorem op_mod:OpR X (binaryOp .Mod) (rI (fun _ j=>0 < j) fun i j=>.int (i % j)):=opI fun i j _ _ _ _ _ hc q=>by
 have h1:(0:Int) < j:=hc
 exact mod_int' (by omega) (by rw [Int.fmod_eq_emod_of_nonneg i (by omega)]; exact q)
theorem op_pow:OpR X (binaryOp .Pow) (rI CPow fun i j=>.int (i ^ j.toNat)):=opI fun _ _ _ _ _ _ _ hc q=>pow_int_small hc.1 hc.2.1 hc.2.2 q
end
def scal:V→V→Bool
 | .non,.non=>true | .non,.int _=>true | .int _,.non=>true | .non,.bl _=>true | .bl _,.non=>true | .non,.str _=>true | .str _,.non=>true
 | .int _,.int _=>true | .bl _,.bl _=>true | .str _,.str _=>true | .byt _,.byt _=>true
 | .int _,.str _=>true | .str _,.int _=>true | .bl _,.str _=>true | .str _,.bl _=>true
 | _,_=>false
def rEq:R2:=fun x y H Q=>scal x y=true∧Q (.bl (decide (x=y))) H
def rNe:R2:=fun x y H Q=>scal x y=true∧Q (.bl (!decide (x=y))) H
theorem dec_int {i j:Int}:decide (V.int i=V.int j)=(i==j):=by
 rw [Bool.eq_iff_iff]
 simp
theorem dec_bl {i j:Bool}:decide (V.bl i=V.bl j)=(i==j):=by
 rw [Bool.eq_iff_iff]
 simp
theorem dec_str {i j:Str}:decide (V.str i=V.str j)=(i==j):=by
 rw [Bool.eq_iff_iff]
 simp
theorem dec_byt {i j:Array UInt8}:decide (V.byt i=V.byt j)=(i.toList==j.toList):=by
 rw [Bool.eq_iff_iff]
 cases i
 cases j
 simp
section
variable {X:Cx} {a b c:Expr} {ta tb tc:TE} {pos:Pos}
theorem fin_bl {pins:List (Addr × Obj)} {σ:St} {H:Hp} {s:Shared} {Q:VK} {k k':Bool} (I:Inv X pins σ H s) (q:Q (.bl k) H) (e:k=k'):EP X pins σ Q (.bool k') s:=by
 subst e
 exact ⟨.bl k,H,I,rfl,q⟩
theorem op_eq:OpR X (compareOp .Eq) rEq:=by
 intro pins s σ H x y v u Q I rx ry h
 obtain ⟨hs,q⟩:=h
 cases x with
 | non=>
  cases rx
  cases y with
  | non=>cases ry; exact PySem.EqNone.eq_none_none (fin_bl I q (by simp))
  | bl j=>cases ry; exact PySem.EqNone.eq_none_bool (fin_bl I q (by simp))
  | int j=>obtain ⟨t',rfl⟩:=ry; exact PySem.EqNone.eq_none_int (fin_bl I q (by simp))
  | str j=>obtain ⟨t',rfl⟩:=ry; exact PySem.EqNone.eq_none_str (fin_bl I q (by simp))
  | _=>exact absurd (show false=true from hs) Bool.false_ne_true
 | bl i=>
  cases rx
  cases y with
  | non=>cases ry; exact PySem.EqNone.eq_bool_none (fin_bl I q (by simp))
  | bl j=>cases ry; exact eq_bool (fin_bl I q dec_bl)
  | str j=>obtain ⟨t',rfl⟩:=ry; exact PySem.EqMixed.eq_bool_str (fin_bl I q (by simp))
  | _=>exact absurd (show false=true from hs) Bool.false_ne_true
 | int i=>
  obtain ⟨t,rfl⟩:=rx
  cases y with
  | non=>cases ry; exact PySem.EqNone.eq_int_none (fin_bl I q (by simp))
  | int j=>obtain ⟨t',rfl⟩:=ry; exact eq_int (fin_bl I q dec_int)
  | str j=>obtain ⟨t',rfl⟩:=ry; exact PySem.EqMixed.eq_int_str (fin_bl I q (by simp))
  | _=>exact absurd (show false=true from hs) Bool.false_ne_true
 | str i=>
  obtain ⟨t,rfl⟩:=rx
  cases y with
  | non=>cases ry; exact PySem.EqNone.eq_str_none (fin_bl I q (by simp))
  | bl j=>cases ry; exact PySem.EqMixed.eq_str_bool (fin_bl I q (by simp))
  | int j=>obtain ⟨t',rfl⟩:=ry; exact PySem.EqMixed.eq_str_int (fin_bl I q (by simp))
  | str j=>obtain ⟨t',rfl⟩:=ry; exact eq_str (fin_bl I q dec_str)
  | _=>exact absurd (show false=true from hs) Bool.false_ne_true
 | byt i=>
  obtain ⟨t,rfl⟩:=rx
  cases y with
  | byt j=>obtain ⟨t',rfl⟩:=ry; exact PySem.W.eq_bytes (fin_bl I q dec_byt)
  | _=>exact absurd (show false=true from hs) Bool.false_ne_true
 | _=>cases y <;> exact absurd (show false=true from hs) Bool.false_ne_true
theorem op_ne:OpR X (compareOp .NotEq) rNe:=by
 intro pins s σ H x y v u Q I rx ry h
 obtain ⟨hs,q⟩:=h
 cases x with
 | non=>
  cases rx
  cases y with
  | non=>cases ry; exact PySem.EqNone.ne_none_none (fin_bl I q (by simp))
  | bl j=>cases ry; exact PySem.EqNone.ne_none_bool (fin_bl I q (by simp))
  | int j=>obtain ⟨t',rfl⟩:=ry; exact PySem.EqNone.ne_none_int (fin_bl I q (by simp))
  | str j=>obtain ⟨t',rfl⟩:=ry; exact PySem.EqNone.ne_none_str (fin_bl I q (by simp))
  | _=>exact absurd (show false=true from hs) Bool.false_ne_true
 | bl i=>
  cases rx
  cases y with
  | non=>cases ry; exact PySem.EqNone.ne_bool_none (fin_bl I q (by simp))
  | bl j=>cases ry; exact ne_bool (fin_bl I q (congrArg not dec_bl))
  | str j=>obtain ⟨t',rfl⟩:=ry; exact PySem.EqMixed.ne_bool_str (fin_bl I q (by simp))
  | _=>exact absurd (show false=true from hs) Bool.false_ne_true
 | int i=>
  obtain ⟨t,rfl⟩:=rx
  cases y with
  | non=>cases ry; exact PySem.EqNone.ne_int_none (fin_bl I q (by simp))
  | int j=>obtain ⟨t',rfl⟩:=ry; exact ne_int (fin_bl I q (congrArg not dec_int))
  | str j=>obtain ⟨t',rfl⟩:=ry; exact PySem.EqMixed.ne_int_str (fin_bl I q (by simp))
  | _=>exact absurd (show false=true from hs) Bool.false_ne_true
 | str i=>
  obtain ⟨t,rfl⟩:=rx
  cases y with
  | non=>cases ry; exact PySem.EqNone.ne_str_none (fin_bl I q (by simp))
  | bl j=>cases ry; exact PySem.EqMixed.ne_str_bool (fin_bl I q (by simp))
  | int j=>obtain ⟨t',rfl⟩:=ry; exact PySem.EqMixed.ne_str_int (fin_bl I q (by simp))
  | str j=>obtain ⟨t',rfl⟩:=ry; exact ne_str (fin_bl I q (congrArg not dec_str))
  | _=>exact absurd (show false=true from hs) Bool.false_ne_true
 | byt i=>
  obtain ⟨t,rfl⟩:=rx
  cases y with
  | byt j=>obtain ⟨t',rfl⟩:=ry; exact PySem.W.ne_bytes (fin_bl I q (congrArg not dec_byt))
  | _=>exact absurd (show false=true from hs) Bool.false_ne_true
 | _=>cases y <;> exact absurd (show false=true from hs) Bool.false_ne_true
theorem op_lt:OpR X (compareOp .Lt) (rI0 fun i j=>.bl (decide (i < j))):=opB0 fun _ _ _ _ _ _ _ q=>lt_int q
theorem op_le:OpR X (compareOp .LtE) (rI0 fun i j=>.bl (decide (i≤j))):=opB0 fun _ _ _ _ _ _ _ q=>le_int q
theorem op_gt:OpR X (compareOp .Gt) (rI0 fun i j=>.bl (decide (j < i))):=opB0 fun _ _ _ _ _ _ _ q=>gt_int q
theorem op_ge:OpR X (compareOp .GtE) (rI0 fun i j=>.bl (decide (j≤i))):=opB0 fun _ _ _ _ _ _ _ q=>ge_int q
theorem op_isN:OpR X (compareOp .Is) (fun x y H Q=>y=.non∧Q (.bl (decide (x=.non))) H):=by
 intro pins s σ H x y v u Q I rx ry h
 obtain ⟨rfl,q⟩:=h
 cases ry
 refine is_none_gen (fin_bl I q ?_)
 cases x <;> first
  | (cases rx; rfl)
  | (obtain ⟨t,rfl⟩:=rx; rfl)
theorem op_notN:OpR X (compareOp .IsNot) (fun x y H Q=>y=.non∧Q (.bl (!decide (x=.non))) H):=by
 intro pins s σ H x y v u Q I rx ry h
 obtain ⟨rfl,q⟩:=h
 cases ry
 refine isnot_none_gen (fin_bl I q ?_)
 cases x <;> first
  | (cases rx; rfl)
  | (obtain ⟨t,rfl⟩:=rx; rfl)
theorem nomark (b:Expr) {op:CmpOp} (h:op≠.In:=by decide) (h2:op≠.NotIn:=by decide):behindInMarks op b=false:=by
 have e1:(op==CmpOp.In)=false:=by cases op <;> first | rfl | exact absurd rfl h
 have e2:(op==CmpOp.NotIn)=false:=by cases op <;> first | rfl | exact absurd rfl h2
 cases b <;> simp [behindInMarks,e1,e2]
theorem pe_cmpR {op:CmpOp} {r:R2} (ho:OpR X (compareOp op) r) (ha:PE X a ta) (hb:PE X b tb) (hm:behindInMarks op b=false):PE X (.Compare a [op] [b] pos) (tOp r ta tb):=by
 intro pins s σ H Q I h
 exact wpAny_Compare1 (binT ha hb I h fun v u s2 x y H2 I2 rx ry q=>ho pins s2 σ H2 x y v u Q I2 rx ry q) hm
inductive tTestI (Q:Bool→Hp→Prop) (x:V) (H':Hp):Prop
 | mk (k:_) (h1:x=.bl k) (h2:Q k H'):tTestI Q x H'
def tTest (t:TE):TT:=fun σ H Q=>t σ H fun x H'=>tTestI Q x H'
theorem pt_cmpR {op:CmpOp} {r:R2} (ho:OpR X (compareOp op) r) (ha:PE X a ta) (hb:PE X b tb) (hm:behindInMarks op b=false):PT X (.Compare a [op] [b] pos) (tTest (tOp r ta tb)):=by
 intro pins s σ H Q I h
 refine wpAny_isTrue_Compare1 (thn (ha pins s σ H _ I h) fun v s1 ⟨x,H1,I1,r1,q1⟩=>thn (hb pins s1 σ H1 _ I1 q1) fun u s2 ⟨y,H2,I2,r2,q2⟩=>
  thn (ho pins s2 σ H2 x y v u _ I2 r1 r2 q2) fun c s3 ⟨z,H3,I3,r3,k,e,q3⟩=>?_) hm
 subst e
 cases r3
 exact wpAny_truthy_bool ⟨H3,I3,q3⟩
def TruV (K:PySem.W.Frag) (x:V) (H:Hp) (k:Bool):Prop:=
 match x with
 | .non=>k=false
 | .bl b=>k=b
 | .int i=>k=(i != 0)
 | .str y=>y.length≤sizeLine∧k=((y.length:Int) != 0)
 | .byt y=>y.size≤sizeLine∧k=((y.size:Int) != 0)
 | .ref p=>(∃ xs,SqL K H p xs∧k = !xs.isEmpty)∨(∃ xs,SqT K H p xs∧k = !xs.isEmpty)∨∃ kvs,H p=some (.dK kvs)∧k = !kvs.isEmpty
 | _=>False
theorem isEmpty_kv {κ:Type} {kvs:List (κ × V)} {vs:List (κ × Value)} (r:KV kvs vs):(!vs.isEmpty) = !kvs.isEmpty:=by
 cases r <;> rfl
theorem isEmpty_of {xs:List V} {its:List Value} (r:Vals xs its):(!its.toArray.isEmpty) = !xs.isEmpty:=by
 cases r <;> simp
theorem line63:(sizeLine:Nat) < 2 ^ 63:=by rw [sizeLine_eq]; decide
theorem tru_ok:TruR X (fun x H Q=>∃ k,TruV X.K x H k∧Q k H):=by
 intro pins s σ H x v Q I rx h
 obtain ⟨k,e,q⟩:=h
 have hl:=line63
 have hs:sizeLine=16777216:=sizeLine_eq
 cases x with
 | non=>
  cases rx
  have e':k=false:=e
  subst e'
  exact truthy_none ⟨H,I,q⟩
 | bl b=>
  cases rx
  have e':k=b:=e
  subst e'
  exact wpAny_truthy_bool ⟨H,I,q⟩
 | int i=>
  obtain ⟨t,rfl⟩:=rx
  have e':k=(i != 0):=e
  subst e'
  exact PySem.P.truthy_int ⟨H,I,q⟩
 | str y=>
  obtain ⟨t,rfl⟩:=rx
  obtain ⟨hy,e'⟩:y.length≤sizeLine∧k=((y.length:Int) != 0):=e
  subst e'
  exact PySem.P.truthy_str (by omega) ⟨H,I.tok _,q⟩
 | byt y=>
  obtain ⟨t,rfl⟩:=rx
  obtain ⟨hy,e'⟩:y.size≤sizeLine∧k=((y.size:Int) != 0):=e
  subst e'
  exact PySem.W.truthy_bytes (by omega) ⟨H,I.tok _,q⟩
 | ref p=>
  cases rx
  have e':(∃ xs,SqL X.K H p xs∧k = !xs.isEmpty)∨(∃ xs,SqT X.K H p xs∧k = !xs.isEmpty)∨∃ kvs,H p=some (.dK kvs)∧k = !kvs.isEmpty:=e
  rcases e' with ⟨xs,hx,e'⟩ | ⟨xs,hx,e'⟩ | ⟨kvs,hx,e'⟩
  ·subst e'
   obtain ⟨its,r,pl,hz⟩:=I.list hx
   have hlen:=r.length
   exact wpAny_truthy_list pl.isList (by simp only [List.size_toArray]; omega) ⟨H,I.tok _,by rw [isEmpty_of r]; exact q⟩
  ·subst e'
   obtain ⟨its,r,pl,hz⟩:=I.tuple hx
   have hlen:=r.length
   exact truthy_tuple pl (by simp only [List.size_toArray]; omega) ⟨H,I.tok _,by rw [isEmpty_of r]; exact q⟩
  ·subst e'
   obtain ⟨hz,hS,vs,r,m⟩:kvs.length≤sizeLine∧(p==sysModules)=false∧∃ vs,KV kvs vs∧s.heap.DictOf (mixKind X.prog X.w) p vs:=I.hok p _ hx
   have hlen:kvs.length=vs.length:=Paired.length r
   exact wpAny_truthy_dict hS m (by omega) ⟨H,I.tok _,by rw [isEmpty_kv r]; exact q⟩
 | _=>exact (show False from e).elim
theorem pt_truth (ha:PE X a ta) (he:∀ whole,isTrue a X.env whole=(do let v ← whole; standAt a.pos; holding [v] (truthy v))) :
  PT X a (fun σ H Q=>ta σ H fun x H'=>∃ k,TruV X.K x H' k∧Q k H'):=by
 intro pins s σ H Q I h
 exact isTrue_plain (thn (ha pins s σ H _ I h) fun v s1 ⟨x,H1,I1,r1,q1⟩=>tru_ok pins s1 σ H1 x v Q I1 r1 q1) (he _)
theorem op_add_str:OpR X (binaryOp .Add) (fun x y H Q=>∃ i j,x=.str i∧y=.str j∧i.length+j.length≤sizeLine∧Q (.str (i ++ j)) H):=by
 intro pins s σ H x y v u Q I rx ry h
 obtain ⟨i,j,rfl,rfl,hz,q⟩:=h
 obtain ⟨t,rfl⟩:=rx
 obtain ⟨t',rfl⟩:=ry
 exact add_str (fun t' tk=>⟨.str (i ++ j),H,I.tok _,⟨_,rfl⟩,q⟩) hz
theorem vals1 {x:V} {us:List Value} (r:Vals [x] us):∃ u,us=[u]∧RelV x u:=by
 cases r with
 | cons r1 r2=>cases r2; exact ⟨_,rfl,r1⟩
theorem vals2 {x y:V} {us:List Value} (r:Vals [x,y] us):∃ u w',us=[u,w']∧RelV x u∧RelV y w':=by
 cases r with
 | cons r1 r2=>
  cases r2 with
  | cons r3 r4=>cases r4; exact ⟨_,_,rfl,r1,r3⟩
end
end L2
namespace L2
open PySem PySem.Spec PyProof.Rows
structure ObjM (h:Heap) (x dx C:Addr) (mA:Str→Option Value):Prop where
 obj:h.get? x=some (PySem.W.instObj C dx)
 ns:h.Ns1 dx mA
 ne:dx≠x
theorem lookIn_ns {h:Heap} {dx:Addr} {mA:Str→Option Value} (n:h.Ns1 dx mA):∃ od,h.get? dx=some od∧∀ name,PySem.W.lookIn name od=some (mA name):=by
 obtain ⟨o,es,ep,ho,hd,hk,_,hm⟩:=n
 refine ⟨o,ho,fun name=>?_⟩
 have e:=hm name
 unfold nsFind findBy at e
 rw [← Array.find?_toList] at e
 unfold PySem.W.lookIn
 rw [hd]
 dsimp only
 split
 ·rename_i y q
  rw [q] at e
  exact congrArg some e
 ·rename_i q
  rw [q] at e
  have a:es.toList.any (·.refKey)=false:=by
   rw [List.any_eq_false]
   intro y hy
   obtain ⟨z,t,hkey⟩:=hk y (Array.mem_toList_iff.mp hy)
   simp [DictEntry.refKey,hkey]
  have a':¬ es.toList.any (·.refKey)=true:=by rw [a]; exact Bool.false_ne_true
  rw [if_neg a']
  exact congrArg some e
theorem ObjM.look {h:Heap} {x dx C:Addr} {mA:Str→Option Value} (I:ObjM h x dx C mA):∃ od,PySem.W.InstAt h x (PySem.W.instObj C dx) C (some od)∧∀ name,PySem.W.lookIn name od=some (mA name):=
 let ⟨od,ho,hl⟩:=lookIn_ns I.ns
 ⟨od,⟨I.obj,rfl,rfl,ho⟩,hl⟩
section
variable {prog:Program} {w:World} {A:Around} {E:Value→Shared→Prop} {s:Shared} {K:PySem.W.Frag} {x dx C f:Addr} {mA:Str→Option Value} {name:Str} {v:Value}
end
section
variable {P:Program} {w:World} {H H':Hp} {h h':Heap} {a C dx:Addr} {fs fs':List (Str × V)}
theorem ins_get (hok:HOk P w H h) (e:H a=some (.ins C dx fs)):∃ mA,ObjM h a dx C mA∧(∀ f,RelO (fs.lookup f) (mA f))∧PySem.Within mA (fs.map (·.1))∧fs.length≤1000∧H dx=some (.own a):=by
 obtain ⟨d,z,ne,ob,mA,n,r,q⟩:=(show ObjOk P w H h a (.ins C dx fs) from hok a _ e)
 exact ⟨mA,⟨ob,n,ne⟩,r,q,z,d⟩
end
structure Cls (K:PySem.W.Frag) (C:Addr):Prop where
 pg:PySem.W.plainGet K C Str.empty=true
 hd:PySem.W.hasDictIn K C=true
 po:PySem.W.plainOver K C=true
 sa:PySem.W.findIn K (.ref C) "__setattr__" = some (some (.builtin "object.__setattr__"))
theorem Cls.get {K:PySem.W.Frag} {C:Addr} (c:Cls K C) (f:Str):PySem.W.plainGet K C f=true:=c.pg
section
variable {X:Cx} {pins:List (Addr × Obj)} {σ:St} {H:Hp} {s:Shared} {a C dx:Addr} {fs:List (Str × V)} {f:Str} {v:V} {A:Around} {E:Value→Shared→Prop}
end
section
variable {X:Cx} {o e value:Expr} {f:Str} {pos pos' tpos:Pos} {ta tv:TE}
end
section
variable {X:Cx} {pins:List (Addr × Obj)} {σ:St} {H:Hp} {s:Shared} {A:Around} {E:Value→Shared→Prop} {Q:Value→Shared→Prop} {c:Value} {b:Bool}
inductive TyOf (K:PySem.W.Frag) (H:Hp):V→Value→Prop where
 | non:TyOf K H .non (.type "NoneType")
 | bl (x:Bool):TyOf K H (.bl x) (.type "bool")
 | int (i:Int):TyOf K H (.int i) (.type "int")
 | str (x:Str):TyOf K H (.str x) (.type "str")
 | flt (x:UInt64):TyOf K H (.flt x) (.type "float")
 | lst {a:Addr} {xs:List V} (e:H a=some (.lst xs)):TyOf K H (.ref a) (.type "list")
 | frz {a:Addr} {o:Obj} {xs:List V} (e:H a=some (.frz o (.lst xs))):TyOf K H (.ref a) (.type "list")
 | tup {a:Addr} {xs:List V} (e:H a=some (.tup xs)):TyOf K H (.ref a) (.type "tuple")
 | dK {a:Addr} {kvs:List (Key × V)} (e:H a=some (.dK kvs)):TyOf K H (.ref a) (.type "dict")
 | dT {a:Addr} {kvs:List (List Key × V)} (e:H a=some (.dT kvs)):TyOf K H (.ref a) (.type "dict")
 | ins {a C dx:Addr} {fs:List (Str × V)} (e:H a=some (.ins C dx fs)) (cl:Cls K C) (ha:PySem.W.findIn K (.ref C) "__class__" = some (some (.builtin "object.__class__")))
   (hn:PySem.W.specialIn K (.builtin "object.__class__") "__get__" = some (some (.builtin "getset_descriptor.__get__"))) (htk:PySem.W.takesIn K (.builtin "object.__class__")=some true)
   (hm:PySem.W.mroIn K C (.type "object")=some true):TyOf K H (.ref a) (.ref C)
theorem isinst_ok {x:V} {u t:Value} (I:Inv X pins σ H s) (rx:RelV x u) (ty:TyOf X.K H x t) (e:PySem.W.kitOne X.K t c=some b) (h:∀ tk,Q (.bool b) { s with toks:=tk }) :
  wpAny (model X.prog X.w) A (call (.builtin "isinstance") [u,c]) Q E s:=by
 cases ty with
 | non=>cases (show u=Value.none from rx); exact PySem.W.kia_one PySem.W.kitx_none I.kIn True.intro e (fun z=>nomatch z) h
 | bl y=>cases (show u=Value.bool y from rx); exact PySem.W.kia_one PySem.W.kitx_bool I.kIn True.intro e (fun z=>nomatch z) h
 | int i=>obtain ⟨t,q⟩:=(show ∃ t,u=Value.int i t from rx); cases q; exact PySem.W.kia_one PySem.W.kitx_int I.kIn True.intro e (fun z=>nomatch z) h
 | str y=>obtain ⟨t,q⟩:=(show ∃ t,u=Value.str y t from rx); cases q; exact PySem.W.kia_one PySem.W.kitx_str I.kIn True.intro e (fun z=>nomatch z) h
 | flt y=>obtain ⟨t,q⟩:=(show ∃ t,u=Value.float y t from rx); cases q; exact PySem.W.kia_one PySem.W.kitx_float I.kIn True.intro e (fun z=>nomatch z) h
 | @lst a xs ea=>
  cases (show u=Value.ref a from rx)
  obtain ⟨_,_,n,_,h1⟩:=(show ObjOk X.prog X.w H s.heap a (.lst xs) from I.hok a _ ea)
  exact PySem.W.kia_one PySem.W.kitx_list I.kIn ⟨_,h1,rfl⟩ e (fun z=>nomatch z) h
 | @frz a ob xs ea=>
  cases (show u=Value.ref a from rx)
  obtain ⟨_,_,_,n,_,h1⟩:=(show ObjOk X.prog X.w H s.heap a (.frz ob (.lst xs)) from I.hok a _ ea)
  exact PySem.W.kia_one PySem.W.kitx_list I.kIn ⟨_,h1,rfl⟩ e (fun z=>nomatch z) h
 | @tup a xs ea=>
  cases (show u=Value.ref a from rx)
  obtain ⟨_,_,_,p⟩:=(show ObjOk X.prog X.w H s.heap a (.tup xs) from I.hok a _ ea)
  obtain ⟨o,h1,h2,_⟩:=p
  exact PySem.W.kia_one PySem.W.kitx_tuple I.kIn ⟨o,h1,h2⟩ e (fun z=>nomatch z) h
 | @dK a kvs ea=>
  cases (show u=Value.ref a from rx)
  obtain ⟨_,_,vs,_,p⟩:=(show ObjOk X.prog X.w H s.heap a (.dK kvs) from I.hok a _ ea)
  obtain ⟨o,es,ep,h1,h2,_⟩:=p
  exact PySem.W.kia_one PySem.W.kitx_dict I.kIn ⟨o,h1,h2.1⟩ e (fun z=>nomatch z) h
 | @dT a kvs ea=>
  cases (show u=Value.ref a from rx)
  obtain ⟨_,_,xs,_,o,es,ep,h1,h2,_⟩:=(show ObjOk X.prog X.w H s.heap a (.dT kvs) from I.hok a _ ea)
  exact PySem.W.kia_one PySem.W.kitx_dict I.kIn ⟨o,h1,h2.1⟩ e (fun z=>nomatch z) h
 | @ins a C dx fs ea cl ha hn htk hm=>
  cases (show u=Value.ref a from rx)
  obtain ⟨mA,O,_⟩:=ins_get I.hok ea
  obtain ⟨od,J,_⟩:=O.look
  exact PySem.W.kia_one (PySem.W.kitx_own (cl.get _) cl.hd ha hn htk hm) I.kIn J e (fun z=>nomatch z) h
end
end L2
namespace L2
open PySem PySem.Spec PyProof.Rows
structure Room (k:Nat) (A:Around):Prop where
 hd:A.handled=none
 dp:A.depth+3 * k+5 < recursionLimit
 un:A.units+16 * k+200 < cLine
theorem Room.mono {j k:Nat} {A:Around} (r:Room k A) (h:j≤k):Room j A:=⟨r.hd,by have:=r.dp; omega,by have:=r.un; omega⟩
theorem Room.deeper {k:Nat} {A:Around} (r:Room (k+1) A) (env:Env):Room k (A.deeper env):=
 ⟨r.hd,by have:=r.dp; show A.depth+1+3 * k+5 < _; omega,by have:=r.un; show A.units+3+16 * k+200 < _; omega⟩
theorem Room.in1 {k:Nat} {A:Around} (r:Room (k+1) A):Room k A.in1:=
 ⟨r.hd,by have:=r.dp; show A.depth+3 * k+5 < _; omega,by have:=r.un; show A.units+1+16 * k+200 < _; omega⟩
theorem Room.depth {k:Nat} {A:Around} (r:Room k A):A.depth < recursionLimit:=by have:=r.dp; omega
theorem Room.units {k:Nat} {A:Around} (r:Room k A):A.units+64 < cLine:=by have:=r.un; omega
def tNil:TA:=fun _ H Q=>Q [] H
def tCons (ta:TE) (tr:TA):TA:=fun σ H Q=>ta σ H fun x H1=>tr σ H1 fun xs H2=>Q (x :: xs) H2
section
variable {X:Cx} {e:Expr} {es:List Expr} {te:TE} {t:TA} {pos:Pos}
theorem pa_nil:PA X [] tNil:=fun _ _ _ _ H Q I h=>Calls.spliced_nil ⟨[],H,I,.nil,h⟩
theorem pa_cons (ha:PE X e te) (hr:PA X es t) (hs:starEach (e :: es) X.env=(false,eval e X.env) :: starEach es X.env:=by rfl):PA X (e :: es) (tCons te t):=by
 intro pos pins s σ H Q I h
 rw [hs]
 show wpAny _ _ (spliced ((false,eval e X.env) :: backTo pos (starEach es X.env))) _ _ s
 refine Calls.spliced_cons (thn (ha pins s σ H _ I h) fun u s1 ⟨x,H1,I1,r1,q1⟩=>?_)
 exact thn (hr pos pins s1 σ H1 _ I1 q1) fun us s2 ⟨xs,H2,I2,r2,q2⟩=>⟨x :: xs,H2,I2,.cons r1 r2,q2⟩
def tTup (t:TA):TE:=fun σ H Q=>t σ H fun xs H1=>xs.length≤sizeLine∧∀ p,H1 p=none→Q (.ref p) (upd H1 p (.tup xs))
def tLst (t:TA):TE:=fun σ H Q=>t σ H fun xs H1=>xs.length≤sizeLine∧∀ p,H1 p=none→Q (.ref p) (upd H1 p (.lst xs))
theorem pe_tup {x1} (h:PA X es t):PE X (.Tuple es x1 pos) (tTup t):=by
 intro pins s σ H Q I hq
 refine wpAny_Tuple_spliced (thn (h pos pins s σ H _ I hq) fun us s1 ⟨xs,H1,I1,r,z,q⟩=>⟨by rw [← r.length]; exact z,?_⟩)
 have hf:H1 s1.heap.objs.size=none:=I1.hok.fresh (Nat.le_refl _)
 refine ⟨.ref s1.heap.objs.size,upd H1 s1.heap.objs.size (.tup xs),I1.laid (t':=s1.toks) (fun b u e=>Heap.get?_push_of_some _ e) (Nat.le_refl _) ?_,rfl,q _ hf⟩
 exact ⟨z,us,r,⟨_,Heap.get?_push_size _ rfl,rfl,_,rfl⟩⟩
theorem pe_lst (h:PA X es t):PE X (.List es pos) (tLst t):=by
 intro pins s σ H Q I hq
 refine wpAny_List_spliced (thn (h pos pins s σ H _ I hq) fun us s1 ⟨xs,H1,I1,r,z,q⟩=>⟨by rw [← r.length]; exact z,?_⟩)
 have hf:H1 s1.heap.objs.size=none:=I1.hok.fresh (Nat.le_refl _)
 refine ⟨.ref s1.heap.objs.size,upd H1 s1.heap.objs.size (.lst xs),I1.laid (t':=s1.toks) (fun b u e=>Heap.get?_push_of_some _ e) (Nat.le_refl _) ?_,rfl,q _ hf⟩
 exact ⟨z,us,0,r,Heap.get?_push_size _ rfl⟩
end
abbrev Sp:=List V→Hp→VK→XK→Prop
abbrev CXT:=List Env→Hp→Shared→XK→Value→Shared→Prop
structure Env0 (P:Program) (w:World) (K:PySem.W.Frag) (mg:Str→Option Value) (base:Heap) (A:Around) (outer:List Env) (s:Shared) (H:Hp):Prop where
 frames:A.frames=some outer
 mod:Mod K mg base
 bs:∀ b o,base.get? b=some o→s.heap.get? b=some o∧H b=none
 bsz:base.objs.size≤s.heap.objs.size
 funs:s.heap.FunFrames base outer
 frf:∀ b∈frs outer,H b=none
 hok:HOk P w H s.heap
 bare:AllBare s.gens
def CE (outer:List Env) (P:Program) (w:World) (H:Hp) (s:Shared) (Q:VK) (u:Value) (s':Shared):Prop:=
 ∃ v H',s'.os=s.os∧AllBare s'.gens∧Un (frs outer) [] H H' s.heap s'.heap∧HOk P w H' s'.heap∧RelV v u∧Q v H'
def CR (CX:CXT) (outer:List Env) (P:Program) (w:World) (H:Hp) (s:Shared) (Q:VK) (E:XK) (r:Result) (s':Shared):Prop:=
 match r with
 | .ok (.ret u)=>CE outer P w H s Q u s'
 | .ok _=>False
 | .error e=>CX outer H s E e s'
structure FnOk (P:Program) (w:World) (K:PySem.W.Frag) (mg:Str→Option Value) (base:Heap) (CX:CXT) (k:Nat) (f:Addr) (fd:FuncData) (ps:List Str) (sp:Sp):Prop where
 len:∀ vs H Q E,sp vs H Q E→vs.length=ps.length
 run:∀ (A:Around) (outer:List Env) (s:Shared) (H:Hp) (args:Args) (us:List Value) (vs:List V) (Q:VK) (E:XK),Room k A→Env0 P w K mg base A outer s H→BindsTo s fd args (ps.zip us)→Vals vs us→sp vs H Q E→
  codeAny (model P w) A (.call (.ref f) args) (CR CX outer P w H s Q E) s
theorem Env0.in1 {P:Program} {w:World} {K:PySem.W.Frag} {mg:Str→Option Value} {base:Heap} {A:Around} {outer:List Env} {s:Shared} {H:Hp} (e:Env0 P w K mg base A outer s H) :
  Env0 P w K mg base A.in1 outer s H:=⟨e.frames,e.mod,e.bs,e.bsz,e.funs,e.frf,e.hok,e.bare⟩
section
variable {X:Cx} {pins:List (Addr × Obj)} {σ:St} {H:Hp} {s s':Shared}
theorem Inv.env0 (I:Inv X pins σ H s):Env0 X.prog X.w X.K X.mg X.base X.A X.stack s H:=
 ⟨I.ok.frames,I.ok.mod,I.bs,Nat.le_trans I.ok.bsz I.sz,I.stack,I.stkFree,I.hok,I.bare⟩
theorem Inv.after {Q:VK} {u:Value} (I:Inv X pins σ H s) (h:CE X.stack X.prog X.w H s Q u s'):EP X pins σ Q u s':=by
 obtain ⟨v,H',os,bare,un,hok,r,q⟩:=h
 obtain ⟨hh,g,d,t,os'⟩:=s'
 obtain rfl:os'=s.os:=os
 exact ⟨v,H',I.call (h':=hh) (g':=g) (d':=d) (t':=t) (ch:=[]) un hok bare (fun b z=>absurd z (by simp)),r,q⟩
end
def tCall (sp:Sp) (dvs:List V) (E:XK) (t:TA):TE:=fun σ H Q=>t σ H fun vs H1=>sp (vs ++ dvs) H1 Q E
def Binds (K:PySem.W.Frag) (fd:FuncData) (ps:List Str) (ds:List Value):Prop:=
 ∀ (s:Shared) (us:List Value),K.In s.heap→(us ++ ds).length=ps.length→BindsTo s fd ⟨us,[]⟩ (ps.zip (us ++ ds))
theorem Binds.all {K:PySem.W.Frag} {fd:FuncData} {ps:List Str} (h:∀ us:List Value,us.length=ps.length→bindArgs fd ⟨us,[]⟩=pure (ps.zip us)):Binds K fd ps []:=fun s us _ hl=>by
 rw [List.append_nil] at hl ⊢
 exact .of_eq (h us hl)
def Passes (CX:CXT) (X:Cx) (E:XK):Prop:=∀ (pins:List (Addr × Obj)) (σ:St) (H:Hp) (s:Shared) (e:Value) (s':Shared),Inv X pins σ H s→CX X.stack H s E e s'→X.xe e s'
section
variable {X:Cx} {CX:CXT} {k:Nat} {f C:Addr} {fd:FuncData} {ps:List Str} {sp:Sp} {dvs:List V} {ds:List Value} {E:XK} {x m:Str} {p pos apos:Pos} {e o:Expr} {es:List Expr} {ta:TE} {t:TA}
theorem run_fn {pins:List (Addr × Obj)} {σ:St} {H:Hp} {s:Shared} {Q:VK} {us:List Value} {vs:List V} (F:FnOk X.prog X.w X.K X.mg X.base CX k f fd ps sp) (hr:Room k X.A) (hb:Binds X.K fd ps ds) (hd:Vals dvs ds) (hx:Passes CX X E)
  (I:Inv X pins σ H s) (r:Vals vs us) (h:sp (vs ++ dvs) H Q E):wpAny (model X.prog X.w) X.A (call (.ref f) us) (EP X pins σ Q) X.xe s:=by
 have r2:Vals (vs ++ dvs) (us ++ ds):=r.append hd
 have hl:(us ++ ds).length=ps.length:=by rw [← r2.length]; exact F.len _ _ _ _ h
 refine wpAny_call (codeAny_mono (F.run X.A X.stack s H ⟨us,[]⟩ (us ++ ds) (vs ++ dvs) Q E hr I.env0 (hb s us I.kIn hl) r2 h) fun r s' hq=>?_)
 cases r with
 | error e=>exact hx pins σ H s e s' I hq
 | ok fl=>
  cases fl with
  | ret u=>exact I.after hq
  | next=>exact False.elim hq
  | brk=>exact False.elim hq
  | cont=>exact False.elim hq
theorem pe_call (F:FnOk X.prog X.w X.K X.mg X.base CX k f fd ps sp) (hr:Room k X.A) (hg:Gl X x) (hm:X.mg x=some (.ref f)) (hk:PySem.W.keepIn X.K (.ref f)=true) (hb:Binds X.K fd ps ds) (hd:Vals dvs ds) (hx:Passes CX X E)
  (ha:PA X (e :: es) t) (hdb:(x==("__debug__" : Str))=false:=by decide) (he:starEach (e :: es) X.env=(false,eval e X.env) :: starEach es X.env:=by rfl) (hpl:(backTo pos (starEach es X.env)).any (·.1)=false:=by rfl) :
  PE X (.Call (.Name x p) (e :: es) [] pos) (tCall sp dvs E t):=by
 intro pins s σ H Q I h
 refine wpAny_Call_Name_kw (ld_glob I hg hm ?_ hdb)
 refine PySem.W.callWith_K (h₀:=X.base) I.ok.mod.kin hk (thn (ha pos pins s σ H _ I h) fun us s1 ⟨vs,H1,I1,r,q⟩=>⟨I1.kIn,?_⟩) he hpl
 exact run_fn F hr hb hd hx I1 r q
end
def PK (X:Cx) (kws:List Keyword) (t:TA):Prop:=
 ∀ (pos:Pos) (pins:List (Addr × Obj)) (s:Shared) (σ:St) (H:Hp) (Q:List V→Hp→Prop),Inv X pins σ H s→t σ H Q→wpAny (model X.prog X.w) X.A (evalAll ((backToKw pos (keywordEach kws X.env)).map (·.2))) (AP X pins σ Q) X.xe s
section
variable {X:Cx} {CX:CXT} {k:Nat} {f C:Addr} {fd:FuncData} {ps ks:List Str} {sp:Sp} {E:XK} {x m:Str} {p pos apos kpos:Pos} {e o:Expr} {es:List Expr} {kws:List Keyword} {te ta:TE} {t tk:TA} {nm:Option Str}
theorem pk_nil:PK X [] tNil:=fun _ _ _ _ H Q I h=>wpAny_evalAll_nil ⟨[],H,I,.nil,h⟩
theorem pk_cons (ha:PE X e te) (hr:PK X kws t):PK X (⟨nm,e,kpos⟩ :: kws) (tCons te t):=by
 intro pos pins s σ H Q I h
 show wpAny _ _ (evalAll ((do let v ← eval e X.env; standAt pos; pure v) :: (backToKw pos (keywordEach kws X.env)).map (·.2))) _ _ s
 refine wpAny_evalAll_cons (wpAny_bind (thn (ha pins s σ H _ I h) fun u s1 ⟨x,H1,I1,r1,q1⟩=>wpAny_bind (wpAny_standAt (wpAny_pure ?_))))
 exact thn (hr pos pins s1 σ H1 _ I1 q1) fun us s2 ⟨xs,H2,I2,r2,q2⟩=>⟨x :: xs,H2,I2,.cons r1 r2,q2⟩
variable {g:List Value→List Value→List Value} {gV:List V→List V→List V}
end
structure FnScope (N P:List Str) (sc:Scope):Prop where
 kind:sc.kind=.function
 co:sc.isCoroutine=false
 gen:sc.isGenerator=false
 nd:N.Nodup
 pre:N.take P.length=P
 par:∀ x∈P,sc.names.lookup x=some .local∨sc.names.lookup x=some .cell
 nofree:∀ y∈sc.names,y.2≠.free
theorem bindL_out {kindOf:Str→Option NameKind} {x:Str}:∀ {binds:List (Str × Value)} {m:Str→Option Value},(∀ v,(x,v)∉binds)→bindL kindOf binds m x=m x
 | [],_,_=>rfl
 | (n,v) :: r,m,h=>by
  unfold bindL
  rw [bindL_out fun w hw=>h w (List.mem_cons_of_mem _ hw)]
  split
  ·have:x≠n:=by rintro rfl; exact h v List.mem_cons_self
   simp [this]
  ·rfl
theorem bindC_out {kindOf:Str→Option NameKind} {x:Str}:∀ {binds:List (Str × Value)} {m:Str→Option Value},(∀ v,(x,v)∉binds)→bindC kindOf binds m x=m x
 | [],_,_=>rfl
 | (n,v) :: r,m,h=>by
  unfold bindC
  rw [bindC_out fun w hw=>h w (List.mem_cons_of_mem _ hw)]
  split
  ·rfl
  ·have:x≠n:=by rintro rfl; exact h v List.mem_cons_self
   simp [this]
theorem bindL_get {kindOf:Str→Option NameKind} {x:Str} {v:Value}:∀ {P:List Str} {vs:List Value} {i:Nat} {m:Str→Option Value},P.Nodup→P[i]? = some x→vs[i]? = some v→kindOf x=some .local→
  bindL kindOf (P.zip vs) m x=some v
 | [],_,_,_,_,h,_,_=>by simp at h
 | _ :: _,[],_,_,_,_,h,_=>by simp at h
 | p :: P,w :: vs,0,m,nd,h1,h2,hk=>by
  simp at h1 h2; subst h1; subst h2
  show bindL kindOf ((p,w) :: P.zip vs) m p=_
  unfold bindL
  rw [bindL_out fun v hv=>(List.nodup_cons.mp nd).1 (List.of_mem_zip hv).1,if_pos hk]
  simp
 | p :: P,w :: vs,i+1,m,nd,h1,h2,hk=>by
  show bindL kindOf ((p,w) :: P.zip vs) m x=_
  unfold bindL
  exact bindL_get (i:=i) (List.nodup_cons.mp nd).2 (by simpa using h1) (by simpa using h2) hk
theorem bindC_get {kindOf:Str→Option NameKind} {x:Str} {v:Value}:∀ {P:List Str} {vs:List Value} {i:Nat} {m:Str→Option Value},P.Nodup→P[i]? = some x→vs[i]? = some v→kindOf x≠some .local→
  bindC kindOf (P.zip vs) m x=some v
 | [],_,_,_,_,h,_,_=>by simp at h
 | _ :: _,[],_,_,_,_,h,_=>by simp at h
 | p :: P,w :: vs,0,m,nd,h1,h2,hk=>by
  simp at h1 h2; subst h1; subst h2
  show bindC kindOf ((p,w) :: P.zip vs) m p=_
  unfold bindC
  rw [bindC_out fun v hv=>(List.nodup_cons.mp nd).1 (List.of_mem_zip hv).1,if_neg hk]
  simp
 | p :: P,w :: vs,i+1,m,nd,h1,h2,hk=>by
  show bindC kindOf ((p,w) :: P.zip vs) m x=_
  unfold bindC
  exact bindC_get (i:=i) (List.nodup_cons.mp nd).2 (by simpa using h1) (by simpa using h2) hk
def start (N:List Str) (vs:List V):St:=vs.map some ++ List.replicate (N.length - vs.length) none
def cxOf (CX:CXT) (P:Program) (w:World) (K:PySem.W.Frag) (mg:Str→Option Value) (base:Heap) (N:List Str) (qual:Str) (scope:Scope) (f:Addr) (cd:Value) (A:Around) (outer:List Env) (s:Shared) (H:Hp) (E:XK):Cx where
 prog:=P
 w:=w
 K:=K
 mg:=mg
 base:=base
 A:=A.deeper (envOfC qual scope s.heap.objs.size f cd)
 N:=N
 s₀:=s
 H₀:=H
 env:=envOfC qual scope s.heap.objs.size f cd
 outer:=outer
 stack:=envOfC qual scope s.heap.objs.size f cd :: outer
 ex:=[]
 calm:=true
 fn:=fun _=>true
 pn:=[]
 xe:=fun e s'=>wpAny (model P w) (A.deeper (envOfC qual scope s.heap.objs.size f cd)) (leaving (envOfC qual scope s.heap.objs.size f cd) e) (fun _ s''=>CX outer H s E e s'') (fun e' s''=>CX outer H s E e' s'') s'
theorem cell_has {sc:Scope} {n:Nat} {x:Str} (h:sc.names.lookup x=some .cell):∃ c,(cellsFrom n sc.names []).lookup x=some c:=by
 have q:=PySem.W.cellsFrom_some sc.names n [] (.inl h)
 exact Option.isSome_iff_exists.mp q
theorem inv_start {CX:CXT} {P:Program} {w:World} {K:PySem.W.Frag} {mg:Str→Option Value} {base:Heap} {N ps:List Str} {qual:Str} {scope:Scope} {f:Addr} {cd:Value} {A:Around} {outer:List Env} {s s1:Shared} {H:Hp} {E:XK} {us:List Value} {vs:List V}
  (S:FnScope N ps scope) (hd:A.handled=none) (e0:Env0 P w K mg base A outer s H) (hl:vs.length=ps.length) (r:Vals vs us)
  (x:InCallC s s.heap.objs.size (bindL (envOfC qual scope s.heap.objs.size f cd).kindOf (ps.zip us) fun _=>none) (cellsFrom (s.heap.objs.size+1) scope.names []) (bindC (envOfC qual scope s.heap.objs.size f cd).kindOf (ps.zip us) fun _=>none) s1) :
  Inv (cxOf CX P w K mg base N qual scope f cd A outer s H E) [] (start N vs) H s1:=by
 have hpl:ps.length≤N.length:=by have:=congrArg List.length S.pre; rw [List.length_take] at this; omega
 obtain ⟨h1,tk,rfl,hk⟩:=x.done
 have noA:∀ b:Addr,b∉(cxOf CX P w K mg base N qual scope f cd A outer s H E).ex:=fun b z=>absurd (show b∈([]:List Addr) from z) (by simp)
 refine ⟨⟨e0.mod,S.kind,rfl,rfl,Nat.le_refl _,fun y z c h1 h2=>?_,fun y hy=>?_,fun y c _ h=>?_,fun _=>hd,Around.frames_deeper e0.frames,.inr ⟨rfl,rfl⟩,fun b z=>absurd z (noA b),e0.bs,e0.bsz,fun b _ _=>noA b,fun b z=>absurd z (noA b),e0.funs,e0.frf⟩,
  rfl,e0.bare,Un.kept hk,⟨_,x.toInCall.ns,fun i y v h1 h2 h3=>?_⟩,fun y c h=>⟨_,x.cell y c h⟩,e0.hok.fresh (Nat.le_refl _),fun y c h=>?_,fun p hp=>absurd (show p∈([]:List (Addr × Obj)) from hp) (by simp),e0.hok.kept hk,?_⟩
 ·exact name_of_addr x.apart (PySem.mem_of_lookup h1) (PySem.mem_of_lookup h2)
 ·have hy:scope.names.lookup y=some .cell∨scope.names.lookup y=some .free:=hy
  rcases hy with hy | hy
  ·exact cell_has hy
  ·exact absurd rfl (S.nofree _ (PySem.mem_of_lookup hy))
 ·exact Nat.le_of_lt (x.above y c (PySem.mem_of_lookup h))
 ·have hi:i < vs.length:=by
   unfold start at h2
   by_cases hi:i < vs.length
   ·exact hi
   ·rw [List.getElem?_append_right (by simpa using hi)] at h2
    rw [List.getElem?_replicate] at h2
    split at h2 <;> cases h2
  have ha:vs[i]? = some v:=by
   unfold start at h2
   rw [List.getElem?_append_left (by simpa using hi),List.getElem?_map] at h2
   cases e:vs[i]? with
   | none=>rw [e] at h2; cases h2
   | some a=>rw [e] at h2; cases h2; rfl
  obtain ⟨u,hu,rv⟩:=r.get ha
  have hp:ps[i]? = some y:=by
   rw [← S.pre,List.getElem?_take_of_lt (by omega)]; exact h1
  have ndP:ps.Nodup:=by rw [← S.pre]; exact S.nd.sublist (List.take_sublist _ _)
  refine ⟨u,rv,?_⟩
  rcases S.par y (List.mem_of_getElem? hp) with k | k
  ·exact .inl ⟨k,bindL_get ndP hp hu k⟩
  ·obtain ⟨c,e⟩:=cell_has (n:=s.heap.objs.size+1) k
   refine .inr ⟨.inl k,c,e,?_⟩
   have q:=x.cell y c e
   rw [bindC_get ndP hp hu (by show scope.names.lookup y≠_; rw [k]; decide)] at q
   exact q
 ·exact e0.hok.fresh (Nat.le_of_lt (x.above y c (PySem.mem_of_lookup h)))
 ·unfold start
  show _=N.length
  rw [List.length_append,List.length_map,List.length_replicate]
  omega
theorem fn_of {CX:CXT} {P:Program} {w:World} {K:PySem.W.Frag} {mg:Str→Option Value} {base:Heap} {k:Nat} {f:Addr} {name qual:Str} {params:Arguments} {body:List Stmt} {scope:Scope} {dV kV doc pm cdv ct oc:Value} {an od:Option Addr}
  {osl:Array (Option Value)} {N ps:List Str} {sp:Sp} (lk:K.lookup f=some ⟨oc,od,.func (PySem.W.fnOf name qual params body scope dV kV doc pm an cdv ct),osl⟩) (hcd:PySem.W.codeIn K cdv qual=true) (S:FnScope N ps scope)
  (len:∀ vs H Q E,sp vs H Q E→vs.length=ps.length)
  (hbody:∀ (A:Around) (outer:List Env) (s:Shared) (H:Hp) (vs:List V) (Q:VK) (E:XK),Room k (A.deeper (envOfC qual scope s.heap.objs.size f cdv))→sp vs H Q E→
   ∃ t,PSs (cxOf CX P w K mg base N qual scope f cdv A outer s H E) body t∧t { nx:=fun _ H'=>Q .non H',rt:=Q } (start N vs) H) :
  FnOk P w K mg base CX (k+1) f (PySem.W.fnOf name qual params body scope dV kV doc pm an cdv ct) ps sp:=by
 refine ⟨len,fun A outer s H args us vs Q E hr e0 hb r hsp=>?_⟩
 have hl:=len _ _ _ _ hsp
 have KX:K.In s.heap:=e0.mod.kin.keeps fun b o e=>(e0.bs b o e).1
 have lim:s.heap.NoLimit:=e0.mod.nolimit.keeps fun b o e=>(e0.bs b o e).1
 have hkind:∀ y∈ps.zip us,scope.names.lookup y.1=some .local∨(scope.names.lookup y.1=some .cell∧((cellsFrom (s.heap.objs.size+1) scope.names []).lookup y.1).isSome=true):=fun ⟨n,v⟩ hy=>by
  rcases S.par n (List.of_mem_zip hy).1 with q | q
  ·exact .inl q
  ·exact .inr ⟨q,PySem.W.cellsFrom_some _ _ _ (.inl q)⟩
 refine codeAny_call_function hr.depth (KX _ _ lk) rfl S.co S.gen rfl (PySem.W.codeRec_of KX hcd) (hb _ _ _ _ ?_)
 refine wpAny_newFunctionEnv_cells S.kind hkind fun env he s1 x=>?_
 subst he
 refine ⟨lim.keeps x.toInCall.keep,codeAny_func ?_⟩
 obtain ⟨t,ht,hq⟩:=hbody A outer s H vs Q E (hr.deeper _) hsp
 have I:Inv (cxOf CX P w K mg base N qual scope f cdv A outer s H E) [] (start N vs) H s1:=inv_start S hr.hd e0 hl r x
 refine wpAny_mono (ht [] s1 (start N vs) H _ I hq) (fun fl s' hs=>?_) fun e s' hs=>hs
 have fin:∀ {σ':St} {H':Hp} {v:V} {u:Value},Inv (cxOf CX P w K mg base N qual scope f cdv A outer s H E) [] σ' H' s'→RelV v u→Q v H'→CE outer P w H s Q u s':=
  fun {σ' H' v u} J rv q=>⟨v,H',J.os,J.bare,J.base,J.hok,rv,q⟩
 cases fl with
 | ret u=>
  obtain ⟨v,σ',H',J,rv,q⟩:=hs
  exact fin J rv q
 | next=>
  obtain ⟨σ',H',J,q⟩:=hs
  exact fin (v:=V.non) (u:=Value.none) J rfl q
 | brk=>
  obtain ⟨_,_,_,q⟩:=hs
  exact False.elim q
 | cont=>
  obtain ⟨_,_,_,q⟩:=hs
  exact False.elim q
end L2
namespace L2
open PySem PySem.Spec PyProof.Rows
section
variable {X:Cx} {x:Str} {p pos:Pos} {e:Expr} {es:List Expr} {t:TA} {id T:String} {r:List V→Hp→VK→Prop}
def tCB (r:List V→Hp→VK→Prop) (t:TA):TE:=fun σ H Q=>t σ H fun vs H1=>r vs H1 Q
theorem pe_callB (hc:CallR X (.builtin id) r) (hg:Gl X x) (hm:X.mg x=none) (hv:bootBuiltins x=some (.builtin id)) (ha:PA X (e :: es) t) (hn:x≠"__name__":=by decide) (hdb:(x==("__debug__" : Str))=false:=by decide)
  (he:starEach (e :: es) X.env=(false,eval e X.env) :: starEach es X.env:=by rfl) (hpl:(backTo pos (starEach es X.env)).any (·.1)=false:=by rfl):PE X (.Call (.Name x p) (e :: es) [] pos) (tCB r t):=by
 intro pins s σ H Q I h
 refine wpAny_Call_Name_kw (ld_blt I hg hm hv ?_ hn hdb)
 exact PyProof.Rows.callWith_builtin1 (thn (ha pos pins s σ H _ I h) fun us s1 ⟨vs,H1,I1,r1,q1⟩=>hc pins s1 σ H1 vs us Q I1 r1 q1) he hpl
theorem pe_callTy (hc:CallR X (.type T) r) (hg:Gl X x) (hm:X.mg x=none) (hv:bootBuiltins x=some (.type T)) (ha:PA X (e :: es) t) (hn:x≠"__name__":=by decide) (hdb:(x==("__debug__" : Str))=false:=by decide)
  (he:starEach (e :: es) X.env=(false,eval e X.env) :: starEach es X.env:=by rfl) (hpl:(backTo pos (starEach es X.env)).any (·.1)=false:=by rfl):PE X (.Call (.Name x p) (e :: es) [] pos) (tCB r t):=by
 intro pins s σ H Q I h
 refine wpAny_Call_Name_kw (ld_blt I hg hm hv ?_ hn hdb)
 exact PyProof.Rows.callWith_type1 (thn (ha pos pins s σ H _ I h) fun us s1 ⟨vs,H1,I1,r1,q1⟩=>hc pins s1 σ H1 vs us Q I1 r1 q1) he hpl
end
end L2
namespace HT
open PySem PyProof.Rows
section
open PySem.SeqAt
open PySem.AutoSeq1 (wpAny_loadPart')
open PySem.MeetsSeq PySem.MeetsSeq2 PySem.MeetsSeq3
end
section
variable {prog:Program} {w:World} {A:Around} {E:Value→Shared→Prop} {s:Shared}
def sIx (n d:Nat):Option Int→Nat
 | none=>d
 | some v=>if v < 0 then (v+(n:Int)).toNat else min v.toNat n
theorem sIx_nat (n d k:Nat):sIx n d (some (k:Int))=min k n:=by
 show (if (k:Int) < 0 then ((k:Int)+(n:Int)).toNat else min (k:Int).toNat n)=min k n
 rw [if_neg (by omega),Int.toNat_natCast]
theorem sIx_le (n d:Nat) (hd:d≤n) (o:Option Int):sIx n d o≤n:=by
 cases o with
 | none=>exact hd
 | some v=>
  show (if v < 0 then (v+(n:Int)).toNat else min v.toNat n)≤n
  by_cases hv:v < 0
  ·rw [if_pos hv]; omega
  ·rw [if_neg hv]; exact Nat.min_le_right _ _
end
end HT
namespace L2
open PySem PySem.Spec PyProof.Rows
abbrev TO:=St→Hp→(Option Int→Hp→Prop)→Prop
def PO (X:Cx) (e:Option Expr) (t:TO):Prop:=
 ∀ (pins:List (Addr × Obj)) (s:Shared) (σ:St) (H:Hp) (Q:Option Int→Hp→Prop),Inv X pins σ H s→t σ H Q→
  wpAny (model X.prog X.w) X.A (evalPart e X.env) (fun u s'=>∃ o H',Inv X pins σ H' s'∧IsPart u o∧Q o H') X.xe s
def tNoPart:TO:=fun _ H Q=>Q none H
inductive tPartI (Q:Option Int→Hp→Prop) (x:V) (H1:Hp):Prop
 | mk (i:_) (h1:x=.int i) (h2:Q (some i) H1):tPartI Q x H1
def tPart (t:TE):TO:=fun σ H Q=>t σ H fun x H1=>tPartI Q x H1
section
variable {X:Cx} {e:Expr} {te:TE} {lo hi:Option Expr} {tl th:TO} {pos p2:Pos}
theorem po_none:PO X none tNoPart:=by
 intro pins s σ H Q I h
 rw [evalPart_none]
 exact wpAny_pure ⟨none,H,I,.none,h⟩
theorem po_some (h:PE X e te):PO X (some e) (tPart te):=by
 intro pins s σ H Q I hw
 rw [evalPart_some]
 refine thn (h pins s σ H _ I hw) fun u s1 ⟨x,H1,I1,r1,q1⟩=>?_
 obtain ⟨i,rfl,q⟩:=q1
 obtain ⟨t,rfl⟩:=r1
 exact ⟨some i,H1,I1,.int i t,q⟩
def SlR (X:Cx) (r:V→Option Int→Option Int→Hp→VK→Prop):Prop:=
 ∀ (pins:List (Addr × Obj)) (s:Shared) (σ:St) (H:Hp) (x:V) (v vl vu:Value) (lo hi:Option Int) (sl:Addr) (Q:VK),Inv X pins σ H s→RelV x v→s.heap.IsSliceOf sl vl vu .none→IsPart vl lo→IsPart vu hi→r x lo hi H Q→
  ∃ T id,typeLookup (.type T) "__getitem__" = pure (some (.builtin id))∧s.TypeIs v T∧wpAny (model X.prog X.w) X.A (getItem v (.ref sl)) (EP X pins σ Q) X.xe s
def tSl (r:V→Option Int→Option Int→Hp→VK→Prop) (te:TE) (tl th:TO):TE:=fun σ H Q=>te σ H fun x H1=>tl σ H1 fun l H2=>th σ H2 fun u H3=>r x l u H3 Q
theorem pe_slice {r:V→Option Int→Option Int→Hp→VK→Prop} (hr:SlR X r) (he:PE X e te) (hl:PO X lo tl) (hu:PO X hi th):PE X (.Subscript e (.Slice lo hi none p2) pos) (tSl r te tl th):=by
 intro pins s σ H Q I h
 refine Subscript_ (thn (he pins s σ H _ I h) fun v s1 ⟨x,H1,I1,r1,q1⟩=>?_)
 refine wpAny_Slice (thn (hl pins s1 σ H1 _ I1 q1) fun vl s2 ⟨l,H2,I2,pl,q2⟩=>thn (hu pins s2 σ H2 _ I2 q2) fun vu s3 ⟨u,H3,I3,pu,q3⟩=>?_)
 rw [evalPart_none]
 refine wpAny_pure ?_
 have I4:Inv X pins σ H3 { s3 with heap:=s3.heap.push { cls:=.type "slice",data:=.fields #[vl,vu,.none] } }:=I3.kept (t':=s3.toks) fun b ob q=>Heap.get?_push_of_some _ q
 obtain ⟨T,id,hT,ht,hg⟩:=hr pins { s3 with heap:=s3.heap.push { cls:=.type "slice",data:=.fields #[vl,vu,.none] } } σ H3 x v vl vu l u s3.heap.objs.size Q I4 r1 (Heap.IsSliceOf.new ..) pl pu q3
 show wpAny (model X.prog X.w) X.A (subscriptTail e (.Slice lo hi none p2) v (.ref s3.heap.objs.size)) (EP X pins σ Q) X.xe { s3 with heap:=s3.heap.push { cls:=.type "slice",data:=.fields #[vl,vu,.none] } }
 exact tail_any (ops:=[.ref s3.heap.objs.size,v]) ht hT hg (by with_unfolding_all rfl)
end
end L2
namespace L2
open PySem PySem.Spec PyProof.Rows
def ixN (n:Nat) (i:Int):Option Nat:=if 0≤i then (if i < n then some i.toNat else none) else if -(n:Int)≤i then some (i+n).toNat else none
def atI {α:Type} (xs:List α) (i:Int):Option α:=(ixN xs.length i).bind fun j=>xs[j]?
theorem ixN_seq {n:Nat} {i:Int} {j:Nat} (h:ixN n i=some j):seqIndex? i n=some j∧j < n∧-(n:Int)≤i∧i < n:=by
 unfold ixN at h
 by_cases h0:0≤i
 ·rw [if_pos h0] at h
  by_cases h1:i < n
  ·rw [if_pos h1] at h
   have e:i.toNat=j:=Option.some.inj h
   exact ⟨by rw [seqIndex_of h0 h1,e],by omega,by omega,h1⟩
  ·rw [if_neg h1] at h; cases h
 ·rw [if_neg h0] at h
  by_cases h1 : -(n:Int)≤i
  ·rw [if_pos h1] at h
   have e:(i+n).toNat=j:=Option.some.inj h
   exact ⟨by rw [seqIndex_neg (by omega) h1,e],by omega,h1,by omega⟩
  ·rw [if_neg h1] at h; cases h
theorem atI_get {α:Type} {xs:List α} {i:Int} {v:α} (h:atI xs i=some v):∃ j,seqIndex? i xs.length=some j∧xs[j]? = some v∧j < xs.length∧-(xs.length:Int)≤i∧i < xs.length:=by
 unfold atI at h
 cases e:ixN xs.length i with
 | none=>rw [e] at h; cases h
 | some j=>
  rw [e] at h
  obtain ⟨h1,h2,h3,h4⟩:=ixN_seq e
  exact ⟨j,h1,h,h2,h3,h4⟩
theorem atI_nat {α:Type} {xs:List α} {j:Nat} {v:α} (h:xs[j]? = some v):atI xs (j:Int)=some v:=by
 have hj:j < xs.length:=(List.getElem?_eq_some_iff.mp h).1
 have e:ixN xs.length (j:Int)=some j:=by
  unfold ixN
  rw [if_pos (by omega),if_pos (by omega)]; simp
 unfold atI; rw [e]; exact h
def PlainIx (b:Expr):Prop:=∀ o i,subscripted b false o i=operate [o,i] (getItem o i)
def IxR (X:Cx) (r:R2):Prop:=
 ∀ (value slice:Expr) (pins:List (Addr × Obj)) (s:Shared) (σ:St) (H:Hp) (x y:V) (v u:Value) (Q:VK),Inv X pins σ H s→RelV x v→RelV y u→r x y H Q→
  subscripted slice false v u=operate [v,u] (getItem v u)→wpAny (model X.prog X.w) X.A (subscriptTail value slice v u) (EP X pins σ Q) X.xe s
def MtR (X:Cx) (id:String) (r:V→List V→Hp→VK→Prop):Prop:=
 ∀ (pins:List (Addr × Obj)) (s:Shared) (σ:St) (H:Hp) (x:V) (xs:List V) (v:Value) (us:List Value) (Q:VK),Inv X pins σ H s→RelV x v→Vals xs us→r x xs H Q→
  wpAny (model X.prog X.w) X.A (call (.builtin id) (v :: us)) (EP X pins σ Q) X.xe s
section
variable {X:Cx} {a b:Expr} {ta tb:TE} {pos:Pos}
theorem IxR.or {r r':R2} (h:IxR X r) (h':IxR X r'):IxR X (fun x y H Q=>r x y H Q∨r' x y H Q):=by
 intro value slice pins s σ H x y v u Q I rx ry q hs
 rcases q with q | q
 ·exact h value slice pins s σ H x y v u Q I rx ry q hs
 ·exact h' value slice pins s σ H x y v u Q I rx ry q hs
theorem pe_ix {r:R2} (hr:IxR X r) (ha:PE X a ta) (hb:PE X b tb) (hs:PlainIx b):PE X (.Subscript a b pos) (tOp r ta tb):=by
 intro pins s σ H Q I h
 exact Subscript_ (binT ha hb I h fun v u s2 x y H2 I2 rx ry q=>hr a b pins s2 σ H2 x y v u Q I2 rx ry q (hs _ _))
inductive rIxLI (K:PySem.W.Frag) (x:V) (y:V) (H:Hp) (Q:VK):Prop
 | mk (p xs i v:_) (h1:x=.ref p) (h2:y=.int i) (h3:SqL K H p xs) (h4:atI xs i=some v) (h5:Q v H):rIxLI K x y H Q
def rIxL (K:PySem.W.Frag):R2:=fun x y H Q=>rIxLI K x y H Q
inductive rIxTI (K:PySem.W.Frag) (x:V) (y:V) (H:Hp) (Q:VK):Prop
 | mk (p xs i v:_) (h1:x=.ref p) (h2:y=.int i) (h3:SqT K H p xs) (h4:atI xs i=some v) (h5:Q v H):rIxTI K x y H Q
def rIxT (K:PySem.W.Frag):R2:=fun x y H Q=>rIxTI K x y H Q
inductive rIxSI (x:V) (y:V) (H:Hp) (Q:VK):Prop
 | mk (z i c:_) (h1:x=.str z) (h2:y=.int i) (h3:z.length≤sizeLine) (h4:atI z.cps.toList i=some c) (h5:Q (.str ⟨#[c]⟩) H):rIxSI x y H Q
def rIxS:R2:=fun x y H Q=>rIxSI x y H Q
theorem ix_list:IxR X (rIxL X.K):=by
 intro value slice pins s σ H x y v u Q I rx ry h hs
 obtain ⟨p,xs,i,z,rfl,rfl,hq,he,q⟩:=h
 cases rx
 obtain ⟨t,rfl⟩:=ry
 obtain ⟨its,r,pl,hz⟩:=I.list hq
 obtain ⟨j,h1,h2,h3,h4,h5⟩:=atI_get he
 obtain ⟨w,ew,rw'⟩:=r.get h2
 have hl:=r.length
 have hn:=line63
 have fin:EP X pins σ Q w s:=⟨z,H,I,rw',q⟩
 by_cases h0:0≤i
 ·have hj:i.toNat=j:=by
   rw [seqIndex_of h0 h5] at h1
   exact Option.some.inj h1
  exact item_listR pl.isList h0 (by omega) (by rw [hj]; simpa using ew) fin hs
 ·have hj:(i+(its.toArray.size:Int)).toNat=j:=by
   rw [seqIndex_neg (by omega) h4] at h1
   rw [List.size_toArray,← hl]
   exact Option.some.inj h1
  exact subscriptTail_builtinR (x:=w) pl.isList.typeIs slot_list_getitem.lookup
   (wpAny_getItem_list_neg (Q:=fun r s'=>r=w∧EP X pins σ Q r s') pl.isList (by omega) (by rw [List.size_toArray] <;> omega) (by omega) (by rw [hj]; simpa using ew) ⟨rfl,fin⟩) hs
theorem ix_tup:IxR X (rIxT X.K):=by
 intro value slice pins s σ H x y v u Q I rx ry h hs
 obtain ⟨p,xs,i,z,rfl,rfl,hq,he,q⟩:=h
 cases rx
 obtain ⟨t,rfl⟩:=ry
 obtain ⟨its,r,pl,hz⟩:=I.tuple hq
 obtain ⟨j,h1,h2,h3,h4,h5⟩:=atI_get he
 obtain ⟨w,ew,rw'⟩:=r.get h2
 have hl:=r.length
 have hn:=line63
 have fin:EP X pins σ Q w s:=⟨z,H,I,rw',q⟩
 exact subscriptTail_builtinR (x:=w) pl.typeIs slot_tuple_getitem.lookup
  (getItem_tuple (j:=j) (Q:=fun r s'=>r=w∧EP X pins σ Q r s') pl (by omega) (by omega) (by rw [List.size_toArray,← hl]; exact h1) (by simpa using ew) ⟨rfl,fin⟩) hs
theorem ix_str:IxR X rIxS:=by
 intro value slice pins s σ H x y v u Q I rx ry h hs
 obtain ⟨z,i,c,rfl,rfl,hz,he,q⟩:=h
 obtain ⟨t,rfl⟩:=rx
 obtain ⟨t',rfl⟩:=ry
 obtain ⟨j,h1,h2,h3,h4,h5⟩:=atI_get he
 have hl:z.cps.toList.length=z.length:=by simp [Str.length]
 rw [hl] at h1 h4 h5
 have hn:=line63
 exact tail_any (typeIs_str s z t) slot_str_getitem.lookup (getItem_str (c:=c) (by
  have e1:decide (i < -(2 ^ 63:Int))=false:=decide_eq_false (by omega)
  have e2:decide (i ≥ 2 ^ 63)=false:=decide_eq_false (by omega)
  rw [e1,e2,Bool.or_false]) (by rw [h1]; simpa using h2) ⟨.str ⟨#[c]⟩,H,I.tok _,⟨_,rfl⟩,q⟩) hs
def rIx (K:PySem.W.Frag):R2:=fun x y H Q=>rIxL K x y H Q∨rIxT K x y H Q∨rIxS x y H Q
theorem ix_seq:IxR X (rIx X.K):=ix_list.or (ix_tup.or ix_str)
theorem mapSeq_set (its:List Value) (n j:Nat) (u:Value):Obj.mapSeq (·.setIfInBounds j u) { cls:=.type "list",data:=.seq its.toArray n } = { cls:=.type "list",data:=.seq (its.set j u).toArray n }:=by
 simp [Obj.mapSeq]
theorem Inv.lst {pins:List (Addr × Obj)} {σ:St} {H:Hp} {s:Shared} {p:Addr} {xs:List V} (I:Inv X pins σ H s) (h:H p=some (.lst xs)) :
  ∃ (its:List Value) (n:Nat),Vals xs its∧s.heap.get? p=some { cls:=.type "list",data:=.seq its.toArray n }∧xs.length≤sizeLine:=by
 obtain ⟨z,its,n,r,e⟩:=I.hok p _ h
 exact ⟨its,n,r,e,z⟩
theorem Inv.lstUpd {pins:List (Addr × Obj)} {σ:St} {H:Hp} {s:Shared} {p:Addr} {xs ys:List V} {its its':List Value} {n n':Nat} {f:Obj→Obj} (I:Inv X pins σ H s) (h:H p=some (.lst xs))
  (ho:s.heap.get? p=some { cls:=.type "list",data:=.seq its.toArray n }) (hf:f { cls:=.type "list",data:=.seq its.toArray n } = { cls:=.type "list",data:=.seq its'.toArray n' }) (r:Vals ys its') (hz:ys.length≤sizeLine) (t:Nat) :
  Inv X pins σ (upd H p (.lst ys)) { s with heap:=s.heap.update p f,toks:=t }:=by
 have e:(s.heap.update p f).get? p=some { cls:=.type "list",data:=.seq its'.toArray n' }:=by
  rw [Heap.get?_update_self f ho (by rw [hf] <;> rfl),hf]
 refine I.write (x:=p) (e:=p) (by rw [h]; trivial) (.inl rfl) (fun b u hb q=>(Heap.get?_update_other _ _ (Ne.symm hb)).trans q) ⟨_,e⟩ ?_
 exact ⟨hz,its',n',r,e⟩
inductive rSetLI (o:V) (i:V) (v:V) (H:Hp) (Q:(Hp→Prop)):Prop
 | mk (p xs k j:_) (h1:o=.ref p) (h2:i=.int k) (h3:H p=some (.lst xs)) (h4:ixN xs.length k=some j) (h5:Q (upd H p (.lst (xs.set j v)))):rSetLI o i v H Q
def rSetL:V→V→V→Hp→(Hp→Prop)→Prop:=fun o i v H Q=>rSetLI o i v H Q
theorem set_list:PSet X rSetL:=by
 intro pins s σ H o i v ov iv u Q I ro ri rv h
 obtain ⟨p,xs,k,j,rfl,rfl,hp,hj,q⟩:=h
 cases ro
 obtain ⟨t,rfl⟩:=ri
 obtain ⟨its,n,r,ho,hz⟩:=I.lst hp
 obtain ⟨h1,h2,h3,h4⟩:=ixN_seq hj
 have hl:=r.length
 have hn:=line63
 have I':Inv X pins σ (upd H p (.lst (xs.set j v))) { s with heap:=s.heap.update p (Obj.mapSeq (·.setIfInBounds j u)) }:=
  I.lstUpd hp ho (mapSeq_set its n j u) (r.set rv j) (by rw [List.length_set]; exact hz) s.toks
 by_cases h0:0≤k
 ·have hk:k.toNat=j:=by
   rw [seqIndex_of h0 h4] at h1
   exact Option.some.inj h1
  exact PySem.W.ki_setAt ho h0 (by omega) (by rw [List.size_toArray,← hl]; exact h4) (by rw [hk]; exact ⟨_,I',q⟩)
 ·have hk:(k+(its.toArray.size:Int)).toNat=j:=by
   rw [seqIndex_neg (by omega) h3] at h1
   rw [List.size_toArray,← hl]
   exact Option.some.inj h1
  exact PySem.W.ki_setBack ho (by omega) (by rw [List.size_toArray,← hl]; exact h3) (by omega) (by rw [hk]; exact ⟨_,I',q⟩)
theorem slice_bounds (lo hi:Option Int) (n:Nat):(sliceBounds lo hi none n).1=((HT.sIx n 0 lo:Nat):Int)∧(sliceBounds lo hi none n).2.1=((HT.sIx n n hi:Nat):Int)∧(sliceBounds lo hi none n).2.2=1:=by
 refine ⟨?_,?_,rfl⟩
 ·cases lo with
  | none=>simp [sliceBounds,HT.sIx]
  | some i=>
   simp only [sliceBounds,HT.sIx,Option.getD_none,show (1:Int) > 0 by decide,if_true]
   by_cases h:i < 0
   ·simp only [h,if_true] <;> omega
   ·simp only [h,if_false] <;> omega
 ·cases hi with
  | none=>simp [sliceBounds,HT.sIx]
  | some i=>
   simp only [sliceBounds,HT.sIx,Option.getD_none,show (1:Int) > 0 by decide,if_true]
   by_cases h:i < 0
   ·simp only [h,if_true] <;> omega
   ·simp only [h,if_false] <;> omega
def flatV:V→Bool
 | .non=>true
 | .bl _=>true
 | .int _=>true
 | .str _=>true
 | _=>false
def eqV:V→V→Bool
 | .non,.non=>true
 | .bl a,.bl b=>a==b
 | .bl a,.int b=>(if a then 1 else 0)==b
 | .int a,.bl b=>a==(if b then 1 else 0)
 | .int a,.int b=>a==b
 | .str a,.str b=>a==b
 | _,_=>false
theorem eqAt_V {A:Around} {s:Shared} {y x:V} {u v:Value} (ry:RelV y u) (rx:RelV x v) (fy:flatV y=true) (fx:flatV x=true):SeqAt.EqAt A s u v (eqV y x):=by
 cases y with
 | non=>
  cases ry
  cases x with
  | non=>cases rx; exact SeqAt.EqAt.same _
  | bl b=>cases rx; exact SeqAt.EqAt.none_bool b
  | int b=>obtain ⟨t,rfl⟩:=rx; exact SeqAt.EqAt.none_int b t
  | str b=>obtain ⟨t,rfl⟩:=rx; exact SeqAt.EqAt.none_str b t
  | _=>exact absurd (show false=true from fx) Bool.false_ne_true
 | bl a=>
  cases ry
  cases x with
  | non=>cases rx; exact SeqAt.EqAt.bool_none a
  | bl b=>cases rx; exact SeqAt.EqAt.bool_bool a b
  | int b=>obtain ⟨t,rfl⟩:=rx; exact SeqAt.EqAt.bool_int a b t
  | str b=>obtain ⟨t,rfl⟩:=rx; exact SeqAt.EqAt.bool_str a b t
  | _=>exact absurd (show false=true from fx) Bool.false_ne_true
 | int a=>
  obtain ⟨t',rfl⟩:=ry
  cases x with
  | non=>cases rx; exact SeqAt.EqAt.int_none a t'
  | bl b=>cases rx; exact SeqAt.EqAt.int_bool a t' b
  | int b=>obtain ⟨t,rfl⟩:=rx; exact SeqAt.EqAt.int_int a t' b t
  | str b=>obtain ⟨t,rfl⟩:=rx; exact SeqAt.EqAt.int_str a t' b t
  | _=>exact absurd (show false=true from fx) Bool.false_ne_true
 | str a=>
  obtain ⟨t',rfl⟩:=ry
  cases x with
  | non=>cases rx; exact SeqAt.EqAt.str_none a t'
  | bl b=>cases rx; exact SeqAt.EqAt.str_bool a t' b
  | int b=>obtain ⟨t,rfl⟩:=rx; exact SeqAt.EqAt.str_int a t' b t
  | str b=>obtain ⟨t,rfl⟩:=rx; exact SeqAt.EqAt.str_str a t' b t
  | _=>exact absurd (show false=true from fx) Bool.false_ne_true
 | _=>exact absurd (show false=true from fy) Bool.false_ne_true
theorem call_len_seq:CallR X (.builtin "len") (fun xs H Q=>∃ p ys,xs=[.ref p]∧(SqL X.K H p ys∨SqT X.K H p ys)∧Q (.int ys.length) H):=by
 intro pins s σ H xs us Q I r h
 obtain ⟨p,ys,rfl,hq,q⟩:=h
 obtain ⟨u,rfl,rx⟩:=vals1 r
 cases rx
 have hn:=line63
 rcases hq with hq | hq
 ·obtain ⟨its,r',pl,hz⟩:=I.list hq
  have hlen:=r'.length
  exact Calls.call_len_list pl.isList (by simp only [List.size_toArray] <;> omega) ⟨.int ys.length,H,I.tok _,⟨s.toks+1,by rw [List.size_toArray,hlen]⟩,q⟩
 ·obtain ⟨its,r',pl,hz⟩:=I.tuple hq
  have hlen:=r'.length
  exact len_tuple pl (by simp only [List.size_toArray] <;> omega) ⟨.int ys.length,H,I.tok _,⟨s.toks+1,by rw [List.size_toArray,hlen]⟩,q⟩
theorem call_len_str:CallR X (.builtin "len") (fun xs H Q=>∃ z,xs=[.str z]∧z.length≤sizeLine∧Q (.int z.length) H):=by
 intro pins s σ H xs us Q I r h
 obtain ⟨z,rfl,hz,q⟩:=h
 obtain ⟨u,rfl,t,rfl⟩:=vals1 r
 have hn:=line63
 exact len_str (by omega) ⟨.int z.length,H,I.tok _,⟨_,rfl⟩,q⟩
theorem call_list_of:CallR X (.type "list") (fun xs H Q=>∃ p ys,xs=[.ref p]∧(SqL X.K H p ys∨SqT X.K H p ys)∧∀ l,H l=none→Q (.ref l) (upd H l (.lst ys))):=by
 intro pins s σ H xs us Q I r h
 obtain ⟨p,ys,rfl,hq,q⟩:=h
 obtain ⟨u,rfl,rx⟩:=vals1 r
 cases rx
 have fin:∀ (its:List Value),Vals ys its→ys.length≤sizeLine→∀ (h':Heap) (c':Nat),(∀ b o',s.heap.get? b=some o'→h'.get? b=some o')→
   h'.get? s.heap.objs.size=some { cls:=.type "list",dict:=none,data:=.seq its.toArray c',slots:=#[] }→EP X pins σ Q (.ref s.heap.objs.size) { s with heap:=h' }:=fun its r' hz h' c' kp e=>
  ⟨.ref s.heap.objs.size,_,I.laid (t':=s.toks) kp (Nat.le_refl _) (show ObjOk X.prog X.w _ h' _ (.lst ys) from ⟨hz,its,c',r',e⟩),rfl,q _ (I.hok.fresh (Nat.le_refl _))⟩
 rcases hq with hq | hq
 ·obtain ⟨its,r',pl,hz⟩:=I.list hq
  have hlen:=r'.length
  obtain ⟨o,ho,hc,n,hd⟩:=pl.isList
  exact call_list_seq p (.inl rfl) ho hc hd (fun h' c' kp e=>fin its r' hz h' c' kp e) (by simp only [List.size_toArray] <;> omega)
 ·obtain ⟨its,r',pl,hz⟩:=I.tuple hq
  have hlen:=r'.length
  obtain ⟨o,ho,hc,n,hd⟩:=pl
  exact call_list_seq p (.inr rfl) ho hc hd (fun h' c' kp e=>fin its r' hz h' c' kp e) (by simp only [List.size_toArray] <;> omega)
def tyV (K:PySem.W.Frag) (T:String) (x:V) (H:Hp):Prop:=match x with
 | .str _=>T = "str"
 | .int _=>T = "int"
 | .ref p=>(T = "list"∧∃ xs,SqL K H p xs)∨(T = "tuple"∧∃ o,K.lookup p=some o∧o.cls=.type "tuple"∧o.dict=none)∨
   (T = "dict"∧((∃ kvs,H p=some (.dK kvs))∨∃ kvs,H p=some (.dT kvs)))∨(T = "set"∧∃ S n,H p=some (.set S n))
 | _=>False
theorem tyV_is {pins:List (Addr × Obj)} {σ:St} {H:Hp} {s:Shared} {T:String} {x:V} {v:Value} (I:Inv X pins σ H s) (r:RelV x v) (ty:tyV X.K T x H) :
  s.TypeIs v T∧∀ a,v=.ref a→∃ ob,s.heap.get? a=some ob∧ob.dict=none:=by
 cases x with
 | str z=>
  obtain ⟨t,rfl⟩:=r
  cases (show T = "str" from ty)
  exact ⟨typeIs_str s z t,fun _ e=>nomatch e⟩
 | int i=>
  obtain ⟨t,rfl⟩:=r
  cases (show T = "int" from ty)
  exact ⟨typeIs_int s i t,fun _ e=>nomatch e⟩
 | ref p=>
  cases r
  rcases ty with ⟨rfl,xs,hq⟩ | ⟨rfl,o,hk,hc,hd⟩ | ⟨rfl,hk⟩ | ⟨rfl,S,n,hk⟩
  ·obtain ⟨its,_,pl,_⟩:=I.list hq
   refine ⟨pl.isList.typeIs,fun a e=>?_⟩
   cases e
   obtain ⟨o,n,e,c,hd,_⟩:=pl
   exact ⟨o,e,hd⟩
  ·refine ⟨⟨o,I.kIn p o hk,hc⟩,fun a e=>?_⟩
   cases e
   exact ⟨o,I.kIn _ o hk,hd⟩
  ·have z:∃ o,s.heap.get? p=some o∧o.ExactDict:=by
    rcases hk with ⟨kvs,hk⟩ | ⟨kvs,hk⟩
    ·obtain ⟨_,_,_,_,o,_,_,e,ex,_⟩:=I.hok p _ hk
     exact ⟨o,e,ex⟩
    ·obtain ⟨_,_,_,_,o,_,_,e,ex,_⟩:=I.hok p _ hk
     exact ⟨o,e,ex⟩
   obtain ⟨o,e,ex⟩:=z
   refine ⟨⟨o,e,ex.1⟩,fun a e2=>?_⟩
   cases e2
   exact ⟨o,e,ex.2.1⟩
  ·obtain ⟨o,_,_,_,e,ex,_⟩:=I.hok p _ hk
   refine ⟨⟨o,e,ex.1⟩,fun a e2=>?_⟩
   cases e2
   exact ⟨o,e,ex.2.1⟩
 | _=>exact False.elim ty
def tBM (K:PySem.W.Frag) (T:String) (r:V→List V→Hp→VK→Prop) (to:TE) (t:TA):TE:=fun σ H Q=>to σ H fun x H1=>tyV K T x H1∧t σ H1 fun xs H2=>r x xs H2 Q
variable {o e:Expr} {es:List Expr} {to:TE} {t:TA} {name:Str} {apos cpos:Pos} {T id:String} {r:V→List V→Hp→VK→Prop}
theorem pe_bm (pa:PlainAttrs T) (slot:Slot T name id) (hty:typeOf (.builtin id)=pure (.type "method_descriptor")) (hm:MtR X id r) (ho:PE X o to) (ha:PA X (e :: es) t)
  (hbase:attributeBase o name X.env (eval o X.env)=eval o X.env:=by rfl)
  (hfew:((backTo cpos (starEach (e :: es) X.env)).all (fun x=>!x.1) && (backToKw cpos (keywordEach [] X.env)).all (fun x=>x.1.isSome)
   && decide ((e :: es).length+([]:List Keyword).length+(if ([]:List Keyword).isEmpty then 0 else 1) < 30))=true:=by rfl)
  (hline:(apos.endLine==cpos.line)=true:=by rfl) (hs:starEach (e :: es) X.env=(false,eval e X.env) :: starEach es X.env:=by rfl) (hplain:(backTo cpos (starEach es X.env)).any (·.1)=false:=by rfl) :
  PE X (.Call (.Attribute o name apos) (e :: es) [] cpos) (tBM X.K T r to t):=by
 intro pins s σ H Q I h
 refine wpAny_Call_method_late hbase hfew hline rfl (thn (ho pins s σ H _ I h) fun v s1 ⟨x,H1,I1,r1,ty,q1⟩=>?_)
 obtain ⟨h1,h2⟩:=tyV_is I1 r1 ty
 refine ⟨T,id,pa,slot,hty,h1,h2,?_⟩
 have hA:=ha cpos pins s1 σ H1 _ I1 q1
 rw [hs] at hA ⊢
 refine Calls.callWith_builtin (by show (false || (backTo cpos (starEach es X.env)).any (·.1))=false; rw [hplain] <;> rfl) (Calls.evalArgs_plain ?_)
 exact thn hA fun us s2 ⟨vs,H2,I2,r2,q2⟩=>hm pins s2 σ H2 x vs v us Q I2 r1 r2 q2
end
end L2
namespace L2
open PySem PySem.Spec PyProof.Rows
def MtM (X:Cx) (id:String) (r:V→List V→Hp→VK→Prop):Prop:=
 ∀ (pins:List (Addr × Obj)) (s:Shared) (σ:St) (H:Hp) (x:V) (xs:List V) (v:Value) (us:List Value) (Q:VK),Inv X pins σ H s→RelV x v→Vals xs us→r x xs H Q→
  wpAny (model X.prog X.w) X.A (call (.builtin id) (v :: us)) (EP X pins σ Q) X.xe s
theorem Vals.one:∀ {x:V} {us:List Value},Vals [x] us→∃ u,us=[u]∧RelV x u
 | _,_,.cons r .nil=>⟨_,rfl,r⟩
theorem Vals.two:∀ {x y:V} {us:List Value},Vals [x,y] us→∃ u v,us=[u,v]∧RelV x u∧RelV y v
 | _,_,_,.cons r (.cons q .nil)=>⟨_,_,rfl,r,q⟩
theorem Vals.eraseIdx:∀ {xs:List V} {us:List Value} (i:Nat),Vals xs us→Vals (xs.eraseIdx i) (us.eraseIdx i)
 | _,_,_,.nil=>.nil
 | _,_,0,.cons _ t=>t
 | _,_,i+1,.cons r t=>.cons r (Vals.eraseIdx i t)
theorem len_erase {α:Type}:∀ (l:List α) (i:Nat),(l.eraseIdx i).length≤l.length
 | [],_=>Nat.le_refl _
 | _ :: _,0=>Nat.le_succ _
 | _ :: r,i+1=>Nat.succ_le_succ (len_erase r i)
section
variable {X:Cx} {pins:List (Addr × Obj)} {σ:St} {H:Hp} {s:Shared} {l b:Addr} {xs ys zs:List V}
theorem Inv.lset {its its':List Value} {n:Nat} {f:Array Value→Array Value} {t':Nat} (I:Inv X pins σ H s) (hH:H l=some (.lst xs))
  (e:s.heap.get? l=some { cls:=.type "list",data:=.seq its.toArray n }) (hf:f its.toArray=its'.toArray) (hv:Vals ys its') (hz:ys.length≤sizeLine) :
  Inv X pins σ (upd H l (.lst ys)) { s with heap:=s.heap.update l (Obj.mapSeq f),toks:=t' }:=by
 have q:=PySem.IsL.update e f
 rw [hf] at q
 refine I.write (x:=l) (e:=l) (by rw [hH]; exact trivial) (.inl rfl) (fun b' u hb hu=>(Heap.get?_update_other s.heap (Obj.mapSeq f) (Ne.symm hb)).trans hu) ⟨_,q⟩ ?_
 exact ⟨hz,its',_,hv,q⟩
theorem Inv.fresh (I:Inv X pins σ H s):H s.heap.objs.size=none:=I.hok.fresh (Nat.le_refl _)
theorem Inv.lstM (I:Inv X pins σ H s) (hH:H l=some (.lst xs)):xs.length≤sizeLine∧∃ (its:List Value) (n:Nat),Vals xs its∧xs.length=its.length∧s.heap.get? l=some { cls:=.type "list",data:=.seq its.toArray n }:=by
 obtain ⟨z,its,n,r,e⟩:=I.hok l _ hH
 exact ⟨z,its,n,r,r.length,e⟩
end
section
variable {X:Cx}
inductive rAppendI (x:V) (vs:List V) (H:Hp) (Q:VK):Prop
 | mk (l xs y:_) (h1:x=.ref l) (h2:vs=[y]) (h3:H l=some (.lst xs)) (h4:xs.length < sizeLine) (h5:Q .non (upd H l (.lst (xs ++ [y])))):rAppendI x vs H Q
def rAppend:V→List V→Hp→VK→Prop:=fun x vs H Q=>rAppendI x vs H Q
theorem mt_append:MtM X "list.append" rAppend:=by
 intro pins s σ H x vs v us Q I rx rv h
 obtain ⟨l,xs,y,rfl,rfl,hH,hz,q⟩:=h
 cases rx
 obtain ⟨u,rfl,ru⟩:=rv.one
 obtain ⟨z,its,n,r,hl,e⟩:=I.lstM hH
 refine call_meets F.slot_list_append ⟨_,e,rfl⟩ F.entry_list_append (F.args_list_append_2 _ _) (PySem.list_append l its.toArray n u (by rw [List.size_toArray]; omega)) ⟨e,?_⟩
 refine ⟨.non,_,I.lset (its':=its ++ [u]) hH e (by simp) (r.append (.cons ru .nil)) ?_,rfl,q⟩
 rw [List.length_append,List.length_singleton]
 omega
inductive rPopAtI (x:V) (vs:List V) (H:Hp) (Q:VK):Prop
 | mk (l xs i k y:_) (h1:x=.ref l) (h2:vs=[.int i]) (h3:H l=some (.lst xs)) (h4 : -(2 ^ 63)≤i) (h5:i < 2 ^ 63) (h6:seqIndex? i xs.length=some k) (h7:xs[k]? = some y) (h8:Q y (upd H l (.lst (xs.eraseIdx k)))):rPopAtI x vs H Q
def rPopAt:V→List V→Hp→VK→Prop:=fun x vs H Q=>rPopAtI x vs H Q
theorem mt_popAt:MtM X "list.pop" rPopAt:=by
 intro pins s σ H x vs v us Q I rx rv h
 obtain ⟨l,xs,i,k,y,rfl,rfl,hH,h1,h2,hk,hy,q⟩:=h
 cases rx
 obtain ⟨u,rfl,ru⟩:=rv.one
 obtain ⟨t,rfl⟩:=ru
 obtain ⟨z,its,n,r,hl,e⟩:=I.lstM hH
 obtain ⟨w,hw,rw'⟩:=r.get hy
 refine call_meets F.slot_list_pop ⟨_,e,rfl⟩ F.entry_list_pop (F.args_list_pop_2 _ _)
  (MeetsSeq.list_pop_at l its.toArray n i t k w (fitsIndex_both h1 h2) (by rw [List.size_toArray,← hl]; exact hk) (by rw [← Array.getElem?_toList]; exact hw) (by rw [List.size_toArray]; omega)) ⟨e,?_⟩
 refine ⟨y,_,I.lset (its':=its.eraseIdx k) hH e ?_ (r.eraseIdx k) ?_,rw',q⟩
 ·show its.toArray.eraseIdxIfInBounds k=(its.eraseIdx k).toArray
  rw [List.eraseIdxIfInBounds_toArray]
 ·have:=len_erase xs k
  omega
theorem len_rep {α:Type} (xs:List α) (k:Nat):(List.replicate k xs).flatten.length=k * xs.length:=by
 induction k with
 | zero=>simp
 | succ k ih=>rw [List.replicate_succ,List.flatten_cons,List.length_append,ih,Nat.succ_mul,Nat.add_comm]
end
section
variable {prog:Program} {w:World} {A:Around} {E:Value→Shared→Prop} {s:Shared}
set_option maxRecDepth 100000 in
end
section
variable {X:Cx}
end
end L2
namespace Att
open PySem PySem.W PySem.Calls PyProof.Rows
theorem ints_of_wellAll {P:Params} {h:Heap}:∀ (ns:List Int) (vs:List Value),WellAll P h vs (ns.map WData.int)→IntsAre vs ns:=by
 intro ns
 induction ns with
 | nil=>
  intro vs w
  rw [List.map_nil] at w
  cases w
  exact .nil
 | cons n ns ih=>
  intro vs w
  rw [List.map_cons] at w
  cases w with
  | cons a b=>
   cases a
   exact .cons _ _ (ih _ b)
theorem script_of {l:OpenLaw} {n:Nat} (hn:l.most=some n) {P:Params} {h:Heap} {args:List WData} {vals:List Value}
  (hpre:l.row.toRowW.claim.pre args=true) (hwl:WellAll P h vals args) :
  ∃ a vs ns,vals=[Value.ref a]∧args=[WData.list (ns.map WData.int)]∧h.get? a=some { cls:=.type "list",data:=.seq vs.toArray }∧IntsAre vs ns∧ns.length≤n:=by
 have hsh:WShape.hasAll [] args [.list .int]=true:=(pre_splitW hpre).1
 have hc:l.pre.holds [] { args:=args } = true:=(pre_splitW hpre).2
 obtain ⟨d,r,rfl,h1,h2⟩:=hasAllW_cons hsh
 obtain rfl:=hasAllW_nil h2
 obtain ⟨xs,rfl,h3⟩:=hasW_list h1
 obtain ⟨ns,rfl⟩:=items_int h3
 have hlen:ns.length≤n:=by
  unfold OpenLaw.pre at hc
  have h4:(WTm.not (.lt (.lit (.int (n:Int))) (.len (.arg 0)))).holds [] { args:=[.list (ns.map .int)] } = true:=by
   have h4:=(holds_andW hc).1
   rw [hn] at h4
   exact h4
  have h5:=condW_of h4 (w_not (w_lt w_lit (w_len_list (w_arg rfl))))
  rw [List.length_map] at h5
  refine Nat.le_of_not_lt fun q=>?_
  have q':(n:Int) < ((ns.length:Nat):Int):=by omega
  first
   | (rw [decide_eq_true q'] at h5; exact absurd h5 (by decide))
   | (simp at h5; omega)
 cases hwl with
 | cons w1 w2=>
  cases w2
  cases w1 with
  | list ho hall=>exact ⟨_,_,ns,rfl,rfl,ho,ints_of_wellAll ns _ hall,hlen⟩
theorem post_true (l:OpenLaw) (args:List WData):l.row.toRowW.claim.post args (.bool true) args=true:=
 postW_of (r:=l.row.toRowW) (X:=(true==true))
  (show WShape.has [] (.bool true) .bool=true by first | rfl | decide | simp [WShape.has,WShape.arms,WShape.armsAll])
  (show (WTm.eq .res (.lit (.bool true))).value [] { args:=args,res:=some (.bool true),after:=args } = some (.bool (true==true)) from w_eq_bool (w_res rfl) w_lit) rfl
theorem attach_call {l:OpenLaw} {n:Nat} {q:Program} {loose:List Str} {XP:(Str→Option Value)→Heap→Prop} {YP:World→Heap→Prop} {d:DefRec}
  (hn:l.most=some n) (hdf:d.params.defaults=[])
  (call:∀ (w:World) (s₀ s₁:Shared) (mg mb:Str→Option Value) (fa:Addr) (o:Obj) (pm cd doc:Value) (a:Addr) (vs:List Value) (ns:List Int),
   Ground q loose [] XP w s₀ mg mb s₁.heap→YP w s₁.heap→
   s₁.heap.get? fa=some o→o.data=.func (docDef d.name d.params d.body d.scope pm cd doc)→s₁.heap.CodeRec cd d.name→mg d.name=some (.ref fa)→
   s₁.heap.get? a=some { cls:=.type "list",data:=.seq vs.toArray }→IntsAre vs ns→ns.length≤n→s₁.gens = #[]→
   codeAny (model l.prog w) callerA (.call (.ref fa) ⟨[.ref a],[]⟩) (fun r s'=>r=.ok (.ret (.bool true))∧OldK s₁.heap s'.heap∧s'.os=s₁.os∧AllBare s'.gens) s₁) :
  WalkO q loose XP YP l.row.toRowW d [] (fun f vs=>PySem.call f vs):=by
 intro w s₀ s₁ mg mb G Y fa o pm cd doc dV kV ho hd hcd hD hmg hg args vals as hpre hlay hrd hwl hlo
 obtain rfl:dV=.none:=Dflts.none hD hdf
 obtain rfl:kV=.none:=Dflts.noKw hD
 obtain ⟨a,vs,ns,rfl,rfl,hobj,hints,hlen⟩:=script_of hn hpre hwl
 refine enter_call (codeAny_mono (call w s₀ s₁ mg mb fa o pm cd doc a vs ns G Y ho (fd_plain hd) hcd hmg hobj hints hlen hg) fun r s' hq=>?_)
 obtain ⟨rfl,h2,h3,h4⟩:=hq
 exact ⟨.inl ⟨.bool true,.bool true,[],rfl,fun _=>rfl,.bool true,post_true l _,fun _=>⟨List.Pairwise.nil,fun _ hm=>(nomatch hm)⟩⟩,h2,h3,h4⟩
section
variable {prog:Program} {w:World} {A:Around} {E:Value→Shared→Prop} {s:Shared} {K:Frag}
def ledger (h:Heap) (L d:Addr):List (Addr × Obj):=(List.range h.objs.size).filterMap fun a=>if a=L∨a=d then none else (h.get? a).map fun o=>(a,o)
end
end Att
namespace L2
open PySem PySem.Spec PyProof.Rows
theorem vals_ints:∀ {vs:List Value} {ns:List Int},IntsAre vs ns→Vals (ns.map V.int) vs
 | _,_,.nil=>.nil
 | _,_,.cons n t h=>.cons ⟨t,rfl⟩ (vals_ints h)
def Only (H:Hp):Prop:=∀ b,H b=none∨∃ o xs,H b=some (.frz o (.lst xs))
theorem law_call {P:Program} {w:World} {K:PySem.W.Frag} {mg mb:Str→Option Value} {CX:CXT} {k:Nat} {fa a:Addr} {fd:FuncData} {x:Str} {sp:Sp} {s₁:Shared} {vs:List Value} {ns:List Int}
  (KX:K.In s₁.heap) (hns:s₁.heap.Ns mainGlobals mg) (hb:s₁.heap.Ns builtinsNs mb) (hbb:∀ x:Str,x≠"__name__"→mb x=bootBuiltins x) (hlim:s₁.heap.NoLimit) (hg:s₁.gens = #[])
  (ha:s₁.heap.get? a=some { cls:=.type "list",data:=.seq vs.toArray }) (hi:IntsAre vs ns) (hl:ns.length≤sizeLine) (hr:Room k callerA)
  (F:∀ base:Heap,K.In base→base.Ns mainGlobals mg→FnOk P w K mg base CX k fa fd [x] sp) (hbind:∀ (s:Shared) (u:Value),BindsTo s fd ⟨[u],[]⟩ [(x,u)])
  (hsp:∀ H:Hp,Only H→SqL K H a (ns.map V.int)→sp [.ref a] H (fun v _=>v=.bl true) fun _ _ _=>False)
  (hCX:∀ H e s',CX [] H s₁ (fun _ _ _=>False) e s'→False) :
  codeAny (model P w) callerA (.call (.ref fa) ⟨[.ref a],[]⟩) (fun r s'=>r=.ok (.ret (.bool true))∧OldK s₁.heap s'.heap∧s'.os=s₁.os∧AllBare s'.gens) s₁:=by
 have rv:=vals_ints hi
 have lenV:=hi.length
 have core:∀ H:Hp,Only H→SqL K H a (ns.map V.int)→HOk P w H s₁.heap→(∀ b,H b≠none→b=a)→(H a≠none→K.lookup a=none)→
   codeAny (model P w) callerA (.call (.ref fa) ⟨[.ref a],[]⟩) (fun r s'=>r=.ok (.ret (.bool true))∧OldK s₁.heap s'.heap∧s'.os=s₁.os∧AllBare s'.gens) s₁:=by
  intro H hO hS hok hA hK
  have base_of:∀ {b:Addr} {o:Obj},s₁.heap.get? b=some o→H b=none→(hidT s₁.heap H).get? b=some o:=fun e n=>hidT_get e n
  have noA:∀ {b:Addr} {o:Obj} {es:Array DictEntry} {ep:Nat},s₁.heap.get? b=some o→o.data=.dict es ep→H b=none:=fun {b o es ep} e d=>by
   cases q:H b with
   | none=>rfl
   | some u=>
    have e':b=a:=hA b (by rw [q]; simp)
    subst e'
    rw [ha] at e; cases e
    have d':Data.seq vs.toArray _=Data.dict es ep:=d
    cases d'
  have nsK:∀ {b:Addr} {m:Str→Option Value},s₁.heap.Ns b m→(hidT s₁.heap H).Ns b m:=fun {b m} ⟨o,es,ep,e,d,r⟩=>⟨o,es,ep,base_of e (noA e d),d,r⟩
  have hKb:K.In (hidT s₁.heap H):=fun b o e=>base_of (KX b o e) (by
   cases q:H b with
   | none=>rfl
   | some u=>
    have e':b=a:=hA b (by rw [q]; simp)
    subst e'
    rw [hK (by rw [q]; simp)] at e; cases e)
  have hM:Mod K mg (hidT s₁.heap H):=⟨hKb,nsK hns,⟨mb,nsK hb,hbb⟩,let ⟨mc,h1,h2⟩:=hlim; ⟨mc,nsK h1,h2⟩⟩
  have e0:Env0 P w K mg (hidT s₁.heap H) callerA [] s₁ H:=⟨rfl,hM,fun b o e=>of_hidT e,Nat.le_of_eq (hidT_size _ _),trivial,fun b hb=>absurd (show b∈([]:List Addr) from hb) (by simp),hok,.of_eq hg⟩
  refine codeAny_mono ((F _ hKb (nsK hns)).run callerA [] s₁ H ⟨[.ref a],[]⟩ [.ref a] [.ref a] _ _ hr e0 (hbind s₁ (.ref a)) (.cons rfl .nil) (hsp H hO hS)) fun r s' h=>?_
  cases r with
  | error e=>exact (hCX H e s' h).elim
  | ok fl=>
   cases fl with
   | next=>exact False.elim h
   | brk=>exact False.elim h
   | cont=>exact False.elim h
   | ret u=>
    obtain ⟨v,H',os,bare,un,hok',r',q⟩:=h
    have q':v=.bl true:=q
    subst q'
    obtain rfl:u=Value.bool true:=r'
    refine ⟨rfl,OldK.of_keep fun b o e=>?_,os,bare⟩
    cases q:H b with
    | none=>exact un.keep b o e q (by intro z; exact absurd (show b∈([]:List Addr) from z) (by simp)) (by simp)
    | some u=>
     rcases hO b with z | ⟨ob,xs,z⟩
     ·rw [q] at z; cases z
     ·have z2:=un.frzs b ob _ z
      obtain ⟨e1,_⟩:=hok b _ z
      obtain ⟨e2,_⟩:=hok' b _ z2
      rw [e] at e1; cases e1
      exact e2
 cases hk:K.lookup a with
 | some o=>
  have e:=KX a o hk
  rw [ha] at e
  cases e
  refine core (fun _=>none) (fun _=>.inl rfl) (.inr ⟨_,vs.toArray,_,hk,rfl,rfl,rfl,by rw [List.size_toArray,lenV]; exact hl,by simpa using rv⟩) (fun b u z=>by have z':(none:Option HO)=some u:=z; cases z') (fun b z=>absurd rfl z) fun z=>absurd rfl z
 | none=>
  refine core (fun b=>if b=a then some (.frz { cls:=.type "list",data:=.seq vs.toArray } (.lst (ns.map V.int))) else none) (fun b=>?_) (.inl (.inr ⟨{ cls:=.type "list",data:=.seq vs.toArray },if_pos rfl⟩)) (fun b u z=>?_) (fun b z=>?_) fun _=>hk
  ·by_cases hb:b=a
   ·exact .inr ⟨_,_,if_pos hb⟩
   ·exact .inl (if_neg hb)
  ·by_cases hb:b=a
   ·have z':=(if_pos hb).symm.trans z
    cases z'
    subst hb
    exact ⟨ha,by rw [List.length_map]; exact hl,vs,_,rv,ha⟩
   ·have z':=(if_neg hb).symm.trans z
    cases z'
  ·by_cases hb:b=a
   ·exact hb
   ·exact absurd (if_neg hb) z
end L2
namespace L2
open PySem PySem.Spec PyProof.Rows
abbrev KOf {K:PySem.W.Frag} {h:Heap} (_:K.In h):PySem.W.Frag:=K
theorem walk_of {l:PySem.W.OpenLaw} {n k:Nat} {q:Program} {loose:List Str} {XP:(Str→Option Value)→Heap→Prop} {YP:World→Heap→Prop} {d:DefRec} {K:Params→PySem.W.Frag} {CX:World→CXT} {sp:World→Sp} {x:Str}
  (hn:l.most=some n) (hn2:n≤sizeLine) (hdf:d.params.defaults=[]) (hr:Room k callerA)
  (hY:∀ (w:World) (h:Heap),YP w h→(K w.params).In h)
  (F:∀ (w:World) (mg:Str→Option Value) (fa:Addr) (h:Heap),(K w.params).In h→h.Ns mainGlobals mg→mg d.name=some (.ref fa)→
   ∃ fd:FuncData,(∀ (s:Shared) (u:Value),BindsTo s fd ⟨[u],[]⟩ [(x,u)])∧
    ∀ base:Heap,(K w.params).In base→base.Ns mainGlobals mg→FnOk l.prog w (K w.params) mg base (CX w) k fa fd [x] (sp w))
  (hsp:∀ (w:World) (H:Hp) (a:Addr) (ns:List Int),ns.length≤n→Only H→SqL (K w.params) H a (ns.map V.int)→sp w [.ref a] H (fun v _=>v=.bl true) fun _ _ _=>False)
  (hCX:∀ (w:World) (H:Hp) (s:Shared) (e:Value) (s':Shared),CX w [] H s (fun _ _ _=>False) e s'→False) :
  PySem.W.WalkO q loose XP YP l.row.toRowW d [] (fun f vs=>PySem.call f vs):=by
 refine Att.attach_call hn hdf fun w s₀ s₁ mg mb fa o pm cd doc a vs ns G Y ho hd hcd hmg hobj hints hlen hg=>?_
 have KX:=hY w _ Y
 obtain ⟨fd,hb,hF⟩:=F w mg fa _ KX G.T.g hmg
 exact law_call KX G.T.g G.T.b G.T.builtins G.T.nolimit hg hobj hints (Nat.le_trans hlen hn2) hr hF hb (fun H hO hS=>hsp w H a ns hlen hO hS) fun H e s'=>hCX w H s₁ e s'
end L2
/- THE LAST THEOREM (shape; LID,My.* are yours):
   My.Adr: a structure of the addresses that your layer names (classes,functions); My.Txt K t: a structure (Prop) of the equations over K;
   My.txt_mk:{K} {implicit addresses ..} (e1:nsIn K mainGlobals "law" = some (some (.ref f))) (e2:K.lookup f=some ⟨oc,od,.func (fnOf "law" "law" params body scope dV kV doc pm an cdv ct),sl⟩) (e3:codeIn K cdv "law" = true) .. : ∃ t,My.Txt K t
set_option maxRecDepth 100000 in
set_option maxHeartbeats 0 in
theorem PySem.Challenge.cw_LID_holds : PySem.Challenge.rw_LID.Holds := by
 w_on; o_law; k_head; (case hw=>w_witness2)
 k_fill
 refine L2.walk_of (l:=PySem.Challenge.rw_LID) (n:=63) (k:=40) (x:="script") (CX:=fun w=>..) (sp:=fun _=>My.sp_law) rfl (by decide) rfl ⟨rfl,by decide,by decide⟩ (fun w h Y=>PySem.W.kIn_of Y) ?F ?S ?C
 case F=>
  intro w mg fa h KX G hmg
  have T:∃ t,My.Txt (L2.KOf KX) t:=by
   dsimp only [L2.KOf]                          -- K must stand as «<heap const> w.params» for k_is
   refine' My.txt_mk ?e1 ?e2 ?e3 ..
   (case e1=>PySem.W.k_is)                    -- in the order: a name -> its address -> its object -> its parts
   (case e2=>PySem.W.k_is)
   ..
  obtain ⟨t,T⟩:=T
  have e0:=hmg.symm.trans (PySem.W.mg_of KX G T.law)
  cases e0                                       -- fa is the law's own address
  exact ⟨_,fun s u=>.of_eq rfl,fun base kb nb=>My.law_fn T kb nb⟩     -- if «.of_eq rfl» comes too early: refine' ⟨_,?b,fun base kb nb=>My.law_fn T kb nb⟩; exact fun s u=>.of_eq rfl
 case S=>exact fun w H a ns hl hO hS=>..
 case C=>exact ..
(the tactic k_is has no namespace: write k_is) -/
namespace L2
open PySem PySem.Spec PyProof.Rows
def defArgs (s:Stmt):Arguments:=match s with
 | .FunctionDef _ a _ _ _ _ _ _ _ _=>a
 | _=>{ posonlyargs:=[],args:=[],vararg:=none,kwonlyargs:=[],kw_defaults:=[],kwarg:=none,defaults:=[] }
def defBody (s:Stmt):List Stmt:=match s with
 | .FunctionDef _ _ b _ _ _ _ _ _ _=>b
 | _=>[]
def defScope (s:Stmt):Scope:=match s with
 | .FunctionDef _ _ _ _ _ _ sc _ _ _=>sc
 | _=>{ kind:=.function,names:=[],isGenerator:=false,isCoroutine:=false }
abbrev CX0:CXT:=fun _ _ _ _ _ _=>False
abbrev E0:XK:=fun _ _ _=>False
theorem pass0 {X:Cx}:Passes CX0 X E0:=fun _ _ _ _ _ _ _ h=>h.elim
structure Fun (K:PySem.W.Frag) (x qual:Str) (st:Stmt) (f:Addr) (fd:FuncData):Prop where
 ex:∃ (oc:Value) (od:Option Addr) (kV doc pm:Value) (an:Option Addr) (cdv ct:Value) (osl:Array (Option Value)),
  fd=PySem.W.fnOf x qual (defArgs st) (defBody st) (defScope st) .none kV doc pm an cdv ct∧K.lookup f=some ⟨oc,od,.func fd,osl⟩∧PySem.W.codeIn K cdv qual=true
 kp:PySem.W.keepIn K (.ref f)=true
section
variable {P:Program} {w:World} {K:PySem.W.Frag} {mg:Str→Option Value} {base:Heap}
theorem Fun.ok {x qual:Str} {st:Stmt} {f:Addr} {fd:FuncData} {N ps:List Str} {k:Nat} {sp:Sp} (F:Fun K x qual st f fd) (S:FnScope N ps (defScope st)) (len:∀ vs H Q E,sp vs H Q E→vs.length=ps.length)
  (hbody:∀ (cdv:Value) (A:Around) (outer:List Env) (s:Shared) (H:Hp) (vs:List V) (Q:VK) (E:XK),Room k (A.deeper (envOfC qual (defScope st) s.heap.objs.size f cdv))→sp vs H Q E→
   ∃ t,PSs (cxOf CX0 P w K mg base N qual (defScope st) f cdv A outer s H E).nox (defBody st) t∧t { nx:=fun _ H'=>Q .non H',rt:=Q } (start N vs) H):FnOk P w K mg base CX0 (k+1) f fd ps sp:=by
 obtain ⟨oc,od,kV,doc,pm,an,cdv,ct,osl,rfl,lk,hcd⟩:=F.ex
 refine fn_of lk hcd S len fun A outer s H vs Q E hr hsp=>?_
 obtain ⟨t,h,q⟩:=hbody cdv A outer s H vs Q E hr hsp
 exact ⟨t,h.nox,q⟩
theorem Fun.binds {x qual:Str} {st:Stmt} {f:Addr} {fd:FuncData} {ps:List Str} (F:Fun K x qual st f fd)
  (h:∀ (kV doc pm:Value) (an:Option Addr) (cdv ct:Value) (us:List Value),us.length=ps.length→bindArgs (PySem.W.fnOf x qual (defArgs st) (defBody st) (defScope st) .none kV doc pm an cdv ct) ⟨us,[]⟩=pure (ps.zip us)):Binds K fd ps []:=by
 obtain ⟨oc,od,kV,doc,pm,an,cdv,ct,osl,rfl,lk,hcd⟩:=F.ex
 exact .all (h kV doc pm an cdv ct)
theorem fun_mk {x qual:Str} {st:Stmt} {f:Addr} {oc:Value} {od an:Option Addr} {osl:Array (Option Value)} {kV doc pm cdv ct:Value} (l:K.lookup f=some ⟨oc,od,.func (PySem.W.fnOf x qual (defArgs st) (defBody st) (defScope st) .none kV doc pm an cdv ct),osl⟩)
  (c:PySem.W.codeIn K cdv qual=true) (k:PySem.W.keepIn K (.ref f)=true):Fun K x qual st f (PySem.W.fnOf x qual (defArgs st) (defBody st) (defScope st) .none kV doc pm an cdv ct):=⟨⟨oc,od,kV,doc,pm,an,cdv,ct,osl,rfl,l,c⟩,k⟩
end
theorem hu_of {A:Around} {k:Nat} (hr:Room k A):A.units+1 < cLine:=Nat.lt_of_le_of_lt (Nat.add_le_add_left (by decide:1≤64) _) hr.units
theorem small1000 {n:Nat} (h:n≤1000):n < sizeLine:=Nat.lt_of_le_of_lt h (by decide)
section
variable {X:Cx}
theorem pv (i:Nat) {x:Str} {pos:Pos} (hN:X.N[i]? = some x:=by rfl) (hv:Vis X.env.scope x:=by first | exact Or.inl rfl | exact Or.inr (Or.inl rfl) | exact Or.inr (Or.inr rfl)) (hd:(x==("__debug__" : Str))=false:=by decide)
  (hcd:(x==("__classdict__" : Str))=false:=by decide):PE X (.Name x pos) (tVar i):=pe_var hN hv hd hcd
end
theorem iteF {A B:Prop} (h:B):if false=true then A else B:=by
 rw [if_neg Bool.false_ne_true]
 exact h
theorem iteT {A B:Prop} (h:A):if true=true then A else B:=by
 rw [if_pos rfl]
 exact h
theorem ite2 {c A B:Prop} [Decidable c] (h1:c→A) (h2:¬ c→B):if c then A else B:=by
 by_cases h:c
 ·rw [if_pos h]
  exact h1 h
 ·rw [if_neg h]
  exact h2 h
theorem iteNS {c A B:Prop} [Decidable c] (hc:c) (h:B):if (!decide c)=true then A else B:=by
 rw [decide_eq_true hc]
 exact iteF h
def Same (H H':Hp):Prop:=∀ b o,H b=some o→H' b=some o
theorem Same.refl (H:Hp):Same H H:=fun _ _ h=>h
theorem Same.trans {H H1 H2:Hp} (a:Same H H1) (b:Same H1 H2):Same H H2:=fun c o h=>b c o (a c o h)
theorem Same.free {H H':Hp} (e:Same H H') {l:Addr} (h:H' l=Option.none):H l=Option.none:=by
 cases q:H l with
 | none=>rfl
 | some o=>
  rw [e l o q] at h
  cases h
end L2
namespace L2
open PySem PySem.Spec PyProof.Rows
section
variable {κ:Type} [DecidableEq κ]
def valV (kvs:List (κ × V)) (k:κ):Option V:=(kvs.find? fun kv=>decide (kv.1=k)).map (·.2)
def putK (kvs:List (κ × V)) (k:κ) (v:V):List (κ × V):=
 if (kvs.any fun kv=>decide (kv.1=k))=true then kvs.map (fun kv=>if kv.1=k then (kv.1,v) else kv) else kvs ++ [(k,v)]
theorem valV_nil {k:κ}:valV ([]:List (κ × V)) k=none:=rfl
theorem valV_pos {p:κ × V} {r:List (κ × V)} {k:κ} (e:p.1=k):valV (p :: r) k=some p.2:=by simp [valV,List.find?_cons,e]
theorem valV_neg {p:κ × V} {r:List (κ × V)} {k:κ} (e:¬ p.1=k):valV (p :: r) k=valV r k:=by simp [valV,List.find?_cons,e]
theorem valV_any (k:κ):∀ kvs:List (κ × V),(kvs.any fun kv=>decide (kv.1=k))=(valV kvs k).isSome
 | []=>rfl
 | p :: r=>by
  rw [List.any_cons]
  by_cases e:p.1=k
  ·simp only [valV_pos e,decide_eq_true e,Bool.true_or,Option.isSome_some]
  ·rw [valV_neg e,decide_eq_false e,Bool.false_or]; exact valV_any k r
theorem length_putK (kvs:List (κ × V)) (k:κ) (v:V):(putK kvs k v).length≤kvs.length+1:=by
 unfold putK
 split
 ·rw [List.length_map]; omega
 ·rw [List.length_append,List.length_cons,List.length_nil]; omega
theorem putK_new {kvs:List (κ × V)} {k:κ} (v:V) (h:valV kvs k=none):putK kvs k v=kvs ++ [(k,v)]:=by
 unfold putK
 rw [valV_any,h]
 exact if_neg (by decide)
theorem RelO.isSome_eq {o:Option V} {u:Option Value} (r:RelO o u):o.isSome=u.isSome:=by
 cases o with
 | none=>cases u with
  | none=>rfl
  | some _=>exact (show False from r).elim
 | some _=>cases u with
  | none=>exact (show False from r).elim
  | some _=>rfl
theorem KV.val {kvs:List (κ × V)} {vs:List (κ × Value)} (r:KV kvs vs) (k:κ):RelO (valV kvs k) (valueAt vs k):=by
 unfold KV at r
 induction r with
 | nil=>exact True.intro
 | @cons p q ps qs h t ih=>
  obtain ⟨h1,h2⟩:=h
  by_cases e:p.1=k
  ·have e':q.1=k:=h1.symm.trans e
   have b:valueAt (q :: qs) k=some q.2:=by simp [valueAt,List.find?_cons,e']
   rw [valV_pos e,b]; exact h2
  ·have e':¬ q.1=k:=fun z=>e (h1.trans z)
   have b:valueAt (q :: qs) k=valueAt qs k:=by simp [valueAt,List.find?_cons,e']
   rw [valV_neg e,b]; exact ih
theorem KV.any {kvs:List (κ × V)} {vs:List (κ × Value)} (r:KV kvs vs) (k:κ):(kvs.any fun kv=>decide (kv.1=k))=vs.any fun kv=>decide (kv.1=k):=by
 unfold KV at r
 induction r with
 | nil=>rfl
 | cons h t ih=>rw [List.any_cons,List.any_cons,ih,h.1]
theorem KV.repl {kvs:List (κ × V)} {vs:List (κ × Value)} (r:KV kvs vs) (k:κ) {y:V} {u:Value} (ry:RelV y u) :
  KV (kvs.map fun kv=>if kv.1=k then (kv.1,y) else kv) (vs.map fun kv=>if kv.1=k then (kv.1,u) else kv):=by
 unfold KV at r ⊢
 induction r with
 | nil=>exact .nil
 | @cons p q ps qs h t ih=>
  rw [List.map_cons,List.map_cons]
  refine .cons ?_ ih
  obtain ⟨h1,h2⟩:=h
  by_cases e:p.1=k
  ·rw [if_pos e,if_pos (h1.symm.trans e)]; exact ⟨h1,ry⟩
  ·rw [if_neg e,if_neg (fun z=>e (h1.trans z))]; exact ⟨h1,h2⟩
theorem KV.put {kvs:List (κ × V)} {vs:List (κ × Value)} (r:KV kvs vs) (k:κ) {y:V} {u:Value} (ry:RelV y u):KV (putK kvs k y) (stored vs k u):=by
 unfold putK stored
 rw [r.any k]
 by_cases e:(vs.any fun kv=>decide (kv.1=k))=true
 ·rw [if_pos e,if_pos e]; exact r.repl k ry
 ·rw [if_neg e,if_neg e]; exact Paired.snoc r ⟨rfl,ry⟩
theorem KV.length {kvs:List (κ × V)} {vs:List (κ × Value)} (r:KV kvs vs):kvs.length=vs.length:=Paired.length r
end
theorem kV_is {P:Program} {w:World} {k:Key} {u:Value} (r:RelV (kV k) u):(mixKind P w).is k u=true:=by
 cases k with
 | inl i=>obtain ⟨t,e⟩:=(show ∃ t,u=Value.int i t from r); subst e; exact mixKind_int P w i t
 | inr x=>obtain ⟨t,e⟩:=(show ∃ t,u=Value.str x t from r); subst e; exact mixKind_str P w x t
theorem items_are {P:Program} {w:World}:∀ {ks:List Key} {us:List Value},Vals (ks.map kV) us→ItemsAre (mixKind P w) ks us
 | [],_,r=>by rw [List.map_nil] at r; cases r; exact .nil
 | k :: ks,_,r=>by
  rw [List.map_cons] at r
  cases r with
  | cons h t=>exact .cons (kV_is h) (items_are t)
abbrev KT (H:Hp):List (List Key × V)→List (List Key × Addr × Value)→Prop:=Paired fun p q=>p.1=q.1∧H q.2.1=some (.tup (p.1.map kV))∧RelV p.2 q.2.2
theorem KT.val {H:Hp} {kvs:List (List Key × V)} {xs:List (List Key × Addr × Value)} (r:KT H kvs xs) (k:List Key):RelO (valV kvs k) ((atKey xs k).map (·.2)):=by
 induction r with
 | nil=>exact True.intro
 | @cons p q ps qs h t ih=>
  obtain ⟨h1,_,h2⟩:=h
  by_cases e:p.1=k
  ·have e':q.1=k:=h1.symm.trans e
   have b:atKey (q :: qs) k=some q.2:=by simp [atKey,List.find?_cons,e']
   rw [valV_pos e,b]; exact h2
  ·have e':¬ q.1=k:=fun z=>e (h1.trans z)
   have b:atKey (q :: qs) k=atKey qs k:=by simp [atKey,List.find?_cons,e']
   rw [valV_neg e,b]; exact ih
theorem KT.repl {H:Hp} {kvs:List (List Key × V)} {xs:List (List Key × Addr × Value)} (r:KT H kvs xs) (k:List Key) {y:V} {u:Value} (ry:RelV y u) :
  KT H (kvs.map fun kv=>if kv.1=k then (kv.1,y) else kv) (xs.map (putAt k u)):=by
 induction r with
 | nil=>exact .nil
 | @cons p q ps qs h t ih=>
  rw [List.map_cons,List.map_cons]
  refine .cons ?_ ih
  obtain ⟨h1,h2,h3⟩:=h
  unfold putAt
  by_cases e:p.1=k
  ·rw [if_pos e,if_pos (h1.symm.trans e)]; exact ⟨h1,h2,ry⟩
  ·rw [if_neg e,if_neg (fun z=>e (h1.trans z))]; exact ⟨h1,h2,h3⟩
theorem KT.put {H:Hp} {kvs:List (List Key × V)} {xs:List (List Key × Addr × Value)} (r:KT H kvs xs) (k:List Key) {b:Addr} {y:V} {u:Value} (hb:H b=some (.tup (k.map kV))) (ry:RelV y u) :
  KT H (putK kvs k y) (storedH xs k b u):=by
 have e:(kvs.any fun kv=>decide (kv.1=k))=(atKey xs k).isSome:=by
  rw [valV_any,(r.val k).isSome_eq,Option.isSome_map]
 unfold putK storedH
 rw [e]
 by_cases q:(atKey xs k).isSome=true
 ·rw [if_pos q,if_pos q]; exact r.repl k ry
 ·rw [if_neg q,if_neg q]; exact Paired.snoc r ⟨rfl,hb,ry⟩
theorem KT.keeps {H H':Hp} {kvs:List (List Key × V)} {xs:List (List Key × Addr × Value)} (r:KT H kvs xs) (ht:∀ b ys,H b=some (.tup ys)→H' b=some (.tup ys)):KT H' kvs xs:=
 Paired.mapP r fun _ _ z=>⟨z.1,ht _ _ z.2.1,z.2.2⟩
section
variable {P:Program} {w:World} {H:Hp} {h:Heap} {a:Addr}
theorem rd_of {u:HO} (ok:HOk P w H h) (e:Rd H a u):ObjOk P w H h a u:=e.ok ok
theorem dk_rd {kvs:List (Key × V)} (ok:HOk P w H h) (e:Rd H a (.dK kvs)):kvs.length≤sizeLine∧(a==sysModules)=false∧∃ vs,KV kvs vs∧h.DictOf (mixKind P w) a vs:=
 show ObjOk P w H h a (.dK kvs) from rd_of ok e
theorem dk_of {kvs:List (Key × V)} (ok:HOk P w H h) (e:H a=some (.dK kvs)):kvs.length≤sizeLine∧(a==sysModules)=false∧∃ vs,KV kvs vs∧h.DictOf (mixKind P w) a vs:=dk_rd ok (.inl e)
theorem key_of {ks:List Key} (ok:HOk P w H h) (e:H a=some (.tup (ks.map kV))):(tupleKind (mixKind P w)).is h ks a:=by
 obtain ⟨_,its,r,o,h1,h2,n,h3⟩:=(show ObjOk P w H h a (.tup (ks.map kV)) from ok a _ e)
 exact ⟨o,its.toArray,n,h1,h2,h3,by simpa using items_are r⟩
theorem dt_rd {kvs:List (List Key × V)} (ok:HOk P w H h) (e:Rd H a (.dT kvs)):kvs.length≤sizeLine∧(a==sysModules)=false∧
  ∃ xs,KT H kvs xs∧h.DictOfH (tupleKind (mixKind P w)) a xs:=by
 obtain ⟨z,y,xs,r,o,es,ep,h1,h2,h3,h4,h5⟩:=(show ObjOk P w H h a (.dT kvs) from rd_of ok e)
 refine ⟨z,y,xs,r,o,es,ep,h1,h2,h3,h4,fun x hx=>?_,h5⟩
 have all:∀ {l:List (List Key × V)} {m:List (List Key × Addr × Value)},KT H l m→∀ x∈m,(tupleKind (mixKind P w)).is h x.1 x.2.1:=by
  intro l m q
  induction q with
  | nil=>intro x hx; exact nomatch hx
  | @cons p q ps qs hq t ih=>
   intro x hx
   rcases List.mem_cons.mp hx with e | hx
   ·subst e
    exact key_of ok (by rw [← hq.1]; exact hq.2.1)
   ·exact ih x hx
 exact all r x hx
theorem dt_of {kvs:List (List Key × V)} (ok:HOk P w H h) (e:H a=some (.dT kvs)):kvs.length≤sizeLine∧(a==sysModules)=false∧
  ∃ xs,KT H kvs xs∧h.DictOfH (tupleKind (mixKind P w)) a xs:=dt_rd ok (.inl e)
end
def DGet (H:Hp) (a:Addr) (y:V) (r:Option V):Prop:=
 (∃ kvs k,Rd H a (.dK kvs)∧y=kV k∧r=valV kvs k)∨∃ kvs k b,Rd H a (.dT kvs)∧y=.ref b∧H b=some (.tup (k.map kV))∧r=valV kvs k
def DPut (H:Hp) (a:Addr) (y v:V) (H':Hp):Prop:=
 (∃ kvs k,H a=some (.dK kvs)∧y=kV k∧kvs.length < sizeLine∧H'=upd H a (.dK (putK kvs k v)))∨
 ∃ kvs k b,H a=some (.dT kvs)∧y=.ref b∧H b=some (.tup (k.map kV))∧kvs.length < sizeLine∧H'=upd H a (.dT (putK kvs k v))
theorem DGet.t {H:Hp} {a b:Addr} {kvs:List (List Key × V)} {k:List Key} (e:H a=some (.dT kvs)) (eb:H b=some (.tup (k.map kV))):DGet H a (.ref b) (valV kvs k):=.inr ⟨kvs,k,b,.inl e,rfl,eb,rfl⟩
theorem DPut.k {H:Hp} {a:Addr} {kvs:List (Key × V)} {k:Key} {v:V} (e:H a=some (.dK kvs)) (hl:kvs.length < sizeLine):DPut H a (kV k) v (upd H a (.dK (putK kvs k v))):=.inl ⟨kvs,k,e,rfl,hl,rfl⟩
theorem DPut.t {H:Hp} {a b:Addr} {kvs:List (List Key × V)} {k:List Key} {v:V} (e:H a=some (.dT kvs)) (eb:H b=some (.tup (k.map kV))) (hl:kvs.length < sizeLine) :
  DPut H a (.ref b) v (upd H a (.dT (putK kvs k v))):=.inr ⟨kvs,k,b,e,rfl,eb,hl,rfl⟩
section
variable {X:Cx} {pins:List (Addr × Obj)} {σ:St} {H:Hp} {s:Shared} {a:Addr} {y v:V} {u r:Value} {o:Option V} {A:Around} {E:Value→Shared→Prop}
theorem Inv.big (I:Inv X pins σ H s):sysModules < s.heap.objs.size:=by
 have h:mainGlobals < s.heap.objs.size:=(I.mod.glob.keeps I.bk).lt
 exact Nat.lt_trans (by decide) h
theorem d_notIn {Q:Value→Shared→Prop} (hu:A.units+1 < cLine) (I:Inv X pins σ H s) (g:DGet H a y o) (ry:RelV y u) (h:∀ s',Inv X pins σ H s'→Q (.bool (!o.isSome)) s') :
  wpAny (model X.prog X.w) A (compareOp .NotIn u (.ref a)) Q E s:=by
 rcases g with ⟨kvs,k,e,ey,l⟩ | ⟨kvs,k,b,e,ey,eb,l⟩
 ·subst ey
  obtain ⟨z,hd,vs,rel,dd⟩:=dk_rd I.hok e
  refine wpAny_notIn_of (kV_is ry) hd dd.mapOf ?_
  rw [← (rel.val k).isSome_eq,← l]
  exact h _ (I.tok _)
 ·subst ey
  cases (show u=Value.ref b from ry)
  obtain ⟨z,hd,xs,rel,dd⟩:=dt_rd I.hok e
  refine wpAny_notIn_heap (tupleKind_room_in1 hu) (key_of I.hok eb) hd dd ?_
  have q:=(rel.val k).isSome_eq
  rw [Option.isSome_map] at q
  rw [← q,← l]
  exact h _ (I.tok _)
theorem d_write {h':Heap} {t':Nat} {ob:HO} (I:Inv X pins σ H s) (mu:Mut (H a)) (hs:Heap.SameBut a s.heap h') (he:∃ q,h'.get? a=some q) (new:ObjOk X.prog X.w (upd H a ob) h' a ob) :
  Inv X pins σ (upd H a ob) { s with heap:=h',toks:=t' }:=
 I.write (x:=a) (e:=a) mu (.inl rfl) (fun b q hb z=>(hs.2 b hb).trans z) he new
theorem dk_new {P:Program} {w:World} {H':Hp} {h':Heap} {kvs:List (Key × V)} {vs:List (Key × Value)} (z:kvs.length≤sizeLine) (hd:(a==sysModules)=false) (rel:KV kvs vs) (dd:h'.DictOf (mixKind P w) a vs) :
  ObjOk P w H' h' a (.dK kvs):=⟨z,hd,vs,rel,dd⟩
theorem d_setItem {H':Hp} {Q:Unit→Shared→Prop} (hu:A.units+1 < cLine) (I:Inv X pins σ H s) (g:DPut H a y v H') (ry:RelV y u) (rv:RelV v r) (h:∀ s',Inv X pins σ H' s'→Q () s') :
  wpAny (model X.prog X.w) A (setItem (.ref a) u r) Q E s:=by
 rcases g with ⟨kvs,k,e,ey,l,eH⟩ | ⟨kvs,k,b,e,ey,eb,l,eH⟩
 ·subst ey eH
  obtain ⟨z,hd,vs,rel,dd⟩:=dk_of I.hok e
  have hz:vs.length≤sizeLine:=by rw [← rel.length]; exact z
  have hl:(putK kvs k v).length≤sizeLine:=by have:=length_putK kvs k v; omega
  refine wpAny_setItem_pairs (hsz:=hz) (kV_is ry) dd fun h' dd' hs=>h _ ?_
  have he:∃ q,h'.get? a=some q:=let ⟨q,_,_,hq,_⟩:=dd'; ⟨q,hq⟩
  exact d_write I (by rw [e]; exact True.intro) hs he (dk_new hl hd (rel.put k rv) dd')
 ·subst ey eH
  cases (show u=Value.ref b from ry)
  obtain ⟨z,hd,xs,rel,dd⟩:=dt_of I.hok e
  have hz:xs.length≤sizeLine:=by rw [← Paired.length rel]; exact z
  have hl:(putK kvs k v).length≤sizeLine:=by have:=length_putK kvs k v; omega
  refine wpAny_setItem_heap (hsz:=hz) (tupleKind_room_in1 hu) (key_of I.hok eb) dd fun h' dd' hs=>h _ ?_
  obtain ⟨q,es,ep,hq,h2,h3,h4,_,h5⟩:=dd'
  refine d_write I (by rw [e]; exact True.intro) hs ⟨q,hq⟩ ⟨hl,hd,_,(rel.put k eb rv).keeps fun c ys ec=>?_,q,es,ep,hq,h2,h3,h4,h5⟩
  rw [upd_ne (ne_of ec e (fun z=>nomatch z))]
  exact ec
end
section
variable {X:Cx} {pins:List (Addr × Obj)} {σ:St} {H:Hp} {s:Shared} {a:Addr} {kvs:List (Key × V)} {k:Key} {u:Value} {A:Around} {E:Value→Shared→Prop}
end
def tDNotIn (ty td:TE):TE:=fun σ H Q=>ty σ H fun y H1=>td σ H1 fun x H2=>∃ a o,x=.ref a∧DGet H2 a y o∧Q (.bl (!o.isSome)) H2
def sDPut (td ty tv:TE):TS:=fun D σ H=>tv σ H fun v H1=>td σ H1 fun x H2=>ty σ H2 fun y H3=>∃ a H4,x=.ref a∧DPut H3 a y v H4∧D.nx σ H4
section
variable {X:Cx} {o i e value:Expr} {pos pos' tpos:Pos} {td ty tv:TE}
theorem pc_dnotin (hu:X.A.units+1 < cLine) (hi:PE X i ty) (ho:PE X o td):PC X .NotIn i o (tDNotIn ty td):=by
 intro pins s σ H Q I h
 refine thn (hi pins s σ H _ I h) fun iv s1 ⟨y,H1,I1,ry,q1⟩=>thn (ho pins s1 σ H1 _ I1 q1) fun u s2 ⟨x,H2,I2,rx,a,ov,ex,g,q2⟩=>?_
 subst ex
 obtain rfl:u=Value.ref a:=rx
 exact d_notIn hu I2 g ry fun s3 I3=>⟨.bl (!ov.isSome),H2,I3,rfl,q2⟩
theorem ps_dput (hu:X.A.units+1 < cLine) (ho:PE X o td) (hi:PE X i ty) (hv:PE X value tv) (hs:swapsWith value (some (.Subscript o i pos')) pos.line X.env=pure false) :
  PS X (.Assign [.Subscript o i pos'] value pos) (sDPut td ty tv):=by
 intro pins s σ H D I h
 refine wpAny_Assign_Subscript (thn (hv pins s σ H _ I h) fun r s1 ⟨v,H1,I1,rv,q1⟩=>thn (ho pins s1 σ H1 _ I1 q1) fun u s2 ⟨x,H2,I2,rx,q2⟩=>thn (hi pins s2 σ H2 _ I2 q2) fun iv s3 ⟨y,H3,I3,ry,a,H4,ex,g,q3⟩=>?_) hs
 subst ex
 obtain rfl:u=Value.ref a:=rx
 exact d_setItem hu I3 g ry rv fun s4 I4=>⟨σ,H4,I4,q3⟩
end
theorem dk_empty {P:Program} {w:World} {H:Hp} (h:Heap) (hb:sysModules < h.objs.size):ObjOk P w H (h.push { cls:=.type "dict",data:=.dict #[] }) h.objs.size (.dK []):=
 ⟨Nat.zero_le _,beq_eq_false_iff_ne.mpr (Ne.symm (Nat.ne_of_lt hb)),[],.nil,Heap.DictOf.new h⟩
theorem dt_empty {P:Program} {w:World} {H:Hp} (h:Heap) (hb:sysModules < h.objs.size):ObjOk P w H (h.push { cls:=.type "dict",data:=.dict #[] }) h.objs.size (.dT []):=
 ⟨Nat.zero_le _,beq_eq_false_iff_ne.mpr (Ne.symm (Nat.ne_of_lt hb)),[],.nil,_,#[],0,Heap.get?_push_size _ rfl,⟨rfl,rfl,rfl⟩,rfl,rfl,List.nodup_nil⟩
def tDNewT:TE:=fun _ H Q=>∀ p,H p=none→Q (.ref p) (upd H p (.dT []))
section
variable {X:Cx} {pos:Pos}
theorem pe_dnewT:PE X (.Dict [] [] pos) tDNewT:=fun pins s σ H Q I h=>
 wpAny_Dict_empty ⟨.ref s.heap.objs.size,_,I.laid (a:=s.heap.objs.size) (o:=.dT []) (t':=s.toks) (fun _ _ q=>Heap.get?_push_of_some _ q) (Nat.le_refl _) (dt_empty s.heap I.big),rfl,h _ (I.hok.fresh (Nat.le_refl _))⟩
end
def tPairs:List (TE × TE)→St→Hp→(List (V × V)→Hp→Prop)→Prop
 | [],_,H,Q=>Q [] H
 | (tk,tv) :: r,σ,H,Q=>tk σ H fun x H1=>tv σ H1 fun y H2=>tPairs r σ H2 fun ps H3=>Q ((x,y) :: ps) H3
abbrev VV:List (V × V)→List (Value × Value)→Prop:=Paired fun p q=>RelV p.1 q.1∧RelV p.2 q.2
def PPs (X:Cx) (pos:Pos) (keys:List (Option Expr)) (values:List Expr) (trs:List (TE × TE)):Prop:=
 ∀ (pins:List (Addr × Obj)) (s:Shared) (σ:St) (H:Hp) (Q:List (V × V)→Hp→Prop),Inv X pins σ H s→tPairs trs σ H Q→
  wpAny (model X.prog X.w) X.A (evalPairs (pairTrees keys values X.env pos)) (fun vs s'=>∃ ps H',Inv X pins σ H' s'∧VV ps vs∧Q ps H') X.xe s
theorem pps_nil {X:Cx} {pos:Pos}:PPs X pos [] [] []:=fun pins s σ H Q I h=>pairTrees_nil_walk ⟨[],H,I,.nil,h⟩
theorem pps_cons {X:Cx} {pos:Pos} {k v:Expr} {ks:List (Option Expr)} {vs:List Expr} {tk tv:TE} {trs:List (TE × TE)} (hk:PE X k tk) (hv:PE X v tv) (hr:PPs X pos ks vs trs) :
  PPs X pos (some k :: ks) (v :: vs) ((tk,tv) :: trs):=fun pins s σ H Q I h=>
 pairTrees_cons_walk (thn (hk pins s σ H _ I h) fun u s1 ⟨x,H1,I1,rx,q1⟩=>thn (hv pins s1 σ H1 _ I1 q1) fun w2 s2 ⟨y,H2,I2,ry,q2⟩=>
  thn (hr pins s2 σ H2 _ I2 q2) fun ws s3 ⟨ps,H3,I3,rel,q3⟩=>⟨(x,y) :: ps,H3,I3,.cons ⟨rx,ry⟩ rel,q3⟩)
def mergeK (kvs more:List (Key × V)):List (Key × V):=more.foldl (fun acc kv=>putK acc kv.1 kv.2) kvs
theorem KV.merge:∀ {more:List (Key × V)} {rs:List (Key × Value)} {kvs:List (Key × V)} {vs:List (Key × Value)},KV more rs→KV kvs vs→KV (mergeK kvs more) (merged vs rs):=by
 intro more rs kvs vs r
 unfold KV at r
 induction r generalizing kvs vs with
 | nil=>intro q; exact q
 | @cons p q ps qs h t ih=>
  intro r0
  have e:KV (putK kvs p.1 p.2) (stored vs q.1 q.2):=by
   have:=r0.put p.1 h.2
   rw [← h.1]; exact this
  exact ih e
theorem length_mergeK:∀ (more kvs:List (Key × V)),(mergeK kvs more).length≤kvs.length+more.length
 | [],kvs=>by show kvs.length≤kvs.length+0; omega
 | p :: r,kvs=>by
  have h1:=length_mergeK r (putK kvs p.1 p.2)
  have h2:=length_putK kvs p.1 p.2
  show (mergeK (putK kvs p.1 p.2) r).length≤_
  rw [List.length_cons]; omega
theorem carries_of {P:Program} {w:World}:∀ {kvs:List (Key × V)} {ws:List (Value × Value)},VV (kvs.map fun kv=>(kV kv.1,kv.2)) ws→∃ rs,Carries (mixKind P w) ws rs∧KV kvs rs
 | [],_,r=>by rw [List.map_nil] at r; cases r; exact ⟨[],True.intro,.nil⟩
 | p :: kvs,_,r=>by
  rw [List.map_cons] at r
  cases r with
  | @cons a b as bs h t=>
   obtain ⟨rs,c,q⟩:=carries_of (P:=P) (w:=w) t
   obtain ⟨b1,b2⟩:=b
   exact ⟨(p.1,b2) :: rs,⟨kV_is h.1,rfl,c⟩,.cons ⟨rfl,h.2⟩ q⟩
def tDisp (trs:List (TE × TE)):TE:=fun σ H Q=>∀ p,H p=none→tPairs trs σ (upd H p (.dK [])) fun ps H2=>H2 p=some (.dK [])∧∃ kvs:List (Key × V),ps=kvs.map (fun kv=>(kV kv.1,kv.2))∧kvs.length≤15∧Q (.ref p) (upd H2 p (.dK (mergeK [] kvs)))
theorem pe_disp {X:Cx} {pos:Pos} {keys:List (Option Expr)} {values:List Expr} {trs:List (TE × TE)} (h:PPs X pos keys values trs) (hall:keys.all (·.isSome)=true) (hl:keys.length=values.length) (h0:keys≠[])
  (h15:keys.length≤15):PE X (.Dict keys values pos) (tDisp trs):=by
 intro pins s σ H Q I q
 have hn:=I.hok.fresh (Nat.le_refl s.heap.objs.size)
 have I1:=I.laid (a:=s.heap.objs.size) (o:=.dK []) (h':=s.heap.push { cls:=.type "dict",data:=.dict #[] }) (t':=s.toks) (fun _ _ q=>Heap.get?_push_of_some _ q) (Nat.le_refl _) (dk_empty s.heap I.big)
 refine wpAny_Dict_walk (knd:=mixKind X.prog X.w) hall hl h0 h15 (thn (h pins _ σ _ _ I1 (q _ hn)) fun ws s2 ⟨ps,H2,I2,rel,e,kvs,ep,lk,q2⟩=>?_)
 subst ep
 obtain ⟨rs,c,rk⟩:=carries_of (P:=X.prog) (w:=X.w) rel
 obtain ⟨z,hd,vs0,r0,dd⟩:=dk_of I2.hok e
 cases r0
 refine ⟨rs,c,dd,fun h' dd' hs=>⟨.ref s.heap.objs.size,_,?_,rfl,q2⟩⟩
 have hz:(mergeK [] kvs).length≤sizeLine:=by
  have h1:=length_mergeK kvs []
  rw [List.length_nil] at h1
  rw [sizeLine_eq]; omega
 have he:∃ q,h'.get? s.heap.objs.size=some q:=let ⟨q,_,_,hq,_⟩:=dd'; ⟨q,hq⟩
 exact d_write I2 (by rw [e]; exact True.intro) hs he (dk_new hz hd (rk.merge .nil) dd')
section
variable {X:Cx} {pins:List (Addr × Obj)} {σ:St} {H:Hp} {s:Shared} {a:Addr} {y d:V} {u r:Value} {o:Option V} {A:Around} {E:Value→Shared→Prop}
end
section
variable {X:Cx} {o e f:Expr} {apos cpos:Pos} {td ty tx:TE}
end
end L2
namespace L2
open PySem PySem.Spec PyProof.Rows
def clOf (env:Env):List (Str × NameKind)→List (Str × Addr)→List (Str × Addr)
 | [],acc=>acc
 | (n,.free) :: r,acc=>clOf env r ((n,(env.cells.lookup n).getD 0) :: acc)
 | _ :: r,acc=>clOf env r acc
def ClGood (env:Env) (acc:List (Str × Addr)):Prop:=∀ y c,acc.lookup y=some c→c=(env.cells.lookup y).getD 0
theorem clOf_skip {env:Env} {n:Str} {k:NameKind} {r:List (Str × NameKind)} {acc:List (Str × Addr)} (h:k≠.free):clOf env ((n,k) :: r) acc=clOf env r acc:=by
 cases k <;> first | rfl | exact absurd rfl h
theorem clOf_good {env:Env}:∀ (names:List (Str × NameKind)) (acc:List (Str × Addr)),ClGood env acc→ClGood env (clOf env names acc)
 | [],acc,h=>h
 | (n,k) :: r,acc,h=>by
  by_cases hk:k=.free
  ·subst hk
   refine clOf_good r _ fun y c e=>?_
   rw [List.lookup_cons] at e
   by_cases hy:y=n
   ·subst hy
    simp only [beq_self_eq_true] at e
    exact (Option.some.inj e).symm
   ·have hb:(y==n)=false:=by simpa using hy
    rw [hb] at e
    exact h y c e
  ·rw [clOf_skip hk]
   exact clOf_good r acc h
theorem clOf_has {env:Env} {x:Str}:∀ (names:List (Str × NameKind)) (acc:List (Str × Addr)),((∃ c,acc.lookup x=some c)∨(x,NameKind.free)∈names)→∃ c,(clOf env names acc).lookup x=some c
 | [],acc,h=>by
  rcases h with h | h
  ·exact h
  ·cases h
 | (n,k) :: r,acc,h=>by
  by_cases hk:k=.free
  ·subst hk
   refine clOf_has r _ ?_
   rw [List.lookup_cons]
   by_cases hy:x=n
   ·subst hy
    exact .inl ⟨(env.cells.lookup x).getD 0,by simp only [beq_self_eq_true]⟩
   ·have hb:(x==n)=false:=by simpa using hy
    rw [hb]
    rcases h with h | h
    ·exact .inl h
    ·rcases List.mem_cons.mp h with h | h
     ·exact absurd (congrArg Prod.fst h) hy
     ·exact .inr h
  ·rw [clOf_skip hk]
   refine clOf_has r acc ?_
   rcases h with h | h
   ·exact .inl h
   ·rcases List.mem_cons.mp h with h | h
    ·exact absurd (congrArg Prod.snd h).symm hk
    ·exact .inr h
theorem clOf_mem {env:Env} {x:Str} {c:Addr}:∀ (names:List (Str × NameKind)) (acc:List (Str × Addr)),(clOf env names acc).lookup x=some c→acc.lookup x=some c∨(x,NameKind.free)∈names
 | [],acc,h=>.inl h
 | (n,k) :: r,acc,h=>by
  by_cases hk:k=.free
  ·subst hk
   rcases clOf_mem r _ h with h1 | h1
   ·rw [List.lookup_cons] at h1
    by_cases hy:x=n
    ·subst hy
     exact .inr List.mem_cons_self
    ·have hb:(x==n)=false:=by simpa using hy
     rw [hb] at h1
     exact .inl h1
   ·exact .inr (List.mem_cons_of_mem _ h1)
  ·rw [clOf_skip hk] at h
   rcases clOf_mem r acc h with h1 | h1
   ·exact .inl h1
   ·exact .inr (List.mem_cons_of_mem _ h1)
theorem forIn_cl {env:Env} {f:Str × NameKind→List (Str × Addr)→Sem (ForInStep (List (Str × Addr)))} (h1:∀ n k r,k≠NameKind.free→f (n,k) r=pure (.yield r))
  (h2:∀ n r c,env.cells.lookup n=some c→f (n,.free) r=pure (.yield ((n,c) :: r))) :
  ∀ (names:List (Str × NameKind)) (acc:List (Str × Addr)),(∀ y∈names,y.2=NameKind.free→∃ c,env.cells.lookup y.1=some c)→forIn names acc f=pure (clOf env names acc)
 | [],acc,_=>rfl
 | (n,k) :: r,acc,hc=>by
  have hr:∀ y∈r,y.2=NameKind.free→∃ c,env.cells.lookup y.1=some c:=fun y hy=>hc y (List.mem_cons_of_mem _ hy)
  rw [List.forIn_cons]
  by_cases hk:k=.free
  ·subst hk
   obtain ⟨c,e⟩:=hc (n,.free) List.mem_cons_self rfl
   rw [h2 n acc c e,pure_bind]
   show forIn r ((n,c) :: acc) f=_
   rw [forIn_cl h1 h2 r _ hr]
   show _=pure (clOf env r ((n,(env.cells.lookup n).getD 0) :: acc))
   rw [e]
   rfl
  ·rw [h1 n k acc hk,pure_bind,clOf_skip hk]
   exact forIn_cl h1 h2 r acc hr
theorem closure_is {env:Env} {scope:Scope} (hc:∀ y∈scope.names,y.2=NameKind.free→∃ c,env.cells.lookup y.1=some c):closureFor scope env=pure (clOf env scope.names []):=by
 unfold closureFor
 dsimp only
 rw [forIn_cl (env:=env) ?_ ?_ scope.names [] hc]
 ·rfl
 ·intro n k r hk
  have hb:(k==NameKind.free)=false:=by simpa using hk
  simp only [hb,Bool.false_eq_true,if_false]
 ·intro n r c e
  simp only [cellOf,e,beq_self_eq_true,if_true,pure_bind]
structure CompOk (sc:Scope) (Nm own:List Str) (fr:List Nat) (scope:Scope):Prop where
 kind:scope.kind=.function
 nocell:∀ y∈scope.names,y.2≠NameKind.cell
 free:∀ y∈scope.names,y.2=NameKind.free→sc.names.lookup y.1=some .cell∨sc.names.lookup y.1=some .free
 locs:∀ y∈scope.names,y.2=NameKind.local→scope.names.lookup y.1=some .local
 frs:∀ j∈fr,j < Nm.length∧scope.names.lookup (Nm.getD j "")=some .free
def inNm (own Nm:List Str) (fr:List Nat):List Str:=own ++ fr.map fun j=>Nm.getD j ""
def inSt (n:Nat) (fr:List Nat) (σ:St):St:=List.replicate n none ++ fr.map fun j=>σ.getD j none
structure CD where
 cl:List (Str × Addr)
 C:Addr
 s:Shared
 H:Hp
 fp:List Addr
def compCx (X:Cx) (Nm:List Str) (scope:Scope) (d:CD):Cx:=
 {prog:=X.prog,w:=X.w,K:=X.K,mg:=X.mg,base:=X.base,A:=X.A,N:=Nm,s₀:=d.s,H₀:=d.H,env:=compEnvC scope d.cl d.C X.env,outer:=X.stack,stack:=X.stack,
  ex:=d.fp,fn:=fun _=>false,calm:=X.calm,pn:=[],xe:=fun _ _=>False }
def PTs (X:Cx) (ifs:List Expr) (t:TT):Prop:=
 ∀ (pins:List (Addr × Obj)) (s:Shared) (σ:St) (H:Hp) (Q:Bool→Hp→Prop),Inv X pins σ H s→t σ H Q→
  wpAny (model X.prog X.w) X.A (forIn ifs true fun c r=>if r=true then do let ok ← isTrue c X.env (eval c X.env); pure (ForInStep.yield ok) else pure (ForInStep.yield r)) (TP X pins σ Q) X.xe s
def tYes:TT:=fun _ H Q=>Q true H
theorem pts_nil {X:Cx}:PTs X [] tYes:=by
 intro pins s σ H Q I h
 rw [List.forIn_nil]
 exact wpAny_pure ⟨H,I,h⟩
def GFr (n:Nat) (g:TG):Prop:=∀ v σ H Q,g v σ H Q→g v σ H fun σ2 H2=>Q σ2 H2∧σ2.length=σ.length∧∀ i,n≤i→σ2[i]? = σ[i]?
theorem gfr_name {n i:Nat} (h:i < n):GFr n (gName i):=fun v σ H Q q=>⟨q,by simp,fun j hj=>by
 rw [List.getElem?_set_ne (by omega)]⟩
def CompW (J:It) (n:Nat) (fr:List Nat) (g:TG) (tt:TT) (te:TE) (σ:St) (H1:Hp) (Q:VK):Prop:=∃ W:Nat→Nat→List V→Hp→Prop,(∃ m,W 0 m [] H1)∧∀ i m acc H2,W i m acc H2→
 acc.length < sizeLine∧((J.stop i H2∧∀ l,H2 l=none→Q (.ref l) (upd H2 l (.lst acc)))∨
  (J.go i H2∧∃ Nx:List V→Hp→Prop,(∀ acc' H',Nx acc' H'→∃ m',m' < m∧W (i+1) m' acc' H')∧
   ∀ x H3,J.yld i H2 x H3→g x (inSt n fr σ) H3 fun σ4 H4=>tt σ4 H4 fun b H5=>if b=true then te σ4 H5 fun v H6=>Nx (acc ++ [v]) H6 else Nx acc H5))
def tComp (n:Nat) (fr:List Nat) (wi:TI) (g:TG) (tt:TT) (te:TE):TE:=fun σ H Q=>wi σ H fun J H1=>CompW J n fr g tt te σ H1 Q
section
variable {X:Cx} {pins:List (Addr × Obj)} {σ:St} {H:Hp} {s:Shared}
theorem Inv.adopt {a:Addr} {o:HO} (I:Inv X pins σ H s) (hp:X.s₀.heap.objs.size≤a) (hn:H a=none) (hL:a≠X.env.locals) (hc:∀ x c,X.env.cells.lookup x=some c→c≠a)
  (hq:∀ p∈X.pn ++ pins,p.1≠a) (new:ObjOk X.prog X.w (upd H a o) s.heap a o):Inv X pins σ (upd H a o) s:=by
 refine ⟨I.ok,I.os,I.bare,⟨I.base.keep,I.base.slot,fun b ob e n hx=>?_,I.base.there,fun b xs e=>?_,fun b ob u e=>?_,fun b ps e=>?_⟩,I.loc,I.cell,?_,fun x c e=>?_,fun p hp'=>?_,fun b u e=>?_,I.len⟩
 ·rw [upd_ne (Nat.ne_of_lt (Nat.lt_of_lt_of_le (Heap.lt_size e) hp))]
  exact I.base.free b ob e n hx
 ·have q:=I.base.tups b xs e
  rw [upd_ne (ne_of_none q hn)]
  exact q
 ·have q:=I.base.frzs b ob u e
  rw [upd_ne (ne_of_none q hn)]
  exact q
 ·obtain ⟨more,q⟩:=I.base.tbls b ps e
  exact ⟨more,by rw [upd_ne (ne_of_none q hn)]; exact q⟩
 ·rw [upd_ne (Ne.symm hL)]
  exact I.free
 ·rw [upd_ne (hc x c e)]
  exact I.freeC x c e
 ·obtain ⟨h1,h2,h3⟩:=I.pin p hp'
  exact ⟨h1,by rw [upd_ne (hq p hp')]; exact h2,h3⟩
 ·by_cases hb:b=a
  ·subst hb
   rw [upd_same] at e
   cases e
   exact new
  ·rw [upd_ne hb] at e
   refine (I.hok b u e).stay (fun c v _ q=>q) (fun c q=>?_) fun c xs q=>?_
   ·rw [upd_ne (ne_of_none q hn)]; exact q
   ·rw [upd_ne (ne_of_none q hn)]; exact q
end
section
variable {prog:Program} {w:World} {A:Around} {R:Result→Shared→Prop} {s:Shared}
theorem loop_comp {elt target iter:Expr} {ifs:List Expr} {scope:Scope} {pos:Pos} {it acc:Value} {env:Env} (J:Nat→Shared→Prop)
  (turn:∀ n s,J n s→wpAny (model prog w) A (pyNext it) (fun r s1=>match r with
   | none=>R (.ok .next) s1
   | some v=>wpAny (model prog w) A (letOwnedTupleGo target it v) (fun _ s2=>wpAny (model prog w) A (assign target env v) (fun _ s3=>
     wpAny (model prog w) A (forIn ifs true fun c r=>if r=true then do let ok ← isTrue c env (eval c env); pure (ForInStep.yield ok) else pure (ForInStep.yield r)) (fun ok s4=>
      if ok=true then wpAny (model prog w) A (eval elt env) (fun x s5=>wpAny (model prog w) A (call (.builtin "list.append") [acc,x]) (fun _ s6=>∃ m,m < n∧J m s6) (fun _ _=>False) s5) (fun _ _=>False) s4
      else ∃ m,m < n∧J m s4) (fun _ _=>False) s3) (fun _ _=>False) s2) (fun _ _=>False) s1) (fun _ _=>False) s)
  (n:Nat) (h:J n s):codeAny (model prog w) A (.compLoop (.ListComp elt [⟨target,iter,ifs,0⟩] scope pos) 0 it acc env) R s:=by
 refine codeAny_loop rfl J (fun k t hJ=>?_) n h
 show wpAny _ A ((compTurn (.ListComp elt [⟨target,iter,ifs,0⟩] scope pos) 0 it acc env).onRaise (fun x=>do noteFrame x env; theTreesLotGoes x)) _ _ t
 refine wpAny_noted ?_
 rw [compTurn_list]
 have no:∀ {α:Type} {m:Sem α} {Q:α→Shared→Prop} {E:Value→Shared→Prop} {u:Shared},wpAny (model prog w) A m Q (fun _ _=>False) u→wpAny (model prog w) A m Q E u:=fun q=>wpAny_mono q (fun _ _ z=>z) fun _ _ z=>z.elim
 refine wpAny_bind (wpAny_standAt (wpAny_bind (no (thn (turn k t hJ) fun r s1 h1=>?_))))
 cases r with
 | none=>exact wpAny_pure h1
 | some v=>
  refine wpAny_bind (no (thn h1 fun _ s2 h2=>wpAny_bind (no (thn h2 fun _ s3 h3=>wpAny_bind (no (thn h3 fun ok s4 h4=>?_))))))
  cases ok with
  | false=>exact wpAny_pure ⟨rfl,h4⟩
  | true=>
   exact wpAny_bind (wpAny_bind (no (thn h4 fun x s5 h5=>wpAny_bind (no (thn h5 fun _ s6 h6=>wpAny_pure (wpAny_pure ⟨rfl,h6⟩))))))
end
section
variable {X:Cx} {sc scope:Scope} {Nm own:List Str} {fr:List Nat} {elt tg iter:Expr} {ifs:List Expr} {cpos:Pos} {wi:TI} {g:TG} {tt:TT} {te:TE}
theorem lookup_relab {env:Env} {x:Str} {k:NameKind}:∀ {names:List (Str × NameKind)},(names.map fun (n,k)=>if (k==NameKind.free && env.scope.kind==.function && env.kindOf n==some .cell) then (n,NameKind.cell) else (n,k)).lookup x=some k→
  names.lookup x=some k∨(k=.cell∧names.lookup x=some .free)
 | [],h=>by simp at h
 | (n,j) :: r,h=>by
  have ih:=@lookup_relab env x k r
  have h':List.lookup x ((if (j==NameKind.free && env.scope.kind==.function && env.kindOf n==some .cell)=true then (n,NameKind.cell) else (n,j)) :: _)=some k:=h
  cases hx:x==n with
  | true=>
   by_cases hc:(j==NameKind.free && env.scope.kind==.function && env.kindOf n==some .cell)=true
   ·rw [if_pos hc] at h'
    simp only [List.lookup_cons,hx] at h' ⊢
    simp only [Bool.and_eq_true,beq_iff_eq] at hc
    exact .inr ⟨(Option.some.inj h').symm,congrArg some hc.1.1⟩
   ·rw [if_neg hc] at h'
    simp only [List.lookup_cons,hx] at h' ⊢
    exact .inl h'
  | false=>
   have h2:List.lookup x (r.map fun (n,k)=>if (k==NameKind.free && env.scope.kind==.function && env.kindOf n==some .cell) then (n,NameKind.cell) else (n,k))=some k:=by
    by_cases hc:(j==NameKind.free && env.scope.kind==.function && env.kindOf n==some .cell)=true
    ·rw [if_pos hc] at h'
     simpa only [List.lookup_cons,hx] using h'
    ·rw [if_neg hc] at h'
     simpa only [List.lookup_cons,hx] using h'
   simp only [List.lookup_cons,hx]
   exact ih h2
theorem relab_free {env:Env} {x:Str}:∀ {names:List (Str × NameKind)},names.lookup x=some .free→
  (names.map fun (n,k)=>if (k==NameKind.free && env.scope.kind==.function && env.kindOf n==some .cell) then (n,NameKind.cell) else (n,k)).lookup x=some .cell∨
  (names.map fun (n,k)=>if (k==NameKind.free && env.scope.kind==.function && env.kindOf n==some .cell) then (n,NameKind.cell) else (n,k)).lookup x=some .free
 | [],h=>by simp at h
 | (n,j) :: r,h=>by
  have ih:=@relab_free env x r
  show List.lookup x ((if (j==NameKind.free && env.scope.kind==.function && env.kindOf n==some .cell)=true then (n,NameKind.cell) else (n,j)) :: _)=_∨List.lookup x ((if (j==NameKind.free && env.scope.kind==.function && env.kindOf n==some .cell)=true then (n,NameKind.cell) else (n,j)) :: _)=_
  cases hx:x==n with
  | true=>
   simp only [List.lookup_cons,hx] at h
   by_cases hc:(j==NameKind.free && env.scope.kind==.function && env.kindOf n==some .cell)=true
   ·rw [if_pos hc]; simp only [List.lookup_cons,hx]; first | exact .inl rfl | exact .inl trivial
   ·rw [if_neg hc]; simp only [List.lookup_cons,hx]; exact .inr h
  | false=>
   simp only [List.lookup_cons,hx] at h
   by_cases hc:(j==NameKind.free && env.scope.kind==.function && env.kindOf n==some .cell)=true
   ·rw [if_pos hc]; simp only [List.lookup_cons,hx]; exact ih h
   ·rw [if_neg hc]; simp only [List.lookup_cons,hx]; exact ih h
theorem comp_core (S:CompOk sc Nm own fr scope) (hsc:X.env.scope=sc) (hN:X.N=Nm) (hc:X.calm=true) (hgf:GFr own.length g) (hi:PI X tg iter wi) (hg:∀ d,PG (compCx X (inNm own Nm fr) scope d) tg g)
  (ht:∀ d,PTs (compCx X (inNm own Nm fr) scope d) ifs tt) (he:∀ d,PE (compCx X (inNm own Nm fr) scope d) elt te) (hs:∀ x,foldedSetIterable iter X.env x=pure x)
  {use:Option (Value→Sem Unit)} {Q0:Value→Shared→Prop} {pins:List (Addr × Obj)} {s:Shared} {σ:St} {H:Hp} (I:Inv X pins σ H s) {Qf:VK} (h:tComp own.length fr wi g tt te σ H Qf)
  (hfin:∀ (D C:Addr) (Hd:Hp) (s':Shared) (m:Str→Option Value),Inv X pins σ Hd s'→Qf (.ref D) Hd→s'.heap.Ns C m→Hd C=none→X.s₀.heap.objs.size≤C→C≠X.env.locals→(∀ x c,X.env.cells.lookup x=some c→c≠C)→
   (∀ p∈X.pn ++ pins,p.1≠C)→compPost (model X.prog X.w) X.A X.xe use Q0 (.ref D) C (.ok .next) s') :
  wpAny (model X.prog X.w) X.A (comprehension (.ListComp elt [⟨tg,iter,ifs,0⟩] scope cpos) scope X.env (firstIterPos [⟨tg,iter,ifs,0⟩] cpos) (newList []) false (eval iter X.env) use) Q0 X.xe s:=by
 have hfree:∀ y∈scope.names,y.2=NameKind.free→∃ c,X.env.cells.lookup y.1=some c:=fun y hy hk=>by
  have q:=S.free y hy hk
  rw [← hsc] at q
  exact I.ok.has y.1 q
 refine wpAny_comprehension_free (g:=⟨tg,iter,ifs,0⟩) (gs:=[]) rfl hs (closure_is hfree) S.kind S.locs ?_
 refine thn (hi pins s σ H _ I h) fun v s1 h1=>thn h1 fun itv s2 h2=>?_
 obtain ⟨it,fp,tn,J,H2,e,I2,T,st2,f2,W,⟨m0,w0⟩,turn⟩:=h2
 subst e
 refine wpAny_newObj_type (wpAny_newFunctionEnv S.nocell (by intro y hy; simp at hy) (fun h1 hns hsb=>?_) S.kind)
 dsimp only at hns hsb ⊢
 generalize hG:s2.heap.push { cls:=.type "list",dict:=none,data:=.seq ([]:List Value).toArray } = G at hns hsb ⊢
 have hC:G.objs.size=s2.heap.objs.size+1:=by rw [← hG,Heap.size_push]
 have hDC:s2.heap.objs.size≠G.objs.size:=by omega
 have lo:∀ b,b < s2.heap.objs.size→b≠G.objs.size∧b≠s2.heap.objs.size:=fun b hb=>⟨by omega,by omega⟩
 have old:∀ b o,s2.heap.get? b=some o→h1.get? b=some o:=fun b o e=>hsb.extBut b o (lo b (Heap.lt_size e)).1 (Heap.get?_push_of_some _ (hG▸Heap.get?_push_of_some _ e))
 have hacc:h1.PlainList s2.heap.objs.size #[]:=⟨_,hsb.extBut _ _ hDC (Heap.get?_push_of_some _ (hG▸Heap.get?_push_size _ rfl))⟩
 have fpl:∀ b∈fp,b < s2.heap.objs.size:=fun b hb=>by
  obtain ⟨o,e,_⟩:=T.obj 0 _ st2 b hb
  exact Heap.lt_size e
 have hDf:s2.heap.objs.size∉fp:=fun z=>Nat.lt_irrefl _ (fpl _ z)
 have hCf:G.objs.size∉fp:=fun z=>Nat.lt_irrefl _ (Nat.lt_trans (fpl _ z) (by rw [hC]; exact Nat.lt_succ_self _))
 have cellL:∀ x c,(clOf X.env scope.names []).lookup x=some c→X.env.cells.lookup x=some c∧(x,NameKind.free)∈scope.names:=fun x c e=>by
  have e1:=clOf_good (env:=X.env) scope.names [] (fun y c z=>by simp at z) x c e
  rcases clOf_mem scope.names [] e with z | z
  ·simp at z
  ·obtain ⟨c',e'⟩:=hfree _ z rfl
   rw [e1,e']
   exact ⟨rfl,z⟩
 have cellLt:∀ x c,X.env.cells.lookup x=some c→c < s2.heap.objs.size:=fun x c e=>by
  obtain ⟨v,q⟩:=I2.cell x c e
  exact q.lt
 let d:CD:=⟨clOf X.env scope.names [],G.objs.size,s2,H2,fp⟩
 have isFree:∀ x,((compCx X (inNm own Nm fr) scope d).env.kindOf x=some .cell∨(compCx X (inNm own Nm fr) scope d).env.kindOf x=some .free)→scope.names.lookup x=some .free:=fun x hx=>by
  have noC:scope.names.lookup x≠some .cell:=fun z=>S.nocell _ (PySem.mem_of_lookup z) rfl
  rcases hx with hx | hx
  ·rcases lookup_relab (names:=scope.names) hx with z | z
   ·exact absurd z noC
   ·exact z.2
  ·rcases lookup_relab (names:=scope.names) hx with z | z
   ·exact z
   ·exact absurd z.1 (by decide)
 have ok:(compCx X (inNm own Nm fr) scope d).Ok:=by
  refine ⟨I.ok.mod,S.kind,I.ok.glob,I.ok.blt,?_,fun x y c e1 e2=>?_,fun x hx=>?_,fun x c z=>?_,I.ok.hd,I.ok.frames,.inl rfl,fun b hb=>⟨?_,fun x c e=>?_⟩,I2.bs,Nat.le_trans I2.ok.bsz I2.sz,fun b o e hb=>?_,fun b hb z=>?_,I2.stack,I2.stkFree⟩
  ·show s2.heap.objs.size≤G.objs.size
   omega
  ·exact I.ok.inj x y c (cellL x c e1).1 (cellL y c e2).1
  ·exact clOf_has scope.names [] (.inr (PySem.mem_of_lookup (isFree x hx)))
  ·exact absurd (show false=true from z) Bool.false_ne_true
  ·exact fun z=>hCf ((show b=G.objs.size from z)▸hb)
  ·exact (f2 b hb).2.2.2.2.1 x c (cellL x c e).1
  ·rcases (f2 b hb).2.2.2.1 with z | z
   ·exact I.ok.noex b o e z
   ·exact absurd (Nat.lt_of_lt_of_le (Heap.lt_size e) (Nat.le_trans I.ok.bsz z)) (Nat.lt_irrefl _)
  ·rcases List.mem_cons.mp (I2.stkSub b z) with z | z
   ·exact (f2 b hb).2.1 z
   ·exact (f2 b hb).2.2.1 z
 have hfrs:∀ (i:Nat) x v,(inNm own Nm fr)[i]? = some x→(inSt own.length fr σ)[i]? = some (some v)→scope.names.lookup x=some .free∧∃ j,Nm[j]? = some x∧σ[j]? = some (some v):=fun i x v e1 e2=>by
  unfold inNm at e1
  unfold inSt at e2
  by_cases hil:i < own.length
  ·rw [List.getElem?_append_left (by simpa using hil),List.getElem?_replicate,if_pos hil] at e2
   cases e2
  ·rw [List.getElem?_append_right (by omega),List.getElem?_map] at e1
   rw [List.getElem?_append_right (by simpa using hil),List.getElem?_map,List.length_replicate] at e2
   cases q:fr[i - own.length]? with
   | none=>rw [q] at e1; cases e1
   | some j=>
    rw [q] at e1 e2
    have hj:=S.frs j (List.mem_of_getElem? q)
    have e1':Nm.getD j "" = x:=Option.some.inj e1
    have e2':σ.getD j none=some v:=Option.some.inj e2
    rw [e1'] at hj
    refine ⟨hj.2,j,?_,?_⟩
    ·rw [← e1',List.getD_eq_getElem?_getD,List.getElem?_eq_getElem hj.1]
     rfl
    ·rw [List.getD_eq_getElem?_getD] at e2'
     cases q2:σ[j]? with
     | none=>rw [q2] at e2'; cases e2'
     | some z=>rw [q2] at e2'; exact congrArg some e2'
 have lenSt:(inSt own.length fr σ).length=(inNm own Nm fr).length:=by
  unfold inSt inNm
  simp
 have J0:∀ tk,Inv (compCx X (inNm own Nm fr) scope d) [] (inSt own.length fr σ) H2 { s2 with heap:=h1,toks:=tk }:=fun tk=>by
  obtain ⟨m,hn,hl⟩:=I2.loc
  refine ⟨ok,rfl,I2.bare,Un.kept old,⟨_,hns,fun i x v e1 e2 _=>?_⟩,fun x c e=>?_,I2.hok.fresh (show s2.heap.objs.size≤G.objs.size by omega),fun x c e=>I2.freeC x c (cellL x c e).1,fun p hp=>absurd (show p∈([]:List (Addr × Obj)) from hp) (by simp),I2.hok.kept old,lenSt⟩
  ·obtain ⟨hf,j,hj1,hj2⟩:=hfrs i x v e1 e2
   have kd:X.env.scope.names.lookup x=some .cell∨X.env.scope.names.lookup x=some .free:=by
    rw [hsc]
    exact S.free _ (PySem.mem_of_lookup hf) rfl
   obtain ⟨u,r,q⟩:=hl j x v (by rw [hN]; exact hj1) hj2 (kd.elim (fun z=>.inr (.inl z)) fun z=>.inr (.inr z))
   refine ⟨u,r,.inr ⟨relab_free hf,?_⟩⟩
   obtain ⟨c,e⟩:=clOf_has (env:=X.env) scope.names [] (.inr (PySem.mem_of_lookup hf))
   refine ⟨c,e,?_⟩
   rcases q with ⟨k,_⟩ | ⟨_,c',e',z⟩
   ·have k':X.env.scope.names.lookup x=some .local:=k
    rcases kd with y | y <;> rw [y] at k' <;> cases k'
   ·have:c=c':=Option.some.inj ((cellL x c e).1.symm.trans e')
    subst this
    obtain ⟨o,ho,hd⟩:=z
    exact ⟨o,old _ o ho,hd⟩
  ·obtain ⟨v,o,ho,hd⟩:=I2.cell x c (cellL x c e).1
   exact ⟨v,o,old _ o ho,hd⟩
 have stat:∀ {H':Hp} {pl:List (Addr × Obj)},(∀ b∈fp,H' b=none)→(∀ p∈pl,p.1∉fp)→∀ b∈fp,FpOk (compCx X (inNm own Nm fr) scope d) pl H' b:=fun hn hp b hb=>
  ⟨hn b hb,fun z=>hCf ((show b=G.objs.size from z)▸hb),ok.exfs b hb,.inl hb,(ok.exf b hb).2,fun p hp' z=>hp p (by simpa using (show p∈([]:List (Addr × Obj)) ++ _ from hp')) (z▸hb)⟩
 have loop:∀ tk,codeAny (model X.prog X.w) X.A (.compLoop (.ListComp elt [⟨tg,iter,ifs,0⟩] scope cpos) 0 (.ref it) (.ref s2.heap.objs.size) (compEnvC scope (clOf X.env scope.names []) G.objs.size X.env))
   (compPost (model X.prog X.w) X.A X.xe use Q0 (.ref s2.heap.objs.size) G.objs.size) { s2 with heap:=h1,toks:=tk }:=by
  intro tk
  refine loop_comp (fun n s'=>∃ i acc its H',Inv (compCx X (inNm own Nm fr) scope d) [] (inSt own.length fr σ) H' s'∧tn i s'.heap∧(∀ b∈fp,H' b=none)∧H' s2.heap.objs.size=none∧Vals acc its∧s'.heap.PlainList s2.heap.objs.size its.toArray∧W i n acc H') ?_ m0
   ⟨0,[],[],H2,J0 tk,T.keep 0 _ _ st2 fun b _ o e=>old b o e,fun b hb=>(f2 b hb).1,I2.hok.fresh (Nat.le_refl _),.nil,hacc,w0⟩
  rintro n s3 ⟨i,acc,its,H3,I3,st3,fr3,nD,va,⟨na,pa⟩,w3⟩
  have pinD:Inv (compCx X (inNm own Nm fr) scope d) [(s2.heap.objs.size,{ cls:=.type "list",data:=.seq its.toArray na })] (inSt own.length fr σ) H3 s3:=I3.pins_of fun p hp=>by
   have hp':=List.mem_singleton.mp hp
   subst hp'
   refine ⟨pa,nD,hDC,fun z=>?_,fun v z=>?_⟩
   ·have z':s2.heap.objs.size∈frs X.stack:=z
    rcases List.mem_cons.mp (I2.stkSub _ z') with y | y
    ·exact absurd I2.lt (by rw [← y]; exact Nat.lt_irrefl _)
    ·exact I2.nofs (Nat.le_refl _) y
   ·have z':Data.seq its.toArray na=Data.cell v:=z
    cases z'
  have pinsOut:∀ p∈[(s2.heap.objs.size,({ cls:=.type "list",data:=.seq its.toArray na }:Obj))],p.1∉fp:=fun p hp=>by
   rw [List.mem_singleton.mp hp]
   exact hDf
  obtain ⟨hz,alt⟩:=turn i n acc H3 w3
  rcases alt with ⟨stop,qn⟩ | ⟨go,Nx,hNx,step⟩
  ·refine thn (T.done (compCx X (inNm own Nm fr) scope d) rfl rfl rfl hc i _ s3 _ H3 _ pinD (stat fr3 pinsOut) st3 stop) fun r s4 ⟨hr,I4⟩=>?_
   subst hr
   have pD:=I4.pin (s2.heap.objs.size,{ cls:=.type "list",data:=.seq its.toArray na }) (List.mem_append_right _ (List.mem_singleton.mpr rfl))
   obtain ⟨m4,hn4,_⟩:=I4.loc
   have I5:Inv X pins σ H3 s4:=I2.call' (ch:=fp) I4.os I4.base I4.hok I4.bare fun b hb=>⟨(f2 b hb).2.2.2.1,(f2 b hb).2.1,(f2 b hb).2.2.2.2.1,(f2 b hb).2.2.2.2.2⟩
   have far:∀ a,s2.heap.objs.size≤a→X.s₀.heap.objs.size≤a∧a≠X.env.locals∧(∀ x c,X.env.cells.lookup x=some c→c≠a)∧∀ p∈X.pn ++ pins,p.1≠a:=fun a ha=>
    ⟨Nat.le_trans I2.sz ha,Nat.ne_of_gt (Nat.lt_of_lt_of_le I2.lt ha),fun x c e=>Nat.ne_of_lt (Nat.lt_of_lt_of_le (cellLt x c e) ha),fun p hp=>Nat.ne_of_lt (Nat.lt_of_lt_of_le (Heap.lt_size (I2.pin p hp).1) ha)⟩
   have fD:=far s2.heap.objs.size (Nat.le_refl _)
   have fC:=far G.objs.size (by omega)
   have I6:=I5.adopt (o:=.lst acc) fD.1 pD.2.1 fD.2.1 fD.2.2.1 fD.2.2.2 ⟨Nat.le_of_lt hz,its,na,va,pD.1⟩
   exact hfin s2.heap.objs.size G.objs.size _ s4 m4 I6 (qn _ pD.2.1) hn4 (by rw [upd_ne (Ne.symm hDC)]; exact I4.free) fC.1 fC.2.1 fC.2.2.1 fC.2.2.2
  ·refine thn (T.item (compCx X (inNm own Nm fr) scope d) rfl rfl rfl hc i _ s3 _ H3 _ pinD (stat fr3 pinsOut) st3 go) fun r s4 ⟨u,hr,h4⟩=>?_
   subst hr
   refine thn h4 fun _ s5 ⟨x,H5,I5,r5,y5,st5,fr5⟩=>?_
   have I5':=I5.pinned (stat fr5 pinsOut) (T.obj _ _ st5)
   refine thn (hg d _ s5 _ H5 x u _ I5' r5 (hgf _ _ _ _ (step x H5 y5))) fun _ s6 ⟨σ6,H6,I6,q6,l6,k6⟩=>?_
   have wk:∀ (j:Nat) v,(inSt own.length fr σ)[j]? = some (some v)→σ6[j]? = some (some v):=fun j v e=>by
    by_cases hj:j < own.length
    ·unfold inSt at e
     rw [List.getElem?_append_left (by simpa using hj),List.getElem?_replicate,if_pos hj] at e
     cases e
    ·rw [k6 j (by omega)]
     exact e
   refine thn (ht d _ s6 σ6 H6 _ I6 q6) fun b s7 ⟨H7,I7,q7⟩=>?_
   have fpK:∀ {σ':St} {H':Hp} {s':Shared},Inv (compCx X (inNm own Nm fr) scope d) ([(s2.heap.objs.size,({ cls:=.type "list",data:=.seq its.toArray na }:Obj))] ++ pinsAt fp s5.heap) σ' H' s'→
     tn (i+1) s'.heap∧(∀ b∈fp,H' b=none)∧H' s2.heap.objs.size=none∧s'.heap.get? s2.heap.objs.size=some { cls:=.type "list",data:=.seq its.toArray na }:=fun {σ' H' s'} I'=>by
    have pD:=I'.pin (s2.heap.objs.size,{ cls:=.type "list",data:=.seq its.toArray na }) (List.mem_append_right _ (List.mem_append_left _ (List.mem_singleton.mpr rfl)))
    refine ⟨T.keep _ _ _ st5 fun b hb o e=>(I'.pin (b,o) (List.mem_append_right _ (List.mem_append_right _ (mem_pinsAt hb e)))).1,fun b hb=>?_,pD.2.1,pD.1⟩
    obtain ⟨o,e,_⟩:=T.obj _ _ st5 b hb
    exact (I'.pin (b,o) (List.mem_append_right _ (List.mem_append_right _ (mem_pinsAt hb e)))).2.1
   have drop:∀ {σ':St} {H':Hp} {s':Shared},(∀ (j:Nat) v,(inSt own.length fr σ)[j]? = some (some v)→σ'[j]? = some (some v))→Inv (compCx X (inNm own Nm fr) scope d) ([(s2.heap.objs.size,({ cls:=.type "list",data:=.seq its.toArray na }:Obj))] ++ pinsAt fp s5.heap) σ' H' s'→
     Inv (compCx X (inNm own Nm fr) scope d) [] (inSt own.length fr σ) H' s':=fun {σ' H' s'} hw I'=>
    (I'.pins_of (pins':=[]) (fun p hp=>absurd hp (by simp))).weak (lenSt.trans I'.len.symm) hw
   cases b with
   | false=>
    rw [if_neg Bool.false_ne_true]
    obtain ⟨m',hm,w'⟩:=hNx acc H7 (by rw [if_neg Bool.false_ne_true] at q7; exact q7)
    obtain ⟨k1,k2,k3,k4⟩:=fpK I7
    exact ⟨m',hm,i+1,acc,its,H7,drop wk I7,k1,k2,k3,va,⟨_,k4⟩,w'⟩
   | true=>
    rw [if_pos rfl]
    rw [if_pos rfl] at q7
    refine thn (he d _ s7 σ6 H7 _ I7 q7) fun y s8 ⟨yv,H8,I8,r8,q8⟩=>?_
    obtain ⟨m',hm,w'⟩:=hNx _ H8 q8
    obtain ⟨k1,k2,k3,k4⟩:=fpK I8
    have hsz:its.toArray.size≤sizeLine:=by
     rw [List.size_toArray,← va.length]
     exact Nat.le_of_lt hz
    refine wpAny_list_append_plain (hsz:=hsz) ⟨_,k4⟩ fun h9 hl9 hs9=>?_
    have I9:Inv (compCx X (inNm own Nm fr) scope d) [] (inSt own.length fr σ) H8 { s8 with heap:=h9 }:=by
     refine (drop wk I8).turned (t':=s8.toks) (it:=s2.heap.objs.size) (fun b o hb e=>hs9.extBut b o hb e) k3 hDC (.inr (Nat.le_refl _)) (fun x c e=>?_) fun p hp=>absurd (show p∈([]:List (Addr × Obj)) from hp) (by simp)
     exact Nat.ne_of_lt (cellLt x c (cellL x c e).1)
    refine ⟨m',hm,i+1,acc ++ [yv],its ++ [y],H8,I9,T.keep _ _ _ k1 fun b hb o e=>hs9.extBut b o (fun z=>hDf (z▸hb)) e,k2,k3,va.append (.cons r8 .nil),?_,w'⟩
    rw [show (its ++ [y]).toArray=its.toArray.push y by simp]
    exact hl9
 exact codeAny_compStart_list (loop _) (T.self _ 0 _ _ _ (T.keep 0 _ _ st2 fun b _ o e=>old b o e) (loop _))
theorem pe_comp (S:CompOk sc Nm own fr scope) (hc:X.calm=true) (hgf:GFr own.length g) (hi:PI X tg iter wi) (hg:∀ d,PG (compCx X (inNm own Nm fr) scope d) tg g)
  (ht:∀ d,PTs (compCx X (inNm own Nm fr) scope d) ifs tt) (he:∀ d,PE (compCx X (inNm own Nm fr) scope d) elt te) (hsc:X.env.scope=sc:=by rfl) (hN:X.N=Nm:=by rfl)
  (hs:∀ x,foldedSetIterable iter X.env x=pure x:=by intro _; rfl):PE X (.ListComp elt [⟨tg,iter,ifs,0⟩] scope cpos) (tComp own.length fr wi g tt te):=by
 intro pins s σ H Q I h
 rw [eval_ListComp]
 refine comp_core (use:=none) S hsc hN hc hgf hi hg ht he hs I h fun D C Hd s' m I' q hn nC c1 c2 c3 c4=>?_
 exact ⟨m,hn,fun h' hb=>⟨.ref D,Hd,I'.turned (t':=s'.toks) (fun b o hne e=>hb.extBut b o hne e) nC c2 (.inr c1) c3 c4,rfl,q⟩⟩
end
theorem comp_gen {J:It} {n k:Nat} {fr:List Nat} {g:TG} {tt:TT} {te:TE} {σ:St} {H:Hp} {Q:VK} (Pv:Nat→List V→Hp→Prop) (hk:k < sizeLine) (h0:Pv 0 [] H) (hlen:∀ i acc H,Pv i acc H→acc.length≤i)
  (hgo:∀ i acc H,i < k→Pv i acc H→J.go i H) (hst:∀ acc H,Pv k acc H→J.stop k H)
  (hs:∀ i acc H2 x H3,i < k→Pv i acc H2→J.yld i H2 x H3→g x (inSt n fr σ) H3 fun σ4 H4=>tt σ4 H4 fun b H5=>if b=true then te σ4 H5 fun v H6=>Pv (i+1) (acc ++ [v]) H6 else Pv (i+1) acc H5)
  (hd:∀ acc H2,Pv k acc H2→∀ l,H2 l=none→Q (.ref l) (upd H2 l (.lst acc))) :
  CompW J n fr g tt te σ H Q:=by
 refine ⟨fun i m acc H=>m=k - i∧i≤k∧Pv i acc H,⟨k,by simp,Nat.zero_le _,h0⟩,?_⟩
 rintro i m acc H2 ⟨rfl,hi,p⟩
 have hl:=hlen i acc H2 p
 refine ⟨by omega,?_⟩
 by_cases hlt:i < k
 ·exact .inr ⟨hgo i acc H2 hlt p,Pv (i+1),fun acc' H' p'=>⟨k - (i+1),by omega,rfl,hlt,p'⟩,fun x H3 y=>hs i acc H2 x H3 hlt p y⟩
 ·have e:i=k:=by omega
  subst e
  exact .inl ⟨hst acc H2 p,hd acc H2 p⟩
def comp_range {lo:Int} {n k:Nat} {fr:List Nat} {g:TG} {tt:TT} {te:TE} {σ:St} {H:Hp} {Q:VK} (Pv:Nat→List V→Hp→Prop) (hk:k < sizeLine) (h0:Pv 0 [] H) (hlen:∀ i acc H,Pv i acc H→acc.length≤i)
  (hs:∀ i acc H2,i < k→Pv i acc H2→g (.int (lo+i)) (inSt n fr σ) H2 fun σ4 H4=>tt σ4 H4 fun b H5=>if b=true then te σ4 H5 fun v H6=>Pv (i+1) (acc ++ [v]) H6 else Pv (i+1) acc H5)
  (hd:∀ acc H2,Pv k acc H2→∀ l,H2 l=none→Q (.ref l) (upd H2 l (.lst acc))):=
 comp_gen (J:=Itr lo k) (n:=n) (fr:=fr) (g:=g) (tt:=tt) (te:=te) (σ:=σ) (Q:=Q) Pv hk h0 hlen (fun _ _ _ h _=>h) (fun _ _ _=>Nat.le_refl _) (fun i acc H2 x H3 hi p y=>by
  obtain ⟨e1,e2⟩:=y
  subst e1 e2
  exact hs i acc _ hi p) hd
end L2
namespace L2
open PySem PySem.Spec PyProof.Rows
def Its (cs:List Nat):It:=⟨fun i _=>i < cs.length,fun i H x H'=>H'=H∧∃ c,cs[i]? = some c∧x=.str ⟨#[c]⟩,fun i _=>cs.length≤i⟩
theorem turn_str {P:Program} {w:World} {K:PySem.W.Frag} {tg:Expr} (it:Addr) (ty:String) (hty:ty = "str_ascii_iterator"∨ty = "str_iterator") (x:Str) (t:Tok) :
  Turn P w K tg (Its x.cps.toList) [it] it (fun i h=>h.IsStrIter it ty x t i) where
 mem:=by simp
 obj:=fun i h st b hb=>by
  rw [List.mem_singleton.mp hb]
  obtain ⟨o,e,c,d⟩:=st
  exact ⟨o,e,fun v z=>by rw [d] at z; cases z⟩
 keep:=fun i h h' st k=>by
  obtain ⟨o,e,r⟩:=st
  exact ⟨o,k it (by simp) o e,r⟩
 item:=by
  intro X hP hw hK hc i pins s σ H E I hf st hg
  subst hP hw hK
  have hlt:i < x.cps.toList.length:=hg
  obtain ⟨f0,f1,f2,f3,f4,f5⟩:=hf it (by simp)
  have hx:x.cps[i]? = some (x.cps.toList[i]):=by
   rw [← Array.getElem?_toList]
   exact List.getElem?_eq_getElem hlt
  have fin:∀ h',h'.IsStrIter it ty x t (i+1)→Heap.SameBut it s.heap h'→∃ u,some (Value.str ⟨#[x.cps.toList[i]]⟩ s.toks)=some u∧
    wpAny (model X.prog X.w) X.A (letOwnedTupleGo tg (.ref it) u) (fun _ s2=>∃ y H',Inv X pins σ H' s2∧RelV y u∧(Its x.cps.toList).yld i H y H'∧s2.heap.IsStrIter it ty x t (i+1)∧∀ b∈[it],H' b=none) E { s with heap:=h',toks:=s.toks+1 }:=fun h' st' sb=>by
   have I1:Inv X pins σ H { s with heap:=h',toks:=s.toks+1 }:=I.turned (fun b o hb e=>(sb.2 b hb).trans e) f0 f1 f3 f4 f5
   obtain ⟨o,e,c,d⟩:=id st'
   refine ⟨_,rfl,go_of (s:={ s with heap:=h',toks:=s.toks+1 }) (n:=ty) e c d (by rcases hty with z | z <;> subst z <;> decide) ⟨.str ⟨#[x.cps.toList[i]]⟩,H,I1,⟨_,rfl⟩,⟨rfl,_,List.getElem?_eq_getElem hlt,rfl⟩,st',fun b hb=>(hf b hb).1⟩⟩
  rcases hty with z | z
  ·subst z
   exact wpAny_pyNext_ascii_item st hx fun h' st' sb=>fin h' st' sb
  ·subst z
   exact wpAny_pyNext_wide_item st hx fun h' st' sb=>fin h' st' sb
 done:=by
  intro X hP hw hK hc i pins s σ H E I hf st hg
  subst hP hw hK
  have hle:x.cps.toList.length≤i:=hg
  obtain ⟨f0,f1,f2,f3,f4,f5⟩:=hf it (by simp)
  have hx:x.cps[i]? = none:=by
   rw [← Array.getElem?_toList]
   exact List.getElem?_eq_none_iff.mpr hle
  rcases hty with z | z
  ·subst z
   exact wpAny_pyNext_ascii_end (I.ok.hd hc) st hx fun h' eb=>⟨rfl,I.turned (t':=s.toks) (fun b o hb e=>eb b o hb e) f0 f1 f3 f4 f5⟩
  ·subst z
   exact wpAny_pyNext_wide_end (I.ok.hd hc) st hx fun h' eb=>⟨rfl,I.turned (t':=s.toks) (fun b o hb e=>eb b o hb e) f0 f1 f3 f4 f5⟩
 self:=fun _ _ _ _ _ st h=>by
  rcases hty with z | z
  ·subst z
   exact wpAny_pyIter_striter_ascii st h
  ·subst z
   exact wpAny_pyIter_striter_wide st h
section
variable {X:Cx} {tg e:Expr} {te:TE}
def iStr (te:TE):TI:=fun σ H R=>te σ H fun v H1=>∃ z,v=.str z∧R (Its z.cps.toList) H1
theorem pi_str (he:PE X e te):PI X tg e (iStr te):=by
 intro pins s σ H R I h
 refine thn (he pins s σ H _ I h) fun v s1 ⟨x,H1,I1,r1,q1⟩=>?_
 obtain ⟨z,e1,q⟩:=q1
 subst e1
 obtain ⟨t,rfl⟩:=r1
 have go:∀ (ty:String),(ty = "str_ascii_iterator"∨ty = "str_iterator")→PIE X pins σ tg R (.ref s1.heap.objs.size) { s1 with heap:=s1.heap.push { cls:=.type ty,data:=.fields #[.str z t,.int 0 0] } }:=fun ty hty=>by
  refine ⟨s1.heap.objs.size,[s1.heap.objs.size],_,_,H1,rfl,I1.kept (t':=s1.toks) fun b o e=>Heap.get?_push_of_some _ e,turn_str _ ty hty z t,⟨_,Heap.get?_push_size _ rfl,rfl,rfl⟩,fun b hb=>?_,q⟩
  rw [List.mem_singleton.mp hb]
  exact I1.fpOk (Nat.le_refl _) (I1.hok.fresh (Nat.le_refl _))
 cases ha:z.cps.all (· < 128) with
 | false=>exact wpAny_pyIter_wide ha (go _ (.inr rfl))
 | true=>exact wpAny_pyIter_ascii ha (go _ (.inl rfl))
end
theorem for_str {cs:List Nat} {g:TG} {tb:TS} {D:Ends} {σ:St} {H:Hp} (Pv:Nat→St→Hp→Prop) (h0:Pv 0 σ H)
  (hs:∀ i c σ H,cs[i]? = some c→Pv i σ H→g (.str ⟨#[c]⟩) σ H fun σ2 H2=>tb { D with nx:=Pv (i+1),ct:=Pv (i+1),bk:=D.nx } σ2 H2) (hd:∀ σ H,Pv cs.length σ H→D.nx σ H) :
  ∃ W:Nat→Nat→St→Hp→Prop,(∃ m,W 0 m σ H)∧∀ i m σ H,W i m σ H→
   ((Its cs).stop i H∧D.nx σ H)∨((Its cs).go i H∧∃ N:St→Hp→Prop,(∀ σ' H',N σ' H'→∃ m',m' < m∧W (i+1) m' σ' H')∧∀ x H',(Its cs).yld i H x H'→g x σ H' fun σ2 H2=>tb { D with nx:=N,ct:=N,bk:=D.nx } σ2 H2):=by
 refine ⟨fun i m σ H=>m=cs.length - i∧i≤cs.length∧Pv i σ H,⟨cs.length,by simp,Nat.zero_le _,h0⟩,?_⟩
 rintro i m σ H ⟨rfl,hi,p⟩
 by_cases hlt:i < cs.length
 ·refine .inr ⟨hlt,Pv (i+1),fun σ' H' p'=>⟨cs.length - (i+1),by omega,rfl,hlt,p'⟩,fun x H' y=>?_⟩
  obtain ⟨e,c,hc,hx⟩:=y
  subst e hx
  exact hs i c σ _ hc p
 ·have e:i=cs.length:=by omega
  subst e
  exact .inl ⟨Nat.le_refl _,hd σ H p⟩
theorem range_getD_all (bs:List Bool):(List.range bs.length).all (fun i=>bs.getD i false)=bs.all id:=by
 rw [Bool.eq_iff_iff,List.all_eq_true,List.all_eq_true]
 constructor
 ·intro h b hb
  obtain ⟨i,hi,rfl⟩:=List.getElem_of_mem hb
  have:=h i (List.mem_range.mpr hi)
  simpa [List.getD_eq_getElem?_getD,hi] using this
 ·intro h i hi
  have hi':=List.mem_range.mp hi
  have:=h bs[i] (List.getElem_mem hi')
  simpa [List.getD_eq_getElem?_getD,hi'] using this
section
variable {X:Cx}
theorem walk_bools {pins:List (Addr × Obj)} {σ:St} {H:Hp} {s:Shared} {p:Addr} {bs:List Bool} {Qv:VK} {f:Nat→(Nat→Bool)→Bool} {b:Bool} (hc:X.calm=true) (I:Inv X pins σ H s) (hq:SqL X.K H p (bs.map V.bl)) (hb:f bs.length (fun i=>bs.getD i false)=b) (q:Qv (.bl b) H) :
  wpAny (model X.prog X.w) X.A.in1 (pyIter (.ref p)) (fun it s₂=>∃ I fp wr n P St tr,it=.ref I∧Walks X.prog X.w X.A.in1 I fp wr n P St∧St 0 s₂.heap∧TruthOf X.prog X.w X.A.in1 P tr∧
   ∀ h' tk,(∀ b o,b∉wr→s₂.heap.get? b=some o→h'.get? b=some o)→EP X pins σ Qv (.bool (f n tr)) { s₂ with heap:=h',toks:=tk }) X.xe s:=by
 obtain ⟨its,r,pl,hz⟩:=I.list hq
 have hlen:its.toArray.size=bs.length:=by
  rw [List.size_toArray,← r.length,List.length_map]
 have hpl:p < s.heap.objs.size:=by
  obtain ⟨o,e,_⟩:=pl.isList
  exact Heap.lt_size e
 refine wpAny_pyIter_list pl.isList ?_
 refine ⟨s.heap.objs.size,[s.heap.objs.size,p],[s.heap.objs.size],its.toArray.size,_,_,fun i=>bs.getD i false,rfl,Walks.list (A:=X.A.in1) (show X.A.in1.handled=none from I.ok.hd hc) s.heap.objs.size p (Nat.ne_of_lt hpl) its.toArray,?_,?_,fun h' tk k=>?_⟩
 ·refine And.intro (show Heap.IsListIter _ _ _ _ from ⟨_,Heap.get?_push_size _ rfl,rfl,rfl⟩) ?_
  obtain ⟨o,e,z⟩:=pl.isList
  exact ⟨o,Heap.get?_push_of_some _ e,z⟩
 ·intro i v s' Q E hv hQ
  have hv':its[i]? = some v:=by simpa using hv
  cases e:(bs.map V.bl)[i]? with
  | none=>
   have z:=r.none_of e
   rw [hv'] at z
   cases z
  | some x=>
   obtain ⟨u,hu,ru⟩:=r.get e
   rw [hv'] at hu
   cases hu
   rw [List.getElem?_map] at e
   cases e2:bs[i]? with
   | none=>rw [e2] at e; cases e
   | some y=>
    rw [e2] at e
    cases e
    cases ru
    refine wpAny_truthy_bool ?_
    have:bs.getD i false=y:=by rw [List.getD_eq_getElem?_getD,e2]; rfl
    exact this▸(show Q (bs.getD i false) s' from hQ)
 ·rw [hlen,hb]
  refine ⟨.bl b,H,I.kept fun c o e=>k c o ?_ (Heap.get?_push_of_some _ e),rfl,q⟩
  have:=Heap.lt_size e
  intro z
  rw [List.mem_singleton.mp z] at this
  exact Nat.lt_irrefl _ this
theorem call_all_bl (hc:X.calm=true):CallR X (.builtin "all") (fun xs H Q=>∃ (p:Addr) (bs:List Bool),xs=[.ref p]∧SqL X.K H p (bs.map V.bl)∧Q (.bl (bs.all id)) H):=by
 intro pins s σ H xs us Q I r h
 obtain ⟨p,bs,rfl,hq,q⟩:=h
 obtain ⟨u,rfl,ru⟩:=vals1 r
 cases ru
 exact call_all_walk (walk_bools (f:=fun n tr=>(List.range n).all tr) hc I hq (range_getD_all bs) q)
theorem strsAre_of:∀ {ys:List Str} {us:List Value},Vals (ys.map V.str) us→StrsAre us ys
 | [],us,r=>by rw [List.map_nil] at r; cases r; exact .nil
 | y :: ys,us,r=>by
  rw [List.map_cons] at r
  cases r with
  | cons r1 r2=>
   obtain ⟨t,e⟩:=r1
   subst e
   exact .cons y t (strsAre_of r2)
theorem vals_strs:∀ {us:List Value} {ys:List Str},StrsAre us ys→Vals (ys.map V.str) us
 | _,_,.nil=>.nil
 | _,_,.cons y t h=>.cons ⟨t,rfl⟩ (vals_strs h)
inductive rJoinI (K:PySem.W.Frag) (x:V) (xs:List V) (H:Hp) (Q:VK):Prop
 | mk (z p ys:_) (h1:x=.str z) (h2:xs=[.ref p]) (h3:SqL K H p (ys.map V.str)) (h4:(ys.map (·.length)).sum+ys.length * z.length≤16777216) (h5:Q (.str (Txt.join z ys)) H):rJoinI K x xs H Q
def rJoin (K:PySem.W.Frag):V→List V→Hp→VK→Prop:=fun x xs H Q=>rJoinI K x xs H Q
theorem mt_join:MtR X "str.join" (rJoin X.K):=by
 intro pins s σ H x xs v us Q I rx rs h
 obtain ⟨z,p,ys,rfl,rfl,hq,hz,q⟩:=h
 obtain ⟨t,rfl⟩:=rx
 obtain ⟨u,rfl,ru⟩:=rs.one
 cases ru
 obtain ⟨its,r,pl,_⟩:=I.list hq
 exact join_list pl.isList (by simpa using strsAre_of r) hz fun t' k=>⟨.str _,H,I.tok _,⟨_,rfl⟩,q⟩
theorem join_nil_list (ys:List Str):(Txt.join (Str.ofString "") ys).cps.toList=(ys.map fun y=>y.cps.toList).flatten:=by
  show (Builtin.Str.glued (Str.ofString "") ys).cps.toList=_
  rw [StrLaws.glued_eq_join]
  induction ys with
  | nil=>rfl
  | cons y r ih=>
   cases r with
   | nil=>simp [Str.join]
   | cons z r=>
    have e:Str.join (Str.ofString "") (y :: z :: r)=y ++ Str.ofString "" ++ Str.join (Str.ofString "") (z :: r):=rfl
    rw [e]
    have h0:(Str.ofString "").cps = #[]:=by decide +kernel
    show ((y.cps ++ (Str.ofString "").cps) ++ (Str.join (Str.ofString "") (z :: r)).cps).toList=_
    rw [h0,Array.append_empty,Array.toList_append,ih,List.map_cons,List.map_cons,List.flatten_cons]
    rfl
inductive rSlSI (x:V) (lo:Option Int) (hi:Option Int) (H:Hp) (Q:VK):Prop
 | mk (z:_) (h1:x=.str z) (h2:z.length≤sizeLine) (h3:Q (.str (Txt.slice z lo hi)) H):rSlSI x lo hi H Q
def rSlS:V→Option Int→Option Int→Hp→VK→Prop:=fun x lo hi H Q=>rSlSI x lo hi H Q
theorem sl_str:SlR X rSlS:=by
 intro pins s σ H x v vl vu lo hi sl Q I rx hs pl pu h
 obtain ⟨z,rfl,hz,q⟩:=h
 obtain ⟨t,rfl⟩:=rx
 refine ⟨"str",_,F.slot_str_getitem.lookup,typeIs_str _ _ _,?_⟩
 have fin:∀ t' k,EP X pins σ Q (.str (Txt.slice z lo hi) t') { s with toks:=k }:=fun t' k=>⟨.str _,H,I.tok _,⟨_,rfl⟩,q⟩
 have hle:(Txt.slice z lo hi).length≤sizeLine:=Nat.le_trans (Txt.slice_le z _ _) hz
 cases pl with
 | none=>
  cases pu with
  | none=>exact wpAny_getItem_str_slice (l:=none) (u:=none) (st:=none) hs rfl (post_val_or_str ⟨hle,fin⟩)
  | int j uj=>exact wpAny_getItem_str_slice (l:=none) (u:=some (j,uj)) (st:=none) hs rfl (post_val_or_str ⟨hle,fin⟩)
 | int i ui=>
  cases pu with
  | none=>exact wpAny_getItem_str_slice (l:=some (i,ui)) (u:=none) (st:=none) hs rfl (post_val_or_str ⟨hle,fin⟩)
  | int j uj=>exact wpAny_getItem_str_slice (l:=some (i,ui)) (u:=some (j,uj)) (st:=none) hs rfl (post_val_or_str ⟨hle,fin⟩)
def repS (z:Str) (n:Nat):Str:=⟨(List.replicate n z.cps.toList).flatten.toArray⟩
theorem foldl_arr (a:Array Nat):∀ (k:Nat) (acc:List Nat),List.foldl (fun x1 x2=>x1 ++ x2) acc.toArray (List.replicate k a)=(acc ++ (List.replicate k a.toList).flatten).toArray
 | 0,acc=>by simp
 | k+1,acc=>by
  rw [List.replicate_succ,List.foldl_cons]
  have e:acc.toArray ++ a=(acc ++ a.toList).toArray:=by simp
  rw [e,foldl_arr a k,List.replicate_succ,List.flatten_cons,List.append_assoc]
theorem op_mul_str:OpR X (binaryOp .Mult) (fun x y H Q=>∃ z n,x=.str z∧y=.int n∧0≤n∧n≤1000∧z.length≤1000∧Q (.str (repS z n.toNat)) H):=by
 intro pins s σ H x y v u Q I rx ry h
 obtain ⟨z,n,rfl,rfl,h0,h1,hz,q⟩:=h
 obtain ⟨t,rfl⟩:=rx
 obtain ⟨t',rfl⟩:=ry
 have hl:z.length * n.toNat≤1000 * 1000:=Nat.mul_le_mul hz (by omega)
 have hline:sizeLine=16777216:=sizeLine_eq
 have hlong:Builtin.Str.tooLong (z.length * n.toNat)=false:=by
  unfold Builtin.Str.tooLong
  exact decide_eq_false (by omega)
 refine PySem.P.mul_str (by
   rw [decide_eq_false (by omega),decide_eq_false (by omega)]; rfl) (fun hn _=>?_) (fun _ _=>hlong) ?_
 ·have h2:(2 ^ 63 - 1:Int) / n ≥ 1000:=by
   refine Int.le_ediv_of_mul_le (by omega) ?_
   have:(1000:Int) * n≤1000 * 1000:=Int.mul_le_mul_of_nonneg_left h1 (by omega)
   omega
  omega
 ·have rep0:∀ k,(⟨(List.replicate k z.cps).foldl (· ++ ·) #[]⟩:Str)=repS z k:=fun k=>by
   have:=foldl_arr z.cps k []
   rw [List.nil_append] at this
   exact congrArg Str.mk this
  have fin:∀ (y:Str),y=repS z n.toNat→∀ t2 k,EP X pins σ Q (.str y t2) { s with toks:=k }:=fun y e t2 k=>by
   subst e
   exact ⟨.str _,H,I.tok _,⟨_,rfl⟩,q⟩
  by_cases hn:n < 1
  ·rw [if_pos hn]
   refine ⟨by decide,fin _ ?_ _ _⟩
   have:n.toNat=0:=by omega
   rw [this]
   rfl
  ·rw [if_neg hn]
   by_cases hb:(n==1 || z.length==0)=true
   ·rw [if_pos hb]
    refine fin z ?_ t s.toks
    rcases Bool.or_eq_true_iff.mp hb with e | e
    ·have:n=1:=by simpa using e
     subst this
     show z=⟨([z.cps.toList].flatten).toArray⟩
     simp
    ·have e':z.cps.size=0:=by simpa [Str.length] using e
     have e2:z.cps = #[]:=Array.eq_empty_of_size_eq_zero e'
     unfold repS
     obtain ⟨c⟩:=z
     subst e2
     simp
   ·rw [if_neg hb]
    refine ⟨?_,?_⟩
    ·rw [rep0]
     show ((List.replicate n.toNat z.cps.toList).flatten.toArray).size≤sizeLine
     rw [List.size_toArray,len_rep,Array.length_toList]
     have:n.toNat * z.cps.size=z.length * n.toNat:=Nat.mul_comm _ _
     omega
    ·exact fin _ (rep0 _) _ _
inductive rSortSI (K:PySem.W.Frag) (xs:List V) (H:Hp) (Q:VK):Prop
 | mk (p ys:_) (h1:xs=[.ref p]) (h2:SqL K H p (ys.map V.str)) (h3:ys.length < 64) (h4:∀ ys' l,ys'.Perm ys→sortedS ys'=true→H l=none→Q (.ref l) (upd H l (.lst (ys'.map V.str)))):rSortSI K xs H Q
def rSortS (K:PySem.W.Frag):List V→Hp→VK→Prop:=fun xs H Q=>rSortSI K xs H Q
theorem call_sorted_str:CallR X (.builtin "sorted") (rSortS X.K):=by
 intro pins s σ H xs us Q I r h
 obtain ⟨p,ys,rfl,hq,h64,q⟩:=h
 obtain ⟨u,rfl,ru⟩:=vals1 r
 cases ru
 obtain ⟨its,r',pl,hz⟩:=I.list hq
 have hlen:=r'.length
 rw [List.length_map] at hlen hz
 refine sorted_strs pl.isList (strsAre_of r') (by omega) fun out ss' a1 a2 a3=>?_
 obtain ⟨e,he⟩:=sortedAll_at s.heap its out
 have hn:H (s.heap.objs.size+1)=none:=I.hok.fresh (Nat.le_succ _)
 refine ⟨.ref (s.heap.objs.size+1),upd H (s.heap.objs.size+1) (.lst (ss'.map V.str)),I.laid (t':=s.toks) (fun _ _=>sortedAll_old) (Nat.le_succ _) ⟨?_,out.toList,e,vals_strs a1,?_⟩,rfl,q ss' _ a2 a3 hn⟩
 ·rw [List.length_map,a2.length_eq]
  exact hz
 ·simpa [seqObj] using he
def oneS (c:Nat):V:=.str ⟨#[c]⟩
theorem vals_signs {x:Str}:∀ (us:List Value) (k:Nat),(∀ i v,us[i]? = some v→SignAt x (k+i) v)→us.length+k=x.cps.toList.length→Vals ((x.cps.toList.drop k).map oneS) us
 | [],k,_,hl=>by
  rw [List.drop_eq_nil_of_le (by simpa using Nat.le_of_eq hl.symm)]
  exact .nil
 | u :: us,k,h,hl=>by
  have hk:k < x.cps.toList.length:=by
   simp only [List.length_cons] at hl
   omega
  rw [List.drop_eq_getElem_cons hk,List.map_cons]
  refine .cons ?_ (vals_signs us (k+1) (fun i v e=>?_) (by simp only [List.length_cons] at hl; omega))
  ·obtain ⟨c,t,hc,rfl⟩:=h 0 u rfl
   have hc':x.cps.toList[k]? = some c:=by
    rw [Array.getElem?_toList]
    exact hc
   rw [List.getElem?_eq_getElem hk] at hc'
   rw [Option.some.inj hc']
   exact ⟨t,rfl⟩
  ·have:=h (i+1) v e
   rw [show k+1+i=k+(i+1) by omega]
   exact this
theorem call_list_text (hc:X.calm=true):CallR X (.type "list") (fun xs H Q=>∃ z,xs=[.str z]∧z.length≤sizeLine∧∀ l,H l=none→Q (.ref l) (upd H l (.lst (z.cps.toList.map oneS)))):=by
 intro pins s σ H xs us Q I r h
 obtain ⟨z,rfl,hz,q⟩:=h
 obtain ⟨u,rfl,t,rfl⟩:=vals1 r
 refine call_list_str (hn:=hz) (I.ok.hd hc) z t fun h' tk acc c kp e it=>?_
 refine ⟨.ref s.heap.objs.size,_,I.laid kp (Nat.le_refl _) (show ObjOk X.prog X.w _ h' _ (.lst (z.cps.toList.map oneS)) from ⟨by rw [List.length_map]; simpa [Str.length] using hz,acc.toList,c,?_,by simpa using e⟩),rfl,q _ (I.hok.fresh (Nat.le_refl _))⟩
 have e1:=vals_signs (x:=z) acc.toList 0 (fun i v e=>by rw [Nat.zero_add]; exact it.2 i v (by rw [← Array.getElem?_toList]; exact e)) (by rw [Array.length_toList,it.1,Nat.add_zero,Array.length_toList])
 rw [List.drop_zero] at e1
 exact e1
inductive rFind3I (x:V) (xs:List V) (H:Hp) (Q:VK):Prop
 | mk (z y i:_) (h1:x=.str z) (h2:xs=[.str y,.int i]) (h3:Q (.int (Txt.find3 z y i)) H):rFind3I x xs H Q
def rFind3:V→List V→Hp→VK→Prop:=fun x xs H Q=>rFind3I x xs H Q
theorem mt_find3:MtR X "str.find" rFind3:=by
 intro pins s σ H x xs v us Q I rx rs h
 obtain ⟨z,y,i,rfl,rfl,q⟩:=h
 obtain ⟨t,rfl⟩:=rx
 obtain ⟨u1,u2,rfl,⟨t1,rfl⟩,⟨t2,rfl⟩⟩:=rs.two
 exact SC.find3 ⟨.int _,H,I.tok _,⟨_,rfl⟩,q⟩
inductive rIsI (K:PySem.W.Frag) (xs:List V) (H:Hp) (Q:VK):Prop
 | mk (x n t b:_) (h1:xs=[x,.ty n]) (h2:TyOf K H x t) (h3:PySem.W.kitOne K t (.type n)=some b) (h4:Q (.bl b) H):rIsI K xs H Q
def rIs (K:PySem.W.Frag):List V→Hp→VK→Prop:=fun xs H Q=>rIsI K xs H Q
theorem call_is:CallR X (.builtin "isinstance") (rIs X.K):=by
 intro pins s σ H xs us Q I r h
 obtain ⟨x,n,t,b,rfl,ty,e,q⟩:=h
 obtain ⟨u,w',rfl,rx,rc⟩:=vals2 r
 cases (show w'=Value.type n from rc)
 exact isinst_ok I rx ty e fun tk=>⟨.bl b,H,I.tok _,rfl,q⟩
inductive rIs2I (K:PySem.W.Frag) (xs:List V) (H:Hp) (Q:VK):Prop
 | mk (x tp n m t b:_) (h1:xs=[x,.ref tp]) (h2:H tp=some (.tup [.ty n,.ty m])) (h3:TyOf K H x t) (h4:PySem.W.kitAny K t [.type n,.type m]=some b) (h5:Q (.bl b) H):rIs2I K xs H Q
def rIs2 (K:PySem.W.Frag):List V→Hp→VK→Prop:=fun xs H Q=>rIs2I K xs H Q
theorem call_is2:CallR X (.builtin "isinstance") (rIs2 X.K):=by
 intro pins s σ H xs us Q I r h
 obtain ⟨x,tp,n,m,t,b,rfl,htp,ty,e,q⟩:=h
 obtain ⟨u,w',rfl,rx,rc⟩:=vals2 r
 cases (show w'=Value.ref tp from rc)
 obtain ⟨_,its,rv,p⟩:=(show ObjOk X.prog X.w H s.heap tp (.tup [.ty n,.ty m]) from I.hok tp _ htp)
 obtain ⟨a1,a2,rfl,ra1,ra2⟩:=rv.two
 cases (show a1=Value.type n from ra1)
 cases (show a2=Value.type m from ra2)
 obtain ⟨⟨oc,od,odt,osl⟩,g1,g2,k,g3⟩:=p
 cases (show oc=Value.type "tuple" from g2)
 cases (show odt=Data.seq _ k from g3)
 have fin:∀ tk,EP X pins σ Q (.bool b) { s with toks:=tk }:=fun tk=>⟨.bl b,H,I.tok _,rfl,q⟩
 have no:∀ v:Value,(∀ z:String,v≠.builtin z)→v≠.builtin "__main__.__loader__#opaque":=fun v h=>h _
 cases ty with
 | non=>cases (show u=Value.none from rx); exact PySem.W.kia_tup PySem.W.kitx_none I.kIn True.intro g1 e (no _ fun _ z=>nomatch z) fin
 | bl y=>cases (show u=Value.bool y from rx); exact PySem.W.kia_tup PySem.W.kitx_bool I.kIn True.intro g1 e (no _ fun _ z=>nomatch z) fin
 | int i=>obtain ⟨t,z⟩:=(show ∃ t,u=Value.int i t from rx); cases z; exact PySem.W.kia_tup PySem.W.kitx_int I.kIn True.intro g1 e (no _ fun _ z=>nomatch z) fin
 | str y=>obtain ⟨t,z⟩:=(show ∃ t,u=Value.str y t from rx); cases z; exact PySem.W.kia_tup PySem.W.kitx_str I.kIn True.intro g1 e (no _ fun _ z=>nomatch z) fin
 | flt y=>obtain ⟨t,z⟩:=(show ∃ t,u=Value.float y t from rx); cases z; exact PySem.W.kia_tup PySem.W.kitx_float I.kIn True.intro g1 e (no _ fun _ z=>nomatch z) fin
 | @lst a xs ea=>
  cases (show u=Value.ref a from rx)
  obtain ⟨_,_,k2,_,h1⟩:=(show ObjOk X.prog X.w H s.heap a (.lst xs) from I.hok a _ ea)
  exact PySem.W.kia_tup PySem.W.kitx_list I.kIn ⟨_,h1,rfl⟩ g1 e (no _ fun _ z=>nomatch z) fin
 | @frz a ob xs ea=>
  cases (show u=Value.ref a from rx)
  obtain ⟨_,_,_,k2,_,h1⟩:=(show ObjOk X.prog X.w H s.heap a (.frz ob (.lst xs)) from I.hok a _ ea)
  exact PySem.W.kia_tup PySem.W.kitx_list I.kIn ⟨_,h1,rfl⟩ g1 e (no _ fun _ z=>nomatch z) fin
 | @tup a xs ea=>
  cases (show u=Value.ref a from rx)
  obtain ⟨_,_,_,o2,h1,h2,_⟩:=(show ObjOk X.prog X.w H s.heap a (.tup xs) from I.hok a _ ea)
  exact PySem.W.kia_tup PySem.W.kitx_tuple I.kIn ⟨o2,h1,h2⟩ g1 e (no _ fun _ z=>nomatch z) fin
 | @dK a kvs ea=>
  cases (show u=Value.ref a from rx)
  obtain ⟨_,_,vs,_,o2,es,ep,h1,h2,_⟩:=(show ObjOk X.prog X.w H s.heap a (.dK kvs) from I.hok a _ ea)
  exact PySem.W.kia_tup PySem.W.kitx_dict I.kIn ⟨o2,h1,h2.1⟩ g1 e (no _ fun _ z=>nomatch z) fin
 | @dT a kvs ea=>
  cases (show u=Value.ref a from rx)
  obtain ⟨_,_,xs,_,o2,es,ep,h1,h2,_⟩:=(show ObjOk X.prog X.w H s.heap a (.dT kvs) from I.hok a _ ea)
  exact PySem.W.kia_tup PySem.W.kitx_dict I.kIn ⟨o2,h1,h2.1⟩ g1 e (no _ fun _ z=>nomatch z) fin
 | @ins a C dx fs ea cl ha hn htk hm=>
  cases (show u=Value.ref a from rx)
  obtain ⟨mA,O,_⟩:=ins_get I.hok ea
  obtain ⟨od2,J,_⟩:=O.look
  exact PySem.W.kia_tup (PySem.W.kitx_own (cl.get _) cl.hd ha hn htk hm) I.kIn J g1 e (no _ fun _ z=>nomatch z) fin
end
end L2
namespace L2
open PySem PySem.Spec PyProof.Rows
inductive tCutI (t:TS) (u:TS) (D:Ends) (σ:St) (H:Hp):Prop
 | mk (P:St→Hp→Prop) (h1:t { D with nx:=P } σ H) (h2:∀ σ' H',P σ' H'→u D σ' H'):tCutI t u D σ H
def tCut (t u:TS):TS:=fun D σ H=>tCutI t u D σ H
theorem pss_cut {X:Cx} {st:Stmt} {rest:List Stmt} {t u:TS} (h1:PS X st t) (h2:PSs X rest u):PSs X (st :: rest) (tCut t u):=by
 intro pins s σ H D I h
 obtain ⟨P,q,k⟩:=h
 have z:PSs X (st :: rest) (tSeq (fun D' σ' H'=>D'=D∧σ'=σ∧H'=H) (fun _ _ _=>True))→True:=fun _=>True.intro
 exact pss_cons (t:=fun D' σ' H'=>t { D' with nx:=P } σ' H'∧∀ σ2 H2,P σ2 H2→D'.nx σ2 H2) (u:=u) (fun pins s σ H D I h=>by
  refine thn (h1 pins s σ H _ I h.1) fun f s' r=>?_
  cases f with
  | next=>
   obtain ⟨σ',H',I',p⟩:=r
   exact ⟨σ',H',I',h.2 σ' H' p⟩
  | brk=>exact r
  | cont=>exact r
  | ret v=>exact r) h2 pins s σ H D I ⟨q,k⟩
structure Cal (P:Program) (w:World) (K:PySem.W.Frag) (mg:Str→Option Value) (base:Heap) (x:Str) (k:Nat) (ps:List Str) (sp:Sp) where
 f:Addr
 fd:FuncData
 ok:FnOk P w K mg base CX0 k f fd ps sp
 at_:mg x=some (.ref f)
 kp:PySem.W.keepIn K (.ref f)=true
 b:Binds K fd ps []
theorem pe_c {X:Cx} {x:Str} {k:Nat} {ps:List Str} {sp:Sp} {p pos:Pos} {e:Expr} {es:List Expr} {t:TA} (C:Cal X.prog X.w X.K X.mg X.base x k ps sp) (hr:Room k X.A) (ha:PA X (e :: es) t) (hg:Gl X x:=by rfl)
  (hdb:(x==("__debug__" : Str))=false:=by decide) (he:starEach (e :: es) X.env=(false,eval e X.env) :: starEach es X.env:=by rfl) (hpl:(backTo pos (starEach es X.env)).any (·.1)=false:=by rfl) :
  PE X (.Call (.Name x p) (e :: es) [] pos) (tCall sp [] E0 t):=pe_call C.ok hr hg C.at_ C.kp C.b .nil pass0 ha hdb he hpl
section
variable {X:Cx}
end
theorem lt_one (a b:Nat):decide (([a]:List Nat) < [b])=decide (a < b):=by
 rw [Bool.eq_iff_iff,decide_eq_true_eq,decide_eq_true_eq]
 constructor
 ·intro h
  cases h with
  | rel h=>exact h
  | cons h=>cases h
 ·intro h
  exact List.Lex.rel h
section
variable {X:Cx} {K:PySem.W.Frag}
inductive rLenQI (K:PySem.W.Frag) (xs:List V) (H:Hp) (Q:VK):Prop
 | mk (p ys:_) (h1:xs=[V.ref p]) (h2:(SqL K H p ys∨SqT K H p ys)) (h3:Q (.int ys.length) H):rLenQI K xs H Q
def rLenQ (K:PySem.W.Frag):List V→Hp→VK→Prop:=fun xs H Q=>rLenQI K xs H Q
inductive rListQI (K:PySem.W.Frag) (xs:List V) (H:Hp) (Q:VK):Prop
 | mk (p ys:_) (h1:xs=[V.ref p]) (h2:(SqL K H p ys∨SqT K H p ys)) (h3:∀ l,H l=none→Q (.ref l) (upd H l (.lst ys))):rListQI K xs H Q
def rListQ (K:PySem.W.Frag):List V→Hp→VK→Prop:=fun xs H Q=>rListQI K xs H Q
inductive rAllQI (K:PySem.W.Frag) (xs:List V) (H:Hp) (Q:VK):Prop
 | mk (p:Addr) (bs:List Bool) (h1:xs=[V.ref p]) (h2:SqL K H p (bs.map V.bl)) (h3:Q (.bl (bs.all id)) H):rAllQI K xs H Q
def rAllQ (K:PySem.W.Frag):List V→Hp→VK→Prop:=fun xs H Q=>rAllQI K xs H Q
theorem CallR.imp {X:Cx} {f:Value} {r r':List V→Hp→VK→Prop} (h:CallR X f r) (hi:∀ xs H Q,r' xs H Q→r xs H Q):CallR X f r':=fun pins s σ H xs us Q I rv q=>h pins s σ H xs us Q I rv (hi xs H Q q)
theorem ix_listK (hK:X.K=K:=by rfl):IxR X (rIxL K):=by subst hK; exact ix_list
theorem ix_tupK (hK:X.K=K:=by rfl):IxR X (rIxT K):=by subst hK; exact ix_tup
theorem ix_seqK (hK:X.K=K:=by rfl):IxR X (rIx K):=by subst hK; exact ix_seq
theorem call_lenK (hK:X.K=K:=by rfl):CallR X (.builtin "len") (rLenQ K):=by subst hK; exact call_len_seq.imp fun _ _ _ ⟨p,ys,e,h,q⟩=>⟨p,ys,e,h,q⟩
theorem call_listK (hK:X.K=K:=by rfl):CallR X (.type "list") (rListQ K):=by subst hK; exact call_list_of.imp fun _ _ _ ⟨p,ys,e,h,q⟩=>⟨p,ys,e,h,q⟩
theorem call_allK (hc:X.calm=true:=by rfl) (hK:X.K=K:=by rfl):CallR X (.builtin "all") (rAllQ K):=by subst hK; exact (call_all_bl hc).imp fun _ _ _ ⟨p,bs,e,h,q⟩=>⟨p,bs,e,h,q⟩
theorem call_sortK (hK:X.K=K:=by rfl):CallR X (.builtin "sorted") (rSortS K):=by subst hK; exact call_sorted_str
theorem call_isK (hK:X.K=K:=by rfl):CallR X (.builtin "isinstance") (rIs K):=by subst hK; exact call_is
theorem call_is2K (hK:X.K=K:=by rfl):CallR X (.builtin "isinstance") (rIs2 K):=by subst hK; exact call_is2
theorem mt_joinK (hK:X.K=K:=by rfl):MtR X "str.join" (rJoin K):=by subst hK; exact mt_join
theorem pi_listK {tg l:Expr} {tl:TE} (hl:PE X l tl) (hK:X.K=K:=by rfl):PI X tg l (iList K tl):=by subst hK; exact pi_list hl
theorem pg_tupK {es:List Expr} {k:Nat} {t:TGs} {n:Nat} {pos:Pos} (hc:X.calm=true) (h:PGs X es t) (hK:X.K=K:=by rfl)
  (hn:(assignEach es X.env).length=n:=by rfl) (hst:(assignEach es X.env).findIdx? (·.1)=none:=by rfl):PG X (.Tuple es k pos) (gTup K n t):=by subst hK; exact pg_tup hc h hn hst
theorem pe_bmK {o e:Expr} {es:List Expr} {to:TE} {t:TA} {name:Str} {apos cpos:Pos} {T id:String} {r:V→List V→Hp→VK→Prop} (pa:PlainAttrs T) (slot:Slot T name id) (hty:typeOf (.builtin id)=pure (.type "method_descriptor")) (hm:MtR X id r) (ho:PE X o to)
  (ha:PA X (e :: es) t) (hK:X.K=K:=by rfl) (hbase:attributeBase o name X.env (eval o X.env)=eval o X.env:=by rfl)
  (hfew:((backTo cpos (starEach (e :: es) X.env)).all (fun x=>!x.1) && (backToKw cpos (keywordEach [] X.env)).all (fun x=>x.1.isSome)
   && decide ((e :: es).length+([]:List Keyword).length+(if ([]:List Keyword).isEmpty then 0 else 1) < 30))=true:=by rfl)
  (hline:(apos.endLine==cpos.line)=true:=by rfl) (hs:starEach (e :: es) X.env=(false,eval e X.env) :: starEach es X.env:=by rfl) (hplain:(backTo cpos (starEach es X.env)).any (·.1)=false:=by rfl) :
  PE X (.Call (.Attribute o name apos) (e :: es) [] cpos) (tBM K T r to t):=by subst hK; exact pe_bm pa slot hty hm ho ha hbase hfew hline hs hplain
end
theorem slice_ix (lo hi:Option Int) (n:Nat):Builtin.Str.strSliceIndices lo hi 1 n=(List.range (HT.sIx n n hi - HT.sIx n 0 lo)).map (HT.sIx n 0 lo + ·):=by
 obtain ⟨h1,h2,h3⟩:=slice_bounds lo hi n
 have e:Builtin.Str.strSliceIndices lo hi 1 n=sliceRange (sliceBounds lo hi none n).1 (sliceBounds lo hi none n).2.1 (sliceBounds lo hi none n).2.2:=by
  cases lo <;> cases hi <;> rfl
 rw [e,h1,h2,h3,sliceRange_one]
theorem slice_list (z:Str) (lo hi:Option Int):(Txt.slice z lo hi).cps.toList=(z.cps.toList.drop (HT.sIx z.length 0 lo)).take (HT.sIx z.length z.length hi - HT.sIx z.length 0 lo):=by
 unfold Txt.slice
 rw [slice_ix]
 by_cases hc:((1:Int)==1 && ((List.range (HT.sIx z.length z.length hi - HT.sIx z.length 0 lo)).map (HT.sIx z.length 0 lo + ·)).length==z.length)=true
 ·rw [if_pos hc]
  simp only [Bool.and_eq_true,List.length_map,List.length_range,beq_iff_eq,true_and] at hc
  have h1:=HT.sIx_le z.length 0 (Nat.zero_le _) lo
  have h2:=HT.sIx_le z.length z.length (Nat.le_refl _) hi
  have hl:z.cps.toList.length=z.length:=by simp [Str.length]
  by_cases h0:z.length=0
  ·have:z.cps.toList=[]:=List.eq_nil_of_length_eq_zero (by omega)
   rw [this]
   simp
  ·have e0:HT.sIx z.length 0 lo=0:=by omega
   rw [e0,List.drop_zero,List.take_of_length_le (by omega)]
 ·rw [if_neg hc]
  rw [pick_run]
theorem bt_len:bootBuiltins "len" = some (.builtin "len"):=by decide +kernel
theorem bt_sorted:bootBuiltins "sorted" = some (.builtin "sorted"):=by decide +kernel
theorem bt_all:bootBuiltins "all" = some (.builtin "all"):=by decide +kernel
theorem bt_isinstance:bootBuiltins "isinstance" = some (.builtin "isinstance"):=by decide +kernel
theorem bt_list:bootBuiltins "list" = some (.type "list"):=by decide +kernel
theorem bt_tuple:bootBuiltins "tuple" = some (.type "tuple"):=by decide +kernel
theorem bt_bool:bootBuiltins "bool" = some (.type "bool"):=by decide +kernel
theorem bt_set:bootBuiltins "set" = some (.type "set"):=by decide +kernel
theorem cyes {i:Nat} {x:V} {σ:St} {H:Hp} {te:TE} {Nt:VK} {Nf:Hp→Prop} (h:te (σ.set i (some x)) H Nt):gName i x σ H fun σ4 H4=>tYes σ4 H4 fun b H5=>if b=true then te σ4 H5 Nt else Nf H5:=by
 show if true=true then te (σ.set i (some x)) H Nt else Nf H
 exact iteT h
theorem same_new {H:Hp} {p:Addr} (h:H p=none) (o:HO):Same H (upd H p o):=fun b u q=>by rw [upd_ne (ne_of_none q h)]; exact q
theorem line_le {n:Nat} (h:n≤1000):n≤sizeLine:=Nat.le_of_lt (small1000 h)
def FlowXs (sc:Addr) (xs:List V):Prop:=∃ a b c d:Int,xs=[.ref sc,.int a,.int b,.int c,.int d]∧0≤a∧0≤b∧0≤c∧c < 2147483647∧0≤d
structure FlowAt (H:Hp) (p sc:Addr):Prop where
 here:∃ xs,H p=some (.lst xs)∧FlowXs sc xs
 cells:∃ ns:List Int,H sc=some (.lst (ns.map V.int))
theorem FlowAt.ne {H:Hp} {p sc:Addr} (F:FlowAt H p sc):sc≠p:=by
 obtain ⟨xs,h1,a,b,c,d,e,_⟩:=F.here
 obtain ⟨ns,h2⟩:=F.cells
 refine ne_of h2 h1 fun z=>?_
 have z':ns.map V.int=xs:=by injection z
 rw [e] at z'
 cases ns with
 | nil=>cases z'
 | cons n r=>
  rw [List.map_cons] at z'
  injection z' with z1
  cases z1
theorem FlowAt.go {H:Hp} {p sc:Addr} {xs:List V} (F:FlowAt H p sc) (h:FlowXs sc xs):FlowAt (upd H p (.lst xs)) p sc:=by
 obtain ⟨ns,h2⟩:=F.cells
 exact ⟨⟨xs,upd_same,h⟩,ns,by rw [upd_ne F.ne]; exact h2⟩
def Drew (H H':Hp) (p:Addr):Prop:=∀ b o,H b=some o→b≠p→H' b=some o
theorem FlowAt.same {H H':Hp} {p sc:Addr} (F:FlowAt H p sc) (e:Same H H'):FlowAt H' p sc:=by
 obtain ⟨xs,h1,h2⟩:=F.here
 obtain ⟨ns,h3⟩:=F.cells
 exact ⟨⟨xs,e _ _ h1,h2⟩,ns,e _ _ h3⟩
theorem Drew.refl (H:Hp) (p:Addr):Drew H H p:=fun _ _ h _=>h
theorem Drew.trans {H H1 H2:Hp} {p:Addr} (a:Drew H H1 p) (b:Drew H1 H2 p):Drew H H2 p:=fun c o h n=>b c o (a c o h n) n
theorem Drew.upd {H:Hp} {p:Addr} (o:HO):Drew H (upd H p o) p:=fun b u h n=>by rw [upd_ne n]; exact h
theorem Drew.same {H H':Hp} {p:Addr} (h:Same H H'):Drew H H' p:=fun b o e _=>h b o e
inductive spFlowI (K:PySem.W.Frag) (vs:List V) (H:Hp) (Q:VK):Prop
 | mk (a:Addr) (ns:List Int) (h1:vs=[.ref a]) (h2:SqL K H a (ns.map V.int)) (h3:∀ p sc H',H p=none→Same H H'→FlowAt H' p sc→Q (.ref p) H'):spFlowI K vs H Q
def spFlow (K:PySem.W.Frag):Sp:=fun vs H Q u3_=>spFlowI K vs H Q
inductive spPickI (vs:List V) (H:Hp) (Q:VK):Prop
 | mk (p sc:Addr) (m:Int) (h1:vs=[.ref p,.int m]) (h2:0 < m) (h3:m < 1073741824) (h4:FlowAt H p sc) (h5:∀ r xs,0≤r→r < m→FlowXs sc xs→Q (.int r) (upd H p (.lst xs))):spPickI vs H Q
def spPick:Sp:=fun vs H Q u3_=>spPickI vs H Q
def IsLetters (z:Str) (n:Nat):Prop:=z.cps.toList.length=n∧z.cps.toList.Pairwise (· < ·)∧∀ c∈z.cps.toList,97≤c∧c≤122
inductive spLettersI (vs:List V) (H:Hp) (Q:VK):Prop
 | mk (p sc:Addr) (m:Int) (h1:vs=[.ref p,.int m]) (h2:0≤m) (h3:m≤26) (h4:FlowAt H p sc) (h5:∀ z H',IsLetters z m.toNat→Drew H H' p→FlowAt H' p sc→Q (.str z) H'):spLettersI vs H Q
def spLetters:Sp:=fun vs H Q u3_=>spLettersI vs H Q
inductive spWordI (vs:List V) (H:Hp) (Q:VK):Prop
 | mk (p sc:Addr) (l:Str) (m:Int) (h1:vs=[.ref p,.str l,.int m]) (h2:0 < l.length) (h3:l.length≤1000) (h4:0≤m) (h5:m≤100) (h6:FlowAt H p sc) (h7:∀ z H',(z.cps.toList.length:Int)≤m→(∀ c∈z.cps.toList,c∈l.cps.toList)→Drew H H' p→FlowAt H' p sc→Q (.str z) H'):spWordI vs H Q
def spWord:Sp:=fun vs H Q u3_=>spWordI vs H Q
inductive Dt where
 | non | bl (b:Bool) | int (i:Int) | str (x:Str) | lst (ds:List Dt) | tup (ds:List Dt)
def Dt.dep:Dt→Nat
 | .lst ds=>(ds.map Dt.dep).foldr max 0+1
 | .tup ds=>(ds.map Dt.dep).foldr max 0+1
 | _=>0
inductive Den (H:Hp):V→Dt→Prop where
 | non:Den H .non .non
 | bl (b:Bool):Den H (.bl b) (.bl b)
 | int (i:Int):Den H (.int i) (.int i)
 | str (x:Str):Den H (.str x) (.str x)
 | lst {a:Addr} {xs:List V} {ds:List Dt} (h:H a=some (.lst xs)) (hz:xs.length≤1000000) (hl:xs.length=ds.length) (hd:∀ (i:Nat) x d,xs[i]? = some x→ds[i]? = some d→Den H x d):Den H (.ref a) (.lst ds)
 | tup {a:Addr} {xs:List V} {ds:List Dt} (h:H a=some (.tup xs)) (hz:xs.length≤1000000) (hl:xs.length=ds.length) (hd:∀ (i:Nat) x d,xs[i]? = some x→ds[i]? = some d→Den H x d):Den H (.ref a) (.tup ds)
theorem Den.same {H H':Hp} (e:Same H H') {v:V} {d:Dt} (h:Den H v d):Den H' v d:=by
 induction h with
 | non=>exact .non
 | bl b=>exact .bl b
 | int i=>exact .int i
 | str x=>exact .str x
 | lst h hz hl hd ih=>exact .lst (e _ _ h) hz hl ih
 | tup h hz hl hd ih=>exact .tup (e _ _ h) hz hl ih
theorem foldr_max {l:List Nat} {x:Nat} (h:x∈l):x≤l.foldr max 0:=by
 induction l with
 | nil=>cases h
 | cons y r ih=>
  rw [List.foldr_cons]
  rcases List.mem_cons.mp h with e | e
  ·subst e; omega
  ·have:=ih e; omega
theorem Dt.dep_lst {ds:List Dt} {d:Dt} (h:d∈ds):d.dep < (Dt.lst ds).dep:=by
 have:=foldr_max (List.mem_map_of_mem (f:=Dt.dep) h)
 rw [Dt.dep]
 omega
theorem Dt.dep_tup {ds:List Dt} {d:Dt} (h:d∈ds):d.dep < (Dt.tup ds).dep:=by
 have:=foldr_max (List.mem_map_of_mem (f:=Dt.dep) h)
 rw [Dt.dep]
 omega
inductive spAlikeI (n:Nat) (vs:List V) (H:Hp) (Q:VK):Prop
 | mk (u v:V) (d:Dt) (h1:vs=[u,v]) (h2:d.dep < n) (h3:Den H u d) (h4:Den H v d) (h5:∀ H',Same H H'→Q (.bl true) H'):spAlikeI n vs H Q
def spAlike (n:Nat):Sp:=fun vs H Q u3_=>spAlikeI n vs H Q
theorem kit_tt (K:PySem.W.Frag) (t:String) (b1 b2 b:Bool) (h1:PySem.W.kitOne K (.type t) (.type "list")=some b1) (h2:PySem.W.kitOne K (.type t) (.type "tuple")=some b2) (hb:(b1 || b2)=b):PySem.W.kitAny K (.type t) [.type "list",.type "tuple"]=some b:=by
 unfold PySem.W.kitAny
 rw [h1]
 cases b1 with
 | true=>subst hb; rfl
 | false=>
  show PySem.W.kitAny K (.type t) [.type "tuple"]=_
  unfold PySem.W.kitAny
  rw [h2]
  cases b2 <;> subst hb <;> rfl
theorem kit_n_l (K:PySem.W.Frag):PySem.W.kitOne K (.type "NoneType") (.type "list")=some false:=by kernel_rfl
theorem kit_n_t (K:PySem.W.Frag):PySem.W.kitOne K (.type "NoneType") (.type "tuple")=some false:=by kernel_rfl
theorem kit_n_b (K:PySem.W.Frag):PySem.W.kitOne K (.type "NoneType") (.type "bool")=some false:=by kernel_rfl
theorem kit_b_l (K:PySem.W.Frag):PySem.W.kitOne K (.type "bool") (.type "list")=some false:=by kernel_rfl
theorem kit_b_t (K:PySem.W.Frag):PySem.W.kitOne K (.type "bool") (.type "tuple")=some false:=by kernel_rfl
theorem kit_b_b (K:PySem.W.Frag):PySem.W.kitOne K (.type "bool") (.type "bool")=some true:=by kernel_rfl
theorem kit_i_l (K:PySem.W.Frag):PySem.W.kitOne K (.type "int") (.type "list")=some false:=by kernel_rfl
theorem kit_i_t (K:PySem.W.Frag):PySem.W.kitOne K (.type "int") (.type "tuple")=some false:=by kernel_rfl
theorem kit_i_b (K:PySem.W.Frag):PySem.W.kitOne K (.type "int") (.type "bool")=some false:=by kernel_rfl
theorem kit_s_l (K:PySem.W.Frag):PySem.W.kitOne K (.type "str") (.type "list")=some false:=by kernel_rfl
theorem kit_s_t (K:PySem.W.Frag):PySem.W.kitOne K (.type "str") (.type "tuple")=some false:=by kernel_rfl
theorem kit_s_b (K:PySem.W.Frag):PySem.W.kitOne K (.type "str") (.type "bool")=some false:=by kernel_rfl
theorem kit_l_l (K:PySem.W.Frag):PySem.W.kitOne K (.type "list") (.type "list")=some true:=by kernel_rfl
theorem kit_l_t (K:PySem.W.Frag):PySem.W.kitOne K (.type "list") (.type "tuple")=some false:=by kernel_rfl
theorem kit_t_l (K:PySem.W.Frag):PySem.W.kitOne K (.type "tuple") (.type "list")=some false:=by kernel_rfl
theorem kit_t_t (K:PySem.W.Frag):PySem.W.kitOne K (.type "tuple") (.type "tuple")=some true:=by kernel_rfl
end L2
namespace L2
open PySem PySem.Spec PyProof.Rows
section
variable {X:Cx} {tg:Expr}
end
def tTru (K:PySem.W.Frag) (ta:TE):TT:=fun σ H Q=>ta σ H fun x H'=>∃ k,TruV K x H' k∧Q k H'
theorem pt_truthK {X:Cx} {K:PySem.W.Frag} {a:Expr} {ta:TE} (ha:PE X a ta) (he:∀ whole,isTrue a X.env whole=(do let v ← whole; standAt a.pos; holding [v] (truthy v))) (hK:X.K=K:=by rfl):PT X a (tTru K ta):=by
 subst hK
 exact pt_truth ha he
end L2
namespace L2
open PySem PySem.Spec PyProof.Rows
def EntS (w:World) (e:Int × Value):Prop:=∃ y u,e=(hashStr w y,Value.str y u)
def keyS (e:Int × Value):Str:=strOf e.2
def SetTx (w:World) (o:Obj) (D:List Str) (n:Nat):Prop:=
 ∃ (es:Array (Int × Value)) (ep:Nat) (t:SetTable),o = { cls:=.type "set",dict:=none,data:=.set es ep t }∧(∀ e∈es.toList,EntS w e)∧
  (es.toList.map keyS).Nodup∧(∀ y,y∈es.toList.map keyS↔y∈D)∧es.size≤n∧t.fits es.size=true∧t.led = !w.params.followText "set-order"∧(es.size=0∨t.plain=false)
theorem lay_marks (t:SetTable) (es:Array (Int × Value)) (h:Int) (x:Value):(layNew t es h x).2.1.led=t.led∧(t.plain=false→(layNew t es h x).2.1.plain=false):=by
 unfold layNew
 split
 ·dsimp only
  unfold SetTable.orStandIn
  split
  ·exact ⟨rfl,fun z=>z⟩
  ·exact ⟨rfl,fun _=>rfl⟩
 ·exact ⟨rfl,fun _=>rfl⟩
theorem relay_marks (t:SetTable) (es:Array (Int × Value)) (n:Nat):(relayAll t es n).2.1.led=t.led∧(t.plain=false→(relayAll t es n).2.1.plain=false):=by
 unfold relayAll
 split
 ·rename_i t' order hr
  dsimp only
  split
  ·unfold SetTable.relaid SetTable.laid at hr
   cases hl:SetTable.layClean (SetTable.sizeAbove n - 1) (es.map (·.1)) with
   | none=>rw [hl] at hr; cases hr
   | some ow=>
    rw [hl] at hr
    have e:=Option.some.inj hr
    have e1:t'.led=t.led:=by rw [← (Prod.mk.inj e).1]
    have e2:t'.plain=t.plain:=by rw [← (Prod.mk.inj e).1]
    exact ⟨e1,fun z=>e2.trans z⟩
  ·exact ⟨rfl,fun _=>rfl⟩
 ·exact ⟨rfl,fun _=>rfl⟩
section
variable {P:Program} {w:World} {A:Around} {E:Value→Shared→Prop} {s:Shared}
theorem elems_of {es:List (Int × Value)} (h:∀ e∈es,EntS w e):ElemsOf (strKind P w) es:=fun e he=>by
 obtain ⟨y,u,rfl⟩:=h e he
 exact ⟨⟨y,by show Value.isStrOf y (.str y u)=true; simp [Value.isStrOf],rfl⟩,rfl⟩
theorem store_text {a:Addr} {es es':Array (Int × Value)} {ep:Nat} {t t':SetTable} {Q:Unit→Shared→Prop} (ho:s.heap.get? a=some { cls:=.type "set",dict:=none,data:=.set es ep t }) (hz:es'.size≤4096)
  (h:∀ h',Heap.SameBut a s.heap h'→h'.get? a=some { cls:=.type "set",dict:=none,data:=.set es' (ep+1) t' }→Q () { s with heap:=h' }):wpAny (model P w) A (storeSet a es' t') Q E s:=by
 refine wpAny_storeSet_of ho rfl (h _ (Heap.SameBut.update _ _ _) ?_) (Nat.le_trans hz (by rw [sizeLine_eq]; omega))
 have e:=Heap.get?_update_self (Obj.putSet es' t') ho (by rw [putSet_of es' t' rfl]; rfl)
 rw [putSet_of es' t' rfl] at e
 exact e
theorem tail_text {g:Bool→Sem Unit} (hg:∀ (b:Bool) (s₁:Shared) (Q':Unit→Shared→Prop),Q' () s₁→wpAny (model P w) A (g b) Q' E s₁) {a:Addr} {es es1:Array (Int × Value)} {ep:Nat} {t t2:SetTable}
  (ho:s.heap.get? a=some { cls:=.type "set",dict:=none,data:=.set es ep t }) (hz:es1.size≤4096) (hf:t2.fits es1.size=true) {wd:Bool} {R:Option Bool→Shared→Prop}
  (h:∀ h' es2 ep2 t3,Heap.SameBut a s.heap h'→h'.get? a=some { cls:=.type "set",dict:=none,data:=.set es2 ep2 t3 }→es2.toList.Perm es1.toList→t3.fits es2.size=true→t3.led=t2.led→(t2.plain=false→t3.plain=false)→
   R (some true) { s with heap:=h' }) :
  wpAny (model P w) A (do
   storeSet a es1 t2
   if (!wd && t2.tooFull)=true then do
    g (relayAll t2 es1 (SetTable.grown es1.size)).2.2
    storeSet a (relayAll t2 es1 (SetTable.grown es1.size)).1
     (relayAll t2 es1 (SetTable.grown es1.size)).2.1
    pure (some true)
   else pure (some true)) R E s:=by
 refine wpAny_bind (store_text ho hz fun h1 sb1 e1=>?_)
 split
 ·have hp:=relayAll_perm t2 es1 (SetTable.grown es1.size)
  have hfr:=relayAll_fits t2 es1 (SetTable.grown es1.size)
  have hmk:=relay_marks t2 es1 (SetTable.grown es1.size)
  generalize hRl:relayAll t2 es1 (SetTable.grown es1.size)=Rl at hp hfr hmk ⊢
  obtain ⟨es2,t3,gv⟩:=Rl
  dsimp only at hp hfr hmk ⊢
  have hsz:es2.size=es1.size:=by rw [← Array.length_toList,hp.length_eq,Array.length_toList]
  refine wpAny_bind (hg _ _ _ ?_)
  refine wpAny_bind (store_text (s:={ s with heap:=h1 }) e1 (by rw [hsz]; exact hz) fun h2 sb2 e2=>?_)
  exact wpAny_pure (h h2 _ _ _ (sb1.trans sb2) e2 hp hfr hmk.1 hmk.2)
 ·exact wpAny_pure (h h1 _ _ _ sb1 e1 (List.Perm.refl _) hf rfl fun z=>z)
theorem key_is {es:List (Int × Value)} (h:∀ e∈es,EntS w e) {e:Int × Value} (he:e∈es) (y:Str):(strKind P w).is y e.2=true↔keyS e=y:=by
 obtain ⟨z,u,rfl⟩:=h e he
 show Value.isStrOf y (.str z u)=true↔z=y
 simp only [Value.isStrOf,beq_iff_eq]
theorem add_text {a:Addr} {o:Obj} {D:List Str} {n:Nat} {Q:Bool→Shared→Prop} (ho:s.heap.get? a=some o) (hS:SetTx w o D n) (hb:n+1 < 4096) (y:Str) (u:Tok)
  (h:∀ b h' o',Heap.SameBut a s.heap h'→h'.get? a=some o'→SetTx w o' (D ++ [y]) (n+1)→Q b { s with heap:=h' }):wpAny (model P w) A (setAddHashed a (.str y u) (hashStr w y)) Q E s:=by
 obtain ⟨es,ep,t,rfl,hen,hnd,hmem,hsz,hf,hled,hpl⟩:=hS
 have hel:ElemsOf (strKind P w) es.toList:=elems_of hen
 have hbs:es.size < scanBound:=by show es.size < 4096; omega
 have hkey:(strKind P w).is y (.str y u)=true:=by show Value.isStrOf y (.str y u)=true; simp [Value.isStrOf]
 unfold setAddHashed setAddHashedIn
 refine wpAny_holding (wpAny_bind (wpAny_setState_of ho rfl hf ?_))
 dsimp only
 rw [byScan_of (knd:=strKind P w) (x:=.str y u) rfl hbs hel]
 simp only [↓reduceIte]
 unfold setAddByScan
 refine wpAny_bind (wpAny_bind (wpAny_rule (wpAny_bind ?_)))
 refine wpAny_setScan_of (knd:=strKind P w) (k:=y) hkey ho rfl hf hel ?_
 have hfi:∀ r,es.toList.findIdx? (fun e=>(strKind P w).is y e.2)=r→r.isSome=decide (y∈es.toList.map keyS):=fun r hr=>by
  subst hr
  rw [Bool.eq_iff_iff,decide_eq_true_eq,List.findIdx?_isSome,List.any_eq_true,List.mem_map]
  exact ⟨fun ⟨e,he,z⟩=>⟨e,he,(key_is (P:=P) hen he y).mp z⟩,fun ⟨e,he,z⟩=>⟨e,he,(key_is (P:=P) hen he y).mpr z⟩⟩
 cases hr:es.toList.findIdx? (fun e=>(strKind P w).is y e.2) with
 | some j=>
  have hin:y∈es.toList.map keyS:=of_decide_eq_true (hfi _ hr).symm
  dsimp only
  refine wpAny_pure (wpAny_pure ?_)
  refine h _ s.heap _ (Heap.SameBut.refl a s.heap) ho ⟨es,ep,t,rfl,hen,hnd,fun z=>?_,by omega,hf,hled,hpl⟩
  rw [hmem z,List.mem_append,List.mem_singleton]
  exact ⟨.inl,fun z=>z.elim id fun e=>e▸(hmem y).mp hin⟩
 | none=>
  have hout:y∉es.toList.map keyS:=fun z=>by
   have:=hfi _ hr
   rw [decide_eq_true z] at this
   cases this
  dsimp only
  have hperm:=layNew_perm t es (hashStr w y) (.str y u)
  have hfits:=layNew_fits t es (hashStr w y) (.str y u)
  have hmk:=lay_marks t es (hashStr w y) (.str y u)
  show wpAny (model P w) A (_ >>= _) _ _ _
  have eh:(strKind P w).hash y=hashStr w y:=rfl
  generalize hL:layNew t es (hashStr w y) (.str y u)=L at hperm hfits hmk ⊢
  obtain ⟨es1,t1,wd,gv⟩:=L
  dsimp only at hperm hfits hmk ⊢
  rw [Array.toList_push] at hperm
  have hsz1:es1.size=es.size+1:=by rw [← Array.length_toList,hperm.length_eq,List.length_append,Array.length_toList]; rfl
  have hgw:∀ (b:Bool) (s₁:Shared) (Q':Unit→Shared→Prop),Q' () s₁→wpAny (model P w) A (match b with | true=>rule "set.scan.the-table-gave-way" | false=>pure ()) Q' E s₁:=
   fun b s₁ Q' hq=>by cases b <;> first | exact wpAny_pure hq | exact wpAny_rule hq
  have fin:∀ t2:SetTable,t2.led=t1.led→t2.plain=false→t2.fits es1.size=true→∀ h' es2 ep2 t3,Heap.SameBut a s.heap h'→h'.get? a=some { cls:=.type "set",dict:=none,data:=.set es2 ep2 t3 }→es2.toList.Perm es1.toList→
    t3.fits es2.size=true→t3.led=t2.led→(t2.plain=false→t3.plain=false)→Q true { s with heap:=h' }:=fun t2 l2 p2 _ h' es2 ep2 t3 sb e2 hp f3 l3 p3=>by
   have pm:es2.toList.Perm (es.toList ++ [(hashStr w y,.str y u)]):=hp.trans hperm
   have pk:(es2.toList.map keyS).Perm (es.toList.map keyS ++ [y]):=by
    have:=pm.map keyS
    rw [List.map_append] at this
    exact this
   refine h _ h' _ sb e2 ⟨es2,ep2,t3,rfl,fun e he=>?_,?_,fun z=>?_,?_,f3,?_,.inr (p3 p2)⟩
   ·rcases List.mem_append.mp (pm.mem_iff.mp he) with z | z
    ·exact hen e z
    ·exact ⟨y,u,List.mem_singleton.mp z⟩
   ·refine pk.nodup_iff.mpr (List.nodup_append.mpr ⟨hnd,by simp,fun a ha b hb=>?_⟩)
    rw [List.mem_singleton.mp hb]
    exact fun z=>hout (z▸ha)
   ·rw [pk.mem_iff,List.mem_append,List.mem_append,hmem z]
   ·have:es2.size=es1.size:=by rw [← Array.length_toList,hp.length_eq,Array.length_toList]
    omega
   ·rw [l3,l2,hmk.1,hled]
  refine wpAny_bind (hgw _ _ _ ?_)
  split
  ·refine wpAny_bind ?_
   rw [hashByValue_scannable 8 (x:=.str y u) rfl]
   refine wpAny_pure ?_
   refine tail_text hgw ho (by omega) (t2:={ t1 with plain:=false }) (SetTable.fits_plain_off hfits) fun h' es2 ep2 t3 sb e2 hp f3 l3 p3=>?_
   dsimp only
   exact wpAny_pure (fin { t1 with plain:=false } rfl rfl (SetTable.fits_plain_off hfits) h' es2 ep2 t3 sb e2 hp f3 l3 p3)
  ·rename_i hnp
   refine wpAny_bind (wpAny_pure ?_)
   simp only [↓reduceIte]
   refine tail_text hgw ho (by omega) hfits fun h' es2 ep2 t3 sb e2 hp f3 l3 p3=>?_
   dsimp only
   exact wpAny_pure (fin t1 rfl (by simpa using hnp) hfits h' es2 ep2 t3 sb e2 hp f3 l3 p3)
theorem loop_text {R:Result→Shared→Prop} {I:Addr} {fp wr:List Addr} {G:Array GenState→Array GenState→Prop} {x:Str} {St:Nat→Shared→Prop} (W:WalksS P w A.in1 I fp wr G x.cps.size (SignAt x) St) (S:Addr) (hSf:S∉fp)
  (hb:x.cps.size+1 < 4096):∀ (k i:Nat) (s:Shared) (o:Obj),x.cps.size - i=k→i≤x.cps.size→St i s→s.heap.get? S=some o→SetTx w o ((x.cps.toList.take i).map fun c=>⟨#[c]⟩) i→
   (∀ s' o',Moved (S :: wr) G s s'→s'.heap.get? S=some o'→SetTx w o' (x.cps.toList.map fun c=>⟨#[c]⟩) x.cps.size→R (.ok (.ret .none)) s')→
   codeAny (model P w) A (.builtin "set.update.loop" ⟨[.ref S,.ref I],[]⟩) R s:=by
 have hSw:S∉wr:=fun h=>hSf (W.sub _ h)
 have hsub:∀ b∈wr,b∈S :: wr:=fun b hb=>List.mem_cons_of_mem _ hb
 intro k
 induction k with
 | zero=>
  intro i s o hk hi hst ho hS hR
  have hin:i=x.cps.size:=by omega
  subst hin
  refine codeAny_builtin PyProof.Rows.F.entry_set_update_loop ?_
  rw [Around.under_plainId PyProof.Rows.F.plain_set_update_loop _]
  show wpAny _ A.in1 (pyNext (.ref I) >>= _) _ _ s
  refine wpAny_bind (W.done s _ _ hst fun s' hm=>wpAny_pure (hR s' o (hm.mono hsub) (hm.heap S _ hSw ho) ?_))
  rw [List.take_of_length_le (by simp)] at hS
  exact hS
 | succ k ih=>
  intro i s o hk hi hst ho hS hR
  have hlt:i < x.cps.size:=by omega
  refine codeAny_builtin PyProof.Rows.F.entry_set_update_loop ?_
  rw [Around.under_plainId PyProof.Rows.F.plain_set_update_loop _]
  show wpAny _ A.in1 (pyNext (.ref I) >>= _) _ _ s
  refine wpAny_bind (W.item i s _ _ hlt hst fun v s' hP hst' hm=>?_)
  obtain ⟨c,u,hc,rfl⟩:=hP
  show wpAny _ A.in1 (holding [Value.str ⟨#[c]⟩ u] (setAdd S (.str ⟨#[c]⟩ u)) >>= _) _ _ s'
  unfold setAdd
  refine wpAny_bind (wpAny_holding (wpAny_holding (wpAny_bind ?_)))
  refine (PySem.strKind P w).pyHash (k:=⟨#[c]⟩) (by show Value.isStrOf ⟨#[c]⟩ (.str ⟨#[c]⟩ u)=true; simp [Value.isStrOf]) ?_
  refine add_text (s:={ s' with toks:=s'.toks+1 }) (hm.heap S _ hSw ho) hS (by omega) ⟨#[c]⟩ u fun _ h' o' hsb e2 hS2=>?_
  have hS3:SetTx w o' ((x.cps.toList.take (i+1)).map fun c=>⟨#[c]⟩) (i+1):=by
   have e:x.cps.toList.take (i+1)=x.cps.toList.take i ++ [c]:=by
    rw [List.take_succ,Array.getElem?_toList,hc]
    rfl
   rw [e,List.map_append]
   exact hS2
  refine wpAny_pure ⟨plainId_quiet PyProof.Rows.F.plain_set_update_loop _,ih (i+1) _ o' (by omega) hlt (W.frame _ s' _ _ hst' (Nat.le_succ _) fun b hb o e=>?_) e2 hS3 fun s'' o'' hm'' e'' hS''=>?_⟩
  ·exact (hsb.2 b (fun z:b=S=>hSf (z▸hb))).trans e
  ·exact hR s'' o'' (Moved.trans W.gtrans ((hm.mono hsub).then_heap (Nat.le_succ _) fun b o hb e=>(hsb.2 b (fun z:b=S=>hb (by rw [z]; exact List.mem_cons_self))).trans e) hm'') e'' hS''
def newSetObj (w:World):Obj:={ cls:=.type "set",dict:=none,data:=.set #[] 0 (.fresh 0 0 (!w.params.followText "set-order")) }
theorem new_text (v:Value) {Q₁:Value→Shared→Prop} (h:Q₁ (.ref s.heap.objs.size) { s with heap:=s.heap.push (newSetObj w) }):codeAny (model P w) A (.call (.builtin "set.__new__") ⟨[.type "set",v],[]⟩) (wants Q₁ E) s:=by
 refine codeAny_of_tree ?_
 show wpAny _ A.in1 (do checkBuiltinCall "set.__new__" ⟨[.type "set",v],[]⟩; again (.builtin "set.__new__" ⟨[.type "set",v],[]⟩)) _ _ s
 refine wpAny_bind (wpAny_of_eq (PySem.F.newCall_set_1 v) (wpAny_pure ⟨plainId_quiet PySem.F.plain_set_new _,codeAny_builtin PySem.F.entry_set_new ?_⟩))
 rw [Around.under_plainId PySem.F.plain_set_new _]
 unfold Builtin.«set.__new__» Builtin.Frozenset.newClass
 have hsub:=PySem.sub_set_self
 obtain ⟨hp,g,d,tk,os⟩:=s
 dsimp only
 wp_walk
 refine wpAny_askSetting (wpAny_pure ?_)
 dsimp only
 simp only [newObj]
 exact wpAny_bind (wpAny_alloc (wpAny_pure (wpAny_pure h)))
theorem sub_str_set:isSubtype (.type "str") (.type "set")=pure false:=by rw [isSubtype_type]; kernel_rfl
theorem sub_str_frozenset:isSubtype (.type "str") (.type "frozenset")=pure false:=by rw [isSubtype_type]; kernel_rfl
theorem newTx (w:World):SetTx w (newSetObj w) [] 0:=
 ⟨#[],0,_,rfl,fun e he=>by simp at he,by simp,fun y=>by simp,Nat.le_refl _,rfl,rfl,.inl rfl⟩
set_option maxHeartbeats 3200000 in
theorem call_set_text {Q:Value→Shared→Prop} (hh:A.handled=none) (x:Str) (t:Tok) (hb:x.cps.size+1 < 4096)
  (hQ:∀ h' tk o,(∀ b o,s.heap.get? b=some o→h'.get? b=some o)→h'.get? s.heap.objs.size=some o→SetTx w o (x.cps.toList.map fun c=>⟨#[c]⟩) x.cps.size→Q (.ref s.heap.objs.size) { s with heap:=h',toks:=tk }) :
  wpAny (model P w) A (call (.type "set") [.str x t]) Q E s:=by
 obtain ⟨c,tl,hmro⟩:=PySem.F.called_set.mro
 have hmade:=PySem.F.called_set.made
 have hsub:=PySem.F.called_set.sub
 refine wpAny_call (codeAny_of_tree ?_)
 show wpAny _ _ (callAny (.type "set") _) _ _ _
 refine wpAny_pure ⟨Code.quiet_builtin _ (by decide +kernel),codeAny_builtin PySem.F.entry_type_call ?_⟩
 rw [Around.under_plain (weight_type_call_type "set" [.str x t] []) rfl]
 have h1:=PySem.F.called_set.notType
 have h2:=PySem.F.called_set.canCreate
 have hct:=PySem.F.typeCall_set_1 (.str x t)
 repeat (any_goals (first | assumption | wp_step))
 refine codeAny_mono (new_text (.str x t) (E:=E) (Q₁:=fun obj s₁=>obj=.ref s.heap.objs.size∧s₁ = { s with heap:=s.heap.push (newSetObj w) }) ⟨rfl,rfl⟩) fun r s₁ hr=>?_
 cases r with
 | error e=>exact hr
 | ok fl=>
  cases fl with
  | ret obj=>
   obtain ⟨rfl,rfl⟩:=hr
   have hS:(s.heap.push (newSetObj w)).get? s.heap.objs.size=some (newSetObj w):=Heap.get?_push_size _ rfl
   have hT:Shared.TypeIs { s with heap:=s.heap.push (newSetObj w) } (.ref s.heap.objs.size) "set":=⟨_,hS,rfl⟩
   have hli:=PySem.F.called_set.init.lookup
   have hbi:=PySem.F.called_set.init.bind (.ref s.heap.objs.size)
   repeat (any_goals (first | assumption | wp_step))
   refine codeAny_mono (codeAny_call_builtin (R:=wants (fun r s₂=>r=.none∧∃ h' tk o,s₂ = { s with heap:=h',toks:=tk }∧(∀ b o,s.heap.get? b=some o→h'.get? b=some o)∧h'.get? s.heap.objs.size=some o∧
    SetTx w o (x.cps.toList.map fun c=>⟨#[c]⟩) x.cps.size) E) PySem.F.called_set.init.plain PySem.F.entry_set_init (check_set_init_1 hT ?_)) fun r₂ s₂ hr₂=>?_
   ·have hsls:=sub_str_set
    have hslf:=sub_str_frozenset
    have hne:(Value.type "str" == Value.type "dict")=false:=by decide
    have hS':(s.heap.push (newSetObj w)).get? s.heap.objs.size=some { cls:=.type "set",dict:=none,data:=.set #[] 0 (.fresh 0 0 (!w.params.followText "set-order")) }:=hS
    unfold Builtin.«set.__init__» noKeywords Builtin.Frozenset.updateFrom
    generalize hPI:pyIter=PI
    wp_walk
    subst hPI
    refine wpAny_pyIter_str fun oI St W hst=>wpAny_bind (wpAny_runValue ?_)
    have hSf:s.heap.objs.size∉[(s.heap.push (newSetObj w)).objs.size]:=by
     rw [Heap.size_push,List.mem_singleton]
     exact Nat.ne_of_lt (Nat.lt_succ_self _)
    refine loop_text (W _ (by simp [hh])).toS s.heap.objs.size hSf hb (x.cps.size - 0) 0 _ (newSetObj w) (by omega) (Nat.zero_le _) hst (Heap.get?_push_of_some _ hS) (newTx w) fun s' o' hm e' hS2=>?_
    obtain ⟨h',g',d',tk',os'⟩:=s'
    have eg:g'=s.gens:=hm.gens
    have ed:d'=s.drawn:=hm.drawn
    have eo:os'=s.os:=hm.os
    subst eg; subst ed; subst eo
    show wpAny _ _ _ _ _ _
    refine wpAny_pure (wpAny_pure ⟨rfl,h',tk',o',rfl,fun b o e=>?_,e',hS2⟩)
    have lt:=Heap.lt_size e
    refine hm.heap b o (fun z=>?_) (Heap.get?_push_of_some _ (Heap.get?_push_of_some _ e))
    rcases List.mem_cons.mp z with z | z
    ·exact Nat.lt_irrefl _ (z▸lt)
    ·have z2:=List.mem_singleton.mp z
     rw [Heap.size_push] at z2
     have:=z2▸lt
     exact Nat.lt_irrefl _ (Nat.lt_of_succ_lt this)
   ·cases r₂ with
    | error e=>exact hr₂
    | ok fl₂=>
     cases fl₂ with
     | ret r=>
      obtain ⟨rfl,h',tk,o,rfl,hk',e',hS'⟩:=hr₂
      repeat (any_goals (first | assumption | wp_step))
      exact hQ h' tk o hk' e' hS'
     | _=>exact hr₂.elim
  | _=>exact hr.elim
end
end L2
namespace L2
open PySem PySem.Spec PyProof.Rows
theorem slot_si_next:Slot "set_iterator" "__next__" "set_iterator.__next__":=
 .of (owner:="set_iterator") (n:="__next__") (by rw [typeLookup_type,builtinLookup_eq_fast]; kernel_rfl) (by decide +kernel) (by decide +kernel) (by decide +kernel) (by first | exact .inl (by decide +kernel) | exact .inr (by decide +kernel)) (by rw [isSubtype_type]; kernel_rfl)
theorem slot_si_iter:Slot "set_iterator" "__iter__" "set_iterator.__iter__":=
 .of (owner:="set_iterator") (n:="__iter__") (by rw [typeLookup_type,builtinLookup_eq_fast]; kernel_rfl) (by decide +kernel) (by decide +kernel) (by decide +kernel) (by first | exact .inl (by decide +kernel) | exact .inr (by decide +kernel)) (by rw [isSubtype_type]; kernel_rfl)
theorem entry_si_next:entryFor table "set_iterator.__next__" = some Builtin.«set_iterator.__next__»:=entryFor_of_tree (by kernel_rfl)
theorem args_si_next (a:Value):argsOk "set_iterator.__next__" ⟨[a],[]⟩:=by unfold argsOk; kernel_rfl
theorem args_si_iter (a:Value):argsOk "set_iterator.__iter__" ⟨[a],[]⟩:=by unfold argsOk; kernel_rfl
theorem entry_set_iter:entryFor table "set.__iter__" = some Builtin.«frozenset.__iter__»:=
 entryFor_alias (id':="frozenset.__iter__") (by kernel_rfl) rfl (by decide +kernel) (by kernel_rfl)
theorem erase_permI {α:Type}:∀ (l:List α) (i:Nat) (h:i < l.length),(l[i] :: l.eraseIdx i).Perm l
 | x :: l,0,h=>List.Perm.refl _
 | x :: l,i+1,h=>by
  have:=erase_permI l i (by simpa using h)
  exact (List.Perm.swap _ _ _).trans (List.Perm.cons x this)
theorem pick_go {α:Type} (next:Nat→Nat):∀ (fuel k:Nat) (left:List α) (out:Array α),left.length=fuel→(pickOrder.go next fuel k left out).toList.Perm (out.toList ++ left)
 | 0,k,left,out,h=>by
  rw [List.eq_nil_of_length_eq_zero h,List.append_nil]
  exact List.Perm.refl _
 | fuel+1,k,left,out,h=>by
  have hlt:next k % left.length < left.length:=Nat.mod_lt _ (by omega)
  unfold pickOrder.go
  rw [List.getElem?_eq_getElem hlt]
  dsimp only
  refine (pick_go next fuel (k+1) _ _ (by rw [List.length_eraseIdx,if_pos hlt]; omega)).trans ?_
  rw [Array.toList_push,List.append_assoc]
  refine List.Perm.append_left _ ?_
  exact (erase_permI _ _ hlt)
theorem pick_perm {α:Type} (next:Nat→Nat) (xs:Array α):(pickOrder next xs).toList.Perm xs.toList:=by
 have:=pick_go next xs.size 0 xs.toList #[] (by simp)
 rw [show (#[]:Array α).toList=[] from rfl,List.nil_append] at this
 exact this
section
variable {P:Program} {w:World} {A:Around} {E:Value→Shared→Prop} {s:Shared}
theorem draw_any {α:Type}:∀ (n:Nat) (xs:List α) {s:Shared} {Q:List α→Shared→Prop},xs.length=n→(∀ ps d',ps.Perm xs→Q ps { s with drawn:=d' })→wpAny (model P w) A (drawOrder n xs) Q E s
 | 0,xs,s,Q,h,hq=>by
  rw [List.eq_nil_of_length_eq_zero h] at hq ⊢
  exact wpAny_pure (hq [] s.drawn (List.Perm.refl _))
 | n+1,[],s,Q,h,hq=>by cases h
 | n+1,x :: xs,s,Q,h,hq=>by
  unfold drawOrder
  refine wpAny_bind ?_
  intro Γ p hΓ
  show Sem.wp _ _ (Sem.choose .order (x :: xs).length Sem.pure) _ _ _ _
  rw [Sem.wp_choose]
  refine ⟨by simp,?_⟩
  have hlt:=Nat.mod_lt ((model P w).w.draws .order (s.drawn.get .order)) (show 0 < (x :: xs).length by simp)
  generalize ((model P w).w.draws .order (s.drawn.get .order)) % (x :: xs).length=i at hlt
  rw [Sem.wp_pure]
  refine (show wpAny (model P w) A (match (x :: xs)[i]? with | some y=>(do return y :: (← drawOrder n ((x :: xs).eraseIdx i))) | none=>unsupported "internal:drawOrder") Q E { s with drawn:=s.drawn.bump .order } from ?_)
  rw [List.getElem?_eq_getElem hlt]
  dsimp only
  refine wpAny_bind (draw_any n _ (by rw [List.length_eraseIdx,if_pos hlt]; omega) fun ps d' hp=>wpAny_pure ?_)
  exact hq _ _ ((List.Perm.cons _ hp).trans (erase_permI _ _ hlt))
def setO (es:Array (Int × Value)) (ep:Nat) (t:SetTable):Obj:={ cls:=.type "set",dict:=none,data:=.set es ep t }
def itO (f:Value) (i:Nat) (S:Addr) (n ep:Nat):Obj:={ cls:=.type "set_iterator",data:=.fields #[f,.int i 0,.ref S,.int n 0,.int ep 0] }
def ItT (w:World) (I S T:Addr) (es:Array (Int × Value)) (ep:Nat) (t:SetTable) (vs:List Value) (i:Nat) (h:Heap):Prop:=
 h.get? S=some (setO es ep t)∧(
  (w.params.followText "set-order" = true∧vs=(pickOrder (w.params.setOrder S ep) es).toList.map (·.2)∧h.get? I=some (itO (.int 0 0) i S es.size ep))∨
  (w.params.followText "set-order" = false∧es.size≤1∧vs=es.toList.map (·.2)∧∃ k:Nat,h.get? I=some (itO (.int k 0) i S es.size ep)∧SetTable.below t.place k=i)∨
  (w.params.followText "set-order" = false∧∃ ps:List Nat,vs=ps.map (fun p=>((es[p]?).map (·.2)).getD .none)∧(∀ p∈ps,p < es.size)∧h.get? I=some (itO (.ref T) i S es.size ep)∧
   h.get? T=some { cls:=.type "tuple",data:=.seq (ps.map fun (p:Nat)=>Value.int p 0).toArray }))
theorem fields_step {a:Addr} {i:Nat} {f v:Value} {j:Nat} {S:Addr} {n ep:Nat} {Q:Unit→Shared→Prop} (ho:s.heap.get? a=some (itO f j S n ep)) (hi:i < 5)
  (h:∀ h',Heap.SameBut a s.heap h'→h'.get? a=some { cls:=.type "set_iterator",data:=.fields ((#[f,.int j 0,.ref S,.int n 0,.int ep 0]:Array Value).setIfInBounds i v) }→Q () { s with heap:=h' }) :
  wpAny (model P w) A (setField (.ref a) i v) Q E s:=
 wpAny_setField_rec (cls:=.type "set_iterator") (vs:=#[f,.int j 0,.ref S,.int n 0,.int ep 0]) ho hi fun h' e sb=>h h' sb e
theorem raise_stop {Q:Option Value→Shared→Prop} {Q0:Fin→Shared→Prop} (hh:A.handled=none) (hQ:∀ h',(∀ b o,s.heap.get? b=some o→h'.get? b=some o)→Q none { s with heap:=h' }) :
  wpAny (model P w) A (do raiseNew (← newExc (.type "StopIteration") [])) Q0 (fun e s'=>wpAny (model P w) A (do if ← isInstance e (.type "StopIteration") then pure none else throw e) Q E s') s:=by
 refine wpAny_bind ?_
 simp only [newExc,newTuple]
 refine wpAny_bind (wpAny_newObj_type ?_ (by size_fits))
 refine wpAny_bind (m:=firstArgMember _ _) (wpAny_of_eq (a:=Value.none) (by first | rfl | (simp only [firstArgMember]; rfl)) ?_)
 refine wpAny_newObj_type ?_ (by size_fits)
 simp only [raiseNew]
 refine wpAny_bind (wpAny_handled ?_)
 rw [hh]
 refine wpAny_bind (wpAny_pure (wpAny_throw ?_))
 refine wpAny_bind (wpAny_isInstance (T:="StopIteration") (b:=true) ⟨_,Heap.get?_push_size _ rfl,rfl⟩ isSubtype_stop ?_)
 exact wpAny_pure (hQ _ fun b o e=>Heap.get?_push_of_some _ (Heap.get?_push_of_some _ e))
theorem by_text {Q:Bool→Shared→Prop} (h:Q (w.params.followText "set-order") s):wpAny (model P w) A setsByText Q E s:=by
 unfold setsByText
 exact wpAny_bind (wpAny_askSetting (wpAny_pure h))
theorem turn_text {I S:Addr} {f v:Value} {i n ep nx:Nat} {Q:Option Value→Shared→Prop} {E0:Value→Shared→Prop} (hI:s.heap.get? I=some (itO f i S n ep))
  (hQ:∀ h',(∀ b,b≠I→h'.get? b=s.heap.get? b)→h'.get? I=some (itO (.int nx 0) (i+1) S n ep)→Q (some v) { s with heap:=h' }) :
  wpAny (model P w) A.in1 (do setField (.ref I) 0 (rawInt nx); setField (.ref I) 1 (rawInt (i+1)); ret v) (fun fin s'=>∃ v,fin=Fin.done (Flow.ret v)∧wpAny (model P w) A (pure (some v)) Q E s') E0 s:=by
 refine wpAny_bind (fields_step hI (by omega) fun h1 sb1 e1=>?_)
 refine wpAny_bind (fields_step (s:={ s with heap:=h1 }) (f:=.int nx 0) e1 (by omega) fun h2 sb2 e2=>?_)
 exact wpAny_pure ⟨v,rfl,wpAny_pure (hQ h2 (fun b hb=>(sb2.2 b hb).trans (sb1.2 b hb)) e2)⟩
theorem below_one {pl:Array Nat} {j:Nat} (h:pl.size=1) (e:pl[0]? = some j):SetTable.below pl (j+1)=1:=by
 obtain ⟨l⟩:=pl
 match l,h with
 | [z],_=>
  have:z=j:=by simpa using e
  subst this
  simp [SetTable.below,SetTable.below.go]
theorem below_zero (pl:Array Nat):SetTable.below pl 0=0:=by
 have:∀ fuel hi,SetTable.below.go pl 0 fuel 0 hi=0:=fun fuel=>by
  induction fuel with
  | zero=>intro hi; rfl
  | succ n ih=>
   intro hi
   unfold SetTable.below.go
   split
   ·dsimp only
    rw [if_neg (Nat.not_lt_zero _)]
    exact ih _
   ·rfl
 exact this _ _
theorem led_ok {Q:Unit→Shared→Prop} {t:SetTable} {es:Array (Int × Value)} (h:t.led=true) (q:Q () s):wpAny (model P w) A (if (!t.led && !es.isEmpty)=true then unsupported "set:maker-not-led" else pure ()) Q E s:=by
 rw [h]
 exact wpAny_pure q
theorem next_text {I S T:Addr} {es:Array (Int × Value)} {ep:Nat} {t:SetTable} {vs:List Value} {i:Nat} {Q:Option Value→Shared→Prop} (hIS:S≠I) (hIT:T≠I) (hst:ItT w I S T es ep t vs i s.heap) (hh:A.handled=none)
  (hf:t.fits es.size=true) (hled:t.led = !w.params.followText "set-order") (hi:i≤vs.length)
  (hQ:∀ v h',vs[i]? = some v→(∀ b,b≠I→h'.get? b=s.heap.get? b)→ItT w I S T es ep t vs (i+1) h'→Q (some v) { s with heap:=h' })
  (hN:vs[i]? = none→∀ h',(∀ b o,b≠I→s.heap.get? b=some o→h'.get? b=some o)→Q none { s with heap:=h' }):wpAny (model P w) A (pyNext (.ref I)) Q E s:=by
 obtain ⟨hS,hm⟩:=hst
 have hI:∃ f,s.heap.get? I=some (itO f i S es.size ep):=by
  rcases hm with ⟨_,_,e⟩ | ⟨_,_,_,k,e,_⟩ | ⟨_,ps,_,_,e,_⟩ <;> exact ⟨_,e⟩
 obtain ⟨f,hI⟩:=hI
 have hT:s.TypeIs (.ref I) "set_iterator":=⟨_,hI,rfl⟩
 have stop:∀ (s1:Shared) (Q0:Fin→Shared→Prop) (f1:Value),(∀ b o,b≠I→s.heap.get? b=some o→s1.heap.get? b=some o)→s1 = { s with heap:=s1.heap }→s1.heap.get? I=some (itO f1 i S es.size ep)→vs[i]? = none→
   wpAny (model P w) A.in1 (do setField (.ref I) 2 .none; raiseNew (← newExc (.type "StopIteration") [])) Q0 (fun e s'=>wpAny (model P w) A (do if ← isInstance e (.type "StopIteration") then pure none else throw e) Q E s') s1:=fun s1 Q0 f1 k e1 eI en=>by
  refine wpAny_bind (fields_step eI (by omega) fun h2 sb2 _=>?_)
  refine raise_stop (A:=A.in1) hh (s:={ s1 with heap:=h2 }) (Q:=Q) (fun h3 k3=>?_) |> fun z=>wpAny_mono z (fun _ _ q=>q) fun e s' q=>wpAny_of_in1 q
  have:=hN en h3 fun b o hb e=>k3 b o ((sb2.2 b hb).trans (k b o hb e))
  rw [e1]
  exact this
 have hpl:t.place.size=es.size:=by
  have:=hf
  simp only [SetTable.fits,Bool.and_eq_true,beq_iff_eq] at this
  exact this.1
 unfold pyNext
 refine wpAny_bind (wpAny_attempt (wpAny_callSpecial?_slot (name:=Str.ofString "__next__") hT slot_si_next (wpAny_call_entry slot_si_next hT entry_si_next ?_ (args_si_next _))))
 unfold Builtin.«set_iterator.__next__»
 refine wpAny_bind (m:=slotArgs "__next__" 0 _) (wpAny_pure (wpAny_bind ?_))
 refine wpAny_fieldsOf hI rfl ?_
 show wpAny (model P w) _ (do if ((← setEntries S).size:Int) != (es.size:Int) then _ else _) _ _ _
 refine wpAny_bind (wpAny_setEntries_of hS rfl hf ?_)
 rw [if_neg (by simp)]
 rcases hm with ⟨hb,rfl,hI'⟩ | ⟨hb,h1,rfl,k,hI',hk⟩ | ⟨hb,ps,rfl,hps,hI',hT'⟩
 ·cases hI.symm.trans hI'
  show wpAny (model P w) _ (setNext S 0 i ep >>= _) _ _ _
  unfold setNext
  refine wpAny_bind (wpAny_bind (wpAny_setState_of hS rfl hf ?_))
  refine wpAny_bind (by_text ?_)
  rw [hb]
  simp only [if_true]
  rw [if_neg (by simp)]
  refine wpAny_bind ?_
  unfold setWalk
  refine wpAny_bind (wpAny_setState_of hS rfl hf (wpAny_bind (by_text ?_)))
  rw [hb]
  simp only [if_true]
  refine wpAny_bind (wpAny_askSetting (wpAny_pure (wpAny_pure ?_)))
  show wpAny (model P w) A.in1 (match ((pickOrder (w.params.setOrder S ep) es)[i]?).map (fun e=>(e.2,0)) with | some (x,next)=>_ | none=>_) _ _ _
  cases hv:(pickOrder (w.params.setOrder S ep) es)[i]? with
  | none=>
   refine stop s _ _ (fun b o _ e=>e) rfl hI ?_
   rw [List.getElem?_map,Array.getElem?_toList,hv]
   rfl
  | some e=>
   have hv':((pickOrder (w.params.setOrder S ep) es).toList.map (·.2))[i]? = some e.2:=by
    rw [List.getElem?_map,Array.getElem?_toList,hv]
    rfl
   exact turn_text (nx:=0) hI fun h' k e1=>hQ _ h' hv' k ⟨(k S hIS).trans hS,.inl ⟨hb,rfl,e1⟩⟩
 ·cases hI.symm.trans hI'
  show wpAny (model P w) _ (setNext S k i ep >>= _) _ _ _
  unfold setNext
  refine wpAny_bind (wpAny_bind (wpAny_setState_of hS rfl hf ?_))
  refine wpAny_bind (by_text ?_)
  rw [hb]
  simp only [Bool.false_eq_true,if_false]
  refine wpAny_ite_split (fun hd=>?_) (fun _=>?_)
  ·have hd':(!t.plain && decide (es.size > 1))=true:=hd
   simp only [Bool.and_eq_true,decide_eq_true_eq] at hd'
   omega
  ·refine wpAny_bind (led_ok (by rw [hled,hb]; rfl) (wpAny_pure ?_))
   rw [hk]
   cases hv:es[i]? with
   | none=>
    refine stop s _ _ (fun b o _ e=>e) rfl hI ?_
    rw [List.getElem?_map,Array.getElem?_toList,hv]
    rfl
   | some e=>
    have hlt:i < es.size:=by
     rcases Nat.lt_or_ge i es.size with z | z
     ·exact z
     ·rw [Array.getElem?_eq_none z] at hv; cases hv
    have hi0:i=0:=by omega
    subst hi0
    have hv':(es.toList.map (·.2))[0]? = some e.2:=by
     rw [List.getElem?_map,Array.getElem?_toList,hv]
     rfl
    have hj:t.place[0]? = some (t.place[0]'(by omega)):=Array.getElem?_eq_getElem (by omega)
    rw [hj]
    obtain ⟨eh,ev⟩:=e
    exact turn_text (nx:=t.place[0]'(by omega)+1) hI fun h' k e1=>hQ _ h' hv' k ⟨(k S hIS).trans hS,.inr (.inl ⟨hb,h1,rfl,_,e1,below_one (by omega) hj⟩)⟩
 ·cases hI.symm.trans hI'
  show wpAny (model P w) A.in1 (seqItems? (.ref T) >>= _) _ _ _
  unfold seqItems?
  refine wpAny_bind (wpAny_bind (wpAny_load hT' (wpAny_pure ?_)))
  show wpAny (model P w) A.in1 (match ((ps.map fun (p:Nat)=>Value.int p 0).toArray)[i]? with | some (.int place _)=>_ | some _=>_ | none=>_) _ _ _
  cases hv:ps[i]? with
  | none=>
   have e0:((ps.map fun (p:Nat)=>Value.int p 0).toArray)[i]? = none:=by
    rw [List.getElem?_toArray,List.getElem?_map,hv]
    rfl
   rw [e0]
   refine wpAny_bind (fields_step hI (by omega) fun h1 sb1 e1=>?_)
   refine stop { s with heap:=h1 } _ (rawInt 0) (fun b o hb e=>(sb1.2 b hb).trans e) rfl e1 ?_
   rw [List.getElem?_map,hv]
   rfl
  | some p=>
   have e0:((ps.map fun (p:Nat)=>Value.int p 0).toArray)[i]? = some (Value.int p 0):=by
    rw [List.getElem?_toArray,List.getElem?_map,hv]
    rfl
   rw [e0]
   have hp:=hps p (List.mem_of_getElem? hv)
   have he:es[p]? = some es[p]:=Array.getElem?_eq_getElem hp
   show wpAny (model P w) A.in1 (setNextDrawn S p ep >>= _) _ _ _
   unfold setNextDrawn
   refine wpAny_bind (wpAny_bind (wpAny_setState_of hS rfl hf ?_))
   dsimp only
   rw [if_neg (by simp)]
   rw [he]
   generalize he2:es[p]=e2 at he
   obtain ⟨eh,ev⟩:=e2
   have hv':(ps.map fun p=>((es[p]?).map (·.2)).getD .none)[i]? = some ev:=by
    rw [List.getElem?_map,hv]
    show some (((es[p]?).map (·.2)).getD .none)=_
    rw [he]
    rfl
   refine wpAny_pure (wpAny_bind (fields_step hI (by omega) fun h1 sb1 e1=>?_))
   exact wpAny_pure ⟨ev,rfl,wpAny_pure (hQ ev h1 hv' (fun b hb=>sb1.2 b hb) ⟨(sb1.2 S hIS).trans hS,.inr (.inr ⟨hb,ps,rfl,hps,e1,(sb1.2 T hIT).trans hT'⟩)⟩)⟩
theorem iter_text {S:Addr} {es:Array (Int × Value)} {ep:Nat} {t:SetTable} {Q:Value→Shared→Prop} (hS:s.heap.get? S=some (setO es ep t)) (hf:t.fits es.size=true) (hp:es.size=0∨t.plain=false) (hz:es.size≤4096)
  (hQ:∀ I T vs h' d',(∀ b o,s.heap.get? b=some o→h'.get? b=some o)→s.heap.objs.size≤I→s.heap.objs.size≤T→T≠I→vs.Perm (es.toList.map (·.2))→ItT w I S T es ep t vs 0 h'→Q (.ref I) { s with heap:=h',drawn:=d' }) :
  wpAny (model P w) A (pyIter (.ref S)) Q E s:=by
 have hT:s.TypeIs (.ref S) "set":=⟨_,hS,rfl⟩
 refine wpAny_pyIter_slot hT PySem.F.slot_set_iter (wpAny_call_entry PySem.F.slot_set_iter hT entry_set_iter ?_ (PySem.F.args_set_iter_1 _))
 unfold Builtin.«frozenset.__iter__» Builtin.Frozenset.slot0
 refine wpAny_bind (wpAny_bind (m:=slotArgs "__iter__" 0 _) (wpAny_pure (wpAny_pure ?_)))
 unfold Builtin.Frozenset.sizeOf
 refine wpAny_bind (wpAny_bind (wpAny_setEntries_of hS rfl hf (wpAny_pure ?_)))
 refine wpAny_bind ?_
 unfold setDrawn
 refine wpAny_bind (wpAny_setState_of hS rfl hf (wpAny_bind (by_text (wpAny_pure ?_))))
 have fin:∀ (s1:Shared) (f:Value),s1.heap.get? S=some (setO es ep t)→(∀ h',(∀ b o,s1.heap.get? b=some o→h'.get? b=some o)→h'.get? s1.heap.objs.size=some (itO f 0 S es.size ep)→Q (.ref s1.heap.objs.size) { s1 with heap:=h' })→
   wpAny (model P w) A.in1 (do ret (← newFields "set_iterator" [f,rawInt 0,.ref S,rawInt es.size,rawInt (← setEpoch S)])) (fun fin s'=>∃ v,fin=.done (.ret v)∧∃ T' r,s'.TypeIs v T'∧typeLookup (.type T') "__next__" = pure (some r)∧Q v s') E s1:=fun s1 f e1 q=>by
  refine wpAny_bind (wpAny_setEpoch_of e1 rfl hf ?_)
  refine wpAny_bind (wpAny_newObj_type ?_ (by size_fits))
  refine wpAny_pure ⟨_,rfl,"set_iterator",_,⟨_,Heap.get?_push_size _ rfl,rfl⟩,slot_si_next.lookup,?_⟩
  exact q _ (fun b o e=>Heap.get?_push_of_some _ e) (Heap.get?_push_size _ rfl)
 have lt:=Heap.lt_size hS
 cases hb:w.params.followText "set-order" with
 | true=>
  dsimp only
  refine wpAny_ite_split (fun hd=>nomatch (show false=true from hd)) (fun _=>wpAny_bind (wpAny_pure ?_))
  refine fin s (rawInt 0) hS fun h' k e=>?_
  exact hQ _ (s.heap.objs.size+1) _ h' s.drawn k (Nat.le_refl _) (Nat.le_succ _) (Nat.succ_ne_self _) ((pick_perm _ es).map _) ⟨k _ _ hS,.inl ⟨hb,rfl,e⟩⟩
 | false=>
  by_cases h1:es.size≤1
  ·dsimp only
   refine wpAny_ite_split (fun hd=>?_) (fun _=>wpAny_bind (wpAny_pure ?_))
   ·have hd':(!t.plain && decide (es.size > 1))=true:=hd
    simp only [Bool.and_eq_true,decide_eq_true_eq] at hd'
    omega
   ·refine fin s (rawInt 0) hS fun h' k e=>?_
    exact hQ _ (s.heap.objs.size+1) _ h' s.drawn k (Nat.le_refl _) (Nat.le_succ _) (Nat.succ_ne_self _) (List.Perm.refl _) ⟨k _ _ hS,.inr (.inl ⟨hb,h1,rfl,0,e,below_zero _⟩)⟩
  ·dsimp only
   refine wpAny_ite_split (fun _=>?_) (fun hd=>absurd (show (!t.plain && decide (es.size > 1))=true from ?_) hd)
   ·refine wpAny_bind (draw_any es.size (List.range es.size) List.length_range fun ps d' hps=>?_)
    have hl:(ps.map fun (i:Nat)=>rawInt i).length=es.size:=by rw [List.length_map,hps.length_eq,List.length_range]
    refine wpAny_bind (wpAny_newTuple ?_ (by rw [hl,sizeLine_eq]; omega))
    have e1:(s.heap.push { cls:=.type "tuple",data:=.seq (ps.map fun (i:Nat)=>rawInt i).toArray }).get? S=some (setO es ep t):=Heap.get?_push_of_some _ hS
    refine fin _ (.ref s.heap.objs.size) e1 fun h' k e=>?_
    have sz:(s.heap.push { cls:=.type "tuple",data:=.seq (ps.map fun (i:Nat)=>rawInt i).toArray }).objs.size=s.heap.objs.size+1:=Heap.size_push _ _
    refine hQ _ s.heap.objs.size (ps.map fun p=>((es[p]?).map (·.2)).getD .none) h' d' (fun b o e=>k b o (Heap.get?_push_of_some _ e)) (by rw [sz]; exact Nat.le_succ _) (Nat.le_refl _) (by rw [sz]; exact Nat.ne_of_lt (Nat.lt_succ_self _)) ?_
     ⟨k _ _ e1,.inr (.inr ⟨hb,ps,rfl,fun p hp=>List.mem_range.mp (hps.mem_iff.mp hp),e,k _ _ (Heap.get?_push_size _ rfl)⟩)⟩
    refine (hps.map _).trans (List.Perm.of_eq ?_)
    refine List.ext_getElem (by simp) fun i h1 h2=>?_
    have hlt:i < es.size:=by simpa using h1
    simp [hlt]
   ·rcases hp with z | z
    ·omega
    ·rw [z]
     exact decide_eq_true (by omega)
theorem entry_si_iter:entryFor table "set_iterator.__iter__" = some Builtin.«dict_keyiterator.__iter__»:=
 entryFor_alias (id':="dict_keyiterator.__iter__") (by kernel_rfl) rfl (by decide +kernel) (by kernel_rfl)
theorem ItT.at {I S T:Addr} {es:Array (Int × Value)} {ep:Nat} {t:SetTable} {vs:List Value} {i:Nat} {h h':Heap} (x:ItT w I S T es ep t vs i h) (k:∀ b,b=I∨b=S∨b=T→∀ o,h.get? b=some o→h'.get? b=some o):ItT w I S T es ep t vs i h':=by
 obtain ⟨hS,hm⟩:=x
 refine ⟨k S (.inr (.inl rfl)) _ hS,?_⟩
 rcases hm with ⟨hb,e,hI⟩ | ⟨hb,h1,e,j,hI,hk⟩ | ⟨hb,ps,e,hps,hI,hT⟩
 ·exact .inl ⟨hb,e,k I (.inl rfl) _ hI⟩
 ·exact .inr (.inl ⟨hb,h1,e,j,k I (.inl rfl) _ hI,hk⟩)
 ·exact .inr (.inr ⟨hb,ps,e,hps,k I (.inl rfl) _ hI,k T (.inr (.inr rfl)) _ hT⟩)
theorem walks_text {I S T:Addr} {es:Array (Int × Value)} {ep:Nat} {t:SetTable} {vs:List Value} (hh:A.handled=none) (hIS:S≠I) (hIT:T≠I) (hf:t.fits es.size=true) (hled:t.led = !w.params.followText "set-order") :
  Walks P w A I [I,S,T] [I] vs.length (fun i v=>vs[i]? = some v) (fun i h=>ItT w I S T es ep t vs i h) where
 sub:=fun b hb=>by simp at hb; simp [hb]
 frame:=fun i h h' st k=>ItT.at st fun b hb o e=>k b (by rcases hb with z | z | z <;> simp [z]) o e
 item:=fun i s Q E hi st hQ=>next_text hIS hIT st hh hf hled (Nat.le_of_lt hi) (fun v h' hv k st'=>hQ v h' s.toks hv st' fun b o hb e=>(k b (fun z=>hb (by simp [z]))).trans e) fun hn=>by
  rw [List.getElem?_eq_getElem hi] at hn
  cases hn
 done:=fun s Q E st hQ=>next_text hIS hIT st hh hf hled (Nat.le_refl _) (fun v h' hv=>by simp at hv) fun _ h' k=>hQ h' s.toks fun b o hb e=>k b o (fun z=>hb (by simp [z])) e
 self:=fun i s Q E st h=>by
  have hI:∃ f,s.heap.get? I=some (itO f i S es.size ep):=by
   rcases st.2 with ⟨_,_,e⟩ | ⟨_,_,_,k,e,_⟩ | ⟨_,ps,_,_,e,_⟩ <;> exact ⟨_,e⟩
  obtain ⟨f,hI⟩:=hI
  have hT:s.TypeIs (.ref I) "set_iterator":=⟨_,hI,rfl⟩
  refine wpAny_pyIter_slot hT slot_si_iter (wpAny_call_entry slot_si_iter hT entry_si_iter ?_ (args_si_iter _))
  show wpAny _ _ (ret (.ref I)) _ _ s
  exact wpAny_pure ⟨_,rfl,"set_iterator",_,hT,slot_si_next.lookup,h⟩
theorem hint_text {r:Addr} {Q:Bool→Shared→Prop} (hT:s.TypeIs (.ref r) "set") (h:Q false s):wpAny (model P w) A (Builtin.List.listLengthHint (.ref r)) Q E s:=by
 unfold Builtin.List.listLengthHint
 refine wpAny_bind (wpAny_specialOf hT PySem.F.slot_set_len.lookup ?_)
 generalize hid:("set.__len__" : String)=id0
 wp_delta
 rw [show splitId id0=some ("set","__len__") from by subst hid; decide +kernel]
 subst hid
 refine wpAny_bind (wpAny_isInstance (T:="set") (b:=true) hT sub_set_self ?_)
 refine wpAny_ite_split (fun z=>absurd z (by decide)) (fun _=>wpAny_ite_split (fun _=>?_) (fun z=>absurd (by decide +kernel) z))
 exact wpAny_bind (wpAny_typeOf hT (wpAny_pure h))
theorem collect_text {S:Addr} {o:Obj} {D:List Str} {n:Nat} {Q:List Value→Shared→Prop} (hh:A.handled=none) (hS:s.heap.get? S=some o) (hX:SetTx w o D n) (hn:n≤4000)
  (hQ:∀ (vs:List Value) (ys:List Str) (h':Heap) tk d',s.heap.objs.size≤h'.objs.size→StrsAre vs ys→ys.Nodup→(∀ y,y∈ys↔y∈D)→ys.length≤n→(∀ b o,s.heap.get? b=some o→h'.get? b=some o)→Q vs { s with heap:=h',toks:=tk,drawn:=d' }) :
  wpAny (model P w) A (collect (.ref S)) Q E s:=by
 obtain ⟨es,ep,t,rfl,hen,hnd,hmem,hsz,hf,hled,hpl⟩:=hX
 have lt:=Heap.lt_size hS
 unfold collect
 refine wpAny_bind (wpAny_runValue (codeAny_builtin PySem.F.entry_proto_collect ?_))
 rw [Around.under_plainId PySem.F.plain_proto_collect _]
 show wpAny _ A.in1 (newList [] >>= fun l=>again (.builtin "list.__iadd__" ⟨[l,.ref S],[]⟩)) _ _ s
 refine wpAny_bind (wpAny_newObj_type ?_)
 refine wpAny_pure ⟨plainId_quiet PySem.F.plain_list_iadd _,codeAny_builtin PySem.F.entry_list_iadd ?_⟩
 rw [Around.under_plainId PySem.F.plain_list_iadd _]
 show wpAny _ A.in1 (Builtin.List.listExtendWith (.ref s.heap.objs.size) (.ref S) (.ref s.heap.objs.size)) _ _ _
 generalize hH:s.heap.push { cls:=.type "list",data:=.seq ([]:List Value).toArray } = H
 have hHs:H.objs.size=s.heap.objs.size+1:=by rw [← hH,Heap.size_push]
 have hL:H.get? s.heap.objs.size=some { cls:=.type "list",data:=.seq #[] 0 }:=hH▸Heap.get?_push_size _ rfl
 have hS1:H.get? S=some (setO es ep t):=hH▸Heap.get?_push_of_some _ hS
 unfold Builtin.List.listExtendWith
 refine wpAny_bind (wpAny_typeOf (T:="set") ⟨_,hS1,rfl⟩ ?_)
 have h1:Builtin.List.listSameRef (.ref s.heap.objs.size) (.ref S)=false:=by simp [Builtin.List.listSameRef,Nat.ne_of_gt lt]
 have h2:(Value.type "set" == Value.type "list")=false:=by decide
 have h3:(Value.type "set" == Value.type "tuple")=false:=by decide
 simp only [h1,h2,h3,Bool.or_false,Bool.false_eq_true,if_false]
 refine wpAny_bind (iter_text (s:={ s with heap:=H }) hS1 hf hpl (by omega) fun I T vs h2 d2 k2 gI gT hTI hvs st=>?_)
 have gI':s.heap.objs.size+1≤I:=hHs▸gI
 have gT':s.heap.objs.size+1≤T:=hHs▸gT
 refine wpAny_bind (wpAny_holding (hint_text ⟨_,k2 _ _ hS1,rfl⟩ ?_))
 have hL2:=k2 _ _ hL
 have hSf:s.heap.objs.size∉[I,S,T]:=by
  simp only [List.mem_cons,List.not_mem_nil,or_false,not_or]
  exact ⟨Nat.ne_of_lt (Nat.lt_of_lt_of_le (Nat.lt_succ_self _) gI'),Nat.ne_of_gt lt,Nat.ne_of_lt (Nat.lt_of_lt_of_le (Nat.lt_succ_self _) gT')⟩
 have hSI:S≠I:=Nat.ne_of_lt (Nat.lt_of_lt_of_le (Nat.lt_succ_of_lt lt) gI')
 have hlen:vs.length=es.size:=by rw [hvs.length_eq,List.length_map,Array.length_toList]
 have W:Walks P w A.in1 I [I,S,T] [I] vs.length (fun i v=>vs[i]? = some v) (fun i h=>ItT w I S T es ep t vs i h):=walks_text (A:=A.in1) hh hSI hTI hf hled
 have stx:∀ us:List Value,us.Perm (es.toList.map (·.2))→∃ ys,StrsAre us ys∧ys.Perm (es.toList.map keyS):=fun us hp=>by
  refine ⟨us.map strOf,strsAre_map us fun v hv=>?_,?_⟩
  ·obtain ⟨e,he,rfl⟩:=List.mem_map.mp (hp.mem_iff.mp hv)
   obtain ⟨y,u,rfl⟩:=hen e he
   exact ⟨y,u,rfl⟩
  ·have:=hp.map strOf
   rw [List.map_map] at this
   exact this
 have key:∀ (h:Heap) (c tk:Nat),ItT w I S T es ep t vs 0 h→(∀ b o,b≠s.heap.objs.size→h2.get? b=some o→h.get? b=some o)→h.get? s.heap.objs.size=some { cls:=.type "list",data:=.seq #[] c }→
   codeAny (model P w) A (.builtin "list.extend.loop" ⟨[.ref s.heap.objs.size,.ref I,.ref s.heap.objs.size],[]⟩)
    (fun r s'=>match r with | .ok (.ret v)=>wpAny (model P w) A (match v with | .ref a=>(do match (← load a).data with | .seq xs _=>pure xs.toList | _=>unsupported "internal:collect") | _=>unsupported "internal:collect") Q E s' | .ok _=>False | .error e=>E e s') { s with heap:=h,toks:=tk,drawn:=d2 }:=fun h c tk st' k hL'=>by
  refine codeAny_extend_loopS W.toS (by rw [hlen,sizeLine_eq]; omega) _ hSf _ vs.length 0 _ #[] c rfl (Nat.zero_le _) st' hL' (ItemsOf.nil _) fun s' acc c' hm hL'' hacc=>?_
  refine wpAny_bind (wpAny_load hL'' ?_)
  have eacc:acc.toList=vs:=by
   refine List.ext_getElem? fun i=>?_
   rw [Array.getElem?_toList]
   cases ev:acc[i]? with
   | some v=>exact (hacc.2 i v ev).symm
   | none=>
    symm
    rw [List.getElem?_eq_none_iff,← hacc.1]
    exact Array.getElem?_eq_none_iff.mp ev
  obtain ⟨ys,sy,py⟩:=stx vs hvs
  obtain ⟨h3,g3,d3,t3,o3⟩:=s'
  have eg:g3=s.gens:=hm.gens
  have ed:d3=d2:=hm.drawn
  have eo:o3=s.os:=hm.os
  subst eg; subst ed; subst eo
  refine wpAny_pure ?_
  rw [eacc]
  refine hQ vs ys h3 t3 d3 (Nat.le_of_lt (Heap.lt_size hL'')) sy (py.nodup_iff.mpr hnd) (fun y=>(py.mem_iff).trans (hmem y)) (by rw [py.length_eq,List.length_map,Array.length_toList]; exact hsz) fun b o e=>?_
  have lb:=Heap.lt_size e
  refine hm.heap b o (fun z=>?_) (k b o (Nat.ne_of_lt lb) (k2 b o (hH▸Heap.get?_push_of_some _ e)))
  rcases List.mem_cons.mp z with z | z
  ·exact Nat.lt_irrefl _ (z▸lb)
  ·have:=List.mem_singleton.mp z
   exact Nat.lt_irrefl _ (Nat.lt_of_lt_of_le (Nat.lt_succ_of_lt lb) (this▸gI'))
 refine wpAny_ite_split (fun _=>?_) (fun z=>absurd (by decide +kernel) z)
 refine wpAny_bind (wpAny_rule (wpAny_bind ?_))
 show wpAny _ _ (updateSeq s.heap.objs.size (·.push .none) >>= fun _=>updateSeq s.heap.objs.size (·.pop)) _ _ _
 refine wpAny_bind (wpAny_updateSeq hL2 rfl ?_)
 have hL3:=Heap.get?_update_self (Obj.mapSeq (·.push Value.none)) hL2 rfl
 refine wpAny_updateSeq (hz:=by seq_fits) hL3 rfl ?_
 have hL4:=Heap.get?_update_self (Obj.mapSeq (·.pop)) hL3 rfl
 have oth:∀ b o,b≠s.heap.objs.size→h2.get? b=some o→((h2.update s.heap.objs.size (Obj.mapSeq (·.push Value.none))).update s.heap.objs.size (Obj.mapSeq (·.pop))).get? b=some o:=fun b o hb e=>
  (Heap.get?_update_other _ _ (Ne.symm hb)).trans ((Heap.get?_update_other _ _ (Ne.symm hb)).trans e)
 refine wpAny_pure ⟨plainId_quiet PySem.F.plain_extend_loop _,key _ _ _ (st.at fun b hb o e=>oth b o (fun z=>hSf (by rw [← z]; rcases hb with y | y | y <;> simp [y])) e) oth hL4⟩
end
end L2
namespace L2
open PySem PySem.Spec PyProof.Rows
section
variable {P:Program} {w:World} {A:Around} {E:Value→Shared→Prop} {s:Shared}
theorem sorted_text {S:Addr} {o:Obj} {D:List Str} {n:Nat} {Q:Value→Shared→Prop} (hh:A.handled=none) (hS:s.heap.get? S=some o) (hX:SetTx w o D n) (hn:n < 64)
  (hQ:∀ (a:Addr) (out:List Value) (e:Nat) (ys:List Str) h' tk d',ys.length≤n→StrsAre out ys→ys.Nodup→(∀ y,y∈ys↔y∈D)→sortedS ys=true→(∀ b o,s.heap.get? b=some o→h'.get? b=some o)→s.heap.objs.size≤a→
   h'.get? a=some (seqObj "list" out.toArray e)→Q (.ref a) { s with heap:=h',toks:=tk,drawn:=d' }):wpAny (model P w) A (call (.builtin "sorted") [.ref S]) Q E s:=by
 refine Calls.call_function_entry kind_sorted plain_sorted entry_sorted (args_sorted1 _) ?_
 unfold Builtin.«sorted»
 refine wpAny_bind (m:=checkCount "sorted" 1 1 _) (wpAny_pure ?_)
 refine wpAny_bind (collect_text (A:=A.in1) hh hS hX (by omega) fun vs ys h' tk d' le sy nd mem len k=>?_)
 have hlen:vs.length=ys.length:=by rw [← sy.strs,List.length_map]
 refine wpAny_bind (wpAny_newList ?_ (by rw [hlen,sizeLine_eq]; omega))
 have hoL:(h'.push (seqObj "list" vs.toArray 0)).get? h'.objs.size=some (seqObj "list" vs.toArray 0):=Heap.get?_push_size _ rfl
 refine wpAny_bind (wpAny_holding (wpAny_call_entry slot_list_sort ⟨_,hoL,rfl⟩ entry_list_sort (list_sort_treeK (s:={ s with heap:=h'.push (seqObj "list" vs.toArray 0),toks:=tk,drawn:=d' }) strKind_oneLt hoL sy.keysOf (fun v₁ v₂ rest e=>keyKind_strs (by rw [← e]; exact sy)) (by omega) fun st' a1 a2=>⟨_,rfl,?_⟩) (args_list_sort _)))
 obtain ⟨ys',s1,s2,s3⟩:=sorted_out_str sy a1 a2
 obtain ⟨e,he⟩:=sortedHeap_at (vs:=vs) (out:=(arrOf st').map (·.2)) (n:=0) hoL
 refine wpAny_pure ⟨_,rfl,hQ h'.objs.size ((arrOf st').map (·.2)).toList e ys' _ tk d' (by rw [s2.length_eq]; exact len) s1 (s2.nodup_iff.mpr nd) (fun y=>s2.mem_iff.trans (mem y)) s3 (fun b o' eb=>?_) le ?_⟩
 ·have lb:=Heap.lt_size (k b o' eb)
  rw [sortedHeap_old (Nat.ne_of_lt lb) (by rw [size_push']; exact Nat.lt_succ_of_lt lb)]
  exact Heap.get?_push_of_some _ (k b o' eb)
 ·rw [Array.toArray_toList]
  exact he
end
theorem Inv.drawAny {X:Cx} {pins:List (Addr × Obj)} {σ:St} {H:Hp} {s:Shared} (I:Inv X pins σ H s) (d:Drawn):Inv X pins σ H { s with drawn:=d }:=
 ⟨I.ok,I.os,I.bare,I.base,I.loc,I.cell,I.free,I.freeC,I.pin,I.hok,I.len⟩
def signs (z:Str):List Str:=z.cps.toList.map fun c=>⟨#[c]⟩
def setH (w:World) (a:Addr) (D:List Str) (n:Nat):HO:=.ext fun h=>∃ o,h.get? a=some o∧SetTx w o D n
def rSet (w:World):List V→Hp→VK→Prop:=fun xs H Q=>∃ z,xs=[.str z]∧z.length+1 < 4096∧∀ l,H l=none→Q (.ref l) (upd H l (setH w l (signs z) z.length))
section
variable {X:Cx}
theorem call_set_s (hc:X.calm=true):CallR X (.type "set") (rSet X.w):=by
 intro pins s σ H xs us Q I r h
 obtain ⟨z,rfl,hz,q⟩:=h
 obtain ⟨u,rfl,t,rfl⟩:=vals1 r
 refine call_set_text (I.ok.hd hc) z t hz fun h' tk o k e sx=>?_
 exact ⟨.ref s.heap.objs.size,_,I.laid k (Nat.le_refl _) (show ObjOk X.prog X.w _ h' _ (setH X.w s.heap.objs.size (signs z) z.length) from ⟨⟨o,e,sx⟩,⟨o,e⟩,fun h1 h2 ⟨o1,e1,x1⟩ k1=>⟨o1,k1 o1 e1,x1⟩⟩),rfl,q _ (I.hok.fresh (Nat.le_refl _))⟩
inductive rSortSetI (w:World) (xs:List V) (H:Hp) (Q:VK):Prop
 | mk (p D n:_) (h1:xs=[.ref p]) (h2:H p=some (setH w p D n)) (h3:n < 64) (h4:∀ (ys:List Str) l,ys.Nodup→(∀ y,y∈ys↔y∈D)→sortedS ys=true→H l=none→Q (.ref l) (upd H l (.lst (ys.map V.str)))):rSortSetI w xs H Q
def rSortSet (w:World):List V→Hp→VK→Prop:=fun xs H Q=>rSortSetI w xs H Q
theorem call_sortset (hc:X.calm=true):CallR X (.builtin "sorted") (rSortSet X.w):=by
 intro pins s σ H xs us Q I r h
 obtain ⟨p,D,n,rfl,hp,hn,q⟩:=h
 obtain ⟨u,rfl,ru⟩:=vals1 r
 cases ru
 obtain ⟨⟨o,e,sx⟩,_,_⟩:=(show ObjOk X.prog X.w H s.heap p (setH X.w p D n) from I.hok p _ hp)
 refine sorted_text (I.ok.hd hc) e sx hn fun a out ee ys h' tk d' len sy nd mem so k le ea=>?_
 have hnone:H a=none:=I.hok.fresh le
 have hlen:out.length=ys.length:=by rw [← sy.strs,List.length_map]
 have lenD:ys.length≤sizeLine:=by rw [sizeLine_eq]; omega
 exact ⟨.ref a,_,(I.drawAny d').laid (s:={ s with drawn:=d' }) k le (show ObjOk X.prog X.w _ h' a (.lst (ys.map V.str)) from ⟨by rw [List.length_map]; exact lenD,out,ee,vals_strs sy,ea⟩),rfl,q ys a nd mem so hnone⟩
end
def insU (c:Nat):List Nat→List Nat
 | []=>[c]
 | x :: l=>if c < x then c :: x :: l else if c=x then x :: l else x :: insU c l
theorem mem_insU (c y:Nat):∀ l:List Nat,y∈insU c l↔y=c∨y∈l
 | []=>by simp [insU]
 | x :: l=>by
  unfold insU
  split
  ·simp
  ·split
   ·rename_i e
    subst e
    simp
   ·rw [List.mem_cons,mem_insU c y l,List.mem_cons]
    constructor
    ·rintro (a | a | a)
     ·exact .inr (.inl a)
     ·exact .inl a
     ·exact .inr (.inr a)
    ·rintro (a | a | a)
     ·exact .inr (.inl a)
     ·exact .inl a
     ·exact .inr (.inr a)
theorem rise_insU (c:Nat):∀ l:List Nat,l.Pairwise (· < ·)→(insU c l).Pairwise (· < ·)
 | [],_=>by simp [insU]
 | x :: l,h=>by
  cases h with
  | cons h1 h2=>
   unfold insU
   split
   ·rename_i hc
    refine List.Pairwise.cons (fun y hy=>?_) (List.Pairwise.cons h1 h2)
    rcases List.mem_cons.mp hy with e | e
    ·omega
    ·have:=h1 y e
     omega
   ·split
    ·exact List.Pairwise.cons h1 h2
    ·refine List.Pairwise.cons (fun y hy=>?_) (rise_insU c l h2)
     rcases (mem_insU c y l).mp hy with e | e
     ·omega
     ·exact h1 y e
def ltrs (cs:List Nat):List Nat:=cs.foldr insU []
theorem mem_ltrs (y:Nat):∀ cs:List Nat,y∈ltrs cs↔y∈cs
 | []=>by simp [ltrs]
 | c :: cs=>by
  show y∈insU c (ltrs cs)↔_
  rw [mem_insU,mem_ltrs y cs,List.mem_cons]
theorem rise_ltrs:∀ cs:List Nat,(ltrs cs).Pairwise (· < ·)
 | []=>.nil
 | c :: cs=>rise_insU c _ (rise_ltrs cs)
theorem rise_eq:∀ (a b:List Nat),a.Pairwise (· < ·)→b.Pairwise (· < ·)→(∀ y,y∈a↔y∈b)→a=b
 | [],[],_,_,_=>rfl
 | [],y :: b,_,_,h=>by
  have:=(h y).mpr List.mem_cons_self
  cases this
 | x :: a,[],_,_,h=>by
  have:=(h x).mp List.mem_cons_self
  cases this
 | x :: a,y :: b,ha,hb,h=>by
  cases ha with
  | cons ha1 ha2=>
   cases hb with
   | cons hb1 hb2=>
    have e:x=y:=by
     rcases List.mem_cons.mp ((h x).mp List.mem_cons_self) with e | e
     ·exact e
     ·rcases List.mem_cons.mp ((h y).mpr List.mem_cons_self) with e2 | e2
      ·exact e2.symm
      ·have:=hb1 x e
       have:=ha1 y e2
       omega
    subst e
    rw [rise_eq a b ha2 hb2 fun z=>?_]
    constructor
    ·intro hz
     rcases List.mem_cons.mp ((h z).mp (List.mem_cons_of_mem _ hz)) with e | e
     ·have:=ha1 z hz
      omega
     ·exact e
    ·intro hz
     rcases List.mem_cons.mp ((h z).mpr (List.mem_cons_of_mem _ hz)) with e | e
     ·have:=hb1 z hz
      omega
     ·exact e
end L2
namespace L2
open PySem PySem.Spec PyProof.Rows
def tDispT (tk tv:TE):TE:=fun σ H Q=>∀ p,H p=none→tPairs [(tk,tv)] σ (upd H p (.dT [])) fun ps H2=>∃ x y,ps=[(x,y)]∧H2 p=some (.dT [])∧∃ b ks,x=.ref b∧H2 b=some (.tup (ks.map kV))∧Q (.ref p) (upd H2 p (.dT [(ks,y)]))
theorem pe_dispT {X:Cx} {pos:Pos} {k v:Expr} {tk tv:TE} (hu:X.A.units+1 < cLine) (hk:PE X k tk) (hv:PE X v tv):PE X (.Dict [some k] [v] pos) (tDispT tk tv):=by
 intro pins s σ H Q I q
 have hn:=I.hok.fresh (Nat.le_refl s.heap.objs.size)
 have I1:=I.laid (a:=s.heap.objs.size) (o:=.dT []) (h':=s.heap.push { cls:=.type "dict",data:=.dict #[] }) (t':=s.toks) (fun _ _ q=>Heap.get?_push_of_some _ q) (Nat.le_refl _) (dt_empty s.heap I.big)
 have hall:([some k]:List (Option Expr)).all (·.isSome)=true:=rfl
 have hn1:=pairTrees_length [some k] [v] X.env pos hall rfl
 rw [arm_eval_Dict,zip_pairTrees [some k] [v] X.env pos hall rfl,dictDisplay_pairs _ (fun he=>by rw [he] at hn1; cases hn1) (by rw [hn1]; show 1 < 17; decide)]
 refine wpAny_bind (wpAny_standAt (wpAny_bind ?_))
 unfold subDict
 refine wpAny_bind (wpAny_alloc (wpAny_bind (wpAny_holding ?_)))
 rw [if_pos (by rw [hn1]; show 1≤15; decide)]
 refine wpAny_bind (wpAny_mono (pps_cons hk hv pps_nil pins _ σ _ _ I1 (q _ hn)) (fun vs s2 h2=>?_) fun _ _ e=>e)
 obtain ⟨ps,H2,I2,rel,x,y,rfl,e,b,ks,rfl,eb,q2⟩:=h2
 cases rel with
 | @cons a c as cs hac tl=>
  cases tl
  obtain ⟨u,r⟩:=c
  cases (show u=Value.ref b from hac.1)
  refine wpAny_holding (wpAny_bind ?_)
  rw [List.forIn_cons]
  obtain ⟨z,hd,xs,rl,dd⟩:=dt_of I2.hok e
  cases rl
  refine wpAny_bind (wpAny_bind (wpAny_dictSet_heap (show X.A.units < cLine by omega) (key_of I2.hok eb) dd fun h' dd' hs=>wpAny_pure ?_))
  refine wpAny_pure (wpAny_pure (wpAny_pure (wpAny_pure ?_)))
  obtain ⟨qo,es,ep,hq,h2,h3,h4,_,h5⟩:=dd'
  refine ⟨.ref s.heap.objs.size,_,d_write (ob:=.dT [(ks,y)]) I2 (by rw [e]; exact True.intro) hs ⟨qo,hq⟩ ⟨by show 1≤sizeLine; decide,hd,_,.cons ⟨rfl,?_,hac.2⟩ .nil,qo,es,ep,hq,h2,h3,h4,h5⟩,rfl,q2⟩
  rw [upd_ne (ne_of eb e (fun z=>nomatch z))]
  exact eb
end L2
namespace L2
open PySem PySem.Spec PyProof.Rows
def eqL:List V→List V→Bool
 | [],[]=>true
 | x :: xs,y :: ys=>eqV x y && eqL xs ys
 | _,_=>false
theorem all_eqL:∀ (xs ys:List V),(((List.range (min xs.length ys.length)).all fun j=>eqV (xs.getD j .non) (ys.getD j .non)) && xs.length==ys.length)=eqL xs ys
 | [],[]=>rfl
 | [],y :: ys=>by simp [eqL]
 | x :: xs,[]=>by simp [eqL]
 | x :: xs,y :: ys=>by
  have ih:=all_eqL xs ys
  show _=(eqV x y && eqL xs ys)
  rw [← ih,List.length_cons,List.length_cons,Nat.succ_min_succ,List.range_succ_eq_map,List.all_cons,List.all_map]
  have e1:((fun j=>eqV ((x :: xs).getD j .non) ((y :: ys).getD j .non)) ∘ Nat.succ)=fun j=>eqV (xs.getD j .non) (ys.getD j .non):=by
   funext j
   rfl
  rw [e1,Bool.and_assoc]
  have e2:(xs.length+1==ys.length+1)=(xs.length==ys.length):=by
   rw [Bool.eq_iff_iff,beq_iff_eq,beq_iff_eq]
   omega
  rw [e2]
  rfl
theorem Vals.at_:∀ {xs:List V} {us:List Value} {j:Nat} {u:Value},Vals xs us→us[j]? = some u→∃ x,xs[j]? = some x∧RelV x u
 | _,_,j,u,.nil,h=>by simp at h
 | _,_,0,u,.cons r t,h=>by
  cases h
  exact ⟨_,rfl,r⟩
 | _,_,j+1,u,.cons r t,h=>by
  obtain ⟨x,e,r'⟩:=Vals.at_ (j:=j) t (by simpa using h)
  exact ⟨x,by simpa using e,r'⟩
theorem pairs_eqAt {A:Around} {s:Shared} {xs ys:List V} {us ws:List Value} (r1:Vals xs us) (r2:Vals ys ws) (f1:xs.all flatV=true) (f2:ys.all flatV=true) (j:Nat) (h1:j < us.toArray.size) (h2:j < ws.toArray.size) :
  SeqAt.EqAt A s us.toArray[j] ws.toArray[j] (eqV (xs.getD j .non) (ys.getD j .non)):=by
 have g1:us[j]? = some us.toArray[j]:=by simp at h1 ⊢
 have g2:ws[j]? = some ws.toArray[j]:=by simp at h2 ⊢
 obtain ⟨x,e1,q1⟩:=r1.at_ g1
 obtain ⟨y,e2,q2⟩:=r2.at_ g2
 rw [List.getD_eq_getElem?_getD,e1,List.getD_eq_getElem?_getD,e2]
 exact eqAt_V q1 q2 (List.all_eq_true.mp f1 x (List.mem_of_getElem? e1)) (List.all_eq_true.mp f2 y (List.mem_of_getElem? e2))
inductive rEqSI (K:PySem.W.Frag) (neg:Bool) (x:V) (y:V) (H:Hp) (Q:VK):Prop
 | mk (a b xs ys:_) (h1:x=.ref a) (h2:y=.ref b) (h3:((SqL K H a xs∧SqL K H b ys)∨(SqT K H a xs∧SqT K H b ys))) (h4:xs.all flatV=true) (h5:ys.all flatV=true) (h6:Q (.bl (if neg then !eqL xs ys else eqL xs ys)) H):rEqSI K neg x y H Q
def rEqS (K:PySem.W.Frag) (neg:Bool):R2:=fun x y H Q=>rEqSI K neg x y H Q
section
variable {X:Cx} {K:PySem.W.Frag}
theorem size_of {xs:List V} {us:List Value} (r:Vals xs us):us.toArray.size=xs.length:=by
 rw [List.size_toArray]
 exact r.length.symm
theorem eq_false_len {xs ys:List V} (h:xs.length≠ys.length):eqL xs ys=false:=by
 rw [← all_eqL,(beq_eq_false_iff_ne).mpr h,Bool.and_false]
theorem eq_true_len {xs ys:List V} (h:xs.length=ys.length):((List.range xs.length).all fun j=>eqV (xs.getD j .non) (ys.getD j .non))=eqL xs ys:=by
 rw [← all_eqL,h,Nat.min_self,beq_self_eq_true,Bool.and_true]
theorem op_eqS (hu:X.A.units < cLine) (hK:X.K=K:=by rfl):OpR X (compareOp .Eq) (rEqS K false):=by
 subst hK
 intro pins s σ H x y v u Q I rx ry h
 obtain ⟨a,b,xs,ys,rfl,rfl,hq,f1,f2,q⟩:=h
 cases rx
 cases ry
 rcases hq with ⟨ha,hb⟩ | ⟨ha,hb⟩
 ·obtain ⟨i1,r1,p1,_⟩:=I.list ha
  obtain ⟨i2,r2,p2,_⟩:=I.list hb
  by_cases hl:xs.length=ys.length
  ·refine SeqAt.eq_listAt p1.isList p2.isList (by rw [size_of r1,size_of r2,hl]) hu (fun j h1 h2=>pairs_eqAt r1 r2 f1 f2 j h1 h2) ⟨.bl _,H,I,rfl,?_⟩
   rw [size_of r1,eq_true_len hl]
   exact q
  ·refine SeqAt.eq_list_lengthsAt p1.isList p2.isList (by rw [size_of r1,size_of r2]; exact bne_iff_ne.mpr hl) hu ⟨.bl false,H,I,rfl,?_⟩
   rw [← eq_false_len hl]
   exact q
 ·obtain ⟨i1,r1,p1,_⟩:=I.tuple ha
  obtain ⟨i2,r2,p2,_⟩:=I.tuple hb
  refine SeqAt.eq_tupleAt p1 p2 hu (fun j h1 h2=>pairs_eqAt r1 r2 f1 f2 j h1 h2) ⟨.bl _,H,I,rfl,?_⟩
  rw [size_of r1,size_of r2,all_eqL]
  exact q
theorem hu_lt {A:Around} {k:Nat} (hr:Room k A):A.units < cLine:=Nat.lt_of_succ_lt (hu_of hr)
end
end L2
namespace L2
open PySem PySem.Spec PyProof.Rows
section
variable {X:Cx}
end
def jl (c:Nat):List (List Nat)→List Nat
 | []=>[]
 | [x]=>x
 | x :: y :: r=>x ++ c :: jl c (y :: r)
end L2
namespace L2
open PySem PySem.Spec PyProof.Rows
section
variable {X:Cx} {K:PySem.W.Frag}
end
section
open PySem.SeqAt
open PySem.AutoSeq1 (wpAny_loadPart')
open PySem.MeetsSeq PySem.MeetsSeq2 PySem.MeetsSeq3
end
section
variable {X:Cx} {K:PySem.W.Frag}
end
end L2
namespace L2
open PySem PySem.Spec PyProof.Rows
section
open PySem.W (KasT kas_asc kas_count kas_cmp kas_st kas_item)
def Asks (n:Nat) (lt:Nat→Nat→Bool) {α:Type} (P:α→Prop):KasT α→Prop
 | .ret a=>P a
 | .ask i j k=>i < n∧j < n∧Asks n lt P (k (lt i j))
theorem Asks.imp {n:Nat} {lt:Nat→Nat→Bool} {α:Type} {P P':α→Prop} (g:∀ a,P a→P' a):∀ {t:KasT α},Asks n lt P t→Asks n lt P' t
 | .ret a,h=>g a h
 | .ask _ _ _,⟨h1,h2,h3⟩=>⟨h1,h2,Asks.imp g h3⟩
theorem Asks.bind {n:Nat} {lt:Nat→Nat→Bool} {α β:Type} {P:α→Prop} {R:β→Prop} {f:α→KasT β} (g:∀ a,P a→Asks n lt R (f a)):∀ {t:KasT α},Asks n lt P t→Asks n lt R (t.bind f)
 | .ret a,h=>g a h
 | .ask _ _ _,⟨h1,h2,h3⟩=>⟨h1,h2,Asks.bind g h3⟩
theorem Asks.wp {n:Nat} {lt:Nat→Nat→Bool} {α:Type} {P:α→Prop} {cmp:Nat→Nat→(Bool→Shared→Prop)→Shared→Prop} {s:Shared} {Q:α→Shared→Prop}
  (hc:∀ i j (C:Bool→Shared→Prop),i < n→j < n→C (lt i j) s→cmp i j C s) (q:∀ a,P a→Q a s):∀ {t:KasT α},Asks n lt P t→t.kasWp cmp Q s
 | .ret a,h=>q a h
 | .ask i j _,⟨h1,h2,h3⟩=>hc i j _ h1 h2 (Asks.wp hc q h3)
theorem asks_up {p:Array Nat} {n:Nat} {lt:Nat→Nat→Bool} (hp:∀ i,p.getD i 0 < n):∀ (f m:Nat),(∀ t,m≤t→t < m+f→lt (p.getD t 0) (p.getD (t - 1) 0)=false)→Asks n lt (fun r=>r=m+f) (kas_asc p f m)
 | 0,_,_=>rfl
 | f+1,m,h=>by
  refine ⟨hp _,hp _,?_⟩
  rw [h m (Nat.le_refl _) (by omega)]
  show Asks n lt _ (kas_asc p f (m+1))
  exact (asks_up hp f (m+1) fun t h1 h2=>h t (by omega) (by omega)).imp fun a e=>by omega
theorem minRun_le:∀ (f n r:Nat),minRun' f n r≤n+r
 | 0,_,_=>Nat.le_refl _
 | f+1,n,r=>by
  rw [minRun'_succ]
  split
  ·exact Nat.le_refl _
  ·have:=minRun_le f (n / 2) (max r (n % 2))
   omega
theorem runs_up {prog:Program} {w:World} {A:Around} {E:Value→Shared→Prop} {κ:SortKind} {it:Array Keyed} {n:Nat} {Q:Unit→SortSt→Shared→Prop} {G:Array Nat→Shared→Prop} {s:Shared} (two:2≤n)
  (fin:∀ p st t,p.size=n→arrOf st=p.map (kas_item it)→failedOf st=none→G p t→Q () st t)
  (h:(kas_count n (List.range n).toArray).kasWp (kas_cmp prog w A κ it) (fun r t=>r.1=n∧G r.2 t) s):PySem.W.kasC (model prog w) A E sortRuns' Q (kas_st κ it (List.range n).toArray) s:=by
 obtain ⟨m,rfl⟩:∃ m,n=m+2:=⟨n - 2,by omega⟩
 have z1:(List.range (m+2)).toArray.size=m+2:=by simp
 have z2:(arrOf (kas_st κ it (List.range (m+2)).toArray)).size=m+2:=by
  show ((List.range (m+2)).toArray.map (kas_item it)).size=m+2
  rw [Array.size_map,z1]
 have z3:¬ m+2 < minRun' (m+2) (m+2) 0:=by
  have:=minRun_le (m+2) (m+2) 0
  omega
 rw [sortRuns'_eq]
 refine PySem.W.kasC_bind (PySem.W.kasC_get ?_)
 dsimp only
 simp only [z2]
 refine PySem.W.kasC_bind (PySem.W.kasC_range ?_)
 show PySem.W.kasC _ _ _ (forIn (0 :: 1 :: List.range' 2 m) _ _) _ _ _
 refine PySem.W.kasC_cons ?_
 dsimp only
 rw [if_neg (by omega)]
 simp only [Nat.sub_zero,Nat.zero_add]
 refine PySem.W.kasC_bind (PySem.W.kas_count_ (by omega) (by rw [z1]; exact Nat.le_refl _) (fun r p t l1 l2 zp g=>?_) h)
 obtain ⟨er,gp⟩:r=m+2∧G p t:=g
 subst er
 dsimp only
 rw [if_neg z3]
 refine PySem.W.kasC_bind (PySem.W.kasC_get ?_)
 rw [show (pendingOf (kas_st κ it p)).back? = none from rfl]
 dsimp only
 refine PySem.W.kasC_bind (PySem.W.kasC_modify (PySem.W.kasC_pure ?_))
 show PySem.W.kasC _ _ _ (forIn (1 :: List.range' 2 m) _ _) _ _ _
 refine PySem.W.kasC_cons ?_
 dsimp only
 rw [if_pos (Nat.le_refl _)]
 refine PySem.W.kasC_pure ?_
 dsimp only
 refine PySem.W.kasC_bind (PySem.W.kasC_range ?_)
 show PySem.W.kasC _ _ _ (forIn (0 :: 1 :: List.range' 2 m) _ _) _ _ _
 refine PySem.W.kasC_cons (PySem.W.kasC_bind (PySem.W.kasC_get ?_))
 rw [if_pos (show (pendingOf (setPending (kas_st κ it p) ((pendingOf (kas_st κ it p)).push (0,m+2,0)))).size≤1 from Nat.le_refl 1)]
 refine PySem.W.kasC_pure ?_
 dsimp only
 exact PySem.W.kasC_pure (fin p _ _ (zp.trans z1) rfl rfl gp)
end
def ordLt (i j:Int) (a b:Str):Bool:=if i=j then decide (a.cps.toList < b.cps.toList) else decide (i < j)
section
variable {prog:Program} {w:World} {A:Around} {E:Value→Shared→Prop} {s:Shared}
theorem ord_cmp {x y:Addr} {ox oy:Obj} {i j:Int} {t t2 u u2:Tok} {a b:Str} {n m:Nat} {Q:Bool→Shared→Prop} (hx:s.heap.get? x=some ox) (dx:ox.data=.seq #[.int i t,.str a u] n) (hy:s.heap.get? y=some oy) (dy:oy.data=.seq #[.int j t2,.str b u2] m)
  (h:Q (ordLt i j a b) s):wpAny (model prog w) A (keyLt' (tuples' true) (.ref x) (.ref y)) Q E s:=by
 refine PySem.W.kat_lt hx dx hy dy ?_
 show PySem.W.KatLex prog w A true _ Q [(Value.int i t,Value.int j t2),(Value.str a u,Value.str b u2)] 0 s
 have e1:=SeqAt.EqAt.int_int (A:=A) (s:=s) i t j t2
 have e2:=SeqAt.EqAt.str_str (A:=A) (s:=s) a u b u2
 unfold ordLt at h
 refine PySem.W.kat_cons (e1 prog w _ _ ?_)
 by_cases e:i=j
 ·rw [show (i==j)=true from beq_iff_eq.mpr e]
  rw [if_pos e] at h
  refine PySem.W.kat_yes (PySem.W.kat_cons (e2 prog w _ _ ?_))
  by_cases e':a=b
  ·rw [show (a==b)=true from beq_iff_eq.mpr e']
   subst e'
   refine PySem.W.kat_yes (PySem.W.kat_nil ?_)
   rw [decide_eq_false (List.lt_irrefl _)] at h
   exact h
  ·rw [show (a==b)=false from beq_eq_false_iff_ne.mpr e']
   refine PySem.W.kat_no ?_
   show wpAny _ _ (oneLt' false _ _) _ _ _
   exact PySem.W.kat_one _ _ (PySem.P.lt_str h)
 ·rw [show (i==j)=false from beq_eq_false_iff_ne.mpr e]
  rw [if_neg e] at h
  refine PySem.W.kat_no ?_
  show wpAny _ _ (oneLt' true _ _) _ _ _
  exact oneLt_int h
theorem forIn_turns {M:Model} {α:Type} {body:α→PUnit→Sem (ForInStep PUnit)} (J:Nat→Shared→Prop):∀ (l:List α) (i:Nat) (s:Shared),(∀ j x t,l[j]? = some x→J (i+j) t→wpAny M A (body x ⟨⟩) (fun r t'=>r=.yield ⟨⟩∧J (i+j+1) t') E t)→J i s→
  wpAny M A (forIn l PUnit.unit body) (fun _ t=>J (i+l.length) t) E s
 | [],i,s,_,h=>by
  rw [List.forIn_nil]
  exact wpAny_pure h
 | x :: l,i,s,st,h=>by
  rw [List.forIn_cons]
  refine wpAny_bind (wpAny_mono (st 0 x s rfl h) (fun r t hr=>?_) fun _ _ z=>z)
  obtain ⟨rfl,hr⟩:=hr
  have q:=forIn_turns J l (i+1) t (fun j y t' hy hj=>by
   have z:=st (j+1) y t' (by simpa using hy) (by rw [show i+(j+1)=i+1+j by omega]; exact hj)
   rw [show i+1+j+1=i+(j+1)+1 by omega]
   exact z) hr
  rw [show i+(x :: l).length=i+1+l.length by rw [List.length_cons]; omega]
  exact q
end
abbrev lo (ks:List Value) (e:Nat):Obj:={ cls:=.type "list",data:=.seq ks.toArray e }
section
variable {X:Cx} {pins:List (Addr × Obj)} {σ:St} {H:Hp} {s:Shared}
structure Far (X:Cx) (pins:List (Addr × Obj)) (a:Addr):Prop where
 loc:a≠X.env.locals
 fs:a∉X.fs
 new:X.s₀.heap.objs.size≤a
 cell:∀ x c,X.env.cells.lookup x=some c→c≠a
 pin:∀ p∈X.pn ++ pins,p.1≠a
theorem Inv.far (I:Inv X pins σ H s) {a:Addr} (h:s.heap.objs.size≤a):Far X pins a:=by
 obtain ⟨_,f1,f2,f3,f4,f5⟩:=I.fpOk (H':=fun _=>none) h rfl
 exact ⟨f1,f2,Nat.le_trans I.sz h,f4,f5⟩
theorem Far.more {a:Addr} (f:Far X pins a) {b:Addr} {o:Obj} (h:b≠a):Far X (pins ++ [(b,o)]) a:=
 ⟨f.loc,f.fs,f.new,f.cell,fun p hp=>by
  rcases List.mem_append.mp hp with z | z
  ·exact f.pin p (List.mem_append_left _ z)
  ·rcases List.mem_append.mp z with y | y
   ·exact f.pin p (List.mem_append_right _ y)
   ·rw [List.mem_singleton.mp y]
    exact h⟩
theorem Inv.hold {a:Addr} {ks:List Value} {e:Nat} (I:Inv X pins σ H s) (f:Far X pins a) (h:s.heap.get? a=some (lo ks e)) (hn:H a=none):Inv X (pins ++ [(a,lo ks e)]) σ H s:=
 I.pins_of fun p hp=>(List.mem_append.mp hp).elim (fun z=>I.pin p (List.mem_append_right _ z)) fun z=>by
  rw [List.mem_singleton.mp z]
  exact ⟨h,hn,f.loc,f.fs,fun v y=>by cases y⟩
theorem Inv.held {a:Addr} {o:Obj} (I:Inv X (pins ++ [(a,o)]) σ H s):s.heap.get? a=some o∧H a=none:=
 let p:=I.pin (a,o) (List.mem_append_right _ (List.mem_append_right _ (List.mem_singleton.mpr rfl)))
 ⟨p.1,p.2.1⟩
theorem Inv.rehold {a:Addr} {ks ks':List Value} {e:Nat} {f:Array Value→Array Value} (I:Inv X (pins ++ [(a,lo ks e)]) σ H s) (fa:Far X pins a) (hf:f ks.toArray=ks'.toArray) :
  ∃ e',Inv X (pins ++ [(a,lo ks' e')]) σ H { s with heap:=s.heap.update a (Obj.mapSeq f) }:=by
 obtain ⟨h1,hn⟩:=I.held
 have q:=PySem.IsL.update h1 f
 rw [hf] at q
 have I1:=(I.unpinned).turned (t':=s.toks) (it:=a) (h':=s.heap.update a (Obj.mapSeq f)) (fun b o hb hu=>(Heap.get?_update_other s.heap (Obj.mapSeq f) (Ne.symm hb)).trans hu) hn fa.loc (.inr fa.new) fa.cell fa.pin
 exact ⟨_,I1.hold fa q hn⟩
end
def KeyFn (sp:Sp) (ok:V→Prop) (kf:V→List V):Prop:=∀ (v:V) (H:Hp) (Q:VK),ok v→(∀ q H',Same H H'→H' q=some (.tup (kf v))→Q (.ref q) H')→sp [v] H Q E0
section
variable {X:Cx} {pins:List (Addr × Obj)} {σ:St} {H:Hp} {s:Shared} {x:Str} {k:Nat} {ps:List Str} {sp:Sp} {ok:V→Prop} {kf:V→List V}
theorem key_call (C:Cal X.prog X.w X.K X.mg X.base x k ps sp) (hk:KeyFn sp ok kf) (hr:Room (k+2) X.A) {v:V} {u:Value} (I:Inv X pins σ H s) (hv:ok v) (ru:RelV v u) :
  wpAny (model X.prog X.w) X.A.in1.in1 (call (.ref C.f) [u]) (fun r s'=>∃ q H',r=.ref q∧Inv X pins σ H' s'∧Same H H'∧H' q=some (.tup (kf v))) (fun _ _=>False) s:=by
 have h:sp [v] H (fun r H'=>∃ q,r=.ref q∧Same H H'∧H' q=some (.tup (kf v))) E0:=hk v H _ hv fun q H' e1 e2=>⟨q,rfl,e1,e2⟩
 have hl:([u] ++ ([]:List Value)).length=ps.length:=C.ok.len _ _ _ _ h
 refine wpAny_call (codeAny_mono (C.ok.run _ X.stack s H ⟨[u],[]⟩ [u] [v] _ E0 hr.in1.in1 I.env0.in1.in1 (C.b s [u] I.kIn hl) (.cons ru .nil) h) fun r s' hq=>?_)
 cases r with
 | error e=>exact False.elim hq
 | ok fl=>
  cases fl with
  | ret y=>
   obtain ⟨v',H',I',ry,q,rfl,e1,e2⟩:=I.after hq
   obtain rfl:y=Value.ref q:=ry
   exact ⟨q,H',rfl,I',e1,e2⟩
  | next=>exact False.elim hq
  | brk=>exact False.elim hq
  | cont=>exact False.elim hq
def KeySt (X:Cx) (pins:List (Addr × Obj)) (σ:St) (H:Hp) (D kS:Addr) (e1:Nat) (kf:V→List V) (ws:List V) (i:Nat) (s:Shared):Prop:=
 ∃ H' ks e,Inv X (pins ++ [(D,lo [] e1)] ++ [(kS,lo ks e)]) σ H' s∧Same H H'∧ks.length=i∧∀ j,j < i→∃ q,ks[j]? = some (.ref q)∧H' q=some (.tup (kf (ws.getD j .non)))
theorem line_leM {n:Nat} (h:n≤1000000):n≤sizeLine:=by rw [sizeLine_eq]; omega
theorem sort_tail {D kS:Addr} {e1 e:Nat} {ks its:List Value} {ws:List V} {st:SortSt} {A:Around} {E:Value→Shared→Prop} {P:PySem.Fin→Shared→Prop} (I:Inv X (pins ++ [(D,lo [] e1)] ++ [(kS,lo ks e)]) σ H s) (fD:Far X pins D)
  (fk:Far X (pins ++ [(D,lo [] e1)]) kS) (hks:ks.length≤1000000) (hout:(arrOf st).map (·.2)=its.toArray) (hf:failedOf st=none) (hv:Vals ws its) (hw:ws.length≤1000000)
  (fin:∀ s',Inv X pins σ (upd H D (.lst ws)) s'→P (.done (.ret .none)) s'):wpAny (model X.prog X.w) A (ksk_tail D false e1 (.ref kS) st) P E s:=by
 obtain ⟨hk,_⟩:=I.held
 obtain ⟨e2,I2⟩:=I.rehold (f:=fun _=>#[]) (ks':=[]) fk rfl
 have I3:=I2.unpinned
 obtain ⟨hD,nD⟩:=I3.held
 obtain ⟨e3,I4⟩:=I3.rehold (f:=fun _=>its.toArray) (ks':=its) fD rfl
 have hli:its.length≤1000000:=by rw [← hv.length]; exact hw
 have I5:=(I4.unpinned).adopt (o:=.lst ws) fD.new nD fD.loc fD.cell fD.pin ⟨line_leM hw,its,e3,hv,I4.held.1⟩
 unfold ksk_tail
 dsimp only
 rw [hout]
 refine wpAny_bind (listUpdate_at hk rfl ?_ (by rw [List.size_toArray]; exact line_leM hks) (Nat.zero_le _))
 refine wpAny_bind (wpAny_letGo ?_)
 refine wpAny_bind (seqEpoch_at hD rfl ?_)
 refine wpAny_bind (listUpdate_at hD rfl ?_ (Nat.zero_le _) (Nat.le_succ_of_le (by show its.toArray.size≤_; rw [List.size_toArray]; exact line_leM hli)))
 rw [hf]
 simp only [bne_self_eq_false,Bool.false_eq_true,if_false]
 exact wpAny_pure (fin _ I5)
def ordS (a b:Str):Bool:=ordLt (a.length:Int) (b.length:Int) a b
def okS (v:V):Prop:=∃ z:Str,v=.str z∧z.length≤1000
def kfS:V→List V
 | .str z=>[.int (z.length:Int),.str z]
 | _=>[]
theorem getD_str {zs:List Str} {j:Nat} (h:j < zs.length):(zs.map V.str).getD j .non=.str (zs.getD j ⟨#[]⟩):=by
 rw [List.getD_eq_getElem?_getD,List.getElem?_map,List.getD_eq_getElem?_getD,List.getElem?_eq_getElem h]
 rfl
theorem ent_cmp {zs:List Str} {ks:List Value} {A:Around} {i j:Nat} {C:Bool→Shared→Prop} (I:Inv X pins σ H s) (ent:∀ j,j < zs.length→∃ q,ks[j]? = some (.ref q)∧H q=some (.tup (kfS ((zs.map V.str).getD j .non)))) (hi:i < zs.length) (hj:j < zs.length)
  (h:C (ordS (zs.getD i ⟨#[]⟩) (zs.getD j ⟨#[]⟩)) s):PySem.W.kas_ask X.prog X.w A (tuples' true) ks i j C s:=by
 obtain ⟨q,k1,t1⟩:=ent i hi
 obtain ⟨r,k2,t2⟩:=ent j hj
 rw [getD_str hi] at t1
 rw [getD_str hj] at t2
 obtain ⟨_,its,v1,o1,g1,c1,n1,d1⟩:=I.hok q _ t1
 obtain ⟨_,its',v2,o2,g2,c2,n2,d2⟩:=I.hok r _ t2
 obtain ⟨u1,u2,rfl,⟨a1,rfl⟩,⟨a2,rfl⟩⟩:=Vals.two v1
 obtain ⟨u3,u4,rfl,⟨a3,rfl⟩,⟨a4,rfl⟩⟩:=Vals.two v2
 unfold PySem.W.kas_ask
 rw [List.getD_eq_getElem?_getD,k1,List.getD_eq_getElem?_getD,k2]
 exact ord_cmp g1 d1 g2 d2 h
theorem ent_kind {zs:List Str} {ks:List Value} {A:Around} {E:Value→Shared→Prop} {Q:SortKind→Shared→Prop} (I:Inv X pins σ H s) (ent:∀ j,j < zs.length→∃ q,ks[j]? = some (.ref q)∧H q=some (.tup (kfS ((zs.map V.str).getD j .non)))) (hl:ks.length=zs.length) (hn:0 < zs.length)
  (h:Q (tuples' true) s):wpAny (model X.prog X.w) A (keyKind' ks.toArray) Q E s:=by
 have all:∀ (ls:List Value),(∀ v∈ls,∃ q z,v=.ref q∧H q=some (.tup [.int ((z:Str).length:Int),.str z]))→∃ fs:List Value,PySem.W.KatTups s.heap ls fs∧fs.length=ls.length∧∀ v∈fs,∃ i t,v=.int i t:=by
  intro ls
  induction ls with
  | nil=>exact fun _=>⟨[],.nil,rfl,fun v hv=>by cases hv⟩
  | cons v ls ih=>
   intro hv
   obtain ⟨fs,f1,f2,f3⟩:=ih fun u hu=>hv u (List.mem_cons_of_mem _ hu)
   obtain ⟨q,z,rfl,t1⟩:=hv v List.mem_cons_self
   obtain ⟨_,its,v1,o1,g1,c1,n1,d1⟩:=I.hok q _ t1
   obtain ⟨u1,u2,rfl,⟨a1,rfl⟩,_⟩:=Vals.two v1
   refine ⟨.int z.length a1 :: fs,.cons g1 c1 d1 rfl f1,by rw [List.length_cons,f2,List.length_cons],fun u hu=>?_⟩
   rcases List.mem_cons.mp hu with rfl | hu
   ·exact ⟨_,_,rfl⟩
   ·exact f3 u hu
 obtain ⟨fs,f1,f2,f3⟩:=all ks fun v hv=>by
  obtain ⟨j,hj,e⟩:=List.getElem_of_mem hv
  obtain ⟨q,k1,t1⟩:=ent j (by omega)
  rw [getD_str (by omega)] at t1
  rw [List.getElem?_eq_getElem hj,e] at k1
  exact ⟨q,_,Option.some.inj k1,t1⟩
 exact PySem.W.kat_kind (T:=.type "int") f1 (by omega) (fun v hv=>by
  obtain ⟨i,t,rfl⟩:=f3 v hv
  exact PySem.W.Looks.of_pure rfl) rfl h
end
theorem range_getD {n i:Nat} (h:i < n):(List.range n).toArray.getD i 0=i:=by simp [Array.getD,h]
end L2
namespace L2
open PySem PySem.Spec PyProof.Rows
section
open PySem.W (KasT kas_asc kas_desc kas_tail3 kas_descPart kas_count kas_place kas_bin kas_sort kas_rev)
structure Strict (n:Nat) (lt:Nat→Nat→Bool):Prop where
 irr:∀ i,i < n→lt i i=false
 tra:∀ i j k,i < n→j < n→k < n→lt i j=true→lt j k=true→lt i k=true
 tot:∀ i j,i < n→j < n→i≠j→lt i j=true∨lt j i=true
structure Perm0 (n:Nat) (p:Array Nat):Prop where
 per:p.toList.Perm (List.range n)
theorem getD_of {p:Array Nat} {i:Nat} (h:i < p.size):p[i]? = some (p.getD i 0):=by
 rw [Array.getElem?_eq_getElem h]
 simp [Array.getD,h]
theorem getD_q {p q:Array Nat} {i j:Nat} (h:p[i]? = q[j]?):p.getD i 0=q.getD j 0:=by
 rw [Array.getD_eq_getD_getElem?,Array.getD_eq_getD_getElem?,h]
theorem perm0_range (n:Nat):Perm0 n (List.range n).toArray:=⟨by simp⟩
theorem Perm0.size {n:Nat} {p:Array Nat} (h:Perm0 n p):p.size=n:=by
 have:=h.per.length_eq
 simpa using this
theorem Perm0.lt {n:Nat} {p:Array Nat} (h:Perm0 n p) (i:Nat) (hi:i < n):p.getD i 0 < n:=by
 have q:=getD_of (p:=p) (i:=i) (by rw [h.size]; exact hi)
 rw [← Array.getElem?_toList] at q
 exact List.mem_range.mp (h.per.mem_iff.mp (List.mem_of_getElem? q))
theorem Perm0.inj {n:Nat} {p:Array Nat} (h:Perm0 n p) (i j:Nat) (hi:i < n) (hj:j < n) (e:p.getD i 0=p.getD j 0):i=j:=by
 have nd:p.toList.Nodup:=h.per.nodup_iff.mpr List.nodup_range
 rw [List.nodup_iff_pairwise_ne,List.pairwise_iff_getElem] at nd
 have li:i < p.toList.length:=by rw [Array.length_toList,h.size]; exact hi
 have lj:j < p.toList.length:=by rw [Array.length_toList,h.size]; exact hj
 have a:=getD_of (p:=p) (i:=i) (by rw [h.size]; exact hi)
 have b:=getD_of (p:=p) (i:=j) (by rw [h.size]; exact hj)
 rw [← Array.getElem?_toList,List.getElem?_eq_getElem li] at a
 rw [← Array.getElem?_toList,List.getElem?_eq_getElem lj] at b
 have e':p.toList[i]=p.toList[j]:=by rw [Option.some.inj a,Option.some.inj b,e]
 rcases Nat.lt_trichotomy i j with z | z | z
 ·exact absurd e' (nd i j li lj z)
 ·exact z
 ·exact absurd e'.symm (nd j i lj li z)
def UpTo (lt:Nat→Nat→Bool) (p:Array Nat) (m:Nat):Prop:=∀ i j,i < j→j < m→lt (p.getD i 0) (p.getD j 0)=true
def DownTo (lt:Nat→Nat→Bool) (p:Array Nat) (m:Nat):Prop:=∀ i j,i < j→j < m→lt (p.getD j 0) (p.getD i 0)=true
variable {n:Nat} {lt:Nat→Nat→Bool} {p:Array Nat}
theorem UpTo.succ (hS:Strict n lt) (hp:Perm0 n p) {m:Nat} (h1:1≤m) (hm:m < n) (u:UpTo lt p m) (c:lt (p.getD (m - 1) 0) (p.getD m 0)=true):UpTo lt p (m+1):=fun i j hij hj=>by
 by_cases e:j=m
 ·subst e
  by_cases e2:i=j - 1
  ·subst e2; exact c
  ·exact hS.tra _ _ _ (hp.lt _ (by omega)) (hp.lt _ (by omega)) (hp.lt _ hm) (u i (j - 1) (by omega) (by omega)) c
 ·exact u i j hij (by omega)
theorem DownTo.succ (hS:Strict n lt) (hp:Perm0 n p) {m:Nat} (h1:1≤m) (hm:m < n) (u:DownTo lt p m) (c:lt (p.getD m 0) (p.getD (m - 1) 0)=true):DownTo lt p (m+1):=fun i j hij hj=>by
 by_cases e:j=m
 ·subst e
  by_cases e2:i=j - 1
  ·subst e2; exact c
  ·exact hS.tra _ _ _ (hp.lt _ hm) (hp.lt _ (by omega)) (hp.lt _ (by omega)) c (u i (j - 1) (by omega) (by omega))
 ·exact u i j hij (by omega)
theorem Strict.not (hS:Strict n lt) {i j:Nat} (hi:i < n) (hj:j < n) (h:i≠j) (c:lt i j=false):lt j i=true:=by
 rcases hS.tot i j hi hj h with z | z
 ·rw [c] at z; cases z
 ·exact z
theorem Strict.anti (hS:Strict n lt) {i j:Nat} (hi:i < n) (hj:j < n) (c:lt i j=true):lt j i=false:=by
 cases z:lt j i with
 | false=>rfl
 | true=>exact absurd (hS.irr i hi) (by rw [hS.tra i j i hi hj hi c z]; decide)
theorem asks_asc (hS:Strict n lt) (hp:Perm0 n p):∀ (f m:Nat),1≤m→m+f≤n→UpTo lt p m→Asks n lt (fun r=>m≤r∧r≤m+f∧UpTo lt p r∧(r < m+f→lt (p.getD r 0) (p.getD (r - 1) 0)=true)) (kas_asc p f m)
 | 0,m,_,_,u=>⟨Nat.le_refl _,Nat.le_refl _,u,fun z=>absurd z (by omega)⟩
 | f+1,m,h1,h2,u=>by
  have a:=hp.lt m (by omega)
  have b:=hp.lt (m - 1) (by omega)
  refine ⟨a,b,?_⟩
  cases c:lt (p.getD m 0) (p.getD (m - 1) 0) with
  | true=>exact ⟨Nat.le_refl _,by omega,u,fun _=>c⟩
  | false=>
   have q:=hS.not a b (fun e=>by have:=hp.inj m (m - 1) (by omega) (by omega) e; omega) c
   exact (asks_asc hS hp f (m+1) (by omega) (by omega) (u.succ hS hp h1 (by omega) q)).imp fun r h=>⟨by omega,by omega,h.2.2.1,fun z=>h.2.2.2 (by omega)⟩
theorem asks_desc (hS:Strict n lt) (hp:Perm0 n p):∀ (f m:Nat),1≤m→m+f≤n→DownTo lt p m→Asks n lt (fun r=>r.1=p∧m≤r.2.1∧r.2.1≤m+f∧r.2.2=0∧DownTo lt p r.2.1) (kas_desc f p m 0)
 | 0,m,_,_,u=>⟨rfl,Nat.le_refl _,Nat.le_refl _,rfl,u⟩
 | f+1,m,h1,h2,u=>by
  have a:=hp.lt m (by omega)
  have b:=hp.lt (m - 1) (by omega)
  refine ⟨a,b,?_⟩
  cases c:lt (p.getD m 0) (p.getD (m - 1) 0) with
  | true=>exact (asks_desc hS hp f (m+1) (by omega) (by omega) (u.succ hS hp h1 (by omega) c)).imp fun r h=>⟨h.1,by omega,by omega,h.2.2.2.1,h.2.2.2.2⟩
  | false=>
   have q:=hS.not a b (fun e=>by have:=hp.inj m (m - 1) (by omega) (by omega) e; omega) c
   refine ⟨b,a,?_⟩
   rw [q]
   exact ⟨rfl,Nat.le_refl _,(by show m≤m+(f+1); omega),rfl,u⟩
theorem rev_getD (hp:Perm0 n p) {m:Nat} (hm:m≤n) (k:Nat):(kas_rev p 0 m).getD k 0=if k < m then p.getD (m - 1 - k) 0 else p.getD k 0:=by
 have h:=getElem?_mirror_all (xs:=p) (i:=0) (j:=m) (by rw [hp.size]; exact hm) k
 unfold PySem.W.kas_rev
 by_cases z:k < m
 ·rw [if_pos ⟨Nat.zero_le _,z⟩,Nat.zero_add] at h
  rw [if_pos z]
  exact getD_q h
 ·rw [if_neg (by omega)] at h
  rw [if_neg z]
  exact getD_q h
theorem Perm0.rev (hp:Perm0 n p) (m:Nat):Perm0 n (kas_rev p 0 m):=⟨(Array.perm_iff_toList_perm.mp (mirror_perm _ _ _ _)).trans hp.per⟩
theorem asks_count (hS:Strict n lt) (hp:Perm0 n p) (h1:1≤n):Asks n lt (fun r=>1≤r.1∧r.1≤n∧Perm0 n r.2∧UpTo lt r.2 r.1) (kas_count n p):=by
 unfold PySem.W.kas_count
 refine Asks.bind (fun m hm=>?_) (asks_asc hS hp (n - 1) 1 (Nat.le_refl _) (by omega) fun i j a b=>by omega)
 obtain ⟨m1,m2,u,c⟩:=hm
 by_cases e:m=n
 ·subst e
  rw [if_pos (by simp)]
  exact ⟨h1,Nat.le_refl _,hp,u⟩
 ·rw [if_neg (by simpa using e)]
  by_cases g:m > 1
  ·rw [if_pos g]
   refine ⟨hp.lt _ (by omega),hp.lt _ (by omega),?_⟩
   rw [u 0 (m - 1) (by omega) (by omega)]
   exact ⟨m1,by omega,hp,u⟩
  ·rw [if_neg g]
   obtain rfl:m=1:=by omega
   have d2:DownTo lt p 2:=fun i j a b=>by
    obtain rfl:j=1:=by omega
    obtain rfl:i=0:=by omega
    exact c (by omega)
   unfold PySem.W.kas_descPart
   refine Asks.bind (fun r hr=>?_) (asks_desc hS hp (n - 2) 2 (by omega) (by omega) d2)
   obtain ⟨r1,r2,r3⟩:=r
   obtain ⟨e1,e2,e3,e4,e5⟩:=hr
   dsimp only at e1 e2 e3 e4 e5 ⊢
   subst e1 e4
   rw [if_neg (by omega)]
   unfold PySem.W.kas_tail3
   have hr2:r2≤n:=by omega
   refine Asks.bind (fun q hq=>?_) (asks_asc hS (hp.rev r2) (n - r2) r2 (by omega) (by omega) fun i j a b=>?_)
   ·exact ⟨by omega,by omega,hp.rev r2,hq.2.2.1⟩
   ·rw [rev_getD hp hr2,rev_getD hp hr2,if_pos (by omega),if_pos b]
    exact e5 _ _ (by omega) (by omega)
theorem asks_place (hS:Strict n lt) (hp:Perm0 n p) {k:Nat} (hk:k < n) (u:UpTo lt p k):∀ (f l r:Nat),l≤r→r≤k→r - l≤f→(∀ t,t < l→lt (p.getD k 0) (p.getD t 0)=false)→(∀ t,r≤t→t < k→lt (p.getD k 0) (p.getD t 0)=true)→
  Asks n lt (fun l'=>l'≤k∧(∀ t,t < l'→lt (p.getD k 0) (p.getD t 0)=false)∧∀ t,l'≤t→t < k→lt (p.getD k 0) (p.getD t 0)=true) (kas_place p k f l r)
 | 0,l,r,h1,h2,h3,a,b=>⟨by omega,a,fun t t1 t2=>b t (by omega) t2⟩
 | f+1,l,r,h1,h2,h3,a,b=>by
  unfold PySem.W.kas_place
  by_cases z:l ≥ r
  ·rw [if_pos z]
   exact ⟨by omega,a,fun t t1 t2=>b t (by omega) t2⟩
  ·rw [if_neg z]
   have gk:=hp.lt k hk
   have gm:=hp.lt ((l+r) / 2) (by omega)
   refine ⟨gk,gm,?_⟩
   cases c:lt (p.getD k 0) (p.getD ((l+r) / 2) 0) with
   | true=>
    refine asks_place hS hp hk u f l ((l+r) / 2) (by omega) (by omega) (by omega) a fun t t1 t2=>?_
    by_cases e:t=(l+r) / 2
    ·rw [e]; exact c
    ·exact hS.tra _ _ _ gk gm (hp.lt _ (by omega)) c (u _ t (by omega) t2)
   | false=>
    refine asks_place hS hp hk u f ((l+r) / 2+1) r (by omega) h2 (by omega) (fun t t1=>?_) b
    by_cases e:t=(l+r) / 2
    ·rw [e]; exact c
    ·cases q:lt (p.getD k 0) (p.getD t 0) with
     | false=>rfl
     | true=>
      have:=hS.tra _ _ _ gk (hp.lt t (by omega)) gm q (u t _ (by omega) (by omega))
      rw [c] at this
      cases this
theorem bub_getD (hp:Perm0 n p) {k l:Nat} (hk:k < n) (hl:l≤k) (t:Nat):(bubble p k (k - l)).getD t 0=if t=l then p.getD k 0 else if l < t∧t≤k then p.getD (t - 1) 0 else p.getD t 0:=by
 have h:=getElem?_bubble (xs:=p) (src:=k) (by rw [hp.size]; exact hk) (k - l) (by omega) t
 rw [show k - (k - l)=l by omega] at h
 split at h
 ·rename_i z; rw [if_pos z]; exact getD_q h
 ·rename_i z
  rw [if_neg z]
  split at h
  ·rename_i y; rw [if_pos y]; exact getD_q h
  ·rename_i y; rw [if_neg y]; exact getD_q h
theorem Perm0.bub (hp:Perm0 n p) (k d:Nat):Perm0 n (bubble p k d):=⟨(Array.perm_iff_toList_perm.mp (bubble_perm _ _ _)).trans hp.per⟩
theorem asks_bin (hS:Strict n lt):∀ (f:Nat) (p:Array Nat) (k:Nat),Perm0 n p→1≤k→k+f=n→UpTo lt p k→Asks n lt (fun q=>Perm0 n q∧UpTo lt q n) (kas_bin f p k)
 | 0,p,k,hp,_,e,u=>⟨hp,by rw [← e]; exact u⟩
 | f+1,p,k,hp,h1,e,u=>by
  have hk:k < n:=by omega
  unfold PySem.W.kas_bin
  refine Asks.bind (fun l hl=>?_) (asks_place hS hp hk u k 0 k (Nat.zero_le _) (Nat.le_refl _) (by omega) (fun t z=>absurd z (Nat.not_lt_zero _)) fun t a b=>absurd a (by omega))
  obtain ⟨l1,l2,l3⟩:=hl
  refine asks_bin hS f _ (k+1) (hp.bub k (k - l)) (by omega) (by omega) fun i j a b=>?_
  have ne:∀ t,t < k→p.getD k 0≠p.getD t 0:=fun t ht z=>by have:=hp.inj k t hk (by omega) z; omega
  rw [bub_getD hp hk l1,bub_getD hp hk l1]
  by_cases c1:i=l
  ·rw [if_pos c1,if_neg (by omega)]
   split
   ·exact l3 _ (by omega) (by omega)
   ·exact absurd a (by omega)
  ·rw [if_neg c1]
   by_cases c2:j=l
   ·rw [if_pos c2,if_neg (by omega)]
    exact hS.not (hp.lt _ hk) (hp.lt _ (by omega)) (ne i (by omega)) (l2 i (by omega))
   ·rw [if_neg c2]
    split <;> split <;> exact u _ _ (by omega) (by omega)
theorem asks_sort (hS:Strict n lt) (h1:1≤n):Asks n lt (fun q=>Perm0 n q∧UpTo lt q n) (kas_sort n):=by
 unfold PySem.W.kas_sort
 refine Asks.bind (fun r hr=>?_) (asks_count hS (perm0_range n) h1)
 obtain ⟨m,q⟩:=r
 obtain ⟨e1,e2,e3,e4⟩:=hr
 dsimp only at e1 e2 e3 e4 ⊢
 by_cases z:m < n
 ·rw [if_pos z,show max m 1=m by omega]
  exact asks_bin hS (n - m) q m e3 e1 (by omega) e4
 ·rw [if_neg z]
  obtain rfl:m=n:=by omega
  exact ⟨e3,e4⟩
end
end L2
namespace L2
open PySem PySem.Spec PyProof.Rows
def OrdAll (zs:List Str):Prop:=zs.Pairwise fun a b=>ordS b a=false
section
open PySem.W (kas_count kas_ask kas_item kas_st kas_asc)
theorem asks_sorted {n:Nat} {lt:Nat→Nat→Bool} (h1:1≤n) (h:∀ t,1≤t→t < n→lt t (t - 1)=false):Asks n lt (fun r=>r.1=n∧r.2=(List.range n).toArray) (kas_count n (List.range n).toArray):=by
 unfold PySem.W.kas_count
 refine Asks.bind (P:=fun m=>m=1+(n - 1)) (fun m e=>?_) (asks_up (fun i=>?_) _ _ fun t t1 t2=>?_)
 ·have e':m=n:=by omega
  subst e'
  rw [if_pos (by simp)]
  exact ⟨rfl,rfl⟩
 ·by_cases hi:i < n
  ·rw [range_getD hi]; exact hi
  ·simp [Array.getD,hi]; omega
 ·rw [range_getD (by omega),range_getD (by omega)]
  exact h t t1 (by omega)
theorem run_up {prog:Program} {w:World} {A:Around} {E:Value→Shared→Prop} {κ:SortKind} {s:Shared} {ks vs:List Value} {Q:SortSt→Shared→Prop} {G:Array Nat→Shared→Prop} (hl:ks.length=vs.length) (two:2≤vs.length)
  (fin:∀ p st t,p.size=vs.length→arrOf st=p.map (kas_item (ks.toArray.zip vs.toArray))→failedOf st=none→G p t→Q st t)
  (h:(kas_count vs.length (List.range vs.length).toArray).kasWp (kas_ask prog w A κ ks) (fun r t=>r.1=vs.length∧G r.2 t) s) :
  wpAny (model prog w) A ((sortRuns').run (SortSt.mk' κ (ks.toArray.zip vs.toArray) #[] 7 none)) (fun r t=>Q r.2 t) E s:=by
 rw [PySem.W.kat_ask_eq hl] at h
 have run:=runs_up (E:=E) (Q:=fun _ st t=>Q st t) two fin h
 have zl:(ks.toArray.zip vs.toArray).size=vs.length:=by simp [hl]
 have e:=PySem.W.kas_range (ks.toArray.zip vs.toArray)
 rw [zl] at e
 have e':SortSt.mk' κ (ks.toArray.zip vs.toArray) #[] 7 none=kas_st κ (ks.toArray.zip vs.toArray) (List.range vs.length).toArray:=by
  show _=SortSt.mk' κ ((List.range vs.length).toArray.map (kas_item (ks.toArray.zip vs.toArray))) #[] 7 none
  exact congrArg (fun z=>SortSt.mk' κ z #[] 7 none) e.symm
 rw [e']
 exact run
end
section
variable {X:Cx} {pins:List (Addr × Obj)} {σ:St} {H:Hp} {s:Shared} {x:Str} {k:Nat} {ps:List Str} {sp:Sp}
def Comes (zs zs':List Str):Prop:=zs'.Perm zs∧OrdAll zs'
theorem lt_tri (x y:List Nat) (h:x≠y):x < y∨y < x:=by
 rcases Decidable.em (x < y) with z | z
 ·exact .inl z
 ·rcases Decidable.em (y < x) with z' | z'
  ·exact .inr z'
  ·exact absurd (List.le_antisymm (List.not_lt.mp z') (List.not_lt.mp z)) h
theorem ordS_irr (a:Str):ordS a a=false:=by
 unfold ordS ordLt
 rw [if_pos rfl]
 exact decide_eq_false (List.lt_irrefl _)
theorem ordS_tra {a b c:Str} (h1:ordS a b=true) (h2:ordS b c=true):ordS a c=true:=by
 unfold ordS ordLt at *
 by_cases e1:(a.length:Int)=b.length
 ·rw [if_pos e1] at h1
  by_cases e2:(b.length:Int)=c.length
  ·rw [if_pos e2] at h2
   rw [if_pos (e1.trans e2)]
   exact decide_eq_true (List.lt_trans (of_decide_eq_true h1) (of_decide_eq_true h2))
  ·rw [if_neg e2] at h2
   have:=of_decide_eq_true h2
   rw [if_neg (by omega)]
   exact decide_eq_true (by omega)
 ·rw [if_neg e1] at h1
  have h1':=of_decide_eq_true h1
  by_cases e2:(b.length:Int)=c.length
  ·rw [if_neg (by omega)]
   exact decide_eq_true (by omega)
  ·rw [if_neg e2] at h2
   have:=of_decide_eq_true h2
   rw [if_neg (by omega)]
   exact decide_eq_true (by omega)
theorem ordS_tot {a b:Str} (h:a≠b):ordS a b=true∨ordS b a=true:=by
 unfold ordS ordLt
 by_cases e:(a.length:Int)=b.length
 ·rw [if_pos e,if_pos e.symm]
  rcases lt_tri a.cps.toList b.cps.toList (fun z=>h (by cases a; cases b; simpa using z)) with z | z
  ·exact .inl (decide_eq_true z)
  ·exact .inr (decide_eq_true z)
 ·rw [if_neg e,if_neg (fun z=>e z.symm)]
  rcases Int.lt_or_lt_of_ne e with z | z
  ·exact .inl (decide_eq_true z)
  ·exact .inr (decide_eq_true z)
theorem strict_of {zs:List Str} (nd:zs.Nodup):Strict zs.length fun i j=>ordS (zs.getD i ⟨#[]⟩) (zs.getD j ⟨#[]⟩):=by
 refine ⟨fun i _=>ordS_irr _,fun i j k _ _ _=>ordS_tra,fun i j hi hj h=>ordS_tot ?_⟩
 rw [List.getD_eq_getElem?_getD,List.getElem?_eq_getElem hi,List.getD_eq_getElem?_getD,List.getElem?_eq_getElem hj]
 intro e
 rw [List.nodup_iff_pairwise_ne,List.pairwise_iff_getElem] at nd
 rcases Nat.lt_trichotomy i j with z | z | z
 ·exact nd i j hi hj z e
 ·exact h z
 ·exact nd j i hj hi z e.symm
theorem ord_few:∀ {zs:List Str},zs.length < 2→OrdAll zs
 | [],_=>.nil
 | [_],_=>List.pairwise_singleton _ _
 | _ :: _ :: _,h=>absurd h (by simp)
theorem pe_sortK {r:List V→Hp→VK→Prop} {e:Expr} {te:TE} {p p2 kp pos:Pos} (C:Cal X.prog X.w X.K X.mg X.base x k ps sp) (hg:Gl X "sorted") (hm:X.mg "sorted" = none) (hgx:Gl X x) (he:PE X e te)
  (hr:∀ (pins:List (Addr × Obj)) (s:Shared) (σ:St) (H:Hp) (vs:List V) (us:List Value) (Q:VK),Inv X pins σ H s→Vals vs us→r vs H Q→wpAny (model X.prog X.w) X.A (call (.builtin "sorted") us [(Str.ofString "key",.ref C.f)]) (EP X pins σ Q) X.xe s)
  (hdb:(x==("__debug__" : Str))=false) (hse:starEach [e] X.env=(false,eval e X.env) :: starEach [] X.env)
  (hpl:(backTo pos (starEach [e] X.env)).any (·.1)=false) (hkw:∀ e':Expr,(backToKw pos (keywordEach [⟨some "key",e',kp⟩] X.env)).filterMap (·.1)=[Str.ofString "key"])
  (hall:∀ e':Expr,(backToKw pos (keywordEach [⟨some "key",e',kp⟩] X.env)).all (·.1.isSome)=true) (hany:∀ e':Expr,(backToKw pos (keywordEach [⟨some "key",e',kp⟩] X.env)).any (·.1.isNone)=false) :
  PE X (.Call (.Name "sorted" p) [e] [⟨some "key",.Name x p2,kp⟩] pos) (tCB r (tCons te tNil)):=by
 intro pins s σ H Q I h
 refine wpAny_Call_Name_kw (ld_blt I hg hm bt_sorted ?_)
 refine PyProof.Rows.callWith_kw (thn (pa_cons he pa_nil hse pos pins s σ H (fun vs H1=>r vs H1 Q) I h) fun us s1 ⟨vs,H1,I1,r1,hq⟩=>?_) (by rw [hse]; rfl) hpl (hall _) (hany _)
 refine thn (pk_cons (nm:=some "key") (kpos:=kp) (pe_glob (pos:=p2) hgx C.at_ (show RelV (.ref C.f) (.ref C.f) from rfl) hdb) pk_nil pos pins s1 σ H1 (fun ws H2=>ws=[.ref C.f]∧H2=H1) I1 ⟨rfl,rfl⟩) fun ws s2 ⟨zs',H2,I2,rz,e1,e2⟩=>?_
 subst e1 e2
 obtain ⟨w1,rfl,rw1⟩:=Vals.one rz
 obtain rfl:w1=Value.ref C.f:=rw1
 rw [hkw]
 exact hr pins s2 σ H2 vs us Q I2 r1 hq
theorem ord_one {zs zs':List Str} (h:zs.Perm zs') (a:OrdAll zs) (b:OrdAll zs'):zs=zs':=by
 refine List.Perm.eq_of_pairwise (le:=fun x y=>ordS y x=false) (fun x y _ _ h1 h2=>?_) a b h
 rcases Decidable.em (x=y) with e | e
 ·exact e
 ·rcases ordS_tot e with z | z
  ·rw [h2] at z; cases z
  ·rw [h1] at z; cases z
end
end L2
namespace L2
open PySem PySem.Spec PyProof.Rows
section
variable {P:Program} {w:World} {A:Around} {E:Value→Shared→Prop} {s:Shared}
theorem collect_src {T:String} {r d:Addr} {n:Nat} {Pv:Nat→Value→Prop} {OK:Heap→Prop} {Q:List Value→Shared→Prop} (K:PySem.W.KdlSrc P w T r d n Pv OK) (hh:A.handled=none) (hok:OK s.heap) (hn:n≤sizeLine)
  (hQ:∀ (vs:List Value) (h':Heap) (tk:Nat),(∀ b o,s.heap.get? b=some o→h'.get? b=some o)→vs.length=n→(∀ (j:Nat) v,vs[j]? = some v→Pv j v)→Q vs { s with heap:=h',toks:=tk }):wpAny (model P w) A (collect (.ref r)) Q E s:=by
 have lt:=K.there _ hok
 unfold collect
 refine wpAny_bind (wpAny_runValue (codeAny_builtin PySem.F.entry_proto_collect ?_))
 rw [Around.under_plainId PySem.F.plain_proto_collect _]
 show wpAny _ A.in1 (newList [] >>= fun l=>again (.builtin "list.__iadd__" ⟨[l,.ref r],[]⟩)) _ _ s
 refine wpAny_bind (wpAny_newObj_type ?_)
 refine wpAny_pure ⟨plainId_quiet PySem.F.plain_list_iadd _,codeAny_builtin PySem.F.entry_list_iadd ?_⟩
 rw [Around.under_plainId PySem.F.plain_list_iadd _]
 show wpAny _ A.in1 (Builtin.List.listExtendWith (.ref s.heap.objs.size) (.ref r) (.ref s.heap.objs.size)) _ _ _
 refine PySem.W.kdl_extend (R:=fun r s'=>match r with | .ok (.ret v)=>wpAny (model P w) A (match v with | .ref a=>(do match (← load a).data with | .seq xs _=>pure xs.toList | _=>unsupported "internal:collect") | _=>unsupported "internal:collect") Q E s' | .ok _=>False | .error e=>E e s') (s:={ s with heap:=s.heap.push { cls:=.type "list",data:=.seq ([]:List Value).toArray } }) K hh (K.keep _ _ hok fun b _ o e=>Heap.get?_push_of_some _ e) _ (Nat.ne_of_gt lt.1) (Nat.ne_of_gt lt.2) _ 0 (Heap.get?_push_size _ rfl) (fun h' tk acc c k e it=>?_) hn
 refine wpAny_bind (wpAny_load e (wpAny_pure ?_))
 exact hQ acc.toList h' tk (fun b o q=>k b o (Nat.ne_of_lt (Heap.lt_size q)) (Heap.get?_push_of_some _ q)) (by rw [Array.length_toList]; exact it.1) fun j v q=>it.2 j v (by rw [← Array.getElem?_toList]; exact q)
end
section
variable {X:Cx} {pins:List (Addr × Obj)} {σ:St} {H:Hp} {s:Shared} {x:Str} {k:Nat} {ps:List Str} {sp:Sp}
theorem keys_vals {kvs:List (Key × V)} {vs:List (Key × Value)} {its:List Value} (rel:KV kvs vs) (hl:its.length=vs.length) (h:∀ (j:Nat) (v:Value),its[j]? = some v→∃ (k:Key) (y:Value),vs[j]? = some (k,y)∧(mixKind X.prog X.w).is k v=true):Vals (kvs.map fun q=>kV q.1) its:=by
 have one:∀ (k:Key) (v:Value),(mixKind X.prog X.w).is k v=true→RelV (kV k) v:=fun k v e=>by
  have e':keyIs k v=true:=e
  cases k with
  | inl i=>
   have e2:Value.isInt i v=true:=e'
   unfold Value.isInt at e2
   split at e2
   ·exact ⟨_,by rw [beq_iff_eq.mp e2]⟩
   ·cases e2
  | inr z=>
   have e2:Value.isStrOf z v=true:=e'
   unfold Value.isStrOf at e2
   split at e2
   ·exact ⟨_,by rw [beq_iff_eq.mp e2]⟩
   ·cases e2
 induction rel generalizing its with
 | nil=>
  obtain rfl:its=[]:=List.eq_nil_of_length_eq_zero hl
  exact .nil
 | @cons p q _ _ r _ ih=>
  cases its with
  | nil=>cases hl
  | cons u its=>
   obtain ⟨k,y,e1,e2⟩:=h 0 u rfl
   refine .cons ?_ (ih (Nat.succ.inj hl) fun j v e=>?_)
   ·have e3:q=(k,y):=Option.some.inj e1
    have:p.1=k:=by rw [r.1,e3]
    show RelV (kV p.1) u
    rw [this]
    exact one k u e2
   ·obtain ⟨k',y',a,b⟩:=h (j+1) v (by simpa using e)
    exact ⟨k',y',by simpa using a,b⟩
theorem collect_keys {a:Addr} {kvs:List (Key × V)} {A:Around} {E:Value→Shared→Prop} {Qc:List Value→Shared→Prop} (hh:A.handled=none) (I:Inv X pins σ H s) (e:H a=some (.dK kvs)) (h:∀ its s',Vals (kvs.map fun q=>kV q.1) its→Inv X pins σ H s'→Qc its s') :
  wpAny (model X.prog X.w) A (collect (.ref a)) Qc E s:=by
 obtain ⟨z,hd,vs,rel,o,es,ep,dd⟩:=dk_of I.hok e
 have hv:vs.length=kvs.length:=(Paired.length rel).symm
 refine collect_src (PySem.W.kdl_dict (knd:=mixKind X.prog X.w) (kvs:=vs) (ep:=ep) hd) hh ⟨o,es,dd⟩ (by omega) fun its h' tk kp hl hP=>?_
 exact h its _ (keys_vals rel hl hP) (I.kept kp)
inductive rListDI (xs:List V) (H:Hp) (Q:VK):Prop
 | mk (p kvs:_) (h1:xs=[.ref p]) (h2:H p=some (.dK kvs)) (h3:∀ l,H l=none→Q (.ref l) (upd H l (.lst (kvs.map fun q=>kV q.1)))):rListDI xs H Q
def rListD:List V→Hp→VK→Prop:=fun xs H Q=>rListDI xs H Q
theorem call_listD (hc:X.calm=true):CallR X (.type "list") rListD:=by
 intro pins s σ H xs us Q I r h
 obtain ⟨p,kvs,rfl,e,q⟩:=h
 obtain ⟨u,rfl,ru⟩:=Vals.one r
 obtain rfl:u=Value.ref p:=ru
 obtain ⟨z,hd,vs,rel,o,es,ep,dd⟩:=dk_of I.hok e
 have hv:vs.length=kvs.length:=(Paired.length rel).symm
 refine PySem.W.kdl_call (PySem.W.kdl_dict (knd:=mixKind X.prog X.w) (kvs:=vs) (ep:=ep) hd) (I.ok.hd hc) ⟨o,es,dd⟩ (by omega) fun h' tk acc c kp hD it=>?_
 have hV:=keys_vals (X:=X) (its:=acc.toList) rel (by rw [Array.length_toList]; exact it.1) fun j v q=>it.2 j v (by rw [← Array.getElem?_toList]; exact q)
 refine ⟨.ref s.heap.objs.size,_,I.laid (t':=tk) kp (Nat.le_refl _) (show ObjOk X.prog X.w _ h' _ (.lst (kvs.map fun q=>kV q.1)) from ⟨by rw [List.length_map]; exact z,acc.toList,c,hV,?_⟩),rfl,q _ I.fresh⟩
 rw [Array.toArray_toList]
 exact hD
theorem keys_strs {kvs:List (Key × V)} {zs:List Str} (h:kvs.map (·.1)=zs.map Sum.inr):(kvs.map fun q=>kV q.1)=zs.map V.str:=by
 have e:=congrArg (List.map kV) h
 rw [List.map_map,List.map_map] at e
 exact e
end
end L2
namespace L2
open PySem PySem.Spec PyProof.Rows
section
variable {prog:Program} {w:World} {A:Around} {E:Value→Shared→Prop} {s:Shared} {K:PySem.W.Frag} {C:Addr}
end
section
variable {prog:Program} {w:World} {A:Around} {E:Value→Shared→Prop} {s:Shared} {K:PySem.W.Frag} {x C:Addr} {ox:Obj} {od:Option Obj} {name:Str}
end
end L2
namespace L2
open PySem PySem.Spec PyProof.Rows
section
variable {X:Cx} {pins:List (Addr × Obj)} {σ:St} {H:Hp} {s:Shared} {a C:Addr} {fs:List (Str × V)} {A:Around} {E:Value→Shared→Prop}
end
end L2
namespace L2
open PySem PySem.Spec PyProof.Rows
section
variable {P:Program} {w:World} {A:Around} {E:Value→Shared→Prop} {s:Shared}
end
section
variable {X:Cx}
end
end L2
namespace L2
open PySem PySem.Spec PyProof.Rows
section
variable {P:Program} {w:World} {A:Around} {E:Value→Shared→Prop} {s:Shared} {d:Addr} {vs:List Value} {ep:Nat}
end
section
variable {X:Cx} {pins:List (Addr × Obj)} {σ:St} {H:Hp} {s:Shared} {x:Str} {k:Nat} {ps:List Str} {sp:Sp}
end
end L2
namespace L2
open PySem PySem.Spec PyProof.Rows
section
open PySem.W (KasT kas_asc kas_desc kas_tail3 kas_descPart kas_count kas_place kas_bin kas_sort kas_rev)
variable {n:Nat} {key:Nat→Nat} {p:Array Nat}
end
end L2
namespace L2
open PySem PySem.Spec PyProof.Rows
section
open PySem.W (kas_sort kas_ask kas_item)
variable {X:Cx} {pins:List (Addr × Obj)} {σ:St} {H:Hp} {s:Shared}
end
end L2
namespace L2
open PySem PySem.Spec PyProof.Rows
section
variable {P:Program} {w:World} {A:Around} {E:Value→Shared→Prop} {s:Shared}
set_option maxHeartbeats 3200000 in
end
section
variable {X:Cx}
end
end L2
namespace L2
open PySem PySem.Spec PyProof.Rows
section
variable {P:Program} {w:World} {A:Around} {E:Value→Shared→Prop} {s:Shared} {t r:Addr} {items:Array Value}
end
section
variable {X:Cx}
end
end L2
namespace L2
open PySem PySem.Spec PyProof.Rows
section
variable {X:Cx} {tg:Expr}
end
end L2
namespace L2
open PySem PySem.Spec PyProof.Rows
section
variable {P:Program} {w:World} {H:Hp} {h h':Heap} {f c a:Addr} {fd:FuncData} {q:Str}
end
section
variable {fs ex:List Addr} {H:Hp} {h h':Heap} {P c f:Addr} {o1 o2:HO} {ps more:Array Value}
def made (H:Hp) (P c f:Addr) (ps:Array Value) (o1 o2:HO):Hp:=upd (upd (upd H P (.tbl ps)) c o1) f o2
end
section
variable {X:Cx} {params:Arguments} {body:Expr} {scope:Scope} {pos:Pos} {c P:Addr} {L:List (Pos × Str)}
end
end L2
namespace L2
open PySem PySem.Spec PyProof.Rows
section
variable {P:Program} {w:World} {A:Around} {E:Value→Shared→Prop} {s:Shared} {r:Addr} {x:Str}
end
section
variable {X:Cx}
end
end L2
namespace L2
open PySem PySem.Spec PyProof.Rows
section
variable {X:Cx} {pins:List (Addr × Obj)} {σ:St} {H:Hp} {s:Shared}
end
section
variable {X:Cx}
end
end L2
namespace L2
open PySem PySem.Spec PyProof.Rows
section
variable {P:Program} {w:World} {H:Hp} {s:Shared}
end
section
variable {X:Cx}
end
end L2
namespace L2
open PySem PySem.Spec PyProof.Rows
section
variable {X:Cx} {tg:Expr}
end
end L2
namespace L2
open PySem PySem.Spec PyProof.Rows
section
variable {P:Program} {w:World} {A:Around} {E:Value→Shared→Prop} {s:Shared}
open AutoSeq1 (wpAny_loadPart') in
end
section
variable {X:Cx} {es:List Expr} {n:Nat} {tp:Pos}
end
end L2
namespace L2
open PySem PySem.Spec PyProof.Rows
section
variable {P:Program} {w:World} {κ:Type} [DecidableEq κ] {knd:HeapKind P w κ} {A:Around} {E:Value→Shared→Prop} {s:Shared}
end
section
variable {X:Cx}
end
end L2
namespace L2
open PySem PySem.Spec PyProof.Rows
section
variable {X:Cx} {pos:Pos}
end
end L2
namespace L2
open PySem PySem.Spec PyProof.Rows
section
variable {X:Cx}
end
end L2
namespace L2
open PySem PySem.Spec PyProof.Rows
section
variable {X:Cx} {name:Str} {params:Arguments} {body:List Stmt} {scope:Scope} {pos:Pos} {c P:Addr} {L:List (Pos × Str)} {i:Nat}
end
end L2
namespace L2
open PySem PySem.Spec PyProof.Rows
section
variable {P:Program} {w:World} {κ:Type} [DecidableEq κ] {knd:PySem.KeyKind P w κ} {A:Around} {E:Value→Shared→Prop} {s:Shared}
open AutoSeq1 (wpAny_loadPart') in
end
section
variable {X:Cx} {ex:List Expr} {n:Nat} {tp:Pos}
end
end L2
namespace L2
open PySem PySem.Spec PyProof.Rows
section
variable {P:Program} {w:World} {κ:Type} [DecidableEq κ] {knd:HeapKind P w κ} {A:Around} {E:Value→Shared→Prop} {s:Shared}
end
section
variable {X:Cx}
end
end L2
namespace L2
open PySem PySem.Spec PyProof.Rows
section
variable {X:Cx}
end
end L2
namespace L2
open PySem PySem.Spec PyProof.Rows
section
variable {P:Program} {w:World} {A:Around} {E:Value→Shared→Prop} {s:Shared} {it d:Addr} {i ep:Nat} {es:Array DictEntry}
open AutoSeq1 (wpAny_loadPart') in
end
section
variable {X:Cx} {tg:Expr}
end
section
variable {X:Cx} {ex:List Expr} {n:Nat} {tp:Pos}
end
end L2
namespace L2
open PySem PySem.Spec PyProof.Rows
end L2
namespace L2
open PySem PySem.Spec PyProof.Rows
open AutoSeq1 (wpAny_loadPart') in
open AutoSeq1 (wpAny_loadPart') in
section
variable {X:Cx}
end
end L2
namespace L2
open PySem PySem.Spec PyProof.Rows
section
variable {M:Model} {A:Around} {E:Value→Shared→Prop} {s:Shared} {base:Heap} {env:Env} {outer:List Env} {L e C:Addr} {d:Option Addr}
end
section
variable {X:Cx} {pins:List (Addr × Obj)} {σ:St} {H:Hp} {s:Shared} {a C:Addr} {d:Option Addr} {M:Model} {A:Around} {E':Value→Shared→Prop}
end
section
variable {X:Cx} {E:St→XK}
end
section
variable {X:Cx} {pins pins':List (Addr × Obj)} {σ:St} {H:Hp} {s:Shared} {A:Around} {c:Bool} {pn:List (Addr × Obj)} {xe:Value→Shared→Prop}
end
end L2
namespace L2
open PySem PySem.Spec PyProof.Rows
section
variable {X:Cx} {pins:List (Addr × Obj)} {σ:St} {H:Hp} {s:Shared} {a C:Addr} {fs:List (Str × V)} {A:Around} {E:Value→Shared→Prop}
end
section
variable {P:Program} {w:World} {K:PySem.W.Frag} {mg:Str→Option Value} {base:Heap}
end
end L2
namespace L2
open PySem PySem.Spec PyProof.Rows
section
variable {X:Cx} {es:List Expr} {n:Nat} {tp:Pos}
end
end L2
namespace L2
open PySem PySem.Spec PyProof.Rows
section
variable {P:Program} {w:World} {A:Around} {E:Value→Shared→Prop} {s:Shared} {r t:Addr} {items:Array Value}
open AutoSeq1 (wpAny_loadPart') in
end
section
variable {X:Cx}
end
end L2
namespace L2
open PySem PySem.Spec PyProof.Rows
section
variable {X:Cx}
end
end L2
namespace L2
open PySem PySem.Spec PyProof.Rows
end L2
namespace L2
open PySem PySem.Spec PyProof.Rows
section
open PySem.W (kasC kasC_pure kasC_bind kasC_get kasC_modify kasC_lift kasC_nil kasC_cons kasC_range kas_item kas_cmp kas_st)
def gallop':Bool→Keyed→Array Keyed→Nat→Nat→Nat→StateT SortSt Sem (Option Nat):=sortPriv% PySem.Builtin.gallop
def mergeLo':Array Keyed→Array Keyed→StateT SortSt Sem (Array Keyed):=sortPriv% PySem.Builtin.mergeLo
def mergeHi':Array Keyed→Array Keyed→StateT SortSt Sem (Array Keyed):=sortPriv% PySem.Builtin.mergeHi
def DK (prog:Program) (w:World) (A:Around) (s:Shared) {α:Type} (m:StateT SortSt Sem α) (st:SortSt) (P:α→SortSt→Prop):Prop:=
 ∀ (E:Value→Shared→Prop) (Q:α→SortSt→Shared→Prop),(∀ a st',P a st'→Q a st' s)→kasC (model prog w) A E m Q st s
variable {prog:Program} {w:World} {A:Around} {s:Shared} {α β:Type} {st:SortSt}
theorem DK.pure {a:α} {P:α→SortSt→Prop} (h:P a st):DK prog w A s (Pure.pure a) st P:=fun E Q q=>kasC_pure (q a st h)
theorem DK.bind {m:StateT SortSt Sem α} {f:α→StateT SortSt Sem β} {P:α→SortSt→Prop} {R:β→SortSt→Prop} (h1:DK prog w A s m st P) (h2:∀ a st',P a st'→DK prog w A s (f a) st' R):DK prog w A s (m >>= f) st R:=
 fun E Q q=>kasC_bind (h1 E _ fun a st' p=>h2 a st' p E Q q)
theorem DK.imp {m:StateT SortSt Sem α} {P R:α→SortSt→Prop} (h:DK prog w A s m st P) (q:∀ a st',P a st'→R a st'):DK prog w A s m st R:=fun E Q z=>h E Q fun a st' p=>z a st' (q a st' p)
theorem DK.get {P:SortSt→SortSt→Prop} (h:P st st):DK prog w A s (MonadState.get:StateT SortSt Sem SortSt) st P:=fun E Q q=>kasC_get (q st st h)
theorem DK.modify {f:SortSt→SortSt} {P:PUnit→SortSt→Prop} (h:P ⟨⟩ (f st)):DK prog w A s (_root_.modify f) st P:=fun E Q q=>kasC_modify (q _ _ h)
theorem DK.set {st2:SortSt} {P:PUnit→SortSt→Prop} (h:P ⟨⟩ st2):DK prog w A s (MonadStateOf.set st2) st P:=fun E Q q=>by
 unfold PySem.W.kasC
 rw [show (MonadStateOf.set st2:StateT SortSt Sem PUnit).run st=Pure.pure (⟨⟩,st2) from rfl]
 exact wpAny_pure (q _ _ h)
theorem DK.rule {x:String} {P:Unit→SortSt→Prop} (h:P () st):DK prog w A s (liftM (PySem.rule x):StateT SortSt Sem Unit) st P:=fun E Q q=>kasC_lift (wpAny_rule (q _ _ h))
theorem DK.elem {arr:Array Keyed} {i:Nat} {x:Keyed} {P:Keyed→SortSt→Prop} (e:arr[i]? = some x) (h:P x st):DK prog w A s (elem' arr i) st P:=by
 rw [elem'_eq,e]
 exact DK.pure h
theorem DK.list {f:Nat→β→StateT SortSt Sem (ForInStep β)} {R:β→SortSt→Prop} (I:Nat→β→SortSt→Prop):∀ (l:List Nat) (i:Nat) (b:β) (st:SortSt),I i b st→
  (∀ j b st,i≤j→j < i+l.length→I j b st→∀ x,l[j - i]? = some x→DK prog w A s (f x b) st fun r st'=>match r with | .yield b'=>I (j+1) b' st' | .done b'=>R b' st')→(∀ b st,I (i+l.length) b st→R b st)→DK prog w A s (forIn l b f) st R
 | [],i,b,st,h,_,q=>fun E Q z=>kasC_nil (z _ _ (q b st h))
 | x :: l,i,b,st,h,hs,q=>fun E Q z=>kasC_cons (hs i b st (Nat.le_refl _) (by rw [List.length_cons]; omega) h x (by rw [Nat.sub_self]; rfl) E _ fun r st' p=>by
   cases r with
   | done b'=>exact z _ _ p
   | yield b'=>
    refine DK.list I l (i+1) b' st' p (fun j b st h1 h2 hI y hy=>?_) (fun b st hI=>q b st ?_) E Q z
    ·exact hs j b st (by omega) (by rw [List.length_cons]; omega) hI y (by rw [show j - i=(j - (i+1))+1 by omega]; exact hy)
    ·rw [List.length_cons,show i+(l.length+1)=i+1+l.length by omega]; exact hI)
theorem DK.for {a b:Nat} {c:β} {f:Nat→β→StateT SortSt Sem (ForInStep β)} {R:β→SortSt→Prop} (I:Nat→β→SortSt→Prop) (h0:I 0 c st)
  (hs:∀ j b' st,a+j < b→I j b' st→DK prog w A s (f (a+j) b') st fun r st'=>match r with | .yield b'=>I (j+1) b' st' | .done b'=>R b' st') (he:∀ b' st,I (b - a) b' st→R b' st):DK prog w A s (forIn [a:b] c f) st R:=fun E Q q=>by
 refine kasC_range (DK.list I (List.range' a (b - a)) 0 c st h0 (fun j b' st h1 h2 hI x hx=>?_) (fun b' st hI=>he b' st ?_) E Q q)
 ·rw [List.length_range'] at h2
  have e:x=a+j:=by
   rw [Nat.sub_zero,List.getElem?_range' (by omega)] at hx
   have:=Option.some.inj hx
   omega
  rw [e]
  exact hs j b' st (by omega) hI
 ·rw [List.length_range',Nat.zero_add] at hI; exact hI
variable {κ:SortKind} {it:Array Keyed} {n:Nat} {lt:Nat→Nat→Bool}
def Told (prog:Program) (w:World) (A:Around) (s:Shared) (κ:SortKind) (it:Array Keyed) (n:Nat) (lt:Nat→Nat→Bool):Prop:=∀ i j (C:Bool→Shared→Prop),i < n→j < n→C (lt i j) s→kas_cmp prog w A κ it i j C s
theorem DK.cmp (T:Told prog w A s κ it n lt) {x y:Nat} {P:Option Bool→SortSt→Prop} (hk:kindOf st=κ) (hx:x < n) (hy:y < n) (h:P (some (lt x y)) st):DK prog w A s (lt' (kas_item it x) (kas_item it y)) st P:=fun E Q q=>by
 rw [lt'_eq]
 refine kasC_bind (kasC_get ?_)
 rw [hk]
 refine kasC_bind (kasC_lift (wpAny_attempt (wpAny_mono (T x y (fun c s'=>c=lt x y∧s'=s) hx hy ⟨rfl,rfl⟩) (fun c s' hc=>?_) fun _ _ hF=>hF.elim)))
 obtain ⟨rfl,rfl⟩:=hc
 exact kasC_pure (q _ _ h)
theorem at_map {q:Array Nat} {i:Nat} (h:i < q.size):(q.map (kas_item it))[i]? = some (kas_item it (q.getD i 0)):=by
 have e:q.getD i 0=q[i]:=by simp [Array.getD,h]
 rw [e]
 simp [h]
theorem gallop'_eq (left:Bool) (key:Keyed) (arr:Array Keyed) (base n hint:Nat):gallop' left key arr base n hint=(do
  let beyond (i:Nat):StateT SortSt Sem (Option Bool):=do
   let x ← elem' arr (base+i)
   if left then lt' x key else return (← lt' key x).map (!·)
  let mut lastofs:=0
  let mut ofs:=1
  let mut lo:=0
  let mut hi:=0
  let some right ← beyond hint | return none
  if right then
   let maxofs:=n - hint
   for _ in [0:n] do
    if ofs ≥ maxofs then break
    let some more ← beyond (hint+ofs) | return none
    if !more then break
    lastofs:=ofs
    ofs:=2 * ofs+1
   lo:=hint+lastofs+1
   hi:=hint+min ofs maxofs
  else
   let maxofs:=hint+1
   for _ in [0:n] do
    if ofs ≥ maxofs then break
    let some found ← beyond (hint - ofs) | return none
    if found then break
    lastofs:=ofs
    ofs:=2 * ofs+1
   lo:=hint+1 - min ofs maxofs
   hi:=hint - lastofs
  for _ in [0:n] do
   if lo ≥ hi then break
   let m:=lo+(hi - lo) / 2
   let some more ← beyond m | return none
   if more then lo:=m+1 else hi:=m
  return some hi):=rfl
abbrev G3:Type:=Option (Option Nat) × Nat × Nat
def bey (lt:Nat→Nat→Bool) (q:Array Nat) (x base:Nat) (left:Bool) (i:Nat):Bool:=if left=true then lt (q.getD (base+i) 0) x else !lt x (q.getD (base+i) 0)
theorem dk_gallop (T:Told prog w A s κ it n lt) {q:Array Nat} {x base m hint:Nat} {left:Bool} {P:Option Nat→SortSt→Prop} (hk:kindOf st=κ) (hx:x < n) (hq:∀ i,i < m→q.getD (base+i) 0 < n) (hsz:base+m≤q.size) (hh:hint < m)
  (mono:∀ i j,i < j→j < m→bey lt q x base left j=true→bey lt q x base left i=true) (fin:∀ k,k≤m→(∀ i,i < k→bey lt q x base left i=true)→(∀ i,k≤i→i < m→bey lt q x base left i=false)→P (some k) st) :
  DK prog w A s (gallop' left (kas_item it x) (q.map (kas_item it)) base m hint) st P:=by
 rw [gallop'_eq]
 dsimp only
 have hb:∀ {i:Nat} {P':Option Bool→SortSt→Prop},i < m→P' (some (bey lt q x base left i)) st→DK prog w A s (do
   let x_1 ← elem' (q.map (kas_item it)) (base+i)
   if left=true then lt' x_1 (kas_item it x) else do
    let r ← lt' (kas_item it x) x_1
    Pure.pure (Option.map (fun z=>!z) r)) st P':=fun {i P'} hi hp=>by
  refine DK.bind (DK.elem (P:=fun a st'=>a=kas_item it (q.getD (base+i) 0)∧st'=st) (at_map (by omega)) ⟨rfl,rfl⟩) fun a st' ha=>?_
  obtain ⟨rfl,rfl⟩:=ha
  unfold bey at hp
  cases left with
  | true=>exact DK.cmp T hk (hq i hi) hx hp
  | false=>
   refine DK.bind (DK.cmp (P:=fun a st'=>a=some (lt x (q.getD (base+i) 0))∧st'=_) T hk hx (hq i hi) ⟨rfl,rfl⟩) fun a st' ha=>?_
   obtain ⟨rfl,rfl⟩:=ha
   exact DK.pure hp
 have anti:∀ i j,i≤j→j < m→bey lt q x base left i=false→bey lt q x base left j=false:=fun i j hij hj hi=>by
  by_cases e:i=j
  ·rw [← e]; exact hi
  ·cases z:bey lt q x base left j with
   | false=>rfl
   | true=>rw [mono i j (by omega) hj z] at hi; cases hi
 have upw:∀ i j,i≤j→j < m→bey lt q x base left j=true→bey lt q x base left i=true:=fun i j hij hj h=>by
  by_cases e:i=j
  ·rw [e]; exact h
  ·exact mono i j (by omega) hj h
 have last:∀ (lo hi:Nat) (f:Nat→G3→StateT SortSt Sem (ForInStep G3)),lo≤hi→hi≤m→(∀ i,i < lo→bey lt q x base left i=true)→(∀ i,hi≤i→i < m→bey lt q x base left i=false)→
   (∀ t lo hi,hi≤m→DK prog w A s (f t (none,lo,hi)) st fun r st'=>st'=st∧r=if lo ≥ hi then .done (none,lo,hi) else if bey lt q x base left (lo+(hi - lo) / 2)=true then .yield (none,lo+(hi - lo) / 2+1,hi) else .yield (none,lo,lo+(hi - lo) / 2))→
   DK prog w A s (forIn [0:m] ((none,lo,hi):G3) f) st fun b st'=>st'=st∧b.1=none∧P (some b.2.2) st:=fun lo hi f h1 h2 h3 h4 hf=>by
  refine DK.for (fun t (b:G3) st'=>st'=st∧b.1=none∧b.2.1≤b.2.2∧b.2.2≤m∧(∀ i,i < b.2.1→bey lt q x base left i=true)∧(∀ i,b.2.2≤i→i < m→bey lt q x base left i=false)∧b.2.2 - b.2.1≤m - t)
   ⟨rfl,rfl,h1,h2,h3,h4,by show hi - lo≤m - 0; omega⟩ (fun t b st' ht hI=>?_) (fun b st' hI=>?_)
  ·obtain ⟨r,lo,hi⟩:=b
   obtain ⟨e,rfl,i1,i2,i3,i4,i5⟩:=hI
   subst e
   dsimp only at i1 i2 i3 i4 i5 ⊢
   refine (hf _ lo hi i2).imp fun r st2 hr=>?_
   obtain ⟨rfl,rfl⟩:=hr
   by_cases c:lo ≥ hi
   ·rw [if_pos c]
    obtain rfl:lo=hi:=by omega
    exact ⟨rfl,rfl,fin _ i2 i3 i4⟩
   ·rw [if_neg c]
    have hm:lo+(hi - lo) / 2 < m:=by omega
    cases hc:bey lt q x base left (lo+(hi - lo) / 2) with
    | true=>
     rw [if_pos rfl]
     exact ⟨rfl,rfl,by show lo+(hi - lo) / 2+1≤hi; omega,i2,fun i hi'=>upw i _ (by show i≤_; have:i < lo+(hi - lo) / 2+1:=hi'; omega) hm hc,i4,by show hi - (lo+(hi - lo) / 2+1)≤_; omega⟩
    | false=>
     rw [if_neg (by decide)]
     exact ⟨rfl,rfl,by show lo≤lo+(hi - lo) / 2; omega,by show lo+(hi - lo) / 2≤m; omega,i3,fun i h1 h2=>anti _ i h1 h2 hc,by show lo+(hi - lo) / 2 - lo≤_; omega⟩
  ·obtain ⟨r,lo,hi⟩:=b
   obtain ⟨i0,i1,i2,i3,i4,i5,i6⟩:=hI
   dsimp only at i1 i2 i3 i4 i5 i6 ⊢
   obtain rfl:lo=hi:=by omega
   exact ⟨i0,i1,fin _ i3 i4 i5⟩
 refine DK.bind (hb (P':=fun a st'=>some (bey lt q x base left hint)=a∧st=st') hh ⟨rfl,rfl⟩) fun a st' ha=>?_
 obtain ⟨rfl,rfl⟩:=ha
 dsimp only
 cases hc:bey lt q x base left hint with
 | true=>
  rw [if_pos rfl]
  refine DK.bind (DK.for (R:=fun (b:G3) st'=>st'=st∧b.1=none∧b.2.1 < b.2.2∧hint+b.2.1 < m∧bey lt q x base left (hint+b.2.1)=true∧(m - hint≤b.2.2∨(hint+b.2.2 < m∧bey lt q x base left (hint+b.2.2)=false)))
   (fun t (b:G3) st'=>st'=st∧b.1=none∧b.2.1 < b.2.2∧hint+b.2.1 < m∧bey lt q x base left (hint+b.2.1)=true∧t+1≤b.2.2) ⟨rfl,rfl,Nat.zero_lt_one,hh,hc,Nat.le_refl _⟩ (fun t b st' ht hI=>?_) (fun b st' hI=>?_)) fun b st' hR=>?_
  ·obtain ⟨r,la,of⟩:=b
   obtain ⟨rfl,rfl,i1,i2,i3,i4⟩:=hI
   dsimp only at i1 i2 i3 i4 ⊢
   by_cases c:of ≥ m - hint
   ·rw [if_pos c]
    exact DK.pure ⟨rfl,rfl,i1,i2,i3,.inl c⟩
   ·rw [if_neg c]
    refine DK.bind (hb (P':=fun a st'=>a=some (bey lt q x base left (hint+of))∧st'=_) (by omega) ⟨rfl,rfl⟩) fun a st' ha=>?_
    obtain ⟨rfl,rfl⟩:=ha
    dsimp only
    cases hc2:bey lt q x base left (hint+of) with
    | true=>
     rw [if_neg (by decide)]
     exact DK.pure ⟨rfl,rfl,by show of < 2 * of+1; omega,by show hint+of < m; omega,hc2,by show t+1+1≤2 * of+1; omega⟩
    | false=>
     rw [if_pos (by decide)]
     exact DK.pure ⟨rfl,rfl,i1,i2,i3,.inr ⟨by show hint+of < m; omega,hc2⟩⟩
  ·obtain ⟨i0,i1,i2,i3,i4,i5⟩:=hI
   exact ⟨i0,i1,i2,i3,i4,.inl (by omega)⟩
  ·obtain ⟨r,la,of⟩:=b
   obtain ⟨rfl,rfl,i1,i2,i3,i4⟩:=hR
   dsimp only at i1 i2 i3 i4 ⊢
   have an:∀ i,hint+min of (m - hint)≤i→i < m→bey lt q x base left i=false:=fun i h1 h2=>by
    rcases i4 with z | ⟨z1,z2⟩
    ·exact absurd h2 (by omega)
    ·exact anti (hint+of) i (by omega) h2 z2
   refine DK.bind (last (hint+la+1) (hint+min of (m - hint)) _ (by omega) (by omega) (fun i hi=>upw i (hint+la) (by omega) i2 i3) an (fun t lo hi hi2=>?_)) fun b st2 hR=>?_
   ·dsimp only
    by_cases c:lo ≥ hi
    ·rw [if_pos c]
     exact DK.pure ⟨rfl,by rw [if_pos c]⟩
    ·rw [if_neg c]
     refine DK.bind (hb (P':=fun a st'=>a=some (bey lt q x base left (lo+(hi - lo) / 2))∧st'=_) (by omega) ⟨rfl,rfl⟩) fun a st' ha=>?_
     obtain ⟨rfl,rfl⟩:=ha
     dsimp only
     cases hc:bey lt q x base left (lo+(hi - lo) / 2) with
     | true=>
      rw [if_pos rfl]
      exact DK.pure ⟨rfl,by rw [if_neg c,if_pos rfl]⟩
     | false=>
      rw [if_neg (by decide)]
      exact DK.pure ⟨rfl,by rw [if_neg c,if_neg (by decide)]⟩
   ·obtain ⟨r,lo,hi⟩:=b
    obtain ⟨rfl,rfl,i3⟩:=hR
    exact DK.pure i3
 | false=>
  rw [if_neg (by decide)]
  refine DK.bind (DK.for (R:=fun (b:G3) st'=>st'=st∧b.1=none∧b.2.1 < b.2.2∧b.2.1≤hint∧bey lt q x base left (hint - b.2.1)=false∧(hint+1≤b.2.2∨(b.2.2≤hint∧bey lt q x base left (hint - b.2.2)=true)))
   (fun t (b:G3) st'=>st'=st∧b.1=none∧b.2.1 < b.2.2∧b.2.1≤hint∧bey lt q x base left (hint - b.2.1)=false∧t+1≤b.2.2) ⟨rfl,rfl,Nat.zero_lt_one,Nat.zero_le _,hc,Nat.le_refl _⟩ (fun t b st' ht hI=>?_) (fun b st' hI=>?_)) fun b st' hR=>?_
  ·obtain ⟨r,la,of⟩:=b
   obtain ⟨rfl,rfl,i1,i2,i3,i4⟩:=hI
   dsimp only at i1 i2 i3 i4 ⊢
   by_cases c:of ≥ hint+1
   ·rw [if_pos c]
    exact DK.pure ⟨rfl,rfl,i1,i2,i3,.inl c⟩
   ·rw [if_neg c]
    refine DK.bind (hb (P':=fun a st'=>a=some (bey lt q x base left (hint - of))∧st'=_) (by omega) ⟨rfl,rfl⟩) fun a st' ha=>?_
    obtain ⟨rfl,rfl⟩:=ha
    dsimp only
    cases hc2:bey lt q x base left (hint - of) with
    | false=>
     rw [if_neg (by decide)]
     exact DK.pure ⟨rfl,rfl,by show of < 2 * of+1; omega,by show of≤hint; omega,hc2,by show t+1+1≤2 * of+1; omega⟩
    | true=>
     rw [if_pos (by decide)]
     exact DK.pure ⟨rfl,rfl,i1,i2,i3,.inr ⟨by show of≤hint; omega,hc2⟩⟩
  ·obtain ⟨i0,i1,i2,i3,i4,i5⟩:=hI
   exact ⟨i0,i1,i2,i3,i4,.inl (by omega)⟩
  ·obtain ⟨r,la,of⟩:=b
   obtain ⟨rfl,rfl,i1,i2,i3,i4⟩:=hR
   dsimp only at i1 i2 i3 i4 ⊢
   have an:∀ i,i < hint+1 - min of (hint+1)→bey lt q x base left i=true:=fun i hi=>by
    rcases i4 with z | ⟨z1,z2⟩
    ·exact absurd hi (by omega)
    ·exact upw i (hint - of) (by omega) (by omega) z2
   refine DK.bind (last (hint+1 - min of (hint+1)) (hint - la) _ (by omega) (by omega) an (fun i h1 h2=>anti (hint - la) i h1 h2 i3) (fun t lo hi hi2=>?_)) fun b st2 hR=>?_
   ·dsimp only
    by_cases c:lo ≥ hi
    ·rw [if_pos c]
     exact DK.pure ⟨rfl,by rw [if_pos c]⟩
    ·rw [if_neg c]
     refine DK.bind (hb (P':=fun a st'=>a=some (bey lt q x base left (lo+(hi - lo) / 2))∧st'=_) (by omega) ⟨rfl,rfl⟩) fun a st' ha=>?_
     obtain ⟨rfl,rfl⟩:=ha
     dsimp only
     cases hc:bey lt q x base left (lo+(hi - lo) / 2) with
     | true=>
      rw [if_pos rfl]
      exact DK.pure ⟨rfl,by rw [if_neg c,if_pos rfl]⟩
     | false=>
      rw [if_neg (by decide)]
      exact DK.pure ⟨rfl,by rw [if_neg c,if_neg (by decide)]⟩
   ·obtain ⟨r,lo,hi⟩:=b
    obtain ⟨rfl,rfl,i3⟩:=hR
    exact DK.pure i3
end
end L2
namespace L2
open PySem PySem.Spec PyProof.Rows
section
open PySem.W (kas_item)
def Asc (lt:Nat→Nat→Bool) (l:List Nat):Prop:=l.Pairwise fun x y=>lt x y=true
structure Mg (lt:Nat→Nat→Bool) (a b o:List Nat) (ia ib:Nat):Prop where
 asc:Asc lt o
 sep:∀ x∈o,∀ y,(y∈a.drop ia∨y∈b.drop ib)→lt x y=true
 per:(o ++ (a.drop ia ++ b.drop ib)).Perm (a ++ b)
variable {lt:Nat→Nat→Bool} {a b o:List Nat} {ia ib x:Nat}
theorem drop_get (h:a[ia]? = some x):a.drop ia=x :: a.drop (ia+1):=by
 obtain ⟨h1,e⟩:=List.getElem?_eq_some_iff.mp h
 rw [List.drop_eq_getElem_cons h1,e]
theorem Asc.drop_lt (h:Asc lt a) (e:a[ia]? = some x):∀ y∈a.drop (ia+1),lt x y=true:=fun y hy=>by
 have h1:Asc lt (a.drop ia):=List.Pairwise.drop h
 rw [drop_get e] at h1
 exact (List.pairwise_cons.mp h1).1 y hy
theorem Mg.takeA (h:Mg lt a b o ia ib) (hs:Asc lt a) (e:a[ia]? = some x) (hx:∀ y∈b.drop ib,lt x y=true):Mg lt a b (o ++ [x]) (ia+1) ib:=by
 have hd:=drop_get e
 refine ⟨List.pairwise_append.mpr ⟨h.asc,List.pairwise_singleton _ _,fun y hy z hz=>?_⟩,fun y hy z hz=>?_,?_⟩
 ·rw [List.mem_singleton.mp hz]
  exact h.sep y hy x (.inl (by rw [hd]; exact List.mem_cons_self))
 ·rcases List.mem_append.mp hy with y1 | y1
  ·exact h.sep y y1 z (hz.imp (fun q=>by rw [hd]; exact List.mem_cons_of_mem _ q) id)
  ·rw [List.mem_singleton.mp y1]
   exact hz.elim (fun q=>hs.drop_lt e z q) (hx z)
 ·have:=h.per
  rw [hd] at this
  simpa using this
theorem Mg.takeB (h:Mg lt a b o ia ib) (hs:Asc lt b) (e:b[ib]? = some x) (hx:∀ y∈a.drop ia,lt x y=true):Mg lt a b (o ++ [x]) ia (ib+1):=by
 have hd:=drop_get e
 refine ⟨List.pairwise_append.mpr ⟨h.asc,List.pairwise_singleton _ _,fun y hy z hz=>?_⟩,fun y hy z hz=>?_,?_⟩
 ·rw [List.mem_singleton.mp hz]
  exact h.sep y hy x (.inr (by rw [hd]; exact List.mem_cons_self))
 ·rcases List.mem_append.mp hy with y1 | y1
  ·exact h.sep y y1 z (hz.imp id fun q=>by rw [hd]; exact List.mem_cons_of_mem _ q)
  ·rw [List.mem_singleton.mp y1]
   exact hz.elim (hx z) fun q=>hs.drop_lt e z q
 ·have:=h.per
  rw [hd] at this
  refine List.Perm.trans ?_ this
  rw [List.append_assoc]
  exact List.Perm.append_left o (List.Perm.symm (List.perm_middle (a:=x) (l₁:=a.drop ia) (l₂:=b.drop (ib+1))))
theorem Mg.takeAs (hs:Asc lt a):∀ (k:Nat) {o:List Nat} {ia:Nat},Mg lt a b o ia ib→(∀ i,i < k→∃ x,a[ia+i]? = some x∧∀ y∈b.drop ib,lt x y=true)→Mg lt a b (o ++ (a.drop ia).take k) (ia+k) ib
 | 0,o,ia,h,_=>by simpa using h
 | k+1,o,ia,h,hx=>by
  obtain ⟨x,e,q⟩:=hx 0 (Nat.succ_pos _)
  have h1:=Mg.takeAs hs k (h.takeA hs e q) fun i hi=>by
   have:=hx (i+1) (by omega)
   rwa [show ia+(i+1)=ia+1+i by omega] at this
  rw [drop_get (show a[ia]? = some x from e),List.take_succ_cons,show ia+(k+1)=ia+1+k by omega]
  simpa using h1
theorem Mg.takeBs (hs:Asc lt b):∀ (k:Nat) {o:List Nat} {ib:Nat},Mg lt a b o ia ib→(∀ i,i < k→∃ x,b[ib+i]? = some x∧∀ y∈a.drop ia,lt x y=true)→Mg lt a b (o ++ (b.drop ib).take k) ia (ib+k)
 | 0,o,ib,h,_=>by simpa using h
 | k+1,o,ib,h,hx=>by
  obtain ⟨x,e,q⟩:=hx 0 (Nat.succ_pos _)
  have h1:=Mg.takeBs hs k (h.takeB hs e q) fun i hi=>by
   have:=hx (i+1) (by omega)
   rwa [show ib+(i+1)=ib+1+i by omega] at this
  rw [drop_get (show b[ib]? = some x from e),List.take_succ_cons,show ib+(k+1)=ib+1+k by omega]
  simpa using h1
structure Rn (n:Nat) (lt:Nat→Nat→Bool) (pa pb:Array Nat):Prop where
 S:Strict n lt
 asa:Asc lt pa.toList
 asb:Asc lt pb.toList
 la:∀ i,i < pa.size→pa.getD i 0 < n
 lb:∀ i,i < pb.size→pb.getD i 0 < n
 dis:∀ i j,i < pa.size→j < pb.size→pa.getD i 0≠pb.getD j 0
 top:∀ i,i < pb.size→lt (pb.getD i 0) (pa.getD (pa.size - 1) 0)=true
 bot:∀ i,i < pa.size→lt (pb.getD 0 0) (pa.getD i 0)=true
 na:0 < pa.size
 nb:0 < pb.size
variable {n:Nat} {pa pb:Array Nat} {it:Array Keyed}
theorem getL {i:Nat} (h:i < pa.size):pa.toList[i]? = some (pa.getD i 0):=by rw [Array.getElem?_toList]; exact getD_of h
theorem Asc.lt_of (h:Asc lt pa.toList) {i j:Nat} (hij:i < j) (hj:j < pa.size):lt (pa.getD i 0) (pa.getD j 0)=true:=by
 have hi:i < pa.size:=by omega
 have:=List.pairwise_iff_getElem.mp h i j (by simpa using hi) (by simpa using hj) hij
 have e1:=getL (pa:=pa) hi
 have e2:=getL (pa:=pa) hj
 rw [List.getElem?_eq_getElem (by simpa using hi)] at e1
 rw [List.getElem?_eq_getElem (by simpa using hj)] at e2
 rw [Option.some.inj e1,Option.some.inj e2] at this
 exact this
theorem mem_dropA {i y:Nat} (h:y∈pa.toList.drop i):∃ j,i≤j∧j < pa.size∧y=pa.getD j 0:=by
 obtain ⟨k,hk,e⟩:=List.mem_iff_getElem.mp h
 rw [List.length_drop,Array.length_toList] at hk
 refine ⟨i+k,by omega,by omega,?_⟩
 have h1:=getL (pa:=pa) (i:=i+k) (by omega)
 rw [← List.getElem?_drop,List.getElem?_eq_getElem (by rw [List.length_drop,Array.length_toList]; exact hk),e] at h1
 exact Option.some.inj h1
def Res (it:Array Keyed) (lt:Nat→Nat→Bool) (pa pb:Array Nat) (r:Array Keyed):Prop:=∃ q:Array Nat,r=q.map (kas_item it)∧Asc lt q.toList∧q.toList.Perm (pa.toList ++ pb.toList)
def Gw (it:Array Keyed) (lt:Nat→Nat→Bool) (pa pb:Array Nat) (out:Array Keyed) (ia ib:Nat):Prop:=∃ q:Array Nat,out=q.map (kas_item it)∧Mg lt pa.toList pb.toList q.toList ia ib
variable {out:Array Keyed}
theorem Gw.pushB (h:Gw it lt pa pb out ia ib) (R:Rn n lt pa pb) (hb:ib < pb.size) (hx:∀ i,ia≤i→i < pa.size→lt (pb.getD ib 0) (pa.getD i 0)=true):Gw it lt pa pb (out.push (kas_item it (pb.getD ib 0))) ia (ib+1):=by
 obtain ⟨q,rfl,m⟩:=h
 refine ⟨q.push (pb.getD ib 0),by simp,?_⟩
 rw [Array.toList_push]
 refine m.takeB R.asb (getL hb) fun y hy=>?_
 obtain ⟨j,j1,j2,rfl⟩:=mem_dropA hy
 exact hx j j1 j2
theorem Gw.pushA (h:Gw it lt pa pb out ia ib) (R:Rn n lt pa pb) (hb:ia < pa.size) (hx:∀ i,ib≤i→i < pb.size→lt (pa.getD ia 0) (pb.getD i 0)=true):Gw it lt pa pb (out.push (kas_item it (pa.getD ia 0))) (ia+1) ib:=by
 obtain ⟨q,rfl,m⟩:=h
 refine ⟨q.push (pa.getD ia 0),by simp,?_⟩
 rw [Array.toList_push]
 refine m.takeA R.asa (getL hb) fun y hy=>?_
 obtain ⟨j,j1,j2,rfl⟩:=mem_dropA hy
 exact hx j j1 j2
theorem ext_list (q:Array Nat) (i k:Nat):(q.extract i (i+k)).toList=(q.toList.drop i).take k:=by
 rw [Array.toList_extract,List.extract_eq_drop_take]
 congr 1
 omega
theorem Gw.appA (h:Gw it lt pa pb out ia ib) (R:Rn n lt pa pb) {k:Nat} (hk:ia+k≤pa.size) (hx:∀ i,i < k→∀ j,ib≤j→j < pb.size→lt (pa.getD (ia+i) 0) (pb.getD j 0)=true):Gw it lt pa pb (out ++ (pa.map (kas_item it)).extract ia (ia+k)) (ia+k) ib:=by
 obtain ⟨q,rfl,m⟩:=h
 refine ⟨q ++ pa.extract ia (ia+k),by simp,?_⟩
 rw [Array.toList_append,ext_list]
 refine m.takeAs R.asa k fun i hi=>⟨_,getL (by omega),fun y hy=>?_⟩
 obtain ⟨j,j1,j2,rfl⟩:=mem_dropA hy
 exact hx i hi j j1 j2
theorem Gw.appB (h:Gw it lt pa pb out ia ib) (R:Rn n lt pa pb) {k:Nat} (hk:ib+k≤pb.size) (hx:∀ i,i < k→∀ j,ia≤j→j < pa.size→lt (pb.getD (ib+i) 0) (pa.getD j 0)=true):Gw it lt pa pb (out ++ (pb.map (kas_item it)).extract ib (ib+k)) ia (ib+k):=by
 obtain ⟨q,rfl,m⟩:=h
 refine ⟨q ++ pb.extract ib (ib+k),by simp,?_⟩
 rw [Array.toList_append,ext_list]
 refine m.takeBs R.asb k fun i hi=>⟨_,getL (by omega),fun y hy=>?_⟩
 obtain ⟨j,j1,j2,rfl⟩:=mem_dropA hy
 exact hx i hi j j1 j2
theorem ext_all (q:Array Nat) (i:Nat):((q.map (kas_item it)).extract i q.size)=(q.extract i q.size).map (kas_item it):=by simp
theorem ext_end (q:Array Nat) (i:Nat):(q.extract i).toList=q.toList.drop i:=by
 rw [Array.toList_extract,List.extract_eq_drop_take,List.take_of_length_le (by simp)]
theorem Gw.endB (h:Gw it lt pa pb out ia ib) (R:Rn n lt pa pb) (hb:ib=pb.size):Res it lt pa pb (out ++ (pa.map (kas_item it)).extract ia pa.size ++ (pb.map (kas_item it)).extract ib pb.size):=by
 obtain ⟨q,rfl,m⟩:=h
 refine ⟨q ++ pa.extract ia ++ pb.extract ib,by rw [ext_all,ext_all,Array.map_append,Array.map_append],?_⟩
 have e:pb.toList.drop ib=[]:=List.drop_eq_nil_of_le (by rw [Array.length_toList,hb]; exact Nat.le_refl _)
 rw [Array.toList_append,Array.toList_append,ext_end,ext_end,e,List.append_nil]
 have p:=m.per
 rw [e,List.append_nil] at p
 refine ⟨List.pairwise_append.mpr ⟨m.asc,List.Pairwise.drop R.asa,fun x hx y hy=>m.sep x hx y (.inl hy)⟩,p⟩
theorem Gw.endA (h:Gw it lt pa pb out ia ib) (R:Rn n lt pa pb) (ha:ia+1=pa.size):Res it lt pa pb (out ++ (pb.map (kas_item it)).extract ib pb.size ++ (pa.map (kas_item it)).extract ia pa.size):=by
 obtain ⟨q,rfl,m⟩:=h
 refine ⟨q ++ pb.extract ib ++ pa.extract ia,by rw [ext_all,ext_all,Array.map_append,Array.map_append],?_⟩
 rw [Array.toList_append,Array.toList_append,ext_end,ext_end]
 refine ⟨List.pairwise_append.mpr ⟨List.pairwise_append.mpr ⟨m.asc,List.Pairwise.drop R.asb,fun x hx y hy=>m.sep x hx y (.inr hy)⟩,List.Pairwise.drop R.asa,fun x hx y hy=>?_⟩,?_⟩
 ·rcases List.mem_append.mp hx with z | z
  ·exact m.sep x z y (.inl hy)
  ·obtain ⟨i,_,i2,rfl⟩:=mem_dropA z
   obtain ⟨j,j1,j2,rfl⟩:=mem_dropA hy
   obtain rfl:j=pa.size - 1:=by omega
   exact R.top i i2
 ·rw [List.append_assoc]
  exact (List.Perm.append_left _ List.perm_append_comm).trans m.per
theorem Rn.galA (R:Rn n lt pa pb) {k:Nat} (hb:ib < pb.size) (h1:∀ i,i < k→bey lt pa (pb.getD ib 0) ia false i=true) (hk:ia+k≤pa.size):∀ i,i < k→∀ j,ib≤j→j < pb.size→lt (pa.getD (ia+i) 0) (pb.getD j 0)=true:=fun i hi j j1 j2=>by
 have h:=h1 i hi
 unfold bey at h
 rw [if_neg (by decide),Bool.not_eq_true'] at h
 have l1:=R.la (ia+i) (by omega)
 have l2:=R.lb ib hb
 have q:=R.S.not l2 l1 (fun e=>R.dis (ia+i) ib (by omega) hb e.symm) h
 by_cases e:ib=j
 ·rw [← e]; exact q
 ·exact R.S.tra _ _ _ l1 l2 (R.lb j j2) q (R.asb.lt_of (by omega) j2)
theorem Rn.galA2 (R:Rn n lt pa pb) {k:Nat} (h2:∀ i,k≤i→i < pa.size - ia→bey lt pa (pb.getD ib 0) ia false i=false):∀ i,ia+k≤i→i < pa.size→lt (pb.getD ib 0) (pa.getD i 0)=true:=fun i i1 i2=>by
 have h:=h2 (i - ia) (by omega) (by omega)
 unfold bey at h
 rw [if_neg (by decide),show ia+(i - ia)=i by omega] at h
 simpa using h
theorem Rn.galB (R:Rn n lt pa pb) {k:Nat} (ha:ia < pa.size) (h1:∀ i,i < k→bey lt pb (pa.getD ia 0) ib true i=true) (hk:ib+k≤pb.size):∀ i,i < k→∀ j,ia≤j→j < pa.size→lt (pb.getD (ib+i) 0) (pa.getD j 0)=true:=fun i hi j j1 j2=>by
 have q:=h1 i hi
 unfold bey at q
 rw [if_pos rfl] at q
 by_cases e:ia=j
 ·rw [← e]; exact q
 ·exact R.S.tra _ _ _ (R.lb _ (by omega)) (R.la ia ha) (R.la j j2) q (R.asa.lt_of (by omega) j2)
theorem Rn.galB2 (R:Rn n lt pa pb) {k:Nat} (ha:ia < pa.size) (h2:∀ i,k≤i→i < pb.size - ib→bey lt pb (pa.getD ia 0) ib true i=false):∀ i,ib+k≤i→i < pb.size→lt (pa.getD ia 0) (pb.getD i 0)=true:=fun i i1 i2=>by
 have h:=h2 (i - ib) (by omega) (by omega)
 unfold bey at h
 rw [if_pos rfl,show ib+(i - ib)=i by omega] at h
 exact R.S.not (R.lb i i2) (R.la ia ha) (fun e=>R.dis ia i ha i2 e.symm) h
theorem Rn.monoA (R:Rn n lt pa pb) (hb:ib < pb.size):∀ i j,i < j→j < pa.size - ia→bey lt pa (pb.getD ib 0) ia false j=true→bey lt pa (pb.getD ib 0) ia false i=true:=fun i j hij hj h=>by
 unfold bey at h ⊢
 rw [if_neg (by decide),Bool.not_eq_true'] at h ⊢
 cases z:lt (pb.getD ib 0) (pa.getD (ia+i) 0) with
 | false=>rfl
 | true=>rw [R.S.tra _ _ _ (R.lb ib hb) (R.la _ (by omega)) (R.la _ (by omega)) z (R.asa.lt_of (show ia+i < ia+j by omega) (by omega))] at h; cases h
theorem Rn.monoB (R:Rn n lt pa pb) (ha:ia < pa.size):∀ i j,i < j→j < pb.size - ib→bey lt pb (pa.getD ia 0) ib true j=true→bey lt pb (pa.getD ia 0) ib true i=true:=fun i j hij hj h=>by
 unfold bey at h ⊢
 rw [if_pos rfl] at h ⊢
 exact R.S.tra _ _ _ (R.lb _ (by omega)) (R.lb _ (by omega)) (R.la ia ha) (R.asb.lt_of (show ib+i < ib+j by omega) (by omega)) h
end
end L2
namespace L2
open PySem PySem.Spec PyProof.Rows
section
open PySem.W (kas_item)
def setMinGallop':Nat→StateT SortSt Sem Unit:=sortPriv% PySem.Builtin.setMinGallop
abbrev setG (st:SortSt) (g:Nat):SortSt:=SortSt.mk' (kindOf st) (arrOf st) (pendingOf st) g (failedOf st)
theorem setMinGallop'_eq (g:Nat):setMinGallop' g=modify fun st=>setG st g:=rfl
theorem mergeLo'_eq (a b:Array Keyed):mergeLo' a b=(do
  rule "list.sort.merge-lo"
  let total:=a.size+b.size
  let done (out:Array Keyed) (ia ib:Nat):=out ++ a.extract ia a.size ++ b.extract ib b.size
  let lastOfA (out:Array Keyed) (ia ib:Nat):=out ++ b.extract ib b.size ++ a.extract ia a.size
  let mut out:Array Keyed:=#[← elem' b 0]
  let mut ia:=0
  let mut ib:=1
  if ib==b.size then return done out ia ib
  if ia+1==a.size then return lastOfA out ia ib
  let mut minGallop:=gallopOf (← get)
  for _ in [0:total] do
   let mut acount:=0
   let mut bcount:=0
   for _ in [0:total] do
    let some bWins ← lt' (← elem' b ib) (← elem' a ia) | return done out ia ib
    if bWins then
     out:=out.push (← elem' b ib); ib:=ib+1; bcount:=bcount+1; acount:=0
     if ib==b.size then return done out ia ib
     if bcount ≥ minGallop then break
    else
     out:=out.push (← elem' a ia); ia:=ia+1; acount:=acount+1; bcount:=0
     if ia+1==a.size then return lastOfA out ia ib
     if acount ≥ minGallop then break
   rule "list.sort.gallop"
   minGallop:=minGallop+1
   for _ in [0:total] do
    if minGallop > 1 then minGallop:=minGallop - 1
    setMinGallop' minGallop
    let some k ← gallop' false (← elem' b ib) a ia (a.size - ia) 0 | return done out ia ib
    acount:=k
    if k > 0 then
     out:=out ++ a.extract ia (ia+k); ia:=ia+k
     if ia+1==a.size then return lastOfA out ia ib
     if ia==a.size then return done out ia ib
    out:=out.push (← elem' b ib); ib:=ib+1
    if ib==b.size then return done out ia ib
    let some k ← gallop' true (← elem' a ia) b ib (b.size - ib) 0 | return done out ia ib
    bcount:=k
    if k > 0 then
     out:=out ++ b.extract ib (ib+k); ib:=ib+k
     if ib==b.size then return done out ia ib
    out:=out.push (← elem' a ia); ia:=ia+1
    if ia+1==a.size then return lastOfA out ia ib
    if acount < 7 && bcount < 7 then break
   minGallop:=minGallop+1
   setMinGallop' minGallop
  unsupported "internal:list.sort.merge-bound"):=rfl
variable {prog:Program} {w:World} {A:Around} {s:Shared} {st:SortSt} {κ:SortKind} {it:Array Keyed} {n:Nat} {lt:Nat→Nat→Bool} {pa pb:Array Nat}
def GSt (st st':SortSt):Prop:=∃ g,st'=setG st g
def Go (it:Array Keyed) (lt:Nat→Nat→Bool) (pa pb:Array Nat) (out:Array Keyed) (ia ib:Nat):Prop:=Gw it lt pa pb out ia ib∧ia+1 < pa.size∧ib < pb.size
theorem beq_no {a b:Nat} (h:a≠b):¬ (a==b)=true:=by simpa using h
section
variable {α β:Type} {R:β→SortSt→Prop}
theorem DK.elemB {arr:Array Keyed} {i:Nat} {x:Keyed} {f:Keyed→StateT SortSt Sem β} (e:arr[i]? = some x) (h:DK prog w A s (f x) st R):DK prog w A s (elem' arr i >>= f) st R:=by
 rw [elem'_eq,e,pure_bind]
 exact h
theorem DK.cmpB (T:Told prog w A s κ it n lt) {x y:Nat} {f:Option Bool→StateT SortSt Sem β} (hk:kindOf st=κ) (hx:x < n) (hy:y < n) (h:DK prog w A s (f (some (lt x y))) st R):DK prog w A s (lt' (kas_item it x) (kas_item it y) >>= f) st R:=
 DK.bind (DK.cmp (P:=fun a st'=>some (lt x y)=a∧st=st') T hk hx hy ⟨rfl,rfl⟩) fun a st' ⟨e1,e2⟩=>by subst e1 e2; exact h
theorem DK.ruleB {x:String} {f:Unit→StateT SortSt Sem β} (h:DK prog w A s (f ()) st R):DK prog w A s ((liftM (PySem.rule x):StateT SortSt Sem Unit) >>= f) st R:=
 DK.bind (DK.rule (P:=fun _ st'=>st=st') rfl) fun a st' e=>by subst e; exact h
theorem DK.getB {f:SortSt→StateT SortSt Sem β} (h:DK prog w A s (f st) st R):DK prog w A s ((MonadState.get:StateT SortSt Sem SortSt) >>= f) st R:=
 DK.bind (DK.get (P:=fun a st'=>st=a∧st=st') ⟨rfl,rfl⟩) fun a st' ⟨e1,e2⟩=>by subst e1 e2; exact h
theorem DK.modB {g:SortSt→SortSt} {f:PUnit→StateT SortSt Sem β} (h:DK prog w A s (f ⟨⟩) (g st) R):DK prog w A s ((_root_.modify g:StateT SortSt Sem PUnit) >>= f) st R:=
 DK.bind (DK.modify (P:=fun _ st'=>g st=st') rfl) fun a st' e=>by subst e; exact h
theorem DK.galB (T:Told prog w A s κ it n lt) {q:Array Nat} {x base m hint:Nat} {left:Bool} {f:Option Nat→StateT SortSt Sem β} (hk:kindOf st=κ) (hx:x < n) (hq:∀ i,i < m→q.getD (base+i) 0 < n) (hsz:base+m≤q.size) (hh:hint < m)
  (mono:∀ i j,i < j→j < m→bey lt q x base left j=true→bey lt q x base left i=true) (h:∀ k,k≤m→(∀ i,i < k→bey lt q x base left i=true)→(∀ i,k≤i→i < m→bey lt q x base left i=false)→DK prog w A s (f (some k)) st R) :
  DK prog w A s (gallop' left (kas_item it x) (q.map (kas_item it)) base m hint >>= f) st R:=
 DK.bind (dk_gallop (P:=fun a st'=>st=st'∧∃ k,a=some k∧k≤m∧(∀ i,i < k→bey lt q x base left i=true)∧∀ i,k≤i→i < m→bey lt q x base left i=false) T hk hx hq hsz hh mono fun k h1 h2 h3=>⟨rfl,k,rfl,h1,h2,h3⟩)
  fun a st' ⟨e,k,e2,h1,h2,h3⟩=>by subst e e2; exact h k h1 h2 h3
end
theorem dk_mergeLo (T:Told prog w A s κ it n lt) (R:Rn n lt pa pb) (hk:kindOf st=κ):DK prog w A s (mergeLo' (pa.map (kas_item it)) (pb.map (kas_item it))) st fun r st'=>GSt st st'∧Res it lt pa pb r:=by
 rw [mergeLo'_eq]
 have za:(pa.map (kas_item it)).size=pa.size:=Array.size_map ..
 have zb:(pb.map (kas_item it)).size=pb.size:=Array.size_map ..
 have rfl':GSt st st:=⟨gallopOf st,rfl⟩
 refine DK.ruleB ?_
 dsimp only
 refine DK.elemB (at_map R.nb) ?_
 have g0:Gw it lt pa pb #[kas_item it (pb.getD 0 0)] 0 1:=by
  have h0:Gw it lt pa pb #[] 0 0:=⟨#[],by simp,⟨List.Pairwise.nil,fun x hx=>absurd hx (by simp),by simp⟩⟩
  exact h0.pushB R R.nb fun i _ hi=>R.bot i hi
 rw [za,zb]
 by_cases c1:(1==pb.size)=true
 ·rw [if_pos c1]
  exact DK.pure ⟨rfl',g0.endB R (by simpa using c1)⟩
 rw [if_neg c1]
 by_cases c2:(0+1==pa.size)=true
 ·rw [if_pos c2]
  exact DK.pure ⟨rfl',g0.endA R (by simpa using c2)⟩
 rw [if_neg c2]
 have n1:1 < pb.size:=by
  have:=R.nb
  have:1≠pb.size:=by simpa using c1
  omega
 have n2:0+1 < pa.size:=by
  have:=R.na
  have:0+1≠pa.size:=by simpa using c2
  omega
 refine DK.getB ?_
 refine DK.bind (DK.for (R:=fun (b:Option (Array Keyed) × Array Keyed × Nat × Nat × Nat) st'=>GSt st st'∧∃ r,b.1=some r∧Res it lt pa pb r)
  (fun t (b:Option (Array Keyed) × Array Keyed × Nat × Nat × Nat) st'=>GSt st st'∧b.1=none∧Go it lt pa pb b.2.1 b.2.2.1 b.2.2.2.1∧t≤b.2.2.1+b.2.2.2.1) ⟨rfl',rfl,⟨g0,n2,n1⟩,Nat.zero_le _⟩ (fun t b st1 ht hI=>?_) (fun b st1 hI=>?_)) fun b st1 hR=>?_
 ·obtain ⟨r,out,ia,ib,mg⟩:=b
  obtain ⟨hg,rfl,go,hp⟩:=hI
  dsimp only at go hp ⊢
  have hk1:kindOf st1=κ:=by obtain ⟨g,rfl⟩:=hg; exact hk
  refine DK.bind (DK.for (R:=fun (c:Option (Array Keyed) × Array Keyed × Nat × Nat × Nat × Nat) st2=>st2=st1∧((∃ r,c.1=some r∧Res it lt pa pb r)∨(c.1=none∧Go it lt pa pb c.2.1 c.2.2.1 c.2.2.2.1∧ia+ib+1≤c.2.2.1+c.2.2.2.1)))
   (fun t (c:Option (Array Keyed) × Array Keyed × Nat × Nat × Nat × Nat) st2=>st2=st1∧c.1=none∧Go it lt pa pb c.2.1 c.2.2.1 c.2.2.2.1∧ia+ib+t≤c.2.2.1+c.2.2.2.1) ⟨rfl,rfl,go,Nat.le_refl _⟩ (fun t c st2 ht hI=>?_) (fun c st2 hI=>?_)) fun c st2 hR=>?_
  ·obtain ⟨r,out,ja,jb,ac,bc⟩:=c
   obtain ⟨e,rfl,⟨gw,h1,h2⟩,hp⟩:=hI
   subst e
   dsimp only at gw h1 h2 hp ⊢
   have la:=R.la ja (by omega)
   have lb:=R.lb jb h2
   refine DK.elemB (at_map h2) (DK.elemB (at_map (by omega)) (DK.cmpB T hk1 lb la ?_))
   dsimp only
   cases c:lt (pb.getD jb 0) (pa.getD ja 0) with
   | true=>
    rw [if_pos rfl]
    refine DK.elemB (at_map h2) ?_
    have gw':=gw.pushB R h2 fun i i1 i2=>by
     by_cases e:ja=i
     ·rw [← e]; exact c
     ·exact R.S.tra _ _ _ lb la (R.la i i2) c (R.asa.lt_of (by omega) i2)
    by_cases c3:(jb+1==pb.size)=true
    ·rw [if_pos c3]
     exact DK.pure ⟨rfl,.inl ⟨_,rfl,gw'.endB R (by simpa using c3)⟩⟩
    rw [if_neg c3]
    have n3:jb+1 < pb.size:=by
     have:jb+1≠pb.size:=by simpa using c3
     omega
    by_cases c4:bc+1 ≥ mg
    ·rw [if_pos c4]
     exact DK.pure ⟨rfl,.inr ⟨rfl,⟨gw',h1,n3⟩,by show ia+ib+1≤ja+(jb+1); omega⟩⟩
    ·rw [if_neg c4]
     exact DK.pure ⟨rfl,rfl,⟨gw',h1,n3⟩,by show ia+ib+(t+1)≤ja+(jb+1); omega⟩
   | false=>
    rw [if_neg (by decide)]
    refine DK.elemB (at_map (by omega)) ?_
    have c':=R.S.not lb la (fun e=>R.dis ja jb (by omega) h2 e.symm) c
    have gw':=gw.pushA R (by omega) fun i i1 i2=>by
     by_cases e:jb=i
     ·rw [← e]; exact c'
     ·exact R.S.tra _ _ _ la lb (R.lb i i2) c' (R.asb.lt_of (by omega) i2)
    by_cases c3:(ja+1+1==pa.size)=true
    ·rw [if_pos c3]
     exact DK.pure ⟨rfl,.inl ⟨_,rfl,gw'.endA R (by simpa using c3)⟩⟩
    rw [if_neg c3]
    have n3:ja+1+1 < pa.size:=by
     have:ja+1+1≠pa.size:=by simpa using c3
     omega
    by_cases c4:ac+1 ≥ mg
    ·rw [if_pos c4]
     exact DK.pure ⟨rfl,.inr ⟨rfl,⟨gw',n3,h2⟩,by show ia+ib+1≤ja+1+jb; omega⟩⟩
    ·rw [if_neg c4]
     exact DK.pure ⟨rfl,rfl,⟨gw',n3,h2⟩,by show ia+ib+(t+1)≤ja+1+jb; omega⟩
  ·obtain ⟨e,e2,⟨gw,h1,h2⟩,hp⟩:=hI
   exact absurd hp (by omega)
  ·obtain ⟨r,out,ja,jb,ac,bc⟩:=c
   obtain ⟨e,hR⟩:=hR
   subst e
   dsimp only at hR ⊢
   rcases hR with ⟨r,rfl,hr⟩ | ⟨rfl,go,hp2⟩
   ·exact DK.pure ⟨hg,r,rfl,hr⟩
   dsimp only
   refine DK.ruleB ?_
   refine DK.bind (DK.for (R:=fun (c:Option (Array Keyed) × Array Keyed × Nat × Nat × Nat × Nat × Nat) st2=>GSt st st2∧((∃ r,c.1=some r∧Res it lt pa pb r)∨(c.1=none∧Go it lt pa pb c.2.1 c.2.2.1 c.2.2.2.1∧ja+jb≤c.2.2.1+c.2.2.2.1)))
    (fun t (c:Option (Array Keyed) × Array Keyed × Nat × Nat × Nat × Nat × Nat) st2=>GSt st st2∧c.1=none∧Go it lt pa pb c.2.1 c.2.2.1 c.2.2.2.1∧ja+jb+t≤c.2.2.1+c.2.2.2.1) ⟨hg,rfl,go,Nat.le_refl _⟩ (fun t c st3 ht hI=>?_) (fun c st3 hI=>?_)) fun c st3 hR=>?_
   ·obtain ⟨r,out,ia,ib,mg2,ac,bc⟩:=c
    obtain ⟨hg3,rfl,⟨gw,h1,h2⟩,hp3⟩:=hI
    dsimp only at gw h1 h2 hp3 ⊢
    have la:=R.la ia (by omega)
    have lb:=R.lb ib h2
    have hg':∀ g',GSt st (setG st3 g'):=fun g'=>by
     obtain ⟨g,rfl⟩:=hg3
     exact ⟨_,rfl⟩
    have hk3:∀ g',kindOf (setG st3 g')=κ:=fun g'=>by
     obtain ⟨g,rfl⟩:=hg3
     exact hk
    by_cases c0:mg2 > 1
    case' pos=>rw [if_pos c0]
    case' neg=>rw [if_neg c0]
    all_goals
     rw [setMinGallop'_eq]
     refine DK.modB ?_
     refine DK.elemB (at_map h2) ?_
     refine DK.galB T (hk3 _) lb (fun i hi=>R.la (ia+i) (by omega)) (by omega) (by omega) (R.monoA h2) fun k k1 k2 k3=>?_
     dsimp only
     have gA:=R.galA (ia:=ia) h2 k2 (by omega)
     have gA2:=R.galA2 (ib:=ib) k3
     have kt:ia+k+1≤pa.size:=by
      rcases Nat.lt_or_ge (ia+k) pa.size with z | z
      ·exact z
      ·have q:=gA (pa.size - 1 - ia) (by omega) ib (Nat.le_refl _) h2
       rw [show ia+(pa.size - 1 - ia)=pa.size - 1 by omega,R.S.anti lb (R.la _ (by omega)) (R.top ib h2)] at q
       cases q
     have two:∀ (X:Prop),(k > 0→X)→(k=0→X)→X:=fun X a b=>(Nat.eq_zero_or_pos k).elim b a
     by_cases k0:k > 0
     case' pos=>
      rw [if_pos k0]
      have gw1:=gw.appA R (k:=k) (by omega) gA
      by_cases c5:(ia+k+1==pa.size)=true
      case pos=>
       rw [if_pos c5]
       exact DK.pure ⟨hg' _,.inl ⟨_,rfl,gw1.endA R (by simpa using c5)⟩⟩
      rw [if_neg c5,if_neg (beq_no (show ia+k≠pa.size by omega))]
      have n5:ia+k+1 < pa.size:=by
       have:ia+k+1≠pa.size:=by simpa using c5
       omega
      have hp4:ja+jb+t≤ia+k+ib:=by omega
      generalize hE:out ++ (pa.map (kas_item it)).extract ia (ia+k)=out1 at gw1 ⊢
      generalize ia+k=ia1 at gw1 n5 hp4 gA2 ⊢
     case' neg=>
      rw [if_neg k0]
      have gw1:=gw
      have n5:=h1
      have hp4:=hp3
      rw [show k=0 by omega,Nat.add_zero] at gA2
      generalize hE:out=out1 at gw1 ⊢
      generalize hE2:ia=ia1 at gw1 n5 hp4 gA2 ⊢
     all_goals
      refine DK.elemB (at_map h2) ?_
      have gw2:=gw1.pushB R h2 gA2
      by_cases c6:(ib+1==pb.size)=true
      ·rw [if_pos c6]
       exact DK.pure ⟨hg' _,.inl ⟨_,rfl,gw2.endB R (by simpa using c6)⟩⟩
      rw [if_neg c6]
      have n6:ib+1 < pb.size:=by
       have:ib+1≠pb.size:=by simpa using c6
       omega
      refine DK.elemB (at_map (by omega)) ?_
      refine DK.galB T (hk3 _) (R.la ia1 (by omega)) (fun i hi=>R.lb (ib+1+i) (by omega)) (by omega) (by omega) (R.monoB (by omega)) fun k' m1 m2 m3=>?_
      dsimp only
      have gB:=R.galB (ia:=ia1) (ib:=ib+1) (by omega) m2 (by omega)
      have gB2:=R.galB2 (ia:=ia1) (ib:=ib+1) (by omega) m3
      by_cases k0':k' > 0
      ·rw [if_pos k0']
       have gw3:=gw2.appB R (k:=k') (by omega) gB
       by_cases c7:(ib+1+k'==pb.size)=true
       ·rw [if_pos c7]
        exact DK.pure ⟨hg' _,.inl ⟨_,rfl,gw3.endB R (by simpa using c7)⟩⟩
       rw [if_neg c7]
       have n7:ib+1+k' < pb.size:=by
        have:ib+1+k'≠pb.size:=by simpa using c7
        omega
       refine DK.elemB (at_map (by omega)) ?_
       have gw4:=gw3.pushA R (by omega) gB2
       by_cases c8:(ia1+1+1==pa.size)=true
       ·rw [if_pos c8]
        exact DK.pure ⟨hg' _,.inl ⟨_,rfl,gw4.endA R (by simpa using c8)⟩⟩
       rw [if_neg c8]
       have n8:ia1+1+1 < pa.size:=by
        have:ia1+1+1≠pa.size:=by simpa using c8
        omega
       by_cases c9:(decide (k < 7) && decide (k' < 7))=true
       ·rw [if_pos c9]
        exact DK.pure ⟨hg' _,.inr ⟨rfl,⟨gw4,n8,n7⟩,by show ja+jb≤ia1+1+(ib+1+k'); omega⟩⟩
       ·rw [if_neg c9]
        exact DK.pure ⟨hg' _,rfl,⟨gw4,n8,n7⟩,by show ja+jb+(t+1)≤ia1+1+(ib+1+k'); omega⟩
      ·rw [if_neg k0']
       rw [show k'=0 by omega,Nat.add_zero] at gB2
       refine DK.elemB (at_map (by omega)) ?_
       have gw4:=gw2.pushA R (by omega) gB2
       by_cases c8:(ia1+1+1==pa.size)=true
       ·rw [if_pos c8]
        exact DK.pure ⟨hg' _,.inl ⟨_,rfl,gw4.endA R (by simpa using c8)⟩⟩
       rw [if_neg c8]
       have n8:ia1+1+1 < pa.size:=by
        have:ia1+1+1≠pa.size:=by simpa using c8
        omega
       by_cases c9:(decide (k < 7) && decide (k' < 7))=true
       ·rw [if_pos c9]
        exact DK.pure ⟨hg' _,.inr ⟨rfl,⟨gw4,n8,n6⟩,by show ja+jb≤ia1+1+(ib+1); omega⟩⟩
       ·rw [if_neg c9]
        exact DK.pure ⟨hg' _,rfl,⟨gw4,n8,n6⟩,by show ja+jb+(t+1)≤ia1+1+(ib+1); omega⟩
   ·obtain ⟨e,e2,⟨gw,h1,h2⟩,hp⟩:=hI
    exact absurd hp (by omega)
   ·obtain ⟨r,out,xa,xb,mg2,ac,bc⟩:=c
    obtain ⟨hg3,hR⟩:=hR
    dsimp only at hR ⊢
    rcases hR with ⟨r,rfl,hr⟩ | ⟨rfl,go,hp3⟩
    ·exact DK.pure ⟨hg3,r,rfl,hr⟩
    dsimp only
    rw [setMinGallop'_eq]
    refine DK.modB (DK.pure ⟨?_,rfl,go,by show t+1≤xa+xb; omega⟩)
    obtain ⟨g,rfl⟩:=hg3
    exact ⟨_,rfl⟩
 ·obtain ⟨e,e2,⟨gw,h1,h2⟩,hp⟩:=hI
  exact absurd hp (by omega)
 ·obtain ⟨r,out,ia,ib,mg⟩:=b
  obtain ⟨hg,r2,rfl,hr⟩:=hR
  exact DK.pure ⟨hg,hr⟩
end
end L2
namespace L2
open PySem PySem.Spec PyProof.Rows
section
open PySem.W (kas_item)
structure Mh (lt:Nat→Nat→Bool) (a b o:List Nat) (na nb:Nat):Prop where
 asc:Asc lt o
 sep:∀ x,(x∈a.take na∨x∈b.take nb)→∀ y∈o,lt x y=true
 per:((a.take na ++ b.take nb) ++ o).Perm (a ++ b)
variable {lt:Nat→Nat→Bool} {a b o:List Nat} {na nb x:Nat}
theorem take_get (h:a[na]? = some x):a.take (na+1)=a.take na ++ [x]:=by rw [List.take_add_one,h]; rfl
theorem Asc.take_lt (h:Asc lt a) (e:a[na]? = some x):∀ y∈a.take na,lt y x=true:=fun y hy=>by
 have h1:Asc lt (a.take (na+1)):=List.Pairwise.take h
 rw [take_get e] at h1
 exact (List.pairwise_append.mp h1).2.2 y hy x (List.mem_singleton.mpr rfl)
theorem Mh.takeA (h:Mh lt a b o (na+1) nb) (hs:Asc lt a) (e:a[na]? = some x) (hx:∀ y∈b.take nb,lt y x=true):Mh lt a b (x :: o) na nb:=by
 have hd:=take_get e
 refine ⟨List.pairwise_cons.mpr ⟨fun y hy=>h.sep x (.inl (by rw [hd]; simp)) y hy,h.asc⟩,fun y hy z hz=>?_,?_⟩
 ·rcases List.mem_cons.mp hz with rfl | hz
  ·exact hy.elim (fun q=>hs.take_lt e y q) (hx y)
  ·exact h.sep y (hy.imp (fun q=>by rw [hd]; exact List.mem_append_left _ q) id) z hz
 ·have:=h.per
  rw [hd] at this
  refine List.Perm.trans ?_ this
  rw [List.append_assoc,List.append_assoc,List.append_assoc]
  refine List.Perm.append_left _ ?_
  exact List.perm_middle (a:=x) (l₁:=b.take nb) (l₂:=o)
theorem Mh.takeB (h:Mh lt a b o na (nb+1)) (hs:Asc lt b) (e:b[nb]? = some x) (hx:∀ y∈a.take na,lt y x=true):Mh lt a b (x :: o) na nb:=by
 have hd:=take_get e
 refine ⟨List.pairwise_cons.mpr ⟨fun y hy=>h.sep x (.inr (by rw [hd]; simp)) y hy,h.asc⟩,fun y hy z hz=>?_,?_⟩
 ·rcases List.mem_cons.mp hz with rfl | hz
  ·exact hy.elim (hx y) fun q=>hs.take_lt e y q
  ·exact h.sep y (hy.imp id fun q=>by rw [hd]; exact List.mem_append_left _ q) z hz
 ·have:=h.per
  rw [hd] at this
  refine List.Perm.trans (List.Perm.of_eq ?_) this
  simp
theorem Mh.takeAs (hs:Asc lt a):∀ (k:Nat) {o:List Nat} {na:Nat},Mh lt a b o (na+k) nb→(∀ i,i < k→∃ x,a[na+i]? = some x∧∀ y∈b.take nb,lt y x=true)→Mh lt a b ((a.drop na).take k ++ o) na nb
 | 0,o,na,h,_=>by simpa using h
 | k+1,o,na,h,hx=>by
  obtain ⟨x,e,q⟩:=hx k (Nat.lt_succ_self _)
  have h1:=Mh.takeAs hs k (Mh.takeA (na:=na+k) h hs e q) fun i hi=>hx i (by omega)
  have e2:(a.drop na).take (k+1)=(a.drop na).take k ++ [x]:=by rw [List.take_add_one,List.getElem?_drop,e]; rfl
  rw [e2,List.append_assoc]
  exact h1
theorem Mh.takeBs (hs:Asc lt b):∀ (k:Nat) {o:List Nat} {nb:Nat},Mh lt a b o na (nb+k)→(∀ i,i < k→∃ x,b[nb+i]? = some x∧∀ y∈a.take na,lt y x=true)→Mh lt a b ((b.drop nb).take k ++ o) na nb
 | 0,o,nb,h,_=>by simpa using h
 | k+1,o,nb,h,hx=>by
  obtain ⟨x,e,q⟩:=hx k (Nat.lt_succ_self _)
  have h1:=Mh.takeBs hs k (Mh.takeB (nb:=nb+k) h hs e q) fun i hi=>hx i (by omega)
  have e2:(b.drop nb).take (k+1)=(b.drop nb).take k ++ [x]:=by rw [List.take_add_one,List.getElem?_drop,e]; rfl
  rw [e2,List.append_assoc]
  exact h1
variable {n:Nat} {pa pb:Array Nat} {it:Array Keyed} {out:Array Keyed}
def Gh (it:Array Keyed) (lt:Nat→Nat→Bool) (pa pb:Array Nat) (out:Array Keyed) (na nb:Nat):Prop:=∃ q:Array Nat,out=q.map (kas_item it)∧Mh lt pa.toList pb.toList q.toList.reverse na nb
theorem mem_takeA {i y:Nat} (h:y∈pa.toList.take i):∃ j,j < i∧j < pa.size∧y=pa.getD j 0:=by
 obtain ⟨k,hk,e⟩:=List.mem_iff_getElem.mp h
 rw [List.length_take,Array.length_toList] at hk
 refine ⟨k,by omega,by omega,?_⟩
 have h1:=getL (pa:=pa) (i:=k) (by omega)
 rw [List.getElem_take] at e
 rw [List.getElem?_eq_getElem (by rw [Array.length_toList]; omega),e] at h1
 exact Option.some.inj h1
theorem Gh.pushB (h:Gh it lt pa pb out na (nb+1)) (R:Rn n lt pa pb) (hb:nb < pb.size) (hx:∀ i,i < na→i < pa.size→lt (pa.getD i 0) (pb.getD nb 0)=true):Gh it lt pa pb (out.push (kas_item it (pb.getD nb 0))) na nb:=by
 obtain ⟨q,rfl,m⟩:=h
 refine ⟨q.push (pb.getD nb 0),by simp,?_⟩
 rw [Array.toList_push,List.reverse_append]
 refine m.takeB R.asb (getL hb) fun y hy=>?_
 obtain ⟨j,j1,j2,rfl⟩:=mem_takeA hy
 exact hx j j1 j2
theorem Gh.pushA (h:Gh it lt pa pb out (na+1) nb) (R:Rn n lt pa pb) (hb:na < pa.size) (hx:∀ i,i < nb→i < pb.size→lt (pb.getD i 0) (pa.getD na 0)=true):Gh it lt pa pb (out.push (kas_item it (pa.getD na 0))) na nb:=by
 obtain ⟨q,rfl,m⟩:=h
 refine ⟨q.push (pa.getD na 0),by simp,?_⟩
 rw [Array.toList_push,List.reverse_append]
 refine m.takeA R.asa (getL hb) fun y hy=>?_
 obtain ⟨j,j1,j2,rfl⟩:=mem_takeA hy
 exact hx j j1 j2
theorem Gh.appA (h:Gh it lt pa pb out (na+k) nb) (R:Rn n lt pa pb) (hk:na+k≤pa.size) (hx:∀ i,i < k→∀ j,j < nb→j < pb.size→lt (pb.getD j 0) (pa.getD (na+i) 0)=true):Gh it lt pa pb (out ++ ((pa.map (kas_item it)).extract na (na+k)).reverse) na nb:=by
 obtain ⟨q,rfl,m⟩:=h
 refine ⟨q ++ (pa.extract na (na+k)).reverse,by simp,?_⟩
 rw [Array.toList_append,Array.toList_reverse,List.reverse_append,List.reverse_reverse,ext_list]
 refine m.takeAs R.asa k fun i hi=>⟨_,getL (by omega),fun y hy=>?_⟩
 obtain ⟨j,j1,j2,rfl⟩:=mem_takeA hy
 exact hx i hi j j1 j2
theorem Gh.appB (h:Gh it lt pa pb out na (nb+k)) (R:Rn n lt pa pb) (hk:nb+k≤pb.size) (hx:∀ i,i < k→∀ j,j < na→j < pa.size→lt (pa.getD j 0) (pb.getD (nb+i) 0)=true):Gh it lt pa pb (out ++ ((pb.map (kas_item it)).extract nb (nb+k)).reverse) na nb:=by
 obtain ⟨q,rfl,m⟩:=h
 refine ⟨q ++ (pb.extract nb (nb+k)).reverse,by simp,?_⟩
 rw [Array.toList_append,Array.toList_reverse,List.reverse_append,List.reverse_reverse,ext_list]
 refine m.takeBs R.asb k fun i hi=>⟨_,getL (by omega),fun y hy=>?_⟩
 obtain ⟨j,j1,j2,rfl⟩:=mem_takeA hy
 exact hx i hi j j1 j2
theorem ext_0 (q:Array Nat) (i:Nat):((q.map (kas_item it)).extract 0 i)=(q.extract 0 i).map (kas_item it):=by simp
theorem ext_0l (q:Array Nat) (i:Nat):(q.extract 0 i).toList=q.toList.take i:=by
 have:=ext_list q 0 i
 rw [Nat.zero_add] at this
 rw [this,List.drop_zero]
theorem Gh.endA (h:Gh it lt pa pb out na nb) (R:Rn n lt pa pb) (ha:na=0):Res it lt pa pb ((pa.map (kas_item it)).extract 0 na ++ (pb.map (kas_item it)).extract 0 nb ++ out.reverse):=by
 obtain ⟨q,rfl,m⟩:=h
 subst ha
 refine ⟨pa.extract 0 0 ++ pb.extract 0 nb ++ q.reverse,by rw [ext_0,ext_0,← Array.map_reverse,Array.map_append,Array.map_append],?_⟩
 rw [Array.toList_append,Array.toList_append,ext_0l,ext_0l,Array.toList_reverse,List.take_zero,List.nil_append]
 have p:=m.per
 rw [List.take_zero,List.nil_append] at p
 exact ⟨List.pairwise_append.mpr ⟨List.Pairwise.take R.asb,m.asc,fun x hx y hy=>m.sep x (.inr hx) y hy⟩,p⟩
theorem Gh.endB (h:Gh it lt pa pb out na nb) (R:Rn n lt pa pb) (hb:nb=1):Res it lt pa pb ((pb.map (kas_item it)).extract 0 nb ++ (pa.map (kas_item it)).extract 0 na ++ out.reverse):=by
 obtain ⟨q,rfl,m⟩:=h
 refine ⟨pb.extract 0 nb ++ pa.extract 0 na ++ q.reverse,by rw [ext_0,ext_0,← Array.map_reverse,Array.map_append,Array.map_append],?_⟩
 rw [Array.toList_append,Array.toList_append,ext_0l,ext_0l,Array.toList_reverse]
 refine ⟨List.pairwise_append.mpr ⟨List.pairwise_append.mpr ⟨List.Pairwise.take R.asb,List.Pairwise.take R.asa,fun x hx y hy=>?_⟩,m.asc,fun x hx y hy=>?_⟩,?_⟩
 ·obtain ⟨i,i1,i2,rfl⟩:=mem_takeA hx
  obtain ⟨j,j1,j2,rfl⟩:=mem_takeA hy
  obtain rfl:i=0:=by omega
  exact R.bot j j2
 ·rcases List.mem_append.mp hx with z | z
  ·exact m.sep x (.inr z) y hy
  ·exact m.sep x (.inl z) y hy
 ·exact (List.Perm.append_right _ List.perm_append_comm).trans m.per
theorem mergeHi'_eq (a b:Array Keyed):mergeHi' a b=(do
  rule "list.sort.merge-hi"
  let total:=a.size+b.size
  let done (out:Array Keyed) (na nb:Nat):=a.extract 0 na ++ b.extract 0 nb ++ out.reverse
  let firstOfB (out:Array Keyed) (na nb:Nat):=b.extract 0 nb ++ a.extract 0 na ++ out.reverse
  let mut na:=a.size - 1
  let mut nb:=b.size
  let mut out:Array Keyed:=#[← elem' a na]
  if na==0 then return done out na nb
  if nb==1 then return firstOfB out na nb
  let mut minGallop:=gallopOf (← get)
  for _ in [0:total] do
   let mut acount:=0
   let mut bcount:=0
   for _ in [0:total] do
    let some aWins ← lt' (← elem' b (nb - 1)) (← elem' a (na - 1)) | return done out na nb
    if aWins then
     na:=na - 1; out:=out.push (← elem' a na); acount:=acount+1; bcount:=0
     if na==0 then return done out na nb
     if acount ≥ minGallop then break
    else
     nb:=nb - 1; out:=out.push (← elem' b nb); bcount:=bcount+1; acount:=0
     if nb==1 then return firstOfB out na nb
     if bcount ≥ minGallop then break
   rule "list.sort.gallop"
   minGallop:=minGallop+1
   for _ in [0:total] do
    if minGallop > 1 then minGallop:=minGallop - 1
    setMinGallop' minGallop
    let some at_ ← gallop' false (← elem' b (nb - 1)) a 0 na (na - 1) | return done out na nb
    let k:=na - at_
    acount:=k
    if k > 0 then
     out:=out ++ (a.extract at_ na).reverse; na:=at_
     if na==0 then return done out na nb
    nb:=nb - 1; out:=out.push (← elem' b nb)
    if nb==1 then return firstOfB out na nb
    let some at_ ← gallop' true (← elem' a (na - 1)) b 0 nb (nb - 1) | return done out na nb
    let k:=nb - at_
    bcount:=k
    if k > 0 then
     out:=out ++ (b.extract at_ nb).reverse; nb:=at_
     if nb==1 then return firstOfB out na nb
     if nb==0 then return done out na nb
    na:=na - 1; out:=out.push (← elem' a na)
    if na==0 then return done out na nb
    if acount < 7 && bcount < 7 then break
   minGallop:=minGallop+1
   setMinGallop' minGallop
  unsupported "internal:list.sort.merge-bound"):=rfl
end
end L2
namespace L2
open PySem PySem.Spec PyProof.Rows
section
open PySem.W (kas_item)
variable {prog:Program} {w:World} {A:Around} {s:Shared} {st:SortSt} {κ:SortKind} {it:Array Keyed} {n:Nat} {lt:Nat→Nat→Bool} {pa pb:Array Nat} {na nb:Nat}
def Gp (it:Array Keyed) (lt:Nat→Nat→Bool) (pa pb:Array Nat) (out:Array Keyed) (na nb:Nat):Prop:=Gh it lt pa pb out na nb∧0 < na∧na≤pa.size∧1 < nb∧nb≤pb.size
theorem Rn.hiA (R:Rn n lt pa pb) {k:Nat} (hb:nb < pb.size) (hn:na≤pa.size) (h2:∀ i,k≤i→i < na→bey lt pa (pb.getD nb 0) 0 false i=false):∀ i,k+i < na→∀ j,j < nb+1→j < pb.size→lt (pb.getD j 0) (pa.getD (k+i) 0)=true:=fun i hi j j1 j2=>by
 have h:=h2 (k+i) (by omega) hi
 unfold bey at h
 rw [if_neg (by decide),Nat.zero_add] at h
 have q:lt (pb.getD nb 0) (pa.getD (k+i) 0)=true:=by simpa using h
 by_cases e:j=nb
 ·rw [e]; exact q
 ·exact R.S.tra _ _ _ (R.lb j j2) (R.lb nb hb) (R.la _ (by omega)) (R.asb.lt_of (by omega) hb) q
theorem Rn.hiA1 (R:Rn n lt pa pb) {k:Nat} (hb:nb < pb.size) (hk:k≤pa.size) (h1:∀ i,i < k→bey lt pa (pb.getD nb 0) 0 false i=true):∀ i,i < k→i < pa.size→lt (pa.getD i 0) (pb.getD nb 0)=true:=fun i hi hi2=>by
 have h:=h1 i hi
 unfold bey at h
 rw [if_neg (by decide),Bool.not_eq_true',Nat.zero_add] at h
 exact R.S.not (R.lb nb hb) (R.la i hi2) (fun e=>R.dis i nb hi2 hb e.symm) h
theorem Rn.hiB (R:Rn n lt pa pb) {k:Nat} (ha:na < pa.size) (hn:nb≤pb.size) (h2:∀ i,k≤i→i < nb→bey lt pb (pa.getD na 0) 0 true i=false):∀ i,k+i < nb→∀ j,j < na+1→j < pa.size→lt (pa.getD j 0) (pb.getD (k+i) 0)=true:=fun i hi j j1 j2=>by
 have h:=h2 (k+i) (by omega) hi
 unfold bey at h
 rw [if_pos rfl,Nat.zero_add] at h
 have q:=R.S.not (R.lb _ (by omega)) (R.la na ha) (fun e=>R.dis na (k+i) ha (by omega) e.symm) h
 by_cases e:j=na
 ·rw [e]; exact q
 ·exact R.S.tra _ _ _ (R.la j j2) (R.la na ha) (R.lb _ (by omega)) (R.asa.lt_of (by omega) ha) q
theorem Rn.hiB1 (R:Rn n lt pa pb) {k:Nat} (h1:∀ i,i < k→bey lt pb (pa.getD na 0) 0 true i=true):∀ i,i < k→i < pb.size→lt (pb.getD i 0) (pa.getD na 0)=true:=fun i hi _=>by
 have h:=h1 i hi
 unfold bey at h
 rw [if_pos rfl,Nat.zero_add] at h
 exact h
theorem Rn.hmonoA (R:Rn n lt pa pb) (hb:nb < pb.size) (hn:na≤pa.size):∀ i j,i < j→j < na→bey lt pa (pb.getD nb 0) 0 false j=true→bey lt pa (pb.getD nb 0) 0 false i=true:=fun i j hij hj=>R.monoA (ia:=0) hb i j hij (by omega)
theorem Rn.hmonoB (R:Rn n lt pa pb) (ha:na < pa.size) (hn:nb≤pb.size):∀ i j,i < j→j < nb→bey lt pb (pa.getD na 0) 0 true j=true→bey lt pb (pa.getD na 0) 0 true i=true:=fun i j hij hj=>R.monoB (ib:=0) ha i j hij (by omega)
theorem dk_mergeHi (T:Told prog w A s κ it n lt) (R:Rn n lt pa pb) (hk:kindOf st=κ):DK prog w A s (mergeHi' (pa.map (kas_item it)) (pb.map (kas_item it))) st fun r st'=>GSt st st'∧Res it lt pa pb r:=by
 rw [mergeHi'_eq]
 have za:(pa.map (kas_item it)).size=pa.size:=Array.size_map ..
 have zb:(pb.map (kas_item it)).size=pb.size:=Array.size_map ..
 have rfl':GSt st st:=⟨gallopOf st,rfl⟩
 refine DK.ruleB ?_
 dsimp only
 rw [za,zb]
 have hna:=R.na
 have hnb:=R.nb
 refine DK.elemB (at_map (show pa.size - 1 < pa.size by omega)) ?_
 have g0:Gh it lt pa pb #[kas_item it (pa.getD (pa.size - 1) 0)] (pa.size - 1) pb.size:=by
  have h0:Gh it lt pa pb #[] (pa.size - 1+1) pb.size:=by
   refine ⟨#[],by simp,⟨List.Pairwise.nil,fun x _ y hy=>absurd hy (by simp),?_⟩⟩
   rw [show pa.size - 1+1=pa.toList.length by rw [Array.length_toList]; omega,show pb.size=pb.toList.length from Array.length_toList.symm,List.take_length,List.take_length]
   simp
  exact h0.pushA R (by omega) fun i _ hi=>R.top i hi
 by_cases c1:(pa.size - 1==0)=true
 ·rw [if_pos c1]
  exact DK.pure ⟨rfl',g0.endA R (by simpa using c1)⟩
 rw [if_neg c1]
 by_cases c2:(pb.size==1)=true
 ·rw [if_pos c2]
  exact DK.pure ⟨rfl',g0.endB R (by simpa using c2)⟩
 rw [if_neg c2]
 have n1:0 < pa.size - 1:=by
  have:pa.size - 1≠0:=by simpa using c1
  omega
 have n2:1 < pb.size:=by
  have:pb.size≠1:=by simpa using c2
  omega
 refine DK.getB ?_
 refine DK.bind (DK.for (R:=fun (b:Option (Array Keyed) × Nat × Nat × Array Keyed × Nat) st'=>GSt st st'∧∃ r,b.1=some r∧Res it lt pa pb r)
  (fun t (b:Option (Array Keyed) × Nat × Nat × Array Keyed × Nat) st'=>GSt st st'∧b.1=none∧Gp it lt pa pb b.2.2.2.1 b.2.1 b.2.2.1∧b.2.1+b.2.2.1+t≤pa.size+pb.size) ⟨rfl',rfl,⟨g0,n1,by show pa.size - 1≤_; omega,n2,Nat.le_refl _⟩,by show pa.size - 1+pb.size+0≤_; omega⟩ (fun t b st1 ht hI=>?_) (fun b st1 hI=>?_)) fun b st1 hR=>?_
 ·obtain ⟨r,na,nb,out,mg⟩:=b
  obtain ⟨hg,rfl,go,hp⟩:=hI
  dsimp only at go hp ⊢
  have hk1:kindOf st1=κ:=by obtain ⟨g,rfl⟩:=hg; exact hk
  refine DK.bind (DK.for (R:=fun (c:Option (Array Keyed) × Nat × Nat × Array Keyed × Nat × Nat) st2=>st2=st1∧((∃ r,c.1=some r∧Res it lt pa pb r)∨(c.1=none∧Gp it lt pa pb c.2.2.2.1 c.2.1 c.2.2.1∧c.2.1+c.2.2.1+1≤na+nb)))
   (fun t (c:Option (Array Keyed) × Nat × Nat × Array Keyed × Nat × Nat) st2=>st2=st1∧c.1=none∧Gp it lt pa pb c.2.2.2.1 c.2.1 c.2.2.1∧c.2.1+c.2.2.1+t≤na+nb) ⟨rfl,rfl,go,Nat.le_refl _⟩ (fun t c st2 ht hI=>?_) (fun c st2 hI=>?_)) fun c st2 hR=>?_
  ·obtain ⟨r,ja,jb,out,ac,bc⟩:=c
   obtain ⟨e,rfl,⟨gw,h1,h1',h2,h2'⟩,hp⟩:=hI
   subst e
   dsimp only at gw h1 h1' h2 h2' hp ⊢
   obtain ⟨xa,rfl⟩:∃ m,ja=m+1:=⟨ja - 1,by omega⟩
   obtain ⟨xb,rfl⟩:∃ m,jb=m+1:=⟨jb - 1,by omega⟩
   simp only [Nat.add_sub_cancel]
   have la:=R.la xa (by omega)
   have lb:=R.lb xb (by omega)
   refine DK.elemB (at_map (by omega)) (DK.elemB (at_map (by omega)) (DK.cmpB T hk1 lb la ?_))
   dsimp only
   cases c:lt (pb.getD xb 0) (pa.getD xa 0) with
   | true=>
    rw [if_pos rfl]
    refine DK.elemB (at_map (by omega)) ?_
    have gw':=gw.pushA R (by omega) fun i i1 i2=>by
     by_cases e:i=xb
     ·rw [e]; exact c
     ·exact R.S.tra _ _ _ (R.lb i i2) lb la (R.asb.lt_of (by omega) (by omega)) c
    by_cases c3:(xa==0)=true
    ·rw [if_pos c3]
     exact DK.pure ⟨rfl,.inl ⟨_,rfl,gw'.endA R (by simpa using c3)⟩⟩
    rw [if_neg c3]
    have n3:0 < xa:=by
     have:xa≠0:=by simpa using c3
     omega
    by_cases c4:ac+1 ≥ mg
    ·rw [if_pos c4]
     exact DK.pure ⟨rfl,.inr ⟨rfl,⟨gw',n3,by show xa≤_; omega,h2,h2'⟩,by show xa+(xb+1)+1≤na+nb; omega⟩⟩
    ·rw [if_neg c4]
     exact DK.pure ⟨rfl,rfl,⟨gw',n3,by show xa≤_; omega,h2,h2'⟩,by show xa+(xb+1)+(t+1)≤na+nb; omega⟩
   | false=>
    rw [if_neg (by decide)]
    refine DK.elemB (at_map (by omega)) ?_
    have c':=R.S.not lb la (fun e=>R.dis xa xb (by omega) (by omega) e.symm) c
    have gw':=gw.pushB R (by omega) fun i i1 i2=>by
     by_cases e:i=xa
     ·rw [e]; exact c'
     ·exact R.S.tra _ _ _ (R.la i i2) la lb (R.asa.lt_of (by omega) (by omega)) c'
    by_cases c3:(xb==1)=true
    ·rw [if_pos c3]
     exact DK.pure ⟨rfl,.inl ⟨_,rfl,gw'.endB R (by simpa using c3)⟩⟩
    rw [if_neg c3]
    have n3:1 < xb:=by
     have:xb≠1:=by simpa using c3
     omega
    by_cases c4:bc+1 ≥ mg
    ·rw [if_pos c4]
     exact DK.pure ⟨rfl,.inr ⟨rfl,⟨gw',h1,h1',n3,by show xb≤_; omega⟩,by show xa+1+xb+1≤na+nb; omega⟩⟩
    ·rw [if_neg c4]
     exact DK.pure ⟨rfl,rfl,⟨gw',h1,h1',n3,by show xb≤_; omega⟩,by show xa+1+xb+(t+1)≤na+nb; omega⟩
  ·obtain ⟨e,e2,⟨gw,h1,h1',h2,h2'⟩,hp2⟩:=hI
   obtain ⟨_,g1,g2,g3,g4⟩:=go
   exact absurd hp2 (by omega)
  ·obtain ⟨r,ja,jb,out,ac,bc⟩:=c
   obtain ⟨e,hR⟩:=hR
   subst e
   dsimp only at hR ⊢
   rcases hR with ⟨r,rfl,hr⟩ | ⟨rfl,go,hp2⟩
   ·exact DK.pure ⟨hg,r,rfl,hr⟩
   dsimp only
   refine DK.ruleB ?_
   refine DK.bind (DK.for (R:=fun (c:Option (Array Keyed) × Nat × Nat × Array Keyed × Nat × Nat × Nat) st2=>GSt st st2∧((∃ r,c.1=some r∧Res it lt pa pb r)∨(c.1=none∧Gp it lt pa pb c.2.2.2.1 c.2.1 c.2.2.1∧c.2.1+c.2.2.1≤ja+jb)))
    (fun t (c:Option (Array Keyed) × Nat × Nat × Array Keyed × Nat × Nat × Nat) st2=>GSt st st2∧c.1=none∧Gp it lt pa pb c.2.2.2.1 c.2.1 c.2.2.1∧c.2.1+c.2.2.1+t≤ja+jb) ⟨hg,rfl,go,Nat.le_refl _⟩ (fun t c st3 ht hI=>?_) (fun c st3 hI=>?_)) fun c st3 hR=>?_
   ·obtain ⟨r,ya,yb,out,mg2,ac,bc⟩:=c
    obtain ⟨hg3,rfl,⟨gw,h1,h1',h2,h2'⟩,hp3⟩:=hI
    dsimp only at gw h1 h1' h2 h2' hp3 ⊢
    obtain ⟨xb,rfl⟩:∃ m,yb=m+1:=⟨yb - 1,by omega⟩
    simp only [Nat.add_sub_cancel]
    have lb:=R.lb xb (by omega)
    have hg':∀ g',GSt st (setG st3 g'):=fun g'=>by
     obtain ⟨g,rfl⟩:=hg3
     exact ⟨_,rfl⟩
    have hk3:∀ g',kindOf (setG st3 g')=κ:=fun g'=>by
     obtain ⟨g,rfl⟩:=hg3
     exact hk
    by_cases c0:mg2 > 1
    case' pos=>rw [if_pos c0]
    case' neg=>rw [if_neg c0]
    all_goals
     rw [setMinGallop'_eq]
     refine DK.modB ?_
     refine DK.elemB (at_map (by omega)) ?_
     refine DK.galB T (hk3 _) lb (fun i hi=>R.la (0+i) (by omega)) (by omega) (by omega) (R.hmonoA (by omega) h1') fun k k1 k2 k3=>?_
     dsimp only
     have gA:=R.hiA (na:=ya) (k:=k) (by omega) h1' k3
     have gA1:=R.hiA1 (k:=k) (by omega) (by omega) k2
     by_cases k0:ya - k > 0
     case' pos=>
      rw [if_pos k0]
      obtain ⟨d,hd⟩:∃ d,ya=k+d:=⟨ya - k,by omega⟩
      have gw1:=Gh.appA (k:=d) (na:=k) (by rw [← hd]; exact gw) R (by omega) fun i hi=>gA i (by omega)
      rw [← hd] at gw1
      by_cases c5:(k==0)=true
      case pos=>
       rw [if_pos c5]
       exact DK.pure ⟨hg' _,.inl ⟨_,rfl,gw1.endA R (by simpa using c5)⟩⟩
      rw [if_neg c5]
      have n5:0 < k:=by
       have:k≠0:=by simpa using c5
       omega
      generalize hE:out ++ ((pa.map (kas_item it)).extract k ya).reverse=out1 at gw1 ⊢
      generalize hKA:ya - k=ka
      have hp4:k+(xb+1)+t≤ja+jb:=by omega
      have hza:k≤pa.size:=by omega
      generalize hE2:k=za1 at gw1 n5 hp4 gA1 hza ⊢
     case' neg=>
      rw [if_neg k0]
      have gw1:=gw
      have n5:=h1
      have hp4:=hp3
      have hza:=h1'
      rw [show k=ya by omega] at gA1
      generalize hE:out=out1 at gw1 ⊢
      generalize hKA:ya - k=ka
      generalize hE2:ya=za1 at gw1 n5 hp4 gA1 hza ⊢
     all_goals
      refine DK.elemB (at_map (by omega)) ?_
      have gw2:=gw1.pushB R (by omega) gA1
      by_cases c6:(xb==1)=true
      ·rw [if_pos c6]
       exact DK.pure ⟨hg' _,.inl ⟨_,rfl,gw2.endB R (by simpa using c6)⟩⟩
      rw [if_neg c6]
      have n6:1 < xb:=by
       have:xb≠1:=by simpa using c6
       omega
      obtain ⟨xa,rfl⟩:∃ m,za1=m+1:=⟨za1 - 1,by omega⟩
      simp only [Nat.add_sub_cancel]
      refine DK.elemB (at_map (by omega)) ?_
      refine DK.galB T (hk3 _) (R.la xa (by omega)) (fun i hi=>R.lb (0+i) (by omega)) (by omega) (by omega) (R.hmonoB (by omega) (by omega)) fun k' m1 m2 m3=>?_
      dsimp only
      have gB:=R.hiB (na:=xa) (nb:=xb) (k:=k') (by omega) (by omega) m3
      have gB1:=R.hiB1 (na:=xa) (k:=k') m2
      have hk1:1≤k':=by
       rcases Nat.eq_zero_or_pos k' with z | z
       ·have q:=m3 0 (by omega) (by omega)
        unfold bey at q
        rw [if_pos rfl,Nat.zero_add,R.bot xa (by omega)] at q
        cases q
       ·exact z
      by_cases k0':xb - k' > 0
      ·rw [if_pos k0']
       obtain ⟨d',hd'⟩:∃ d,xb=k'+d:=⟨xb - k',by omega⟩
       have gw3:=Gh.appB (k:=d') (nb:=k') (by rw [← hd']; exact gw2) R (by omega) fun i hi=>gB i (by omega)
       rw [← hd'] at gw3
       by_cases c7:(k'==1)=true
       ·rw [if_pos c7]
        exact DK.pure ⟨hg' _,.inl ⟨_,rfl,gw3.endB R (by simpa using c7)⟩⟩
       rw [if_neg c7,if_neg (beq_no (show k'≠0 by omega))]
       have n7:1 < k':=by
        have:k'≠1:=by simpa using c7
        omega
       refine DK.elemB (at_map (by omega)) ?_
       have gw4:=Gh.pushA (na:=xa) gw3 R (by omega) gB1
       by_cases c8:(xa==0)=true
       ·rw [if_pos c8]
        exact DK.pure ⟨hg' _,.inl ⟨_,rfl,gw4.endA R (by simpa using c8)⟩⟩
       rw [if_neg c8]
       have n8:0 < xa:=by
        have:xa≠0:=by simpa using c8
        omega
       by_cases c9:(decide (ka < 7) && decide (xb - k' < 7))=true
       ·rw [if_pos c9]
        exact DK.pure ⟨hg' _,.inr ⟨rfl,⟨gw4,n8,(by show xa≤_; omega),n7,(by show k'≤_; omega)⟩,by show xa+(k')≤_; omega⟩⟩
       ·rw [if_neg c9]
        exact DK.pure ⟨hg' _,rfl,⟨gw4,n8,(by show xa≤_; omega),n7,(by show k'≤_; omega)⟩,by show xa+(k')+(t+1)≤_; omega⟩
      ·rw [if_neg k0']
       have ek:k'=xb:=by omega
       rw [ek] at gB1
       refine DK.elemB (at_map (by omega)) ?_
       have gw4:=Gh.pushA (na:=xa) gw2 R (by omega) gB1
       by_cases c8:(xa==0)=true
       ·rw [if_pos c8]
        exact DK.pure ⟨hg' _,.inl ⟨_,rfl,gw4.endA R (by simpa using c8)⟩⟩
       rw [if_neg c8]
       have n8:0 < xa:=by
        have:xa≠0:=by simpa using c8
        omega
       by_cases c9:(decide (ka < 7) && decide (xb - k' < 7))=true
       ·rw [if_pos c9]
        exact DK.pure ⟨hg' _,.inr ⟨rfl,⟨gw4,n8,(by show xa≤_; omega),n6,(by show xb≤_; omega)⟩,by show xa+(xb)≤_; omega⟩⟩
       ·rw [if_neg c9]
        exact DK.pure ⟨hg' _,rfl,⟨gw4,n8,(by show xa≤_; omega),n6,(by show xb≤_; omega)⟩,by show xa+(xb)+(t+1)≤_; omega⟩
   ·obtain ⟨e,e2,⟨gw,h1,h1',h2,h2'⟩,hp3⟩:=hI
    obtain ⟨_,g1,g2,g3,g4⟩:=go
    exact absurd hp3 (by omega)
   ·obtain ⟨r,xa,xb,out,mg2,ac,bc⟩:=c
    obtain ⟨hg3,hR⟩:=hR
    dsimp only at hR ⊢
    rcases hR with ⟨r,rfl,hr⟩ | ⟨rfl,go3,hp3⟩
    ·exact DK.pure ⟨hg3,r,rfl,hr⟩
    dsimp only
    rw [setMinGallop'_eq]
    refine DK.modB (DK.pure ⟨?_,rfl,go3,by show xa+xb+(t+1)≤_; omega⟩)
    obtain ⟨g,rfl⟩:=hg3
    exact ⟨_,rfl⟩
 ·obtain ⟨e,e2,⟨gw,h1,h1',h2,h2'⟩,hp⟩:=hI
  exact absurd hp (by omega)
 ·obtain ⟨r,na,nb,out,mg⟩:=b
  obtain ⟨hg,r2,rfl,hr⟩:=hR
  exact DK.pure ⟨hg,hr⟩
end
end L2
namespace L2
open PySem PySem.Spec PyProof.Rows
section
open PySem.W (kas_item kas_rev kas_swaps_map)
variable {prog:Program} {w:World} {A:Around} {s:Shared} {κ:SortKind} {it:Array Keyed} {n:Nat} {lt:Nat→Nat→Bool} {p:Array Nat} {pd:Array (Nat × Nat × Nat)} {g:Nat}
def kst (κ:SortKind) (it:Array Keyed) (p:Array Nat) (pd:Array (Nat × Nat × Nat)) (g:Nat):SortSt:=SortSt.mk' κ (p.map (kas_item it)) pd g none
section
variable {β:Type} {R:β→SortSt→Prop}
theorem DK.atB (T:Told prog w A s κ it n lt) (hp:Perm0 n p) {i j:Nat} {f:Option Bool→StateT SortSt Sem β} (hi:i < n) (hj:j < n) (h:DK prog w A s (f (some (lt (p.getD i 0) (p.getD j 0)))) (kst κ it p pd g) R):DK prog w A s (ltAt' i j >>= f) (kst κ it p pd g) R:=by
 rw [ltAt'_eq]
 simp only [bind_assoc]
 refine DK.getB (DK.elemB (x:=kas_item it (p.getD i 0)) ?_ (DK.elemB (x:=kas_item it (p.getD j 0)) ?_ (DK.cmpB T rfl (hp.lt i hi) (hp.lt j hj) h)))
 ·exact at_map (by rw [hp.size]; exact hi)
 ·exact at_map (by rw [hp.size]; exact hj)
theorem DK.revB {i j:Nat} {f:Unit→StateT SortSt Sem β} (h:DK prog w A s (f ()) (kst κ it (mirror p i j ((j - i) / 2)) pd g) R):DK prog w A s (reverseSlice' i j >>= f) (kst κ it p pd g) R:=by
 rw [reverseSlice'_eq]
 refine DK.modB ?_
 have e1:mirror (p.map (kas_item it)) i j ((j - i) / 2)=(mirror p i j ((j - i) / 2)).map (kas_item it):=kas_swaps_map (kas_item it) (fun k=>i+k) (fun k=>j - 1 - k) _ p
 have e:setArr (kst κ it p pd g) (mirror (arrOf (kst κ it p pd g)) i j ((j - i) / 2))=kst κ it (mirror p i j ((j - i) / 2)) pd g:=by
  show SortSt.mk' κ (mirror (p.map (kas_item it)) i j ((j - i) / 2)) pd g none=SortSt.mk' κ ((mirror p i j ((j - i) / 2)).map (kas_item it)) pd g none
  rw [e1]
 rw [e]
 exact h
theorem DK.moveB {k l:Nat} {f:Unit→StateT SortSt Sem β} (h:DK prog w A s (f ()) (kst κ it (bubble p k (k - l)) pd g) R):DK prog w A s (moveDown' k l >>= f) (kst κ it p pd g) R:=by
 rw [moveDown'_eq]
 refine DK.modB ?_
 have e1:bubble (p.map (kas_item it)) k (k - l)=(bubble p k (k - l)).map (kas_item it):=kas_swaps_map (kas_item it) (fun i=>k - i) (fun i=>k - i - 1) _ p
 have e:setArr (kst κ it p pd g) (bubble (arrOf (kst κ it p pd g)) k (k - l))=kst κ it (bubble p k (k - l)) pd g:=by
  show SortSt.mk' κ (bubble (p.map (kas_item it)) k (k - l)) pd g none=SortSt.mk' κ ((bubble p k (k - l)).map (kas_item it)) pd g none
  rw [e1]
 rw [e]
 exact h
end
def UpIn (lt:Nat→Nat→Bool) (p:Array Nat) (lo hi:Nat):Prop:=∀ i j,lo≤i→i < j→j < hi→lt (p.getD i 0) (p.getD j 0)=true
def DownIn (lt:Nat→Nat→Bool) (p:Array Nat) (lo hi:Nat):Prop:=∀ i j,lo≤i→i < j→j < hi→lt (p.getD j 0) (p.getD i 0)=true
theorem UpIn.one {lo:Nat}:UpIn lt p lo (lo+1):=fun i j h1 h2 h3=>by omega
theorem UpIn.next (hS:Strict n lt) (hp:Perm0 n p) {lo m:Nat} (h1:1≤m) (hm:lo+m < n) (u:UpIn lt p lo (lo+m)) (c:lt (p.getD (lo+m - 1) 0) (p.getD (lo+m) 0)=true):UpIn lt p lo (lo+m+1):=fun i j hi hij hj=>by
 by_cases e:j=lo+m
 ·subst e
  by_cases e2:i=lo+m - 1
  ·subst e2; exact c
  ·exact hS.tra _ _ _ (hp.lt _ (by omega)) (hp.lt _ (by omega)) (hp.lt _ hm) (u i (lo+m - 1) hi (by omega) (by omega)) c
 ·exact u i j hi hij (by omega)
theorem DownIn.next (hS:Strict n lt) (hp:Perm0 n p) {lo m:Nat} (h1:1≤m) (hm:lo+m < n) (u:DownIn lt p lo (lo+m)) (c:lt (p.getD (lo+m) 0) (p.getD (lo+m - 1) 0)=true):DownIn lt p lo (lo+m+1):=fun i j hi hij hj=>by
 by_cases e:j=lo+m
 ·subst e
  by_cases e2:i=lo+m - 1
  ·subst e2; exact c
  ·exact hS.tra _ _ _ (hp.lt _ hm) (hp.lt _ (by omega)) (hp.lt _ (by omega)) c (u i (lo+m - 1) hi (by omega) (by omega))
 ·exact u i j hi hij (by omega)
theorem mir_getD (hp:Perm0 n p) {lo m:Nat} (hm:lo+m≤n) (k:Nat):(mirror p lo (lo+m) ((lo+m - lo) / 2)).getD k 0=if lo≤k∧k < lo+m then p.getD (lo+(lo+m) - 1 - k) 0 else p.getD k 0:=by
 have h:=getElem?_mirror_all (xs:=p) (i:=lo) (j:=lo+m) (by rw [hp.size]; exact hm) k
 by_cases z:lo≤k∧k < lo+m
 ·rw [if_pos z] at h ⊢
  exact getD_q h
 ·rw [if_neg z] at h ⊢
  exact getD_q h
theorem Perm0.mir (hp:Perm0 n p) (i j d:Nat):Perm0 n (mirror p i j d):=⟨(Array.perm_iff_toList_perm.mp (mirror_perm _ _ _ _)).trans hp.per⟩
theorem countRun'_eq (lo nrem:Nat):countRun' lo nrem=(do
  let mut n:=1
  for _ in [1:nrem] do
   let some smaller ← ltAt' (lo+n) (lo+n - 1) | return none
   if smaller then break
   n:=n+1
  if n==nrem then return some n
  if n > 1 then
   let some rose ← ltAt' lo (lo+n - 1) | return none
   if rose then return some n
   reverseSlice' lo (lo+n)
  rule "list.sort.descending-run"
  n:=n+1
  let mut neq:=0
  for _ in [n:nrem] do
   let some smaller ← ltAt' (lo+n) (lo+n - 1) | return none
   if smaller then
    if neq > 0 then reverseSlice' (lo+n - (neq+1)) (lo+n)
    neq:=0
   else
    let some larger ← ltAt' (lo+n - 1) (lo+n) | return none
    if larger then break
    neq:=neq+1
   n:=n+1
  if neq > 0 then reverseSlice' (lo+n - (neq+1)) (lo+n)
  reverseSlice' lo (lo+n)
  for _ in [n:nrem] do
   let some smaller ← ltAt' (lo+n) (lo+n - 1) | return none
   if smaller then break
   n:=n+1
  return some n):=rfl
abbrev A2:Type:=Option (Option Nat) × Nat
theorem dk_asc (T:Told prog w A s κ it n lt) (hS:Strict n lt) (hp:Perm0 n p) {lo nrem a:Nat} (h1:1≤a) (h2:a≤nrem) (h3:lo+nrem≤n) (u:UpIn lt p lo (lo+a)) {f:Nat→A2→StateT SortSt Sem (ForInStep A2)}
  (hf:∀ t m,1≤m→m < nrem→DK prog w A s (f t (none,m)) (kst κ it p pd g) fun r st'=>st'=kst κ it p pd g∧r=if lt (p.getD (lo+m) 0) (p.getD (lo+m - 1) 0)=true then .done (none,m) else .yield (none,m+1)) :
  DK prog w A s (forIn [a:nrem] ((none,a):A2) f) (kst κ it p pd g) fun b st'=>st'=kst κ it p pd g∧b.1=none∧a≤b.2∧b.2≤nrem∧UpIn lt p lo (lo+b.2)∧(b.2 < nrem→lt (p.getD (lo+b.2) 0) (p.getD (lo+b.2 - 1) 0)=true):=by
 refine DK.for (fun t (b:A2) st'=>st'=kst κ it p pd g∧b.1=none∧b.2=a+t∧b.2≤nrem∧UpIn lt p lo (lo+b.2)) ⟨rfl,rfl,rfl,h2,u⟩ (fun t b st' ht hI=>?_) (fun b st' hI=>?_)
 ·obtain ⟨r,m⟩:=b
  obtain ⟨rfl,rfl,e,i2,i3⟩:=hI
  dsimp only at e i2 i3
  refine (hf _ m (by omega) (by omega)).imp fun r st2 hr=>?_
  obtain ⟨rfl,rfl⟩:=hr
  cases c:lt (p.getD (lo+m) 0) (p.getD (lo+m - 1) 0) with
  | true=>
   rw [if_pos rfl]
   exact ⟨rfl,rfl,by show a≤m; omega,i2,i3,fun _=>c⟩
  | false=>
   rw [if_neg (by decide)]
   have q:=hS.not (hp.lt _ (by omega)) (hp.lt _ (by omega)) (fun e=>by have:=hp.inj _ _ (by omega) (by omega) e; omega) c
   exact ⟨rfl,rfl,by show m+1=a+(t+1); omega,by show m+1≤nrem; omega,i3.next hS hp (by omega) (by omega) q⟩
 ·obtain ⟨i0,i1,i2,i3,i4⟩:=hI
  exact ⟨i0,i1,by omega,i3,i4,fun z=>absurd z (by omega)⟩
theorem dk_count (T:Told prog w A s κ it n lt) (hS:Strict n lt) (hp:Perm0 n p) {lo nrem:Nat} (h1:1≤nrem) (h3:lo+nrem≤n) :
  DK prog w A s (countRun' lo nrem) (kst κ it p pd g) fun r st'=>∃ m p',r=some m∧st'=kst κ it p' pd g∧1≤m∧m≤nrem∧Perm0 n p'∧UpIn lt p' lo (lo+m)∧∀ i,i < lo→p'.getD i 0=p.getD i 0:=by
 rw [countRun'_eq]
 dsimp only
 refine DK.bind (dk_asc T hS hp (Nat.le_refl 1) h1 h3 UpIn.one (fun t m m1 m2=>?_)) fun b st' hR=>?_
 ·dsimp only
  refine DK.atB T hp (by omega) (by omega) ?_
  dsimp only
  cases c:lt (p.getD (lo+m) 0) (p.getD (lo+m - 1) 0) with
  | true=>rw [if_pos rfl]; exact DK.pure ⟨rfl,by rw [if_pos rfl]⟩
  | false=>rw [if_neg (by decide)]; exact DK.pure ⟨rfl,by rw [if_neg (by decide)]⟩
 obtain ⟨r,m⟩:=b
 obtain ⟨rfl,rfl,m1,m2,u,c⟩:=hR
 dsimp only at m1 m2 u c ⊢
 by_cases e1:(m==nrem)=true
 ·rw [if_pos e1]
  exact DK.pure ⟨m,p,rfl,rfl,m1,m2,hp,u,fun _ _=>rfl⟩
 rw [if_neg e1]
 have m3:m < nrem:=by
  have:m≠nrem:=by simpa using e1
  omega
 by_cases e2:m > 1
 ·rw [if_pos e2]
  refine DK.atB T hp (by omega) (by omega) ?_
  dsimp only
  rw [u lo (lo+m - 1) (Nat.le_refl _) (by omega) (by omega),if_pos rfl]
  exact DK.pure ⟨m,p,rfl,rfl,m1,m2,hp,u,fun _ _=>rfl⟩
 rw [if_neg e2]
 obtain rfl:m=1:=by omega
 refine DK.ruleB ?_
 have d2:DownIn lt p lo (lo+2):=fun i j hi hij hj=>by
  obtain rfl:j=lo+1:=by omega
  obtain rfl:i=lo:=by omega
  exact c m3
 refine DK.bind (DK.for (R:=fun (b:Option (Option Nat) × Nat × Nat) st'=>st'=kst κ it p pd g∧b.1=none∧b.2.2=0∧2≤b.2.1∧b.2.1≤nrem∧DownIn lt p lo (lo+b.2.1))
  (fun t (b:Option (Option Nat) × Nat × Nat) st'=>st'=kst κ it p pd g∧b.1=none∧b.2.2=0∧b.2.1=2+t∧b.2.1≤nrem∧DownIn lt p lo (lo+b.2.1)) ⟨rfl,rfl,rfl,rfl,by show 2≤nrem; omega,d2⟩ (fun t b st' ht hI=>?_) (fun b st' hI=>?_)) fun b st' hR=>?_
 ·obtain ⟨r,m,q⟩:=b
  obtain ⟨rfl,rfl,i0,i1,i2,i3⟩:=hI
  dsimp only at i0 i1 i2 i3 ⊢
  subst i0
  refine DK.atB T hp (by omega) (by omega) ?_
  dsimp only
  cases c2:lt (p.getD (lo+m) 0) (p.getD (lo+m - 1) 0) with
  | true=>
   rw [if_pos rfl,if_neg (by omega)]
   exact DK.pure ⟨rfl,rfl,rfl,by show m+1=2+(t+1); omega,by show m+1≤nrem; omega,i3.next hS hp (by omega) (by omega) c2⟩
  | false=>
   rw [if_neg (by decide)]
   refine DK.atB T hp (by omega) (by omega) ?_
   have q:=hS.not (hp.lt _ (by omega)) (hp.lt _ (by omega)) (fun e=>by have:=hp.inj _ _ (by omega) (by omega) e; omega) c2
   dsimp only
   rw [q,if_pos rfl]
   exact DK.pure ⟨rfl,rfl,rfl,by show 2≤m; omega,i2,i3⟩
 ·obtain ⟨i0,i1,i2,i3,i4,i5⟩:=hI
  exact ⟨i0,i1,i2,by omega,i4,i5⟩
 ·obtain ⟨r,m,q⟩:=b
  obtain ⟨rfl,rfl,i0,i1,i2,i3⟩:=hR
  dsimp only at i0 i1 i2 i3 ⊢
  subst i0
  rw [if_neg (by omega)]
  refine DK.revB ?_
  have hp':=hp.mir lo (lo+m) ((lo+m - lo) / 2)
  have hg:∀ k,(mirror p lo (lo+m) ((lo+m - lo) / 2)).getD k 0=if lo≤k∧k < lo+m then p.getD (lo+(lo+m) - 1 - k) 0 else p.getD k 0:=mir_getD hp (by omega)
  generalize mirror p lo (lo+m) ((lo+m - lo) / 2)=p2 at hp' hg
  have u2:UpIn lt p2 lo (lo+m):=fun i j hi hij hj=>by
   rw [hg,hg,if_pos ⟨hi,by omega⟩,if_pos ⟨by omega,hj⟩]
   exact i3 _ _ (by omega) (by omega) (by omega)
  refine DK.bind (dk_asc T hS hp' (by omega) i2 h3 u2 (fun t m m1 m2=>?_)) fun b st' hR=>?_
  ·dsimp only
   refine DK.atB T hp' (by omega) (by omega) ?_
   dsimp only
   cases c:lt (p2.getD (lo+m) 0) (p2.getD (lo+m - 1) 0) with
   | true=>rw [if_pos rfl]; exact DK.pure ⟨rfl,by rw [if_pos rfl]⟩
   | false=>rw [if_neg (by decide)]; exact DK.pure ⟨rfl,by rw [if_neg (by decide)]⟩
  obtain ⟨r,m'⟩:=b
  obtain ⟨rfl,rfl,j1,j2,u3,_⟩:=hR
  exact DK.pure ⟨m',p2,rfl,rfl,by show 1≤m'; have:m≤m':=j1; omega,j2,hp',u3,fun i hi=>by rw [hg,if_neg (by omega)]⟩
theorem bubL {lo k l:Nat} (hp:Perm0 n p) (hk:lo+k < n) (hl:l≤k) (t:Nat):(bubble p (lo+k) (lo+k - (lo+l))).getD t 0=if t=lo+l then p.getD (lo+k) 0 else if lo+l < t∧t≤lo+k then p.getD (t - 1) 0 else p.getD t 0:=bub_getD hp hk (by omega) t
theorem dk_bin (T:Told prog w A s κ it n lt) (hS:Strict n lt) (hp:Perm0 n p) {lo m ok:Nat} (h1:1≤ok) (h2:ok≤m) (h3:lo+m≤n) (u:UpIn lt p lo (lo+ok)) :
  DK prog w A s (binarySort' lo m ok) (kst κ it p pd g) fun r st'=>∃ p',r=true∧st'=kst κ it p' pd g∧Perm0 n p'∧UpIn lt p' lo (lo+m)∧∀ i,i < lo→p'.getD i 0=p.getD i 0:=by
 rw [binarySort'_eq]
 rw [show max ok 1=ok by omega]
 refine DK.bind (DK.for (R:=fun b st'=>b.1=none∧∃ p',st'=kst κ it p' pd g∧Perm0 n p'∧UpIn lt p' lo (lo+m)∧∀ i,i < lo→p'.getD i 0=p.getD i 0)
  (fun t (b:Option Bool × PUnit) st'=>b.1=none∧∃ p',st'=kst κ it p' pd g∧Perm0 n p'∧UpIn lt p' lo (lo+(ok+t))∧∀ i,i < lo→p'.getD i 0=p.getD i 0) ⟨rfl,p,rfl,hp,u,fun _ _=>rfl⟩ (fun t b st' ht hI=>?_) (fun b st' hI=>?_)) fun b st' hR=>?_
 ·obtain ⟨r,⟨⟩⟩:=b
  obtain ⟨rfl,p1,rfl,hp1,u1,same⟩:=hI
  dsimp only
  generalize hkk:ok+t=k at u1 ht ⊢
  have hkn:lo+k < n:=by omega
  have gk:=hp1.lt (lo+k) hkn
  refine DK.bind (DK.for (R:=fun (b:Option Bool × Nat × Nat) st'=>st'=kst κ it p1 pd g∧b.1=none∧b.2.1≤k∧(∀ t,t < b.2.1→lt (p1.getD (lo+k) 0) (p1.getD (lo+t) 0)=false)∧∀ t,b.2.1≤t→t < k→lt (p1.getD (lo+k) 0) (p1.getD (lo+t) 0)=true)
   (fun q (b:Option Bool × Nat × Nat) st'=>st'=kst κ it p1 pd g∧b.1=none∧b.2.1≤b.2.2∧b.2.2≤k∧b.2.2 - b.2.1≤k - q∧(∀ t,t < b.2.1→lt (p1.getD (lo+k) 0) (p1.getD (lo+t) 0)=false)∧∀ t,b.2.2≤t→t < k→lt (p1.getD (lo+k) 0) (p1.getD (lo+t) 0)=true)
   ⟨rfl,rfl,Nat.zero_le _,Nat.le_refl _,by show k - 0≤k - 0; omega,fun t z=>absurd z (Nat.not_lt_zero _),fun t a b=>absurd b (Nat.not_lt.mpr a)⟩ (fun q b st' hq hI=>?_) (fun b st' hI=>?_)) fun b st' hR=>?_
  ·obtain ⟨r,l,rr⟩:=b
   obtain ⟨rfl,rfl,i1,i2,i3,i4,i5⟩:=hI
   dsimp only at i1 i2 i3 i4 i5 ⊢
   by_cases z:l ≥ rr
   ·rw [if_pos z]
    exact DK.pure ⟨rfl,rfl,by show l≤k; omega,i4,fun t t1 t2=>i5 t (by show rr≤t; have:l≤t:=t1; omega) t2⟩
   rw [if_neg z]
   have gm:=hp1.lt (lo+(l+rr) / 2) (by omega)
   refine DK.atB T hp1 hkn (by omega) ?_
   dsimp only
   cases c:lt (p1.getD (lo+k) 0) (p1.getD (lo+(l+rr) / 2) 0) with
   | true=>
    rw [if_pos rfl]
    refine DK.pure ⟨rfl,rfl,by show l≤(l+rr) / 2; omega,by show (l+rr) / 2≤k; omega,by show (l+rr) / 2 - l≤k - (q+1); omega,i4,fun t t1 t2=>?_⟩
    by_cases e:t=(l+rr) / 2
    ·rw [e]; exact c
    ·exact hS.tra _ _ _ gk gm (hp1.lt _ (by omega)) c (u1 _ _ (by omega) (show lo+(l+rr) / 2 < lo+t by have:(l+rr) / 2≤t:=t1; omega) (by omega))
   | false=>
    rw [if_neg (by decide)]
    refine DK.pure ⟨rfl,rfl,by show (l+rr) / 2+1≤rr; omega,i2,by show rr - ((l+rr) / 2+1)≤k - (q+1); omega,fun t t1=>?_,i5⟩
    have t1:t < (l+rr) / 2+1:=t1
    by_cases e:t=(l+rr) / 2
    ·rw [e]; exact c
    ·cases y:lt (p1.getD (lo+k) 0) (p1.getD (lo+t) 0) with
     | false=>rfl
     | true=>
      have:=hS.tra _ _ _ gk (hp1.lt (lo+t) (by omega)) gm y (u1 _ _ (by omega) (by omega) (by omega))
      rw [c] at this
      cases this
  ·obtain ⟨r,l,rr⟩:=b
   obtain ⟨i0,i1,i2,i3,i4,i5,i6⟩:=hI
   dsimp only at i1 i2 i3 i4 i5 i6 ⊢
   exact ⟨i0,i1,by omega,i5,fun t t1 t2=>i6 t (by omega) t2⟩
  ·obtain ⟨r,l,rr⟩:=b
   obtain ⟨rfl,rfl,l1,l2,l3⟩:=hR
   dsimp only at l1 l2 l3 ⊢
   refine DK.moveB (DK.pure ⟨rfl,_,rfl,hp1.bub _ _,fun i j hi hij hj=>?_,fun i hi=>?_⟩)
   ·have ne:∀ t,t < k→p1.getD (lo+k) 0≠p1.getD (lo+t) 0:=fun t ht z=>by have:=hp1.inj _ _ hkn (by omega) z; omega
    have hj:j < lo+(ok+(t+1)):=hj
    rw [bubL hp1 hkn l1,bubL hp1 hkn l1]
    by_cases c1:i=lo+l
    ·rw [if_pos c1,if_neg (by omega),if_pos (by omega)]
     have:=l3 (j - 1 - lo) (by omega) (by omega)
     rwa [show lo+(j - 1 - lo)=j - 1 by omega] at this
    ·rw [if_neg c1]
     by_cases c2:j=lo+l
     ·rw [if_pos c2,if_neg (by omega)]
      have:=l2 (i - lo) (by omega)
      rw [show lo+(i - lo)=i by omega] at this
      refine hS.not gk (hp1.lt _ (by omega)) (fun e=>?_) this
      have:=hp1.inj _ _ hkn (by omega) e
      omega
     ·rw [if_neg c2]
      by_cases c3:lo+l < i∧i≤lo+k
      ·rw [if_pos c3,if_pos (by omega)]
       exact u1 _ _ (by omega) (by omega) (by omega)
      ·rw [if_neg c3]
       by_cases c4:lo+l < j∧j≤lo+k
       ·rw [if_pos c4]
        exact u1 _ _ hi (by omega) (by omega)
       ·rw [if_neg c4]
        exact u1 _ _ hi hij (by omega)
   ·rw [bubL hp1 hkn l1,if_neg (by omega),if_neg (by omega)]
    exact same i hi
 ·obtain ⟨i0,p',i1,i2,i3,i4⟩:=hI
  rw [show ok+(m - ok)=m by omega] at i3
  exact ⟨i0,p',i1,i2,i3,i4⟩
 ·obtain ⟨r,⟨⟩⟩:=b
  obtain ⟨rfl,p',rfl,i2,i3,i4⟩:=hR
  exact DK.pure ⟨p',rfl,rfl,i2,i3,i4⟩
end
end L2
namespace L2
open PySem PySem.Spec PyProof.Rows
section
open PySem.W (kas_item)
theorem set_fold {α:Type}:∀ (l:List α) (m off:Nat) (a:Array α),off+m+l.length≤a.size→((l.zipIdx m).foldl (fun a x=>match x with | (y,j)=>a.setIfInBounds (off+j) y) a).toList=a.toList.take (off+m) ++ l ++ a.toList.drop (off+m+l.length)
 | [],m,off,a,_=>by simp
 | x :: l,m,off,a,h=>by
  rw [List.length_cons] at h
  rw [List.zipIdx_cons,List.foldl_cons]
  have ih:=set_fold l (m+1) off (a.setIfInBounds (off+m) x) (by rw [Array.size_setIfInBounds]; omega)
  rw [ih,Array.toList_setIfInBounds]
  have hl:off+m < a.toList.length:=by rw [Array.length_toList]; omega
  have e1:(a.toList.set (off+m) x).take (off+(m+1))=a.toList.take (off+m) ++ [x]:=by
   rw [show off+(m+1)=off+m+1 by omega,List.take_add_one,List.take_set_of_le (Nat.le_refl _),List.getElem?_set_self hl]
   rfl
  have e2:(a.toList.set (off+m) x).drop (off+(m+1)+l.length)=a.toList.drop (off+m+(l.length+1)):=by
   rw [List.drop_set_of_lt (by omega),show off+(m+1)+l.length=off+m+(l.length+1) by omega]
  rw [e1,e2,List.length_cons]
  simp
variable {prog:Program} {w:World} {A:Around} {s:Shared} {κ:SortKind} {it:Array Keyed} {n:Nat} {lt:Nat→Nat→Bool} {p:Array Nat} {g:Nat}
theorem mergeAt'_eq (i:Nat):mergeAt' i=(do
  let s ← get
  let (some (sa,na,power),some (sb,nb,_)):=((pendingOf s)[i]?,(pendingOf s)[i+1]?) | unsupported "internal:list.sort.pending"
  set (SortSt.mk' (kindOf s) (arrOf s) (((pendingOf s).setIfInBounds i (sa,na+nb,power)).eraseIdxIfInBounds (i+1)) (gallopOf s) (failedOf s))
  let some k ← gallop' false (← elem' (arrOf s) sb) (arrOf s) sa na 0 | return false
  let (sa,na):=(sa+k,na - k)
  if na==0 then return true
  let some nb ← gallop' true (← elem' (arrOf s) (sa+na - 1)) (arrOf s) sb nb (nb - 1) | return false
  if nb==0 then return true
  let x:=(arrOf s).extract sa sb
  let y:=(arrOf s).extract sb (sb+nb)
  let merged ← if na≤nb then mergeLo' x y else mergeHi' x y
  modify fun s=>SortSt.mk' (kindOf s) (merged.toList.zipIdx.foldl (fun a (p,j)=>a.setIfInBounds (sa+j) p) (arrOf s)) (pendingOf s) (gallopOf s) (failedOf s)
  return (failedOf (← get)).isNone):=rfl
theorem asc_up (hp:Perm0 n p) (h:Asc lt p.toList):UpIn lt p 0 n:=fun i j _ hij hj=>h.lt_of hij (by rw [hp.size]; exact hj)
theorem up_asc {lo hi:Nat} (hs:hi≤p.size) (u:UpIn lt p lo hi):Asc lt (p.extract lo hi).toList:=by
 refine List.pairwise_iff_getElem.mpr fun i j hi' hj' hij=>?_
 have hsz:(p.extract lo hi).toList.length=hi - lo:=by simp; omega
 rw [hsz] at hi' hj'
 have e:∀ t (ht:t < (p.extract lo hi).toList.length),t < hi - lo→(p.extract lo hi).toList[t]=p.getD (lo+t) 0:=fun t ht h2=>by
  have:=getD_of (p:=p) (i:=lo+t) (by omega)
  simp only [Array.getElem_toList,Array.getElem_extract]
  rw [Array.getElem?_eq_getElem (by omega)] at this
  exact Option.some.inj this
 rw [e i _ hi',e j _ hj']
 exact u _ _ (by omega) (by omega) (by omega)
theorem ext_getD {lo hi t:Nat} (hs:hi≤p.size) (ht:lo+t < hi):(p.extract lo hi).getD t 0=p.getD (lo+t) 0:=by
 rw [Array.getD_eq_getD_getElem?,Array.getD_eq_getD_getElem?,Array.getElem?_extract,if_pos (by omega)]
theorem ext_size {lo hi:Nat} (hs:hi≤p.size):(p.extract lo hi).size=hi - lo:=by simp; omega
theorem erase_two {α:Type} (a b v:α):((#[a,b]:Array α).setIfInBounds 0 v).eraseIdxIfInBounds 1 = #[v]:=by
 apply Array.toList_inj.mp
 simp [Array.eraseIdxIfInBounds]
theorem dk_mergeAt (T:Told prog w A s κ it n lt) (hS:Strict n lt) (hp:Perm0 n p) {na pw x:Nat} (h1:0 < na) (h2:na < n) (uA:UpIn lt p 0 na) (uB:UpIn lt p na n) :
  DK prog w A s (mergeAt' 0) (kst κ it p #[(0,na,pw),(na,n - na,x)] g) fun r st'=>r=true∧∃ p' g',st'=kst κ it p' #[(0,na+(n - na),pw)] g'∧Perm0 n p'∧UpIn lt p' 0 n:=by
 rw [mergeAt'_eq]
 refine DK.getB ?_
 dsimp only
 have ea:arrOf (kst κ it p #[(0,na,pw),(na,n - na,x)] g)=p.map (kas_item it):=rfl
 have e0:((pendingOf (kst κ it p #[(0,na,pw),(na,n - na,x)] g))[0]?,(pendingOf (kst κ it p #[(0,na,pw),(na,n - na,x)] g))[0+1]?)=(some (0,na,pw),some (na,n - na,x)):=rfl
 rw [e0]
 dsimp only
 rw [ea]
 have hsz:=hp.size
 refine DK.bind (DK.set (P:=fun _ st'=>st'=kst κ it p #[(0,na+(n - na),pw)] g) (congrArg (fun z=>SortSt.mk' κ (p.map (kas_item it)) z g none) (erase_two _ _ _))) fun _ st' e=>?_
 subst e
 have b0n:=hp.lt na h2
 refine DK.elemB (at_map (by omega)) ?_
 refine DK.galB T rfl b0n (fun i hi=>hp.lt _ (by omega)) (by omega) h1 (fun i j hij hj h=>?_) fun k k1 k2 k3=>?_
 ·unfold bey at h ⊢
  rw [if_neg (by decide),Bool.not_eq_true',Nat.zero_add] at h ⊢
  cases z:lt (p.getD na 0) (p.getD i 0) with
  | false=>rfl
  | true=>rw [hS.tra _ _ _ b0n (hp.lt _ (by omega)) (hp.lt _ (by omega)) z (uA i j (Nat.zero_le _) hij hj)] at h; cases h
 dsimp only
 have f1:∀ i,i < k→lt (p.getD i 0) (p.getD na 0)=true:=fun i hi=>by
  have h:=k2 i hi
  unfold bey at h
  rw [if_neg (by decide),Bool.not_eq_true',Nat.zero_add] at h
  exact hS.not b0n (hp.lt _ (by omega)) (fun e=>by have:=hp.inj _ _ h2 (by omega) e; omega) h
 have f2:∀ i,k≤i→i < na→lt (p.getD na 0) (p.getD i 0)=true:=fun i hi hi2=>by
  have h:=k3 i hi hi2
  unfold bey at h
  rw [if_neg (by decide),Nat.zero_add] at h
  simpa using h
 by_cases c1:(na - k==0)=true
 ·rw [if_pos c1]
  have:na - k=0:=by simpa using c1
  refine DK.pure ⟨rfl,p,g,rfl,hp,fun i j _ hij hj=>?_⟩
  by_cases z1:j < na
  ·exact uA i j (Nat.zero_le _) hij z1
  ·by_cases z2:i < na
   ·by_cases z3:j=na
    ·rw [z3]; exact f1 i (by omega)
    ·exact hS.tra _ _ _ (hp.lt _ (by omega)) b0n (hp.lt _ hj) (f1 i (by omega)) (uB na j (Nat.le_refl _) (by omega) hj)
   ·exact uB i j (by omega) hij hj
 rw [if_neg c1]
 have hkna:k < na:=by
  have:na - k≠0:=by simpa using c1
  omega
 rw [show 0+k=k by omega,show k+(na - k) - 1=na - 1 by omega]
 have ln:=hp.lt (na - 1) (by omega)
 refine DK.elemB (at_map (by omega)) ?_
 refine DK.galB T rfl ln (fun i hi=>hp.lt _ (by omega)) (by omega) (by omega) (fun i j hij hj h=>?_) fun mb m1 m2 m3=>?_
 ·unfold bey at h ⊢
  rw [if_pos rfl] at h ⊢
  exact hS.tra _ _ _ (hp.lt _ (by omega)) (hp.lt _ (by omega)) ln (uB _ _ (by omega) (by omega) (by omega)) h
 dsimp only
 have f3:∀ i,na≤i→i < na+mb→lt (p.getD i 0) (p.getD (na - 1) 0)=true:=fun i hi hi2=>by
  have h:=m2 (i - na) (by omega)
  unfold bey at h
  rw [if_pos rfl,show na+(i - na)=i by omega] at h
  exact h
 have f4:∀ i,na+mb≤i→i < n→lt (p.getD (na - 1) 0) (p.getD i 0)=true:=fun i hi hi2=>by
  have h:=m3 (i - na) (by omega) (by omega)
  unfold bey at h
  rw [if_pos rfl,show na+(i - na)=i by omega] at h
  exact hS.not (hp.lt _ hi2) ln (fun e=>by have:=hp.inj _ _ hi2 (by omega) e; omega) h
 have mb1:0 < mb:=by
  rcases Nat.eq_zero_or_pos mb with z | z
  ·have h:=f4 na (by omega) h2
   rw [hS.anti b0n ln (f2 (na - 1) (by omega) (by omega))] at h
   cases h
  ·exact z
 rw [if_neg (beq_no (show mb≠0 by omega))]
 have xe:(p.map (kas_item it)).extract k na=(p.extract k na).map (kas_item it):=by simp
 have ye:(p.map (kas_item it)).extract na (na+mb)=(p.extract na (na+mb)).map (kas_item it):=by simp
 rw [xe,ye]
 have sA:(p.extract k na).size=na - k:=ext_size (by omega)
 have sB:(p.extract na (na+mb)).size=mb:=by rw [ext_size (by omega)]; omega
 have gA:∀ i,i < na - k→(p.extract k na).getD i 0=p.getD (k+i) 0:=fun i hi=>ext_getD (by omega) (by omega)
 have gB:∀ i,i < mb→(p.extract na (na+mb)).getD i 0=p.getD (na+i) 0:=fun i hi=>ext_getD (by omega) (by omega)
 have R:Rn n lt (p.extract k na) (p.extract na (na+mb)):=by
  refine ⟨hS,up_asc (by omega) (fun i j a b c=>uA i j (Nat.zero_le _) b c),up_asc (by omega) (fun i j a b c=>uB i j a b (by omega)),fun i hi=>?_,fun i hi=>?_,fun i j hi hj=>?_,fun i hi=>?_,fun i hi=>?_,by omega,by omega⟩
  ·rw [sA] at hi; rw [gA i hi]; exact hp.lt _ (by omega)
  ·rw [sB] at hi; rw [gB i hi]; exact hp.lt _ (by omega)
  ·rw [sA] at hi; rw [sB] at hj; rw [gA i hi,gB j hj]
   exact fun e=>by have:=hp.inj _ _ (by omega) (by omega) e; omega
  ·rw [sB] at hi
   rw [sA,gB i hi,gA (na - k - 1) (by omega),show k+(na - k - 1)=na - 1 by omega]
   exact f3 _ (by omega) (by omega)
  ·rw [sA] at hi
   rw [gA i hi,gB 0 mb1]
   exact f2 _ (by omega) (by omega)
 have fin:∀ {r:Array Keyed} {st':SortSt},GSt (kst κ it p #[(0,na+(n - na),pw)] g) st'→Res it lt (p.extract k na) (p.extract na (na+mb)) r→DK prog w A s (do
   _root_.modify fun s=>SortSt.mk' (kindOf s) (r.toList.zipIdx.foldl (fun a x=>match x with | (p,j)=>a.setIfInBounds (k+j) p) (arrOf s)) (pendingOf s) (gallopOf s) (failedOf s)
   let s' ← get
   Pure.pure (failedOf s').isNone) st' fun r st'=>r=true∧∃ p' g',st'=kst κ it p' #[(0,na+(n - na),pw)] g'∧Perm0 n p'∧UpIn lt p' 0 n:=fun {r st'} hG hr=>by
  obtain ⟨g',rfl⟩:=hG
  obtain ⟨q,rfl,qa,qp⟩:=hr
  have ql:q.toList.length=na+mb - k:=by
   rw [qp.length_eq,List.length_append,Array.length_toList,Array.length_toList,sA,sB]; omega
  have hqz:k+0+q.toList.length≤p.size:=by omega
  refine DK.modB (DK.getB (DK.pure ⟨rfl,(p.toList.take k ++ q.toList ++ p.toList.drop (na+mb)).toArray,g',?_,?_⟩))
  ·have e2:=set_fold (q.toList.map (kas_item it)) 0 k (p.map (kas_item it)) (by rw [List.length_map,Array.size_map]; exact hqz)
   have e3:((q.map (kas_item it)).toList.zipIdx.foldl (fun a x=>match x with | (p,j)=>a.setIfInBounds (k+j) p) (p.map (kas_item it)))=((p.toList.take k ++ q.toList ++ p.toList.drop (na+mb)).toArray).map (kas_item it):=by
    apply Array.toList_inj.mp
    rw [Array.toList_map,e2,List.length_map,ql,show k+0+(na+mb - k)=na+mb by omega]
    simp
   show SortSt.mk' κ ((q.map (kas_item it)).toList.zipIdx.foldl (fun a x=>match x with | (p,j)=>a.setIfInBounds (k+j) p) (p.map (kas_item it))) _ _ none=_
   rw [e3]
   rfl
  have hmid:∀ y,y∈q.toList→∃ t,k≤t∧t < na+mb∧y=p.getD t 0:=fun y hy=>by
   rcases List.mem_append.mp (qp.mem_iff.mp hy) with z | z
   ·obtain ⟨t,t1,e⟩:=List.mem_iff_getElem.mp z
    rw [Array.length_toList,sA] at t1
    refine ⟨k+t,by omega,by omega,?_⟩
    rw [← gA t t1,← e]
    simp [Array.getD,sA,t1]
   ·obtain ⟨t,t1,e⟩:=List.mem_iff_getElem.mp z
    rw [Array.length_toList,sB] at t1
    refine ⟨na+t,by omega,by omega,?_⟩
    rw [← gB t t1,← e]
    simp [Array.getD,sB,t1]
  have hle:∀ t,k≤t→t < na+mb→∀ v,na+mb≤v→v < n→lt (p.getD t 0) (p.getD v 0)=true:=fun t t1 t2 v v1 v2=>by
   by_cases z:t < na
   ·by_cases z2:t=na - 1
    ·rw [z2]; exact f4 v v1 v2
    ·exact hS.tra _ _ _ (hp.lt _ (by omega)) ln (hp.lt _ v2) (uA t (na - 1) (Nat.zero_le _) (by omega) (by omega)) (f4 v v1 v2)
   ·exact uB t v (by omega) (by omega) v2
  have hlo:∀ u,u < k→∀ t,k≤t→t < n→lt (p.getD u 0) (p.getD t 0)=true:=fun u u1 t t1 t2=>by
   by_cases z:t < na
   ·exact uA u t (Nat.zero_le _) (by omega) z
   ·by_cases z2:t=na
    ·rw [z2]; exact f1 u u1
    ·exact hS.tra _ _ _ (hp.lt _ (by omega)) b0n (hp.lt _ t2) (f1 u u1) (uB na t (Nat.le_refl _) (by omega) t2)
  have hpp:Perm0 n (p.toList.take k ++ q.toList ++ p.toList.drop (na+mb)).toArray:=by
   refine ⟨?_⟩
   rw [List.toList_toArray]
   refine List.Perm.trans ?_ hp.per
   have e4:(p.extract k na).toList ++ (p.extract na (na+mb)).toList=(p.toList.drop k).take (na+mb - k):=by
    rw [Array.toList_extract,Array.toList_extract,List.extract_eq_drop_take,List.extract_eq_drop_take,show na+mb - na=mb by omega,show na+mb - k=(na - k)+mb by omega,List.take_add,List.drop_drop,show k+(na - k)=na by omega]
   have e5:p.toList=p.toList.take k ++ (p.toList.drop k).take (na+mb - k) ++ p.toList.drop (na+mb):=by
    have:p.toList.drop (na+mb)=(p.toList.drop k).drop (na+mb - k):=by rw [List.drop_drop,show k+(na+mb - k)=na+mb by omega]
    rw [this,List.append_assoc,List.take_append_drop,List.take_append_drop]
   rw [e4] at qp
   conv=>rhs; rw [e5]
   exact List.Perm.append_right _ (List.Perm.append_left _ qp)
  refine ⟨hpp,asc_up hpp ?_⟩
  rw [List.toList_toArray]
  refine List.pairwise_append.mpr ⟨List.pairwise_append.mpr ⟨?_,qa,fun a ha b hb=>?_⟩,?_,fun a ha b hb=>?_⟩
  ·have:=up_asc (p:=p) (lo:=0) (hi:=k) (by omega) (fun i j a b c=>uA i j a b (by omega))
   rwa [ext_0l] at this
  ·obtain ⟨u,u1,u2,rfl⟩:=mem_takeA ha
   obtain ⟨t,t1,t2,rfl⟩:=hmid b hb
   exact hlo u u1 t t1 (by omega)
  ·have:=up_asc (p:=p) (lo:=na+mb) (hi:=n) (by omega) (fun i j a b c=>uB i j (by omega) b c)
   rw [← hsz] at this
   rwa [ext_end] at this
  ·obtain ⟨v,v1,v2,rfl⟩:=mem_dropA hb
   rcases List.mem_append.mp ha with z | z
   ·obtain ⟨u,u1,u2,rfl⟩:=mem_takeA z
    exact hlo u u1 v (by omega) (by omega)
   ·obtain ⟨t,t1,t2,rfl⟩:=hmid a z
    exact hle t t1 t2 v v1 (by omega)
 by_cases c3:na - k≤mb
 ·rw [if_pos c3]
  exact DK.bind (dk_mergeLo T R rfl) fun r st' hr=>fin hr.1 hr.2
 ·rw [if_neg c3]
  exact DK.bind (dk_mergeHi T R rfl) fun r st' hr=>fin hr.1 hr.2
end
end L2
namespace L2
open PySem PySem.Spec PyProof.Rows
section
open PySem.W (kas_item kas_st kasC)
variable {prog:Program} {w:World} {A:Around} {s:Shared} {κ:SortKind} {it:Array Keyed} {n:Nat} {lt:Nat→Nat→Bool} {p:Array Nat}
theorem minRun_two (h1:64≤n) (h2:n < 128):minRun' n n 0=n / 2+n % 2:=by
 obtain ⟨m,rfl⟩:∃ m,n=m+2:=⟨n - 2,by omega⟩
 rw [minRun'_succ,if_neg (by omega),minRun'_succ,if_pos (by omega),Nat.zero_max]
theorem dk_run (T:Told prog w A s κ it n lt) (hS:Strict n lt) (hp:Perm0 n p) {lo mr:Nat} {pd:Array (Nat × Nat × Nat)} {g:Nat} {β:Type} {R:β→SortSt→Prop} (hl:lo < n) (hm:1≤mr) {f:Option Nat→StateT SortSt Sem β}
  (h:∀ m p',1≤m→lo+m≤n→Perm0 n p'→UpIn lt p' lo (lo+m)→(∀ i,i < lo→p'.getD i 0=p.getD i 0)→DK prog w A s (f (some m)) (kst κ it p' pd g) R):DK prog w A s (countRun' lo (n - lo) >>= f) (kst κ it p pd g) R:=
 DK.bind (dk_count T hS hp (by omega) (by omega)) fun r st' hr=>by
  obtain ⟨m,p',rfl,rfl,m1,m2,hp',u,sm⟩:=hr
  exact h m p' m1 (by omega) hp' u sm
theorem dk_sortRuns (T:Told prog w A s κ it n lt) (hS:Strict n lt) (hp:Perm0 n p) (h1:64≤n) (h2:n < 128) :
  DK prog w A s sortRuns' (kst κ it p #[] 7) fun _ st'=>∃ p' pd' g',st'=kst κ it p' pd' g'∧Perm0 n p'∧UpIn lt p' 0 n:=by
 rw [sortRuns'_eq]
 refine DK.getB ?_
 have ez:(arrOf (kst κ it p #[] 7)).size=n:=by
  show (p.map (kas_item it)).size=n
  rw [Array.size_map,hp.size]
 dsimp only
 rw [ez,minRun_two h1 h2]
 have hmr:1≤n / 2+n % 2:=by omega
 have hmr2:n - (n / 2+n % 2)≤n / 2+n % 2:=by omega
 have hmr3:n / 2+n % 2≤n:=by omega
 generalize n / 2+n % 2=mr at hmr hmr2 hmr3
 refine DK.bind (DK.for (R:=fun b st'=>b.1=none∧∃ p1,Perm0 n p1∧((st'=kst κ it p1 #[(0,n,0)] 7∧UpIn lt p1 0 n)∨∃ n1 pw,0 < n1∧n1 < n∧st'=kst κ it p1 #[(0,n1,pw),(n1,n - n1,0)] 7∧UpIn lt p1 0 n1∧UpIn lt p1 n1 n))
  (fun t (b:Option Unit × Nat) st'=>b.1=none∧((t=0∧b.2=0∧st'=kst κ it p #[] 7)∨(t=1∧∃ p1,Perm0 n p1∧mr≤b.2∧b.2≤n∧st'=kst κ it p1 #[(0,b.2,0)] 7∧UpIn lt p1 0 b.2)∨(t=2∧b.2=n∧∃ p1 n1 pw,Perm0 n p1∧0 < n1∧n1 < n∧st'=kst κ it p1 #[(0,n1,pw),(n1,n - n1,0)] 7∧UpIn lt p1 0 n1∧UpIn lt p1 n1 n)))
  ⟨rfl,.inl ⟨rfl,rfl,rfl⟩⟩ (fun t b st' ht hI=>?_) (fun b st' hI=>?_)) fun b st' hR=>?_
 ·obtain ⟨r,lo⟩:=b
  obtain ⟨rfl,hI⟩:=hI
  dsimp only at hI ⊢
  rcases hI with ⟨rfl,rfl,rfl⟩ | ⟨rfl,p1,hp1,l1,l2,rfl,u1⟩ | ⟨rfl,rfl,p1,n1,pw,hp1,a1,a2,rfl,u1,u2⟩
  ·rw [if_neg (by omega)]
   refine dk_run T hS hp (by omega) hmr fun m p1 m1 m2 hp1 u1 _=>?_
   dsimp only
   rw [Nat.zero_add] at u1 m2
   by_cases c:m < mr
   ·rw [if_pos c]
    refine DK.ruleB ?_
    refine DK.bind (dk_bin T hS hp1 (m:=min (n - 0) mr) (lo:=0) m1 (by omega) (by omega) (by rw [Nat.zero_add]; exact u1)) fun r st' hr=>?_
    obtain ⟨p2,rfl,rfl,hp2,u2,_⟩:=hr
    rw [if_neg (by decide)]
    refine DK.getB ?_
    rw [show min (n - 0) mr=mr by omega] at u2 ⊢
    have eb:(pendingOf (kst κ it p2 #[] 7)).back? = none:=rfl
    rw [eb]
    dsimp only
    refine DK.modB (DK.pure ⟨rfl,.inr (.inl ⟨rfl,p2,hp2,by show mr≤0+mr; omega,by show 0+mr≤n; omega,?_,u2⟩)⟩)
    show SortSt.mk' κ _ ((#[]:Array (Nat × Nat × Nat)).push (0,mr,0)) 7 none=SortSt.mk' κ _ #[(0,0+mr,0)] 7 none
    rw [Nat.zero_add]
    rfl
   ·rw [if_neg c]
    refine DK.getB ?_
    have eb:(pendingOf (kst κ it p1 #[] 7)).back? = none:=rfl
    rw [eb]
    dsimp only
    refine DK.modB (DK.pure ⟨rfl,.inr (.inl ⟨rfl,p1,hp1,by show mr≤0+m; omega,by show 0+m≤n; omega,?_,by show UpIn lt p1 0 (0+m); rw [Nat.zero_add]; exact u1⟩)⟩)
    show SortSt.mk' κ _ ((#[]:Array (Nat × Nat × Nat)).push (0,m,0)) 7 none=SortSt.mk' κ _ #[(0,0+m,0)] 7 none
    rw [Nat.zero_add]
    rfl
  ·by_cases c0:lo ≥ n
   ·rw [if_pos c0]
    obtain rfl:lo=n:=by omega
    exact DK.pure ⟨rfl,p1,hp1,.inl ⟨rfl,u1⟩⟩
   rw [if_neg c0]
   refine dk_run T hS hp1 (by omega) hmr fun m p2 m1 m2 hp2 u2 sm=>?_
   dsimp only
   have u1':UpIn lt p2 0 lo:=fun i j a b c=>by
    rw [sm i (by omega),sm j c]
    exact u1 i j a b c
   by_cases c:m < mr
   case' pos=>
    rw [if_pos c]
    refine DK.ruleB ?_
    refine DK.bind (dk_bin T hS hp2 (m:=min (n - lo) mr) (lo:=lo) m1 (by omega) (by omega) u2) fun r st' hr=>?_
    obtain ⟨p3,rfl,rfl,hp3,u3,sm3⟩:=hr
    rw [if_neg (by decide)]
    rw [show min (n - lo) mr=n - lo by omega] at u3 ⊢
    rw [show lo+(n - lo)=n by omega] at u3
    have u4:UpIn lt p3 0 lo:=fun i j a b c=>by
     rw [sm3 i (by omega),sm3 j c]
     exact u1' i j a b c
   case' neg=>
    rw [if_neg c]
    have em:m=n - lo:=by omega
    rw [em] at u2 ⊢
    rw [show lo+(n - lo)=n by omega] at u2
    have u3:=u2
    have u4:=u1'
    have hp3:=hp2
    generalize hE:p2=p3 at hp3 u3 u4 ⊢
   all_goals
    refine DK.getB ?_
    have eb:(pendingOf (kst κ it p3 #[(0,lo,0)] 7)).back? = some (0,lo,0):=rfl
    rw [eb]
    dsimp only
    generalize power' n (2 * 0+lo) (2 * 0+lo+lo+(n - lo)) n=pw
    refine DK.bind (DK.for (R:=fun b st'=>b.1=none∧st'=kst κ it p3 #[(0,lo,0)] 7) (fun t (b:Option Unit × Unit) st'=>b.1=none∧st'=kst κ it p3 #[(0,lo,0)] 7) ⟨rfl,rfl⟩ (fun t b st' ht hI=>?_) (fun b st' hI=>hI)) fun b st' hR=>?_
    ·obtain ⟨rr,⟨⟩⟩:=b
     obtain ⟨rfl,rfl⟩:=hI
     refine DK.getB ?_
     have e1:(pendingOf (kst κ it p3 #[(0,lo,0)] 7)).size=1:=rfl
     rw [e1,if_neg (by decide)]
     exact DK.pure ⟨rfl,rfl⟩
    ·obtain ⟨rr,⟨⟩⟩:=b
     obtain ⟨rfl,rfl⟩:=hR
     dsimp only
     refine DK.modB (DK.modB (DK.pure ⟨rfl,.inr (.inr ⟨rfl,by show lo+(n - lo)=n; omega,p3,lo,pw,hp3,by omega,by omega,?_,u4,u3⟩)⟩))
     show SortSt.mk' κ _ (((#[(0,lo,0)]:Array (Nat × Nat × Nat)).modify (1 - 1) fun x=>match x with | (st,len,_)=>(st,len,pw)).push (lo,n - lo,0)) 7 none=_
     rfl
  ·rw [if_pos (Nat.le_refl _)]
   exact DK.pure ⟨rfl,p1,hp1,.inr ⟨n1,pw,a1,a2,rfl,u1,u2⟩⟩
 ·obtain ⟨e,hI⟩:=hI
  rcases hI with ⟨z,_⟩ | ⟨z,_⟩ | ⟨z,_⟩ <;> omega
 ·obtain ⟨r,lo⟩:=b
  obtain ⟨rfl,p1,hp1,hR⟩:=hR
  dsimp only
  refine DK.bind (DK.for (R:=fun b st'=>b.1=none∧∃ p' pd' g',st'=kst κ it p' pd' g'∧Perm0 n p'∧UpIn lt p' 0 n)
   (fun t (b:Option Unit × PUnit) st'=>b.1=none∧((∃ p' v g',st'=kst κ it p' #[v] g'∧Perm0 n p'∧UpIn lt p' 0 n)∨(t=0∧∃ n1 pw,0 < n1∧n1 < n∧st'=kst κ it p1 #[(0,n1,pw),(n1,n - n1,0)] 7∧UpIn lt p1 0 n1∧UpIn lt p1 n1 n))) ⟨rfl,?_⟩ (fun t b st2 ht hI=>?_) (fun b st2 hI=>?_)) fun b st2 hR2=>?_
  ·rcases hR with ⟨rfl,u⟩ | ⟨n1,pw,a1,a2,rfl,u1,u2⟩
   ·exact .inl ⟨p1,_,_,rfl,hp1,u⟩
   ·exact .inr ⟨rfl,n1,pw,a1,a2,rfl,u1,u2⟩
  ·obtain ⟨rr,⟨⟩⟩:=b
   obtain ⟨rfl,hI⟩:=hI
   refine DK.getB ?_
   rcases hI with ⟨p2,v,g2,rfl,hp2,u⟩ | ⟨rfl,n1,pw,a1,a2,rfl,u1,u2⟩
   ·rw [if_pos (show (pendingOf (kst κ it p2 #[v] g2)).size≤1 from Nat.le_refl 1)]
    exact DK.pure ⟨rfl,p2,_,_,rfl,hp2,u⟩
   ·have e1:(pendingOf (kst κ it p1 #[(0,n1,pw),(n1,n - n1,0)] 7)).size=2:=rfl
    rw [e1,if_neg (by decide)]
    refine DK.bind (dk_mergeAt T hS hp1 a1 a2 u1 u2) fun r st3 hr=>?_
    obtain ⟨rfl,p',g',rfl,hp',u'⟩:=hr
    rw [if_neg (by decide)]
    exact DK.pure ⟨rfl,.inl ⟨p',_,g',rfl,hp',u'⟩⟩
  ·obtain ⟨e,hI⟩:=hI
   rcases hI with ⟨p2,v,g2,h,hp2,u⟩ | ⟨z,_⟩
   ·exact ⟨e,p2,_,g2,h,hp2,u⟩
   ·omega
  ·obtain ⟨rr,⟨⟩⟩:=b
   obtain ⟨rfl,p',pd',g',rfl,hp',u'⟩:=hR2
   exact DK.pure ⟨p',pd',g',rfl,hp',u'⟩
end
end L2
namespace L2
open PySem PySem.Spec PyProof.Rows
section
open PySem.W (kas_ask kas_item kasC)
theorem run_some {prog:Program} {w:World} {A:Around} {E:Value→Shared→Prop} {κ:SortKind} {s:Shared} {ks vs:List Value} {lt:Nat→Nat→Bool} (hl:ks.length=vs.length) (two:2≤vs.length) (h128:vs.length < 128) (hS:Strict vs.length lt)
  (hC:∀ i j (C:Bool→Shared→Prop),i < vs.length→j < vs.length→C (lt i j) s→kas_ask prog w A κ ks i j C s) :
  wpAny (model prog w) A ((sortRuns').run (SortSt.mk' κ (ks.toArray.zip vs.toArray) #[] 7 none)) (fun r t=>∃ p:Array Nat,arrOf r.2=p.map (kas_item (ks.toArray.zip vs.toArray))∧failedOf r.2=none∧(Perm0 vs.length p∧UpTo lt p vs.length)∧t=s) E s:=by
 by_cases h64:vs.length < 64
 ·exact PySem.W.kat_run (E:=E) (Q:=fun st t=>∃ p:Array Nat,arrOf st=p.map (kas_item (ks.toArray.zip vs.toArray))∧failedOf st=none∧(Perm0 vs.length p∧UpTo lt p vs.length)∧t=s)
   (G:=fun p t=>(Perm0 vs.length p∧UpTo lt p vs.length)∧t=s) hl two h64 (fun p st t _ b c d=>⟨p,b,c,d.1,d.2⟩) (Asks.wp (n:=vs.length) (lt:=lt) (fun i j C hi' hj' h=>hC i j C hi' hj' h) (fun r hr=>⟨hr,rfl⟩) (asks_sort hS (by omega)))
 ·rw [PySem.W.kat_ask_eq hl] at hC
  have zl:(ks.toArray.zip vs.toArray).size=vs.length:=by simp [hl]
  have e:=PySem.W.kas_range (ks.toArray.zip vs.toArray)
  rw [zl] at e
  have e':SortSt.mk' κ (ks.toArray.zip vs.toArray) #[] 7 none=kst κ (ks.toArray.zip vs.toArray) (List.range vs.length).toArray #[] 7:=congrArg (fun z=>SortSt.mk' κ z #[] 7 none) e.symm
  rw [e']
  exact dk_sortRuns (it:=ks.toArray.zip vs.toArray) (κ:=κ) hC hS (perm0_range _) (by omega) h128 E (fun _ st t=>∃ p:Array Nat,arrOf st=p.map (kas_item (ks.toArray.zip vs.toArray))∧failedOf st=none∧(Perm0 vs.length p∧UpTo lt p vs.length)∧t=s)
   fun _ st' hp=>by
    obtain ⟨p,pd,g,rfl,h1,h2⟩:=hp
    exact ⟨p,rfl,rfl,⟨h1,fun i j hij hj=>h2 i j (Nat.zero_le _) hij hj⟩,rfl⟩
end
section
variable {X:Cx} {pins:List (Addr × Obj)} {σ:St} {H:Hp} {s:Shared} {x:Str} {k:Nat} {ps:List Str} {sp:Sp}
def KnownW (zs:List Str):Prop:=OrdAll zs∨(zs.length < 128∧zs.Nodup)
theorem sort_endW {D kS:Addr} {e1 e:Nat} {ks its:List Value} {zs:List Str} {A:Around} {E:Value→Shared→Prop} {P:PySem.Fin→Shared→Prop} (I:Inv X (pins ++ [(D,lo [] e1)] ++ [(kS,lo ks e)]) σ H s) (fD:Far X pins D)
  (fk:Far X (pins ++ [(D,lo [] e1)]) kS) (hz:Vals (zs.map V.str) its) (hn:zs.length≤1000000) (hl:ks.length=zs.length) (ent:∀ j,j < zs.length→∃ q,ks[j]? = some (.ref q)∧H q=some (.tup (kfS ((zs.map V.str).getD j .non)))) (how:KnownW zs)
  (fin:∀ zs' s',Comes zs zs'→Inv X pins σ (upd H D (.lst (zs'.map V.str))) s'→P (.done (.ret .none)) s'):wpAny (model X.prog X.w) A (ksk_end D false its.toArray e1 (.ref kS) ks.toArray) P E s:=by
 have hi:its.length=zs.length:=by rw [← hz.length,List.length_map]
 have hki:ks.length=its.length:=by omega
 have hw:(zs.map V.str).length≤1000000:=by rw [List.length_map]; exact hn
 unfold ksk_end
 dsimp only
 simp only [Bool.false_eq_true,if_false]
 by_cases n2:its.toArray.size < 2
 ·rw [if_pos n2,if_pos n2]
  refine wpAny_bind (wpAny_pure (wpAny_bind (wpAny_pure ?_)))
  refine sort_tail I fD fk (by omega) ?_ rfl hz hw fun s' I'=>fin zs s' ⟨.refl _,?_⟩ I'
  ·show (ks.toArray.zip its.toArray).map (·.2)=its.toArray
   apply Array.toList_inj.mp
   simp only [Array.toList_map,Array.toList_zip]
   rw [show (fun x:Value × Value=>x.2)=Prod.snd from rfl,List.map_snd_zip (by omega)]
  ·rw [List.size_toArray,hi] at n2
   exact ord_few n2
 ·rw [if_neg n2,if_neg n2]
  have two:2≤its.length:=by rw [List.size_toArray] at n2; omega
  refine wpAny_bind (ent_kind I ent hl (by omega) (wpAny_bind ?_))
  rcases how with up | ⟨h64,nd⟩
  ·refine wpAny_mono (run_up (E:=E) (Q:=fun st t=>∃ p:Array Nat,arrOf st=p.map (PySem.W.kas_item (ks.toArray.zip its.toArray))∧failedOf st=none∧p=(List.range its.length).toArray∧t=s) (G:=fun p t=>p=(List.range its.length).toArray∧t=s) hki two (fun p st t _ b c d=>⟨p,b,c,d.1,d.2⟩)
    (Asks.wp (n:=its.length) (lt:=fun i j=>ordS (zs.getD i ⟨#[]⟩) (zs.getD j ⟨#[]⟩)) (fun i j C hi' hj' hC=>ent_cmp I ent (by omega) (by omega) hC) (fun r hr=>⟨hr.1,hr.2,rfl⟩) (asks_sorted (by omega) fun t t1 t2=>?_))) (fun r t hr=>?_) fun _ _ z=>z
   ·have a:t - 1 < zs.length:=by omega
    have b:t < zs.length:=by omega
    have q:=List.pairwise_iff_getElem.mp up (t - 1) t a b (by omega)
    show ordS (zs.getD t ⟨#[]⟩) (zs.getD (t - 1) ⟨#[]⟩)=false
    rw [List.getD_eq_getElem?_getD,List.getElem?_eq_getElem b,List.getD_eq_getElem?_getD,List.getElem?_eq_getElem a]
    exact q
   ·obtain ⟨⟨⟩,st⟩:=r
    obtain ⟨p,h1,h2,h3,h4⟩:=hr
    subst h4
    refine sort_tail I fD fk (by omega) ?_ h2 hz hw fun s' I'=>fin zs s' ⟨.refl _,up⟩ I'
    rw [PySem.W.kat_snds hki h1,h3]
    congr 1
    refine List.ext_getElem (by simp) fun i a b=>?_
    simp [b]
  ·have hS:=strict_of nd
   rw [← hi] at hS
   refine wpAny_mono (run_some (E:=E) hki two (by omega) hS fun i j C hi' hj' hC=>ent_cmp I ent (by omega) (by omega) hC) (fun r t hr=>?_) fun _ _ z=>z
   obtain ⟨⟨⟩,st⟩:=r
   obtain ⟨p,h1,h2,⟨h3,h5⟩,h4⟩:=hr
   subst h4
   have pl:p.toList.Perm (List.range zs.length):=by rw [← hi]; exact h3.per
   have hout:Vals ((p.toList.map fun i=>zs.getD i ⟨#[]⟩).map V.str) (p.toList.map fun i=>its.getD i Value.none):=by
    have:∀ l:List Nat,(∀ i∈l,i < zs.length)→Vals ((l.map fun i=>zs.getD i ⟨#[]⟩).map V.str) (l.map fun i=>its.getD i Value.none):=fun l=>by
     induction l with
     | nil=>exact fun _=>.nil
     | cons i l ih=>
      intro h
      have hi':=h i List.mem_cons_self
      refine .cons ?_ (ih fun j hj=>h j (List.mem_cons_of_mem _ hj))
      obtain ⟨u,hu,ru⟩:=Vals.get (i:=i) (x:=V.str zs[i]) hz (by rw [List.getElem?_map,List.getElem?_eq_getElem hi']; rfl)
      show RelV (V.str (zs.getD i ⟨#[]⟩)) (its.getD i Value.none)
      rw [List.getD_eq_getElem?_getD,List.getElem?_eq_getElem hi',List.getD_eq_getElem?_getD,hu]
      exact ru
    exact this _ fun i hi'=>List.mem_range.mp (pl.mem_iff.mp hi')
   have hzl:p.toList.length=zs.length:=by rw [pl.length_eq,List.length_range]
   refine sort_tail I fD fk (by omega) (PySem.W.kat_snds hki h1) h2 hout (by rw [List.length_map,List.length_map,hzl]; exact hn) fun s' I'=>fin _ s' ⟨?_,?_⟩ I'
   ·have q:=pl.map fun i=>zs.getD i ⟨#[]⟩
    have e:(List.range zs.length).map (fun i=>zs.getD i ⟨#[]⟩)=zs:=by
     refine List.ext_getElem (by simp) fun i a b=>?_
     simp [b]
    rwa [e] at q
   ·unfold OrdAll
    rw [List.pairwise_map,List.pairwise_iff_getElem]
    intro i j li lj lij
    have a1:=getD_of (p:=p) (i:=i) (by simpa using li)
    have a2:=getD_of (p:=p) (i:=j) (by simpa using lj)
    rw [← Array.getElem?_toList,List.getElem?_eq_getElem li] at a1
    rw [← Array.getElem?_toList,List.getElem?_eq_getElem lj] at a2
    have q:=h5 i j lij (by rw [← h3.size]; simpa using lj)
    rw [← Option.some.inj a1,← Option.some.inj a2] at q
    cases z:ordS (zs.getD p.toList[j] ⟨#[]⟩) (zs.getD p.toList[i] ⟨#[]⟩) with
    | false=>rfl
    | true=>
     have:=ordS_tra q z
     rw [ordS_irr] at this
     cases this
theorem sort_treeW {its:List Value} {zs:List Str} {E:Value→Shared→Prop} {P:PySem.Fin→Shared→Prop} (C:Cal X.prog X.w X.K X.mg X.base x k ps sp) (hk:KeyFn sp okS kfS) (hr:Room (k+2) X.A) (I:Inv X pins σ H s) (hz:Vals (zs.map V.str) its) (hn:zs.length≤1000000)
  (hs:∀ z∈zs,z.length≤1000) (how:KnownW zs) (fin:∀ zs' H' s',Comes zs zs'→Same H H'→H' s.heap.objs.size=none→Inv X pins σ (upd H' s.heap.objs.size (.lst (zs'.map V.str))) s'→P (.done (.ret .none)) s') :
  wpAny (model X.prog X.w) X.A.in1.in1 (ksk_tree s.heap.objs.size (.ref C.f) false) P E { s with heap:=s.heap.push (lo its 0) }:=by
 have hi:its.length=zs.length:=by rw [← hz.length,List.length_map]
 have hil:its.toArray.size≤sizeLine:=by rw [List.size_toArray]; exact line_leM (by omega)
 generalize hD0:s.heap.objs.size=D at fin ⊢
 have hD:(s.heap.push (lo its 0)).get? D=some (lo its 0):=by rw [← hD0]; exact Heap.get?_push_size _ rfl
 obtain ⟨e1,hD1⟩:∃ e1,((s.heap.push (lo its 0)).update D (Obj.mapSeq fun _=>#[])).get? D=some (lo [] e1):=⟨_,PySem.IsL.update hD fun _=>#[]⟩
 have lt:∀ b o,s.heap.get? b=some o→b < D:=fun b o q=>by rw [← hD0]; exact Heap.lt_size q
 have old:∀ b o,s.heap.get? b=some o→((s.heap.push (lo its 0)).update D (Obj.mapSeq fun _=>#[])).get? b=some o:=fun b o q=>
  (Heap.get?_update_other _ _ (Nat.ne_of_gt (lt b o q))).trans (Heap.get?_push_of_some _ q)
 unfold ksk_tree
 refine wpAny_bind (listItems_at hD rfl ?_)
 refine wpAny_bind (listUpdate_at hD rfl ?_ hil (Nat.zero_le _))
 refine wpAny_bind (seqEpoch_at hD1 rfl ?_)
 refine wpAny_bind (wpAny_newTuple ?_ (by show its.length≤_; exact line_leM (by omega)))
 refine wpAny_bind (wpAny_newList ?_ (Nat.zero_le _))
 refine wpAny_holding ?_
 dsimp only
 generalize hG:((s.heap.push (lo its 0)).update D (Obj.mapSeq fun _=>#[])).push { cls:=.type "tuple",data:=.seq its.toArray.toList.toArray } = G
 have hGs:G.objs.size=D+2:=by rw [← hG,Heap.size_push,Heap.size_update,Heap.size_push,hD0]
 have old2:∀ b o,s.heap.get? b=some o→(G.push (lo [] 0)).get? b=some o:=fun b o q=>Heap.get?_push_of_some _ (by rw [← hG]; exact Heap.get?_push_of_some _ (old b o q))
 have I1:Inv X pins σ H { s with heap:=G.push (lo [] 0) }:=I.kept (t':=s.toks) old2
 have fD:Far X pins D:=I.far (by rw [hD0]; exact Nat.le_refl _)
 have fk:Far X (pins ++ [(D,lo [] e1)]) G.objs.size:=(I.far (by rw [hGs,hD0]; exact Nat.le_add_right _ _)).more (by rw [hGs]; exact Nat.ne_of_lt (Nat.lt_add_of_pos_right (by decide)))
 have I2:=I1.hold (ks:=[]) (e:=e1) fD (Heap.get?_push_of_some _ (by rw [← hG]; exact Heap.get?_push_of_some _ hD1)) (I.hok.fresh (by rw [hD0]; exact Nat.le_refl _))
 have I3:=I2.hold (ks:=[]) (e:=0) fk (Heap.get?_push_size _ rfl) (I.hok.fresh (by rw [hGs,hD0]; exact Nat.le_add_right _ _))
 unfold ksk_rest
 refine wpAny_bind (wpAny_rule ?_)
 first
  | rw [List.forIn_toArray]
  | (rw [← Array.forIn_toList]; simp only [List.toList_toArray])
 refine wpAny_bind (wpAny_mono (forIn_turns (KeySt X pins σ H D G.objs.size e1 kfS (zs.map V.str)) its 0 _ (fun j y t hy hJ=>?_) ⟨H,[],0,I3,fun _ _ z=>z,rfl,fun j hj=>absurd hj (Nat.not_lt_zero _)⟩) (fun _ t ht=>?_) fun _ _ z=>z)
 ·obtain ⟨H',ks,e,I',sm,hlk,ent⟩:=hJ
  rw [Nat.zero_add] at hlk ent
  have hj:j < its.length:=by
   rcases Nat.lt_or_ge j its.length with z | z
   ·exact z
   ·rw [List.getElem?_eq_none_iff.mpr z] at hy; cases hy
  have hj':j < zs.length:=by omega
  obtain ⟨u,hu,ru⟩:=Vals.get (i:=j) (x:=V.str zs[j]) hz (by rw [List.getElem?_map,List.getElem?_eq_getElem hj']; rfl)
  rw [hy] at hu
  cases hu
  refine wpAny_bind (wpAny_attempt (wpAny_mono (key_call C hk hr I' ⟨_,rfl,hs _ (List.getElem_mem hj')⟩ ru) (fun r t' hr'=>?_) fun _ _ z=>z.elim))
  obtain ⟨q,H2,rfl,I4,s2,e2⟩:=hr'
  dsimp only
  have hkl:ks.toArray.size≤1000000:=by rw [List.size_toArray,hlk]; omega
  refine wpAny_bind (listUpdate_at I4.held.1 rfl ?_ (line_leM hkl) (by rw [Array.size_push]; exact Nat.succ_le_succ (line_leM hkl)))
  obtain ⟨e',I5⟩:=I4.rehold (f:=(·.push (.ref q))) (ks':=ks ++ [.ref q]) fk (by simp)
  refine wpAny_pure ⟨rfl,H2,ks ++ [.ref q],e',I5,fun b o z=>s2 b o (sm b o z),by simp [hlk],fun i hi'=>?_⟩
  rw [Nat.zero_add] at hi'
  by_cases e:i < j
  ·obtain ⟨q',k1,k2⟩:=ent i e
   exact ⟨q',by rw [List.getElem?_append_left (by omega)]; exact k1,s2 _ _ k2⟩
  ·have e':i=j:=by omega
   subst e'
   refine ⟨q,by rw [← hlk]; simp,?_⟩
   rw [e2,List.getD_eq_getElem?_getD,List.getElem?_map,List.getElem?_eq_getElem hj']
   rfl
 ·rw [Nat.zero_add] at ht
  obtain ⟨H',ks,e,I',sm,hl,ent⟩:=ht
  rw [hi] at ent
  try dsimp only
  refine wpAny_bind (listItems_at I'.held.1 rfl ?_)
  exact sort_endW I' fD fk hz hn (hl.trans hi) ent how fun zs' s' cm Is=>fin zs' H' s' cm sm (I'.unpinned.held.2) Is
theorem sorted_coreW {u:Value} {zs:List Str} {Q:VK} {A0:Around} (hA:A0=X.A) (C:Cal X.prog X.w X.K X.mg X.base x k ps sp) (hk:KeyFn sp okS kfS) (hr:Room (k+2) X.A) (hn:zs.length≤1000000) (hs:∀ z∈zs,z.length≤1000) (how:KnownW zs)
  (hcol:∀ (Qc:List Value→Shared→Prop),(∀ its s',Vals (zs.map V.str) its→Inv X pins σ H s'→Qc its s')→wpAny (model X.prog X.w) X.A.in1 (collect u) Qc X.xe s)
  (q:∀ zs' l H',Comes zs zs'→H' l=none→Same H H'→Q (.ref l) (upd H' l (.lst (zs'.map V.str)))) :
  wpAny (model X.prog X.w) A0 (call (.builtin "sorted") [u] [(Str.ofString "key",.ref C.f)]) (EP X pins σ Q) X.xe s:=by
 subst hA
 refine call_function_entry_kw kind_sorted plain_sorted entry_sorted (ksk_s1 _ _) ?_
 unfold Builtin.«sorted»
 refine wpAny_bind (m:=checkCount "sorted" 1 1 _) (wpAny_pure ?_)
 refine wpAny_bind (hcol _ fun its s' hz I'=>?_)
 have hi:its.length=zs.length:=by rw [← hz.length,List.length_map]
 refine wpAny_bind (wpAny_newList ?_ (line_leM (by omega)))
 refine wpAny_bind (wpAny_holding (wpAny_call_entry_kw slot_list_sort ⟨_,Heap.get?_push_size _ rfl,rfl⟩ entry_list_sort ?_ (ksk_l1 _ _)))
 rw [ksk_t1]
 refine sort_treeW C hk hr I' hz hn hs how fun zs' H' s3 cm sm hn' I3=>⟨_,rfl,?_⟩
 exact wpAny_pure ⟨_,rfl,.ref s'.heap.objs.size,_,I3,rfl,q zs' _ H' cm hn' sm⟩
inductive rSortDWI (xs:List V) (H:Hp) (Q:VK):Prop
 | mk (p kvs zs:_) (h1:xs=[.ref p]) (h2:H p=some (.dK kvs)) (h3:kvs.map (·.1)=zs.map Sum.inr) (h4:zs.length≤1000000) (h5:(∀ z∈zs,z.length≤1000)) (h6:KnownW zs) (h7:∀ zs' l H',Comes zs zs'→H' l=none→Same H H'→Q (.ref l) (upd H' l (.lst (zs'.map V.str)))):rSortDWI xs H Q
def rSortDW:List V→Hp→VK→Prop:=fun xs H Q=>rSortDWI xs H Q
theorem pe_sortDW {e:Expr} {te:TE} {p p2 kp pos:Pos} (C:Cal X.prog X.w X.K X.mg X.base x k ps sp) (hk:KeyFn sp okS kfS) (hc:X.calm=true) (hr:Room (k+2) X.A) (hg:Gl X "sorted") (hm:X.mg "sorted" = none) (hgx:Gl X x) (he:PE X e te)
  (hdb:(x==("__debug__" : Str))=false:=by decide) (hse:starEach [e] X.env=(false,eval e X.env) :: starEach [] X.env:=by rfl)
  (hpl:(backTo pos (starEach [e] X.env)).any (·.1)=false:=by rfl):PE X (.Call (.Name "sorted" p) [e] [⟨some "key",.Name x p2,kp⟩] pos) (tCB rSortDW (tCons te tNil)):=by
 refine pe_sortK C hg hm hgx he (fun pins s σ H vs us Q I rv h=>?_) hdb hse hpl (fun _=>rfl) (fun _=>rfl) fun _=>rfl
 obtain ⟨l,kvs,zs,rfl,hl,hz,hn,hs,how,q⟩:=h
 obtain ⟨u,rfl,ru⟩:=Vals.one rv
 obtain rfl:u=Value.ref l:=ru
 refine sorted_coreW rfl C hk hr hn hs how (fun Qc hQ=>?_) q
 exact collect_keys (A:=X.A.in1) (I.ok.hd hc) I hl fun its s' hv I'=>hQ its s' (by rw [← keys_strs hz]; exact hv) I'
end
end L2
namespace My
open PySem PySem.Spec PyProof.Rows L2
def top (i:Nat):Stmt:=PySem.Challenge.pw_spreadwords_k08_alike_to_a_length.main.body.getD i (.Pass ⟨0,0,0,0⟩)
abbrev s_left_behind:Stmt:=top 1
abbrev s_lacks_in_one:Stmt:=top 3
abbrev s_longer_rows:Stmt:=top 4
abbrev s_first_parting:Stmt:=top 5
abbrev s_parting:Stmt:=top 6
abbrev s_alike:Stmt:=top 7
abbrev s_law_flow:Stmt:=top 9
abbrev s_law_pick:Stmt:=top 10
abbrev s_law_alike:Stmt:=top 11
abbrev s_law_letters:Stmt:=top 12
abbrev s_law_word:Stmt:=top 13
abbrev s_law_order:Stmt:=top 14
abbrev s_law_spread_words:Stmt:=top 15
abbrev s_law_otherwise:Stmt:=top 16
abbrev s_law_step:Stmt:=top 17
abbrev s_law_parting:Stmt:=top 18
abbrev s_law_two:Stmt:=top 19
abbrev s_law:Stmt:=top 20
theorem sc_left_behind:FnScope ["text","start","letter"] ["text","start","letter"] (defScope s_left_behind):=⟨rfl,rfl,rfl,by decide +kernel,rfl,by decide +kernel,by decide +kernel⟩
theorem sc_lacks_in_one:FnScope ["row"] ["row"] (defScope s_lacks_in_one):=⟨rfl,rfl,rfl,by decide +kernel,rfl,by decide +kernel,by decide +kernel⟩
theorem sc_longer_rows:FnScope ["letters","one","other","level","told","word","here","there","letter"] ["letters","one","other","level"] (defScope s_longer_rows):=⟨rfl,rfl,rfl,by decide +kernel,rfl,by decide +kernel,by decide +kernel⟩
theorem sc_first_parting:FnScope ["one","other","letters","level","seen","ahead","row","pair"] ["one","other"] (defScope s_first_parting):=⟨rfl,rfl,rfl,by decide +kernel,rfl,by decide +kernel,by decide +kernel⟩
theorem sc_parting:FnScope ["one","other","word"] ["one","other"] (defScope s_parting):=⟨rfl,rfl,rfl,by decide +kernel,rfl,by decide +kernel,by decide +kernel⟩
theorem sc_alike:FnScope ["one","other","k","told"] ["one","other","k"] (defScope s_alike):=⟨rfl,rfl,rfl,by decide +kernel,rfl,by decide +kernel,by decide +kernel⟩
theorem sc_law_flow:FnScope ["_law_script"] ["_law_script"] (defScope s_law_flow):=⟨rfl,rfl,rfl,by decide +kernel,rfl,by decide +kernel,by decide +kernel⟩
theorem sc_law_pick:FnScope ["_law_flow_here","_law_many","_law_cell","_law_digit"] ["_law_flow_here","_law_many"] (defScope s_law_pick):=⟨rfl,rfl,rfl,by decide +kernel,rfl,by decide +kernel,by decide +kernel⟩
theorem sc_law_alike:FnScope ["_law_found","_law_due"] ["_law_found","_law_due"] (defScope s_law_alike):=⟨rfl,rfl,rfl,by decide +kernel,rfl,by decide +kernel,by decide +kernel⟩
theorem sc_law_letters:FnScope ["_law_flow_here","_law_many","_law_left"] ["_law_flow_here","_law_many"] (defScope s_law_letters):=⟨rfl,rfl,rfl,by decide +kernel,rfl,by decide +kernel,by decide +kernel⟩
theorem sc_law_word:FnScope ["_law_flow_here","_law_letters_here","_law_most","_law_again","_law_many","_law_piece"] ["_law_flow_here","_law_letters_here","_law_most"] (defScope s_law_word):=⟨rfl,rfl,rfl,by decide +kernel,rfl,by decide +kernel,by decide +kernel⟩
theorem sc_law_order:FnScope ["_law_word_here"] ["_law_word_here"] (defScope s_law_order):=⟨rfl,rfl,rfl,by decide +kernel,rfl,by decide +kernel,by decide +kernel⟩
theorem sc_law_spread_words:FnScope ["_law_text","_law_k","_law_found","_law_letter","_law_word_here"] ["_law_text","_law_k"] (defScope s_law_spread_words):=⟨rfl,rfl,rfl,by decide +kernel,rfl,by decide +kernel,by decide +kernel⟩
theorem sc_law_otherwise:FnScope ["_law_flow_here","_law_letters_here","_law_text","_law_way","_law_at","_law_letter","_law_here","_law_later"] ["_law_flow_here","_law_letters_here","_law_text"] (defScope s_law_otherwise):=⟨rfl,rfl,rfl,by decide +kernel,rfl,by decide +kernel,by decide +kernel⟩
theorem sc_law_step:FnScope ["_law_text","_law_at","_law_letter","_law_there"] ["_law_text","_law_at","_law_letter"] (defScope s_law_step):=⟨rfl,rfl,rfl,by decide +kernel,rfl,by decide +kernel,by decide +kernel⟩
theorem sc_law_parting:FnScope ["_law_one","_law_other","_law_layer","_law_met","_law_fresh","_law_word_here","_law_here","_law_there","_law_letter","_law_first","_law_second"] ["_law_one","_law_other"] (defScope s_law_parting):=⟨rfl,rfl,rfl,by decide +kernel,rfl,by decide +kernel,by decide +kernel⟩
theorem sc_law_two:FnScope ["_law_flow_here","_law_letters_here","_law_way","_law_one","_law_piece","_law_other","_law_turn"] ["_law_flow_here","_law_letters_here"] (defScope s_law_two):=⟨rfl,rfl,rfl,by decide +kernel,rfl,by decide +kernel,by decide +kernel⟩
theorem sc_law:FnScope ["_law_script","_law_flow_here","_law_letters_here","_law_more","_law_turn","_law_one","_law_other","_law_k","_law_due","_law_told"] ["_law_script"] (defScope s_law):=⟨rfl,rfl,rfl,by decide +kernel,rfl,by decide +kernel,by decide +kernel⟩
theorem nd_law_alike_0:(inNm ["_law_k"] ["_law_found","_law_due"] [0,1]).Nodup:=by decide +kernel
theorem nd_law_letters_0:(inNm ["_law_k"] ["_law_flow_here","_law_many","_law_left"] [0,2]).Nodup:=by decide +kernel
theorem nd_law_word_0:(inNm ["_law_k"] ["_law_flow_here","_law_letters_here","_law_most","_law_again","_law_many","_law_piece"] [0,1]).Nodup:=by decide +kernel
theorem nd_law_word_1:(inNm ["_law_k"] ["_law_flow_here","_law_letters_here","_law_most","_law_again","_law_many","_law_piece"] [0,1]).Nodup:=by decide +kernel
structure Blt (mg:Str→Option Value):Prop where
 all:mg "all" = none
 bool:mg "bool" = none
 isinstance:mg "isinstance" = none
 len:mg "len" = none
 list:mg "list" = none
 range:mg "range" = none
 set:mg "set" = none
 sorted:mg "sorted" = none
 tuple:mg "tuple" = none
theorem iteD {p A B:Prop} [Decidable p] (hp:p) (h:A):if decide p=true then A else B:=by
 rw [if_pos (decide_eq_true hp)]
 exact h
inductive spLawI (K:PySem.W.Frag) (vs:List V) (H:Hp) (Q:VK):Prop
 | mk (a:Addr) (ns:List Int) (h1:vs=[.ref a]) (h2:SqL K H a (ns.map V.int)) (h3:ns.length≤63) (h4:∀ H',Q (.bl true) H'):spLawI K vs H Q
def spLaw (K:PySem.W.Frag):Sp:=fun vs H Q u3_=>spLawI K vs H Q
section
variable {P:Program} {w:World} {K:PySem.W.Frag} {mg:Str→Option Value} {base:Heap}
theorem rd_ix {K:PySem.W.Frag} {σ:L2.St} {H:Hp} {Q:VK} {p:Addr} {xs:List V} {i:Int} {v:V} {j:Nat} (h0:σ[j]? = some (some (.ref p))) (hp:H p=some (.lst xs)) (hv:atI xs i=some v) (q:Q v H):tOp (rIxL K) (tVar j) (tC (.int i)) σ H Q:=
 ⟨_,h0,p,xs,i,v,rfl,rfl,SqL.of hp,hv,q⟩
theorem ok_law_flow {f:Addr} {fd:FuncData} (F:Fun K "_law_flow" "_law_flow" s_law_flow f fd) (Z:Blt mg):FnOk P w K mg base CX0 1 f fd ["_law_script"] (spFlow K):=by
 refine F.ok sc_law_flow (fun vs H Q E h=>?_) (fun cdv A outer s H vs Q E hr h=>?_)
 ·obtain ⟨a,ns,rfl,_⟩:=h
  rfl
 obtain ⟨a,ns,rfl,hS,k⟩:=h
 refine ⟨_,(pss_one (ps_ret (pe_lst (pa_cons (pe_callTy (call_listK (K:=K)) (by rfl) Z.list bt_list (pa_cons (pv 0) pa_nil)) (pa_cons pe_int (pa_cons pe_int (pa_cons pe_int (pa_cons pe_int pa_nil)))))))),?_⟩
 refine ⟨_,rfl,a,_,rfl,.inl hS,fun l hl=>?_⟩
 refine ⟨(by show 5≤sizeLine; decide),fun p hp=>?_⟩
 have e1:Same H (upd H l (.lst (ns.map V.int))):=same_new hl _
 refine k p l _ (e1.free hp) (e1.trans (same_new hp _)) ⟨⟨_,upd_same,0,0,1,0,rfl,by decide,by decide,by decide,by decide,by decide⟩,ns,?_⟩
 rw [upd_ne (ne_of_none upd_same hp)]
 exact upd_same
theorem pick_last (c:Int) (m:Int) (hm:0 < m):0≤c % m∧c % m < m:=⟨Int.emod_nonneg _ (by omega),Int.emod_lt_of_pos _ hm⟩
theorem atI_ints {ns:List Int} {a:Int} (h0:0≤a) (h1:a < ((ns.map V.int).length:Int)):∃ z,atI (ns.map V.int) a=some (.int z):=by
 have hk:a.toNat < ns.length:=by
  rw [List.length_map] at h1
  omega
 have q:atI (ns.map V.int) ((a.toNat:Nat):Int)=some (.int ns[a.toNat]):=atI_nat (by rw [List.getElem?_map,List.getElem?_eq_getElem hk]; rfl)
 rw [show ((a.toNat:Nat):Int)=a by omega] at q
 exact ⟨_,q⟩
theorem ok_law_pick {f:Addr} {fd:FuncData} (F:Fun K "_law_pick" "_law_pick" s_law_pick f fd) (Z:Blt mg):FnOk P w K mg base CX0 1 f fd ["_law_flow_here","_law_many"] spPick:=by
 refine F.ok sc_law_pick (fun vs H Q E h=>?_) (fun cdv A outer s H vs Q E hr h=>?_)
 ·obtain ⟨p,sc,m,rfl,_⟩:=h
  rfl
 obtain ⟨p,sc,m,rfl,hm0,hm1,FA,k⟩:=h
 obtain ⟨xs,hp,a,b,c,d,rfl,ha,hb,hc0,hc1,hd⟩:=FA.here
 obtain ⟨ns,hs⟩:=FA.cells
 refine ⟨_,(pss_cut (ps_if (PW.pt (pw_and (pt_cmpR op_eq (pe_ix (ix_listK (K:=K)) (pv 0) pe_int (fun _ _=>rfl)) pe_int (nomark _)) (pw_and1 (pt_cmpR op_lt (pe_ix (ix_listK (K:=K)) (pv 0) pe_int (fun _ _=>rfl)) (pe_callB (call_lenK (K:=K)) (by rfl) Z.len bt_len (pa_cons (pe_ix (ix_listK (K:=K)) (pv 0) pe_int (fun _ _=>rfl)) pa_nil)) (nomark _))))) 
    (pss_cons (ps_set (i:=2) sc_law_pick.nd (by rfl) (Or.inl (by rfl)) (pe_ix (ix_listK (K:=K)) (pe_ix (ix_listK (K:=K)) (pv 0) pe_int (fun _ _=>rfl)) (pe_ix (ix_listK (K:=K)) (pv 0) pe_int (fun _ _=>rfl)) (fun _ _=>rfl))) 
    (pss_cons (ps_asg (pe_op op_add (pe_ix (ix_listK (K:=K)) (pv 0) pe_int (fun _ _=>rfl)) pe_int) (pg_sub (pv 0) pe_int set_list)) 
    (pss_one (ps_if (pt_cmpR op_ge (pv 2) (pe_op op_pow pe_int pe_int) (nomark _)) 
     (pss_one (ps_asg (pv 2) (pg_sub (pv 0) pe_int set_list))) 
     (pss_one (ps_asg (pe_op op_mod (pe_op op_add (pe_op op_add (pe_op op_mul (pe_ix (ix_listK (K:=K)) (pv 0) pe_int (fun _ _=>rfl)) pe_int) (pe_op op_mod (pv 2) pe_int)) pe_int) pe_int) (pg_sub (pv 0) pe_int set_list))))))) pss_nil) 
   (pss_cons (ps_if (pt_cmpR op_gt (pe_ix (ix_listK (K:=K)) (pv 0) pe_int (fun _ _=>rfl)) pe_int (nomark _)) 
    (pss_cons (ps_set (i:=3) sc_law_pick.nd (by rfl) (Or.inl (by rfl)) (pe_op op_mod (pe_ix (ix_listK (K:=K)) (pv 0) pe_int (fun _ _=>rfl)) (pv 1))) 
    (pss_cons (ps_asg (pe_op op_fdiv (pe_ix (ix_listK (K:=K)) (pv 0) pe_int (fun _ _=>rfl)) (pv 1)) (pg_sub (pv 0) pe_int set_list)) 
    (pss_one (ps_ret (pv 3))))) pss_nil) 
   (pss_cons (ps_asg (pe_op op_add (pe_ix (ix_listK (K:=K)) (pv 0) pe_int (fun _ _=>rfl)) pe_int) (pg_sub (pv 0) pe_int set_list)) 
   (pss_cons (ps_asg (pe_op op_mod (pe_op op_add (pe_op op_add (pe_op op_mul (pe_ix (ix_listK (K:=K)) (pv 0) pe_int (fun _ _=>rfl)) pe_int) pe_int) (pe_ix (ix_listK (K:=K)) (pv 0) pe_int (fun _ _=>rfl))) pe_int) (pg_sub (pv 0) pe_int set_list)) 
   (pss_one (ps_ret (pe_op op_mod (pe_op op_fdiv (pe_op op_mod (pe_op op_mul (pe_op op_add (pe_op op_mod (pe_ix (ix_listK (K:=K)) (pv 0) pe_int (fun _ _=>rfl)) pe_int) pe_int) (pe_op op_add (pe_op op_fdiv (pe_ix (ix_listK (K:=K)) (pv 0) pe_int (fun _ _=>rfl)) pe_int) pe_int)) pe_int) pe_int) (pv 1)))))))),?_⟩
 refine (let zz0:TS:=_; let zz1:TS:=tSeq _ zz0; let zz2:TS:=tSeq _ zz1; let zz3:TS:=_; let zz4:TS:=tSeq _ zz3; let zz5:TS:=tSeq _ zz4; let zz6:TS:=tSeq (tIfS _ zz5 _) zz2; let zz7:TS:=_; let zz8:TS:=tSeq _ zz7; let zz9:TS:=tSeq _ zz8; (?_:tCut (tIfS _ zz9 _) zz6 _ _ _))
 refine ⟨fun σ' H'=>∃ cv xs',σ'=[some (V.ref p),some (V.int m),cv,none]∧H' p=some (.lst xs')∧(∀ o,upd H' p o=upd H p o)∧FlowXs sc xs',?_,?_⟩
 ·have stay:∃ cv xs',[some (V.ref p),some (V.int m),none,none]=[some (V.ref p),some (V.int m),cv,none]∧H p=some (.lst xs')∧(∀ o,upd H p o=upd H p o)∧FlowXs sc xs':=⟨_,_,rfl,hp,fun _=>rfl,a,b,c,d,rfl,ha,hb,hc0,hc1,hd⟩
  refine rd_ix rfl hp (atI_nat (j:=2) rfl) ?_
  refine ⟨rfl,_,rfl,?_⟩
  refine ite2 (fun _=>?_) (fun _=>stay)
  refine rd_ix rfl hp (atI_nat (j:=1) rfl) ?_
  refine rd_ix rfl hp (atI_nat (j:=0) rfl) ?_
  refine ⟨sc,_,rfl,.inl (SqL.of hs),_,_,rfl,rfl,_,rfl,?_⟩
  refine ite2 (fun lt=>?_) (fun _=>stay)
  obtain ⟨z,hz⟩:=atI_ints (ns:=ns) ha (of_decide_eq_true lt)
  refine rd_ix rfl hp (atI_nat (j:=0) rfl) ?_
  refine rd_ix rfl hp (atI_nat (j:=1) rfl) ?_
  refine ⟨sc,_,_,_,rfl,rfl,SqL.of hs,hz,?_⟩
  refine rd_ix rfl hp (atI_nat (j:=1) rfl) ?_
  refine ⟨_,_,rfl,rfl,_,rfl,p,_,_,1,rfl,rfl,hp,rfl,?_⟩
  have hp1:upd H p (.lst [.ref sc,.int (a+1),.int b,.int c,.int d]) p=some (.lst [.ref sc,.int (a+1),.int b,.int c,.int d]):=upd_same
  refine ⟨_,rfl,_,_,rfl,rfl,⟨by decide,by decide,by decide⟩,_,_,rfl,rfl,_,rfl,?_⟩
  refine ite2 (fun big=>?_) (fun _=>?_)
  ·have big':(10:Int) ^ 18≤z:=of_decide_eq_true big
   refine ⟨_,rfl,_,rfl,p,_,_,2,rfl,rfl,hp1,rfl,?_⟩
   exact ⟨_,_,rfl,upd_same,fun o=>by rw [upd_upd,upd_upd],a+1,z,c,d,rfl,by omega,by omega,hc0,hc1,hd⟩
  ·refine rd_ix rfl hp1 (atI_nat (j:=3) rfl) ?_
   refine ⟨_,_,rfl,rfl,.inl ⟨by omega,by omega⟩,?_⟩
   refine ⟨_,rfl,_,_,rfl,rfl,(by show (0:Int) < 1000003; decide),_,_,rfl,rfl,_,_,rfl,rfl,_,_,rfl,rfl,(by show (0:Int) < 2147483647; decide),?_⟩
   refine ⟨_,rfl,p,_,_,3,rfl,rfl,hp1,rfl,?_⟩
   have q:=pick_last (c * 40013+z % 1000003+1) 2147483647 (by decide)
   exact ⟨_,_,rfl,upd_same,fun o=>by rw [upd_upd,upd_upd],a+1,b,_,d,rfl,by omega,hb,q.1,q.2,hd⟩
 ·rintro σ' H' ⟨cv,xs',rfl,hp',hu,a',b',c',d',rfl,ha',hb',hc0',hc1',hd'⟩
  refine rd_ix rfl hp' (atI_nat (j:=2) rfl) ?_
  refine ⟨_,_,rfl,rfl,_,rfl,?_⟩
  refine ite2 (fun pos=>?_) (fun _=>?_)
  ·have pos':0 < b':=of_decide_eq_true pos
   refine rd_ix rfl hp' (atI_nat (j:=2) rfl) ?_
   refine ⟨_,rfl,_,_,rfl,rfl,hm0,?_⟩
   refine rd_ix rfl hp' (atI_nat (j:=2) rfl) ?_
   refine ⟨_,rfl,_,_,rfl,rfl,⟨hm0,hm1⟩,_,rfl,p,_,_,2,rfl,rfl,hp',rfl,?_⟩
   refine ⟨_,rfl,?_⟩
   have q:=pick_last b' m hm0
   have e:=k (b' % m) [.ref sc,.int a',.int (b' / m),.int c',.int d'] q.1 q.2 ⟨a',b' / m,c',d',rfl,ha',Int.ediv_nonneg hb' (by omega),hc0',hc1',hd'⟩
   rw [← hu] at e
   exact e
  ·refine rd_ix rfl hp' (atI_nat (j:=4) rfl) ?_
   refine ⟨_,_,rfl,rfl,_,rfl,p,_,_,4,rfl,rfl,hp',rfl,?_⟩
   have hp2:upd H' p (.lst [.ref sc,.int a',.int b',.int c',.int (d'+1)]) p=some (.lst [.ref sc,.int a',.int b',.int c',.int (d'+1)]):=upd_same
   refine rd_ix rfl hp2 (atI_nat (j:=3) rfl) ?_
   refine ⟨_,_,rfl,rfl,.inl ⟨by omega,by omega⟩,_,_,rfl,rfl,?_⟩
   refine rd_ix rfl hp2 (atI_nat (j:=4) rfl) ?_
   refine ⟨_,_,rfl,rfl,_,_,rfl,rfl,(by show (0:Int) < 2147483647; decide),?_⟩
   refine ⟨_,rfl,p,_,_,3,rfl,rfl,hp2,rfl,?_⟩
   have q:=pick_last (c' * 48271+12820163+(d'+1)) 2147483647 (by decide)
   have hp3:∀ H3:Hp,upd H3 p (.lst [.ref sc,.int a',.int b',.int ((c' * 48271+12820163+(d'+1)) % 2147483647),.int (d'+1)]) p=some (.lst [.ref sc,.int a',.int b',.int ((c' * 48271+12820163+(d'+1)) % 2147483647),.int (d'+1)]):=fun _=>upd_same
   refine rd_ix rfl (hp3 _) (atI_nat (j:=3) rfl) ?_
   refine ⟨_,_,rfl,rfl,(by show (0:Int) < 65521; decide),_,_,rfl,rfl,?_⟩
   refine rd_ix rfl (hp3 _) (atI_nat (j:=3) rfl) ?_
   have q2:=pick_last ((c' * 48271+12820163+(d'+1)) % 2147483647) 65521 (by decide)
   refine ⟨_,_,rfl,rfl,⟨by decide,by decide⟩,_,_,rfl,rfl,_,_,rfl,rfl,.inl ⟨by omega,by omega⟩,_,_,rfl,rfl,(by show (0:Int) < 1000003; decide),_,_,rfl,rfl,⟨by decide,by decide⟩,_,rfl,_,_,rfl,rfl,hm0,?_⟩
   have q3:=pick_last (((c' * 48271+12820163+(d'+1)) % 2147483647 % 65521+1) * ((c' * 48271+12820163+(d'+1)) % 2147483647 / 65521+7919) % 1000003 / 7) m hm0
   have e:=k _ [.ref sc,.int a',.int b',.int ((c' * 48271+12820163+(d'+1)) % 2147483647),.int (d'+1)] q3.1 q3.2 ⟨a',b',_,d'+1,rfl,ha',hb',q.1,q.2,by omega⟩
   rw [← hu,← upd_upd (H:=H') (o:=.lst [.ref sc,.int a',.int b',.int c',.int (d'+1)])] at e
   exact e
theorem atI_0 {α:Type} {xs:List α} {i:Nat} {v:α} (h:xs[i]? = some v):atI xs (0+(i:Int))=some v:=by
 rw [Int.zero_add]
 exact atI_nat h
def Sq2 (H:Hp) (a:Addr) (xs:List V):Prop:=H a=some (.lst xs)∨H a=some (.tup xs)
theorem Sq2.ix {K:PySem.W.Frag} {H:Hp} {a:Addr} {xs:List V} {i:Int} {v:V} {Q:VK} (h:Sq2 H a xs) (hv:atI xs i=some v) (q:Q v H):rIx K (.ref a) (.int i) H Q:=by
 rcases h with h | h
 ·exact .inl ⟨a,xs,i,v,rfl,rfl,SqL.of h,hv,q⟩
 ·exact .inr (.inl ⟨a,xs,i,v,rfl,rfl,SqT.of h,hv,q⟩)
theorem Sq2.same {H H':Hp} {a:Addr} {xs:List V} (h:Sq2 H a xs) (e:Same H H'):Sq2 H' a xs:=by
 rcases h with h | h
 ·exact .inl (e _ _ h)
 ·exact .inr (e _ _ h)
theorem all_true (n:Nat):(List.replicate n true).all id=true:=by
 induction n with
 | zero=>rfl
 | succ n ih=>rw [List.replicate_succ,List.all_cons,ih]; rfl
theorem alike_turn {n:Nat} {a b:Addr} {xs ys:List V} {ds:List Dt} {H1 H2:Hp} {i:Nat} {σ:L2.St} (ha:Sq2 H1 a xs) (hb:Sq2 H1 b ys) (hx:xs.length=ds.length) (hy:ys.length=ds.length) (hdp:∀ d'∈ds,d'.dep < n)
  (dx:∀ (i:Nat) x d',xs[i]? = some x→ds[i]? = some d'→Den H1 x d') (dy:∀ (i:Nat) x d',ys[i]? = some x→ds[i]? = some d'→Den H1 x d') (e2:Same H1 H2) (hi':i < ys.length)
  (h0:σ[0]? = some (some (.int (0+(i:Int))))) (h1:σ[1]? = some (some (.ref a))) (h2:σ[2]? = some (some (.ref b))) :
  tCall (spAlike n) [] E0 (tCons (tOp (rIx K) (tVar 1) (tVar 0)) (tCons (tOp (rIx K) (tVar 2) (tVar 0)) tNil)) σ H2 fun v H6=>List.replicate i (V.bl true) ++ [v]=List.replicate (i+1) (V.bl true)∧Same H1 H6:=by
 have hix:i < xs.length:=by omega
 have hid:i < ds.length:=by omega
 refine ⟨_,h1,_,h0,(ha.same e2).ix (atI_0 (List.getElem?_eq_getElem hix)) ?_⟩
 refine ⟨_,h2,_,h0,(hb.same e2).ix (atI_0 (List.getElem?_eq_getElem hi')) ?_⟩
 refine ⟨xs[i],ys[i],ds[i],rfl,hdp _ (List.getElem_mem hid),(dx i _ _ (List.getElem?_eq_getElem hix) (List.getElem?_eq_getElem hid)).same e2,(dy i _ _ (List.getElem?_eq_getElem hi') (List.getElem?_eq_getElem hid)).same e2,fun H3 e3=>⟨?_,e2.trans e3⟩⟩
 rw [List.replicate_succ']
theorem alike_step {n:Nat} {f:Addr} {fd:FuncData} (F:Fun K "_law_alike" "_law_alike" s_law_alike f fd) (Z:Blt mg) (C_law_alike:Cal P w K mg base "_law_alike" n ["_law_found","_law_due"] (spAlike n)) :
  FnOk P w K mg base CX0 (n+1) f fd ["_law_found","_law_due"] (spAlike (n+1)):=by
 refine F.ok sc_law_alike (fun vs H Q E h=>?_) (fun cdv A outer s H vs Q E hr h=>?_)
 ·obtain ⟨u,v,d,rfl,_⟩:=h
  rfl
 obtain ⟨u,v,d,rfl,hd,du,dv,k⟩:=h
 refine ⟨_,(pss_cons (ps_if (pt_truthK (K:=K) (pe_callB (call_is2K (K:=K)) (by rfl) Z.isinstance bt_isinstance (pa_cons (pv 1) (pa_cons (pe_tup (pa_cons (pe_bltn (v:=V.ty "list") (by rfl) Z.list bt_list rfl) (pa_cons (pe_bltn (v:=V.ty "tuple") (by rfl) Z.tuple bt_tuple rfl) pa_nil))) pa_nil))) (fun _=>rfl)) 
    (pss_cons (ps_if (pt_cmpR op_ne (pe_callB (call_isK (K:=K)) (by rfl) Z.isinstance bt_isinstance (pa_cons (pv 0) (pa_cons (pe_bltn (v:=V.ty "list") (by rfl) Z.list bt_list rfl) pa_nil))) (pe_callB (call_isK (K:=K)) (by rfl) Z.isinstance bt_isinstance (pa_cons (pv 1) (pa_cons (pe_bltn (v:=V.ty "list") (by rfl) Z.list bt_list rfl) pa_nil))) (nomark _)) 
     (pss_one (ps_ret pe_bl)) pss_nil) 
    (pss_cons (ps_if (pt_cmpR op_ne (pe_callB (call_isK (K:=K)) (by rfl) Z.isinstance bt_isinstance (pa_cons (pv 0) (pa_cons (pe_bltn (v:=V.ty "tuple") (by rfl) Z.tuple bt_tuple rfl) pa_nil))) (pe_callB (call_isK (K:=K)) (by rfl) Z.isinstance bt_isinstance (pa_cons (pv 1) (pa_cons (pe_bltn (v:=V.ty "tuple") (by rfl) Z.tuple bt_tuple rfl) pa_nil))) (nomark _)) 
     (pss_one (ps_ret pe_bl)) pss_nil) 
    (pss_cons (ps_if (pt_cmpR op_ne (pe_callB (call_lenK (K:=K)) (by rfl) Z.len bt_len (pa_cons (pv 0) pa_nil)) (pe_callB (call_lenK (K:=K)) (by rfl) Z.len bt_len (pa_cons (pv 1) pa_nil)) (nomark _)) 
     (pss_one (ps_ret pe_bl)) pss_nil) 
    (pss_one (ps_ret (pe_callB (call_allK (K:=K)) (by rfl) Z.all bt_all (pa_cons (pe_comp (sc:=defScope s_law_alike) (Nm:=["_law_found","_law_due"]) (own:=["_law_k"]) (fr:=[0,1]) ⟨rfl,by decide +kernel,by decide +kernel,by decide +kernel,by decide +kernel⟩ (by rfl) (gfr_name (by decide)) (pi_range1 (by rfl) Z.range (pa_cons (pe_callB (call_lenK (K:=K)) (by rfl) Z.len bt_len (pa_cons (pv 1) pa_nil)) pa_nil)) (fun d=>(pg_name (i:=0) nd_law_alike_0 (by rfl) (Or.inl (by rfl)))) (fun d=>pts_nil) (fun d=>(pe_c C_law_alike hr (pa_cons (pe_ix (ix_seqK (K:=K)) (pv 1) (pv 0) (fun _ _=>rfl)) (pa_cons (pe_ix (ix_seqK (K:=K)) (pv 2) (pv 0) (fun _ _=>rfl)) pa_nil))))) pa_nil))))))) pss_nil) 
   (pss_one (ps_ret (pe_and (pe_cmpR op_eq (pe_callB (call_isK (K:=K)) (by rfl) Z.isinstance bt_isinstance (pa_cons (pv 0) (pa_cons (pe_bltn (v:=V.ty "bool") (by rfl) Z.bool bt_bool rfl) pa_nil))) (pe_callB (call_isK (K:=K)) (by rfl) Z.isinstance bt_isinstance (pa_cons (pv 1) (pa_cons (pe_bltn (v:=V.ty "bool") (by rfl) Z.bool bt_bool rfl) pa_nil))) (nomark _)) (pe_one (pe_cmpR op_eq (pv 0) (pv 1) (nomark _))))))),?_⟩
 refine (let zz0:TS:=_; let zz1:TS:=_; let zz2:TS:=tSeq _ zz1; let zz3:TS:=tSeq _ zz2; let zz4:TS:=tSeq _ zz3; (?_:tSeq (tIfS _ zz4 _) zz0 _ _ _))
 have hz2:sizeLine=16777216:=sizeLine_eq
 cases du with
 | non=>
  cases dv
  refine ⟨_,rfl,(by show 2≤sizeLine; decide),fun tp htp=>?_⟩
  refine ⟨_,tp,_,_,_,_,rfl,upd_same,.non,kit_tt K "NoneType" _ _ _ (kit_n_l K) (kit_n_t K) rfl,_,rfl,iteF ?_⟩
  refine ⟨_,rfl,_,_,_,_,rfl,.non,kit_n_b K,_,rfl,_,_,_,_,rfl,.non,kit_n_b K,rfl,_,rfl,iteD rfl ?_⟩
  refine ⟨_,rfl,_,rfl,rfl,?_⟩
  rw [decide_eq_true rfl]
  exact k _ (same_new htp _)
 | bl b=>
  cases dv
  refine ⟨_,rfl,(by show 2≤sizeLine; decide),fun tp htp=>?_⟩
  refine ⟨_,tp,_,_,_,_,rfl,upd_same,.bl b,kit_tt K "bool" _ _ _ (kit_b_l K) (kit_b_t K) rfl,_,rfl,iteF ?_⟩
  refine ⟨_,rfl,_,_,_,_,rfl,.bl b,kit_b_b K,_,rfl,_,_,_,_,rfl,.bl b,kit_b_b K,rfl,_,rfl,iteD rfl ?_⟩
  refine ⟨_,rfl,_,rfl,rfl,?_⟩
  rw [decide_eq_true rfl]
  exact k _ (same_new htp _)
 | int i=>
  cases dv
  refine ⟨_,rfl,(by show 2≤sizeLine; decide),fun tp htp=>?_⟩
  refine ⟨_,tp,_,_,_,_,rfl,upd_same,.int i,kit_tt K "int" _ _ _ (kit_i_l K) (kit_i_t K) rfl,_,rfl,iteF ?_⟩
  refine ⟨_,rfl,_,_,_,_,rfl,.int i,kit_i_b K,_,rfl,_,_,_,_,rfl,.int i,kit_i_b K,rfl,_,rfl,iteD rfl ?_⟩
  refine ⟨_,rfl,_,rfl,rfl,?_⟩
  rw [decide_eq_true rfl]
  exact k _ (same_new htp _)
 | str x=>
  cases dv
  refine ⟨_,rfl,(by show 2≤sizeLine; decide),fun tp htp=>?_⟩
  refine ⟨_,tp,_,_,_,_,rfl,upd_same,.str x,kit_tt K "str" _ _ _ (kit_s_l K) (kit_s_t K) rfl,_,rfl,iteF ?_⟩
  refine ⟨_,rfl,_,_,_,_,rfl,.str x,kit_s_b K,_,rfl,_,_,_,_,rfl,.str x,kit_s_b K,rfl,_,rfl,iteD rfl ?_⟩
  refine ⟨_,rfl,_,rfl,rfl,?_⟩
  rw [decide_eq_true rfl]
  exact k _ (same_new htp _)
 | @lst a xs ds h hz hl hdd=>
  cases dv with
  | @lst b ys _ h' hz' hl' hdd'=>
   refine ⟨_,rfl,(by show 2≤sizeLine; decide),fun tp htp=>?_⟩
   have e1:Same H (upd H tp (.tup [.ty "list",.ty "tuple"])):=same_new htp _
   refine ⟨_,tp,_,_,_,_,rfl,upd_same,.lst (e1 _ _ h'),kit_tt K "list" _ _ _ (kit_l_l K) (kit_l_t K) rfl,_,rfl,iteT ?_⟩
   refine ⟨_,rfl,_,_,_,_,rfl,.lst (e1 _ _ h),kit_l_l K,_,rfl,_,_,_,_,rfl,.lst (e1 _ _ h'),kit_l_l K,rfl,_,rfl,iteNS rfl ?_⟩
   refine ⟨_,rfl,_,_,_,_,rfl,.lst (e1 _ _ h),kit_l_t K,_,rfl,_,_,_,_,rfl,.lst (e1 _ _ h'),kit_l_t K,rfl,_,rfl,iteNS rfl ?_⟩
   refine ⟨_,rfl,a,xs,rfl,.inl (SqL.of (e1 _ _ h)),_,rfl,b,ys,rfl,.inl (SqL.of (e1 _ _ h')),rfl,_,rfl,iteNS (by rw [hl,hl']) ?_⟩
   refine ⟨_,rfl,b,ys,rfl,.inl (SqL.of (e1 _ _ h')),_,rfl,by omega,by omega,?_⟩
   have sa:Sq2 (upd H tp (.tup [.ty "list",.ty "tuple"])) a xs:=.inl (e1 _ _ h)
   have sb:Sq2 (upd H tp (.tup [.ty "list",.ty "tuple"])) b ys:=.inl (e1 _ _ h')
   refine comp_range (lo:=0) (k:=((ys.length:Int)).toNat) (fun i acc H2=>acc=List.replicate i (V.bl true)∧Same (upd H tp (.tup [.ty "list",.ty "tuple"])) H2) (by omega) ⟨rfl,Same.refl _⟩ (fun i acc H2 p=>by rw [p.1,List.length_replicate]; exact Nat.le_refl _)
    (fun i acc H2 hi p=>?_) (fun acc H2 p l hl2=>?_)
   ·obtain ⟨rfl,e2⟩:=p
    exact cyes (alike_turn sa sb hl hl' (fun d' hd'=>by have:=Dt.dep_lst hd'; omega) (fun i x d' z1 z2=>(hdd i x d' z1 z2).same e1) (fun i x d' z1 z2=>(hdd' i x d' z1 z2).same e1) e2 (by omega) rfl rfl rfl)
   ·obtain ⟨rfl,e2⟩:=p
    refine ⟨l,List.replicate ((ys.length:Int)).toNat true,rfl,SqL.of (by rw [upd_same,List.map_replicate]),?_⟩
    rw [all_true]
    exact k _ ((e1.trans e2).trans (same_new hl2 _))
 | @tup a xs ds h hz hl hdd=>
  cases dv with
  | @tup b ys _ h' hz' hl' hdd'=>
   refine ⟨_,rfl,(by show 2≤sizeLine; decide),fun tp htp=>?_⟩
   have e1:Same H (upd H tp (.tup [.ty "list",.ty "tuple"])):=same_new htp _
   refine ⟨_,tp,_,_,_,_,rfl,upd_same,.tup (e1 _ _ h'),kit_tt K "tuple" _ _ _ (kit_t_l K) (kit_t_t K) rfl,_,rfl,iteT ?_⟩
   refine ⟨_,rfl,_,_,_,_,rfl,.tup (e1 _ _ h),kit_t_l K,_,rfl,_,_,_,_,rfl,.tup (e1 _ _ h'),kit_t_l K,rfl,_,rfl,iteNS rfl ?_⟩
   refine ⟨_,rfl,_,_,_,_,rfl,.tup (e1 _ _ h),kit_t_t K,_,rfl,_,_,_,_,rfl,.tup (e1 _ _ h'),kit_t_t K,rfl,_,rfl,iteNS rfl ?_⟩
   refine ⟨_,rfl,a,xs,rfl,.inr (SqT.of (e1 _ _ h)),_,rfl,b,ys,rfl,.inr (SqT.of (e1 _ _ h')),rfl,_,rfl,iteNS (by rw [hl,hl']) ?_⟩
   refine ⟨_,rfl,b,ys,rfl,.inr (SqT.of (e1 _ _ h')),_,rfl,by omega,by omega,?_⟩
   have sa:Sq2 (upd H tp (.tup [.ty "list",.ty "tuple"])) a xs:=.inr (e1 _ _ h)
   have sb:Sq2 (upd H tp (.tup [.ty "list",.ty "tuple"])) b ys:=.inr (e1 _ _ h')
   refine comp_range (lo:=0) (k:=((ys.length:Int)).toNat) (fun i acc H2=>acc=List.replicate i (V.bl true)∧Same (upd H tp (.tup [.ty "list",.ty "tuple"])) H2) (by omega) ⟨rfl,Same.refl _⟩ (fun i acc H2 p=>by rw [p.1,List.length_replicate]; exact Nat.le_refl _)
    (fun i acc H2 hi p=>?_) (fun acc H2 p l hl2=>?_)
   ·obtain ⟨rfl,e2⟩:=p
    exact cyes (alike_turn sa sb hl hl' (fun d' hd'=>by have:=Dt.dep_tup hd'; omega) (fun i x d' z1 z2=>(hdd i x d' z1 z2).same e1) (fun i x d' z1 z2=>(hdd' i x d' z1 z2).same e1) e2 (by omega) rfl rfl rfl)
   ·obtain ⟨rfl,e2⟩:=p
    refine ⟨l,List.replicate ((ys.length:Int)).toNat true,rfl,SqL.of (by rw [upd_same,List.map_replicate]),?_⟩
    rw [all_true]
    exact k _ ((e1.trans e2).trans (same_new hl2 _))
theorem alike_none {f:Addr} {fd:FuncData}:FnOk P w K mg base CX0 0 f fd ["_law_found","_law_due"] (spAlike 0):=by
 have no:∀ vs H Q E,¬ spAlike 0 vs H Q E:=fun vs H Q E h=>by
  obtain ⟨u,v,d,_,hd,_⟩:=h
  omega
 exact ⟨fun vs H Q E h=>absurd h (no vs H Q E),fun A outer s H args us vs Q E _ _ _ _ h=>absurd h (no vs H Q E)⟩
theorem ok_law_alike {f:Addr} {fd:FuncData} (F:Fun K "_law_alike" "_law_alike" s_law_alike f fd) (b:Binds K fd ["_law_found","_law_due"] []) (m:mg "_law_alike" = some (.ref f)) (Z:Blt mg):∀ n:Nat,FnOk P w K mg base CX0 n f fd ["_law_found","_law_due"] (spAlike n)
 | 0=>alike_none
 | n+1=>alike_step F Z ⟨f,fd,ok_law_alike F b m Z n,m,F.kp,b⟩
def one (c:Nat):Str:=⟨#[c]⟩
theorem strs_ones {ys':List Str} {cs:List Nat} (h:ys'.Perm (cs.map one)):∃ cs':List Nat,cs'.Perm cs∧ys'=cs'.map one:=by
 have e:∀ y∈ys',y=one (y.cps.toList.headD 0):=fun y hy=>by
  obtain ⟨c,_,rfl⟩:=List.mem_map.mp (h.mem_iff.mp hy)
  rfl
 have e2:ys'=(ys'.map fun y=>y.cps.toList.headD 0).map one:=by
  rw [List.map_map]
  have:∀ (l:List Str),(∀ y∈l,y=one (y.cps.toList.headD 0))→l=l.map (one ∘ fun y=>y.cps.toList.headD 0):=by
   intro l
   induction l with
   | nil=>intro _; rfl
   | cons y r ih=>
    intro hl
    rw [List.map_cons,← ih fun z hz=>hl z (List.mem_cons_of_mem _ hz)]
    exact congrArg (· :: r) (hl y List.mem_cons_self)
  exact this ys' e
 refine ⟨_,?_,e2⟩
 have p:=h.map fun y:Str=>y.cps.toList.headD 0
 rw [List.map_map] at p
 have:(fun y:Str=>y.cps.toList.headD 0) ∘ one=id:=rfl
 rw [this,List.map_id] at p
 exact p
theorem lt_cps_one (a b:Nat):ltCps (one a).cps.toList (one b).cps.toList=decide (a < b):=by
 rw [ltCps_eq]
 exact lt_one a b
theorem rising_ones:∀ (p:Nat) (cs:List Nat),risingS (one p) (cs.map one)=true→∀ c∈cs,p≤c
 | _,[],_,c,hc=>by cases hc
 | p,x :: r,h,c,hc=>by
  have h':(!ltCps (one x).cps.toList (one p).cps.toList && risingS (one x) (r.map one))=true:=h
  rw [Bool.and_eq_true,lt_cps_one] at h'
  have h1:p≤x:=by
   have:=h'.1
   simp at this
   exact this
  rcases List.mem_cons.mp hc with e | e
  ·subst e; exact h1
  ·exact Nat.le_trans h1 (rising_ones x r h'.2 c e)
theorem sorted_ones:∀ (cs:List Nat),sortedS (cs.map one)=true→cs.Pairwise (·≤·)
 | [],_=>.nil
 | p :: r,h=>by
  have h':risingS (one p) (r.map one)=true:=h
  refine List.Pairwise.cons (rising_ones p r h') (sorted_ones r ?_)
  cases r with
  | nil=>rfl
  | cons x r=>
   have h2:(!ltCps (one x).cps.toList (one p).cps.toList && risingS (one x) (r.map one))=true:=h'
   rw [Bool.and_eq_true] at h2
   exact h2.2
theorem lt_of_le_nodup:∀ {cs:List Nat},cs.Pairwise (·≤·)→cs.Nodup→cs.Pairwise (· < ·)
 | [],_,_=>.nil
 | p :: r,h,n=>by
  cases h with
  | cons h1 h2=>
   rw [List.nodup_cons] at n
   refine List.Pairwise.cons (fun c hc=>?_) (lt_of_le_nodup h2 n.2)
   have:=h1 c hc
   have:p≠c:=fun e=>n.1 (e▸hc)
   omega
theorem erase_perm {α:Type}:∀ {l:List α} {n:Nat} {v:α},l[n]? = some v→(v :: l.eraseIdx n).Perm l
 | [],n,v,h=>by simp at h
 | x :: r,0,v,h=>by
  have e:x=v:=by simpa using h
  subst e
  exact List.Perm.refl _
 | x :: r,n+1,v,h=>by
  have ih:=erase_perm (l:=r) (n:=n) (v:=v) (by simpa using h)
  rw [List.eraseIdx_cons_succ]
  exact (List.Perm.swap x v _).trans (List.Perm.cons x ih)
theorem erase_map {α β:Type} (f:α→β):∀ (l:List α) (i:Nat),(l.map f).eraseIdx i=(l.eraseIdx i).map f
 | [],_=>rfl
 | _ :: _,0=>rfl
 | x :: r,i+1=>by
  rw [List.map_cons,List.eraseIdx_cons_succ,List.eraseIdx_cons_succ,List.map_cons,erase_map f r i]
theorem flat_ones (cs:List Nat):((cs.map one).map fun y=>y.cps.toList).flatten=cs:=by
 induction cs with
 | nil=>rfl
 | cons c r ih=>rw [List.map_cons,List.map_cons,List.flatten_cons,ih]; rfl
theorem sum_ones (cs:List Nat):((cs.map one).map (·.length)).sum=cs.length:=by
 induction cs with
 | nil=>rfl
 | cons c r ih=>rw [List.map_cons,List.map_cons,List.sum_cons,ih,List.length_cons,Nat.add_comm]; rfl
def abc:List Nat:=(List.range 26).map (· + 97)
theorem abc_is:(Str.ofString "abcdefghijklmnopqrstuvwxyz").cps.toList=abc:=by decide +kernel
theorem abc_nodup:abc.Nodup:=by decide +kernel
theorem abc_mem {c:Nat} (h:c∈abc):97≤c∧c≤122:=by
 unfold abc at h
 obtain ⟨i,hi,rfl⟩:=List.mem_map.mp h
 have:=List.mem_range.mp hi
 omega
theorem oneS_map (cs:List Nat):cs.map oneS=(cs.map one).map V.str:=by
 rw [List.map_map]
 rfl
theorem ok_law_letters {f:Addr} {fd:FuncData} (F:Fun K "_law_letters" "_law_letters" s_law_letters f fd) (Z:Blt mg) (C_law_pick:Cal P w K mg base "_law_pick" 1 ["_law_flow_here","_law_many"] spPick) :
  FnOk P w K mg base CX0 2 f fd ["_law_flow_here","_law_many"] spLetters:=by
 refine F.ok sc_law_letters (fun vs H Q E h=>?_) (fun cdv A outer s H vs Q E hr h=>?_)
 ·obtain ⟨p,sc,m,rfl,_⟩:=h
  rfl
 obtain ⟨p,sc,m,rfl,hm0,hm1,FA,k⟩:=h
 refine ⟨_,(pss_cons (ps_set (i:=2) sc_law_letters.nd (by rfl) (Or.inr (by rfl)) (pe_callTy (call_list_text (by rfl)) (by rfl) Z.list bt_list (pa_cons pe_str pa_nil))) 
   (pss_one (ps_ret (pe_bmK (K:=K) PySem.F.plainAttrs_str PySem.F.slot_str_join PySem.F.type_str_join (mt_joinK (K:=K)) pe_str (pa_cons (pe_callB (call_sortK (K:=K)) (by rfl) Z.sorted bt_sorted (pa_cons (pe_comp (sc:=defScope s_law_letters) (Nm:=["_law_flow_here","_law_many","_law_left"]) (own:=["_law_k"]) (fr:=[0,2]) ⟨rfl,by decide +kernel,by decide +kernel,by decide +kernel,by decide +kernel⟩ (by rfl) (gfr_name (by decide)) (pi_range1 (by rfl) Z.range (pa_cons (pv 1) pa_nil)) (fun d=>(pg_name (i:=0) nd_law_letters_0 (by rfl) (Or.inl (by rfl)))) (fun d=>pts_nil) (fun d=>(pe_bmK (K:=K) PySem.F.plainAttrs_list PySem.F.slot_list_pop PySem.F.type_list_pop mt_popAt (pv 2) (pa_cons (pe_c C_law_pick (hr.mono (by decide)) (pa_cons (pv 1) (pa_cons (pe_callB (call_lenK (K:=K)) (by rfl) Z.len bt_len (pa_cons (pv 2) pa_nil)) pa_nil))) pa_nil)))) pa_nil)) pa_nil))))),?_⟩
 refine (let zz0:TS:=_; (?_:tSeq _ zz0 _ _ _))
 refine ⟨_,rfl,(by decide +kernel),fun l hl=>?_⟩
 have e1:Same H (upd H l (.lst ((Str.ofString "abcdefghijklmnopqrstuvwxyz").cps.toList.map oneS))):=same_new hl _
 have npl:p≠l:=by
  obtain ⟨xs,hp,_⟩:=FA.here
  exact ne_of_none hp hl
 refine ⟨rfl,_,rfl,_,rfl,by omega,by omega,?_⟩
 refine comp_range (lo:=0) (k:=m.toNat) (fun i acc H2=>∃ ys rem:List Nat,acc=ys.map oneS∧ys.length=i∧H2 l=some (.lst (rem.map oneS))∧(ys ++ rem).Perm abc∧FlowAt H2 p sc∧Drew H H2 p) (Nat.lt_of_le_of_lt (show m.toNat≤26 by omega) (by decide))
  ⟨[],abc,rfl,rfl,by rw [upd_same,abc_is],List.Perm.refl _,FA.same e1,Drew.same e1⟩ (fun i acc H2 ⟨ys,rem,e,hl',_⟩=>by rw [e,List.length_map,hl']; exact Nat.le_refl _) (fun i acc H2 hi hp=>?_) (fun acc H2 hp q hq=>?_)
 ·obtain ⟨ys,rem,rfl,hyl,hrem,hperm,FA2,dr⟩:=hp
  have hlen:ys.length+rem.length=26:=by
   have:=hperm.length_eq
   rw [List.length_append] at this
   exact this
  refine cyes ?_
  refine ⟨_,rfl,.inl ⟨rfl,_,SqL.of hrem⟩,_,rfl,_,rfl,l,_,rfl,.inl (SqL.of hrem),p,sc,_,rfl,?_,?_,FA2,fun r xs hr0 hr1 hxs=>?_⟩
  ·rw [List.length_map]; omega
  ·rw [List.length_map]; omega
  ·have hr1':r < (rem.length:Int):=by
    rw [List.length_map] at hr1
    exact hr1
   have hrn:r.toNat < rem.length:=by omega
   have hv:rem[r.toNat]? = some rem[r.toNat]:=List.getElem?_eq_getElem hrn
   have hl2:upd H2 p (.lst xs) l=some (.lst (rem.map oneS)):=by rw [upd_ne (Ne.symm npl)]; exact hrem
   refine ⟨l,_,r,r.toNat,oneS rem[r.toNat],rfl,rfl,hl2,by omega,by omega,?_,?_,?_⟩
   ·rw [List.length_map]
    exact seqIndex_of hr0 hr1'
   ·rw [List.getElem?_map,hv]
    rfl
   ·refine ⟨ys ++ [rem[r.toNat]],rem.eraseIdx r.toNat,by rw [List.map_append]; rfl,by rw [List.length_append,hyl]; rfl,?_,?_,?_,?_⟩
    ·rw [upd_same,erase_map]
    ·rw [List.append_assoc]
     exact (List.Perm.append_left ys (erase_perm hv)).trans hperm
    ·have FA3:=FA2.go hxs
     obtain ⟨xs',h1,h2⟩:=FA3.here
     obtain ⟨ns,h3⟩:=FA3.cells
     refine ⟨⟨xs',by rw [upd_ne npl]; exact h1,h2⟩,ns,?_⟩
     rw [upd_ne ?_]
     ·exact h3
     ·obtain ⟨ns0,h0⟩:=FA.cells
      exact ne_of_none h0 hl
    ·intro b o hb hne
     rw [upd_ne (ne_of_none hb hl),upd_ne hne]
     exact dr b o hb hne
 ·obtain ⟨ys,rem,rfl,hyl,hrem,hperm,FA2,dr⟩:=hp
  have hn:ys.Nodup:=(List.nodup_append.mp (hperm.nodup_iff.mpr abc_nodup)).1
  refine ⟨q,ys.map one,rfl,SqL.of (by rw [upd_same,oneS_map]),by rw [List.length_map]; omega,fun ys' l2 hp2 hs2 hl2=>?_⟩
  obtain ⟨cs,hc,rfl⟩:=strs_ones hp2
  have hclen:=hc.length_eq
  refine ⟨_,l2,cs.map one,rfl,rfl,SqL.of upd_same,?_,?_⟩
  ·rw [sum_ones,List.length_map]
   have:(Str.ofString "").length=0:=by decide +kernel
   rw [this]
   omega
  ·have e3:=join_nil_list (cs.map one)
   rw [flat_ones] at e3
   refine k _ _ ⟨?_,?_,fun c hcm=>?_⟩ ?_ ?_
   ·rw [e3]; omega
   ·rw [e3]
    exact lt_of_le_nodup (sorted_ones cs hs2) (hc.nodup_iff.mpr hn)
   ·rw [e3] at hcm
    exact abc_mem (hperm.mem_iff.mp (List.mem_append_left _ (hc.mem_iff.mp hcm)))
   ·exact dr.trans (Drew.trans (Drew.same (same_new hq _)) (Drew.same (same_new hl2 _)))
   ·exact (FA2.same (same_new hq _)).same (same_new hl2 _)
theorem drew_go {H0 H:Hp} {p:Addr} (d:Drew H0 H p) (o:HO):Drew H0 (upd H p o) p:=d.trans (Drew.upd o)
theorem atI_sign {l:Str} {r:Int} (h0:0≤r) (h1:r < (l.length:Int)):∃ c,c∈l.cps.toList∧atI l.cps.toList r=some c:=by
 have hk:r.toNat < l.cps.toList.length:=by
  have:l.cps.toList.length=l.length:=by simp [Str.length]
  omega
 refine ⟨l.cps.toList[r.toNat],List.getElem_mem hk,?_⟩
 have q:atI l.cps.toList ((r.toNat:Nat):Int)=some l.cps.toList[r.toNat]:=atI_nat (List.getElem?_eq_getElem hk)
 rw [show ((r.toNat:Nat):Int)=r by omega] at q
 exact q
def Drawn (H:Hp) (p sc:Addr) (l:Str) (i:Nat) (acc:List V) (H2:Hp):Prop:=∃ ys:List Nat,acc=ys.map oneS∧ys.length=i∧(∀ c∈ys,c∈l.cps.toList)∧FlowAt H2 p sc∧Drew H H2 p
theorem drawn_turn {H H2:Hp} {p sc:Addr} {l:Str} {i:Nat} {acc:List V} {σ:L2.St} {jl jf:Nat} (hl0:0 < l.length) (hl1:l.length≤1000) (hv1:σ[jl]? = some (some (.str l))) (hv2:σ[jf]? = some (some (.ref p))) (h:Drawn H p sc l i acc H2) :
  tOp rIxS (tVar jl) (tCall spPick [] E0 (tCons (tVar jf) (tCons (tCB (fun xs H Q=>∃ z,xs=[V.str z]∧z.length≤sizeLine∧Q (.int z.length) H) (tCons (tVar jl) tNil)) tNil))) σ H2 fun v H6=>Drawn H p sc l (i+1) (acc ++ [v]) H6:=by
 obtain ⟨ys,rfl,hyl,hyc,FA2,dr⟩:=h
 refine ⟨_,hv1,_,hv2,_,hv1,l,rfl,line_le hl1,p,sc,_,rfl,by omega,by omega,FA2,fun r xs h0 h1 hx=>?_⟩
 obtain ⟨c,hc,ha⟩:=atI_sign h0 h1
 exact ⟨l,r,c,rfl,rfl,line_le hl1,ha,ys ++ [c],by rw [List.map_append]; rfl,by rw [List.length_append,hyl]; rfl,fun c' h'=>(List.mem_append.mp h').elim (hyc c') fun z=>by rw [List.mem_singleton.mp z]; exact hc,FA2.go hx,drew_go dr _⟩
theorem drawn_len {H:Hp} {p sc:Addr} {l:Str}:∀ i acc H2,Drawn H p sc l i acc H2→acc.length≤i:=fun i acc H2 ⟨ys,e,hl',_⟩=>by rw [e,List.length_map,hl']; exact Nat.le_refl _
theorem rep_mem {z:List Nat} {n:Nat} {c:Nat} (h:c∈(List.replicate n z).flatten):c∈z:=by
 obtain ⟨l,hl,hc⟩:=List.mem_flatten.mp h
 rw [(List.mem_replicate.mp hl).2] at hc
 exact hc
theorem cut_le (z:Str) (n:Int) (h:0≤n):((Txt.slice z none (some n)).cps.toList.length:Int)≤n∧∀ c∈(Txt.slice z none (some n)).cps.toList,c∈z.cps.toList:=by
 rw [slice_list]
 constructor
 ·rw [List.length_take,List.length_drop]
  have e:HT.sIx z.length z.length (some n)=min n.toNat z.length:=by
   have:=HT.sIx_nat z.length z.length n.toNat
   rw [show ((n.toNat:Nat):Int)=n by omega] at this
   exact this
  rw [e]
  omega
 ·intro c hc
  exact List.mem_of_mem_drop (List.mem_of_mem_take hc)
theorem join_ones_len (ys:List Nat) (h:ys.length≤1000):((ys.map one).map (·.length)).sum+(ys.map one).length * (Str.ofString "").length≤16777216:=by
 have:(Str.ofString "").length=0:=by decide +kernel
 rw [sum_ones,this]
 omega
theorem join_ones (ys:List Nat):(Txt.join (Str.ofString "") (ys.map one)).cps.toList=ys:=by
 rw [join_nil_list,flat_ones]
theorem ok_law_word {f:Addr} {fd:FuncData} (F:Fun K "_law_word" "_law_word" s_law_word f fd) (Z:Blt mg) (C_law_pick:Cal P w K mg base "_law_pick" 1 ["_law_flow_here","_law_many"] spPick) :
  FnOk P w K mg base CX0 2 f fd ["_law_flow_here","_law_letters_here","_law_most"] spWord:=by
 refine F.ok sc_law_word (fun vs H Q E h=>?_) (fun cdv A outer s H vs Q E hr h=>?_)
 ·obtain ⟨p,sc,l,m,rfl,_⟩:=h
  rfl
 obtain ⟨p,sc,l,m,rfl,hl0,hl1,hm0,hm1,FA,k⟩:=h
 refine ⟨_,(pss_cons (ps_set (i:=3) sc_law_word.nd (by rfl) (Or.inl (by rfl)) (pe_cmpR op_eq (pe_c C_law_pick (hr.mono (by decide)) (pa_cons (pv 0) (pa_cons pe_int pa_nil))) pe_int (nomark _))) 
   (pss_cons (ps_set (i:=4) sc_law_word.nd (by rfl) (Or.inl (by rfl)) (pe_c C_law_pick (hr.mono (by decide)) (pa_cons (pv 0) (pa_cons (pe_op op_add (pv 2) pe_int) pa_nil)))) 
   (pss_cons (ps_if (pt_truthK (K:=K) (pv 3) (fun _=>rfl)) 
    (pss_cons (ps_set (i:=5) sc_law_word.nd (by rfl) (Or.inl (by rfl)) (pe_bmK (K:=K) PySem.F.plainAttrs_str PySem.F.slot_str_join PySem.F.type_str_join (mt_joinK (K:=K)) pe_str (pa_cons (pe_comp (sc:=defScope s_law_word) (Nm:=["_law_flow_here","_law_letters_here","_law_most","_law_again","_law_many","_law_piece"]) (own:=["_law_k"]) (fr:=[0,1]) ⟨rfl,by decide +kernel,by decide +kernel,by decide +kernel,by decide +kernel⟩ (by rfl) (gfr_name (by decide)) (pi_range1 (by rfl) Z.range (pa_cons (pe_op op_add pe_int (pe_c C_law_pick (hr.mono (by decide)) (pa_cons (pv 0) (pa_cons pe_int pa_nil)))) pa_nil)) (fun d=>(pg_name (i:=0) nd_law_word_0 (by rfl) (Or.inl (by rfl)))) (fun d=>pts_nil) (fun d=>(pe_ix ix_str (pv 2) (pe_c C_law_pick (hr.mono (by decide)) (pa_cons (pv 1) (pa_cons (pe_callB call_len_str (by rfl) Z.len bt_len (pa_cons (pv 2) pa_nil)) pa_nil))) (fun _ _=>rfl)))) pa_nil))) 
    (pss_one (ps_ret (pe_slice sl_str (pe_op op_mul_str (pv 5) (pv 4)) po_none (po_some (pv 4)))))) pss_nil) 
   (pss_one (ps_ret (pe_bmK (K:=K) PySem.F.plainAttrs_str PySem.F.slot_str_join PySem.F.type_str_join (mt_joinK (K:=K)) pe_str (pa_cons (pe_comp (sc:=defScope s_law_word) (Nm:=["_law_flow_here","_law_letters_here","_law_most","_law_again","_law_many","_law_piece"]) (own:=["_law_k"]) (fr:=[0,1]) ⟨rfl,by decide +kernel,by decide +kernel,by decide +kernel,by decide +kernel⟩ (by rfl) (gfr_name (by decide)) (pi_range1 (by rfl) Z.range (pa_cons (pv 4) pa_nil)) (fun d=>(pg_name (i:=0) nd_law_word_1 (by rfl) (Or.inl (by rfl)))) (fun d=>pts_nil) (fun d=>(pe_ix ix_str (pv 2) (pe_c C_law_pick (hr.mono (by decide)) (pa_cons (pv 1) (pa_cons (pe_callB call_len_str (by rfl) Z.len bt_len (pa_cons (pv 2) pa_nil)) pa_nil))) (fun _ _=>rfl)))) pa_nil))))))),?_⟩
 refine (let zz0:TS:=_; let zz1:TS:=_; let zz2:TS:=tSeq _ zz1; let zz3:TS:=tSeq (tIfS _ zz2 _) zz0; let zz4:TS:=tSeq _ zz3; (?_:tSeq _ zz4 _ _ _))
 refine ⟨_,rfl,p,sc,4,rfl,by decide,by decide,FA,fun r0 xs0 _ _ hx0=>⟨rfl,?_⟩⟩
 have FA0:=FA.go hx0
 have d0:Drew H (upd H p (.lst xs0)) p:=Drew.upd _
 refine ⟨_,rfl,_,rfl,_,_,rfl,rfl,p,sc,m+1,rfl,by omega,by omega,FA0,fun n xs1 hn0 hn1 hx1=>?_⟩
 have FA1:=FA0.go hx1
 have d1:Drew H (upd (upd H p (.lst xs0)) p (.lst xs1)) p:=drew_go d0 _
 refine ⟨_,rfl,_,rfl,?_⟩
 refine ite2 (fun _=>?_) (fun _=>?_)
 ·refine ⟨rfl,_,rfl,p,sc,3,rfl,by decide,by decide,FA1,fun r2 xs2 hr0 hr1 hx2=>⟨_,_,rfl,rfl,_,rfl,by omega,by omega,?_⟩⟩
  refine comp_range (lo:=0) (k:=(1+r2).toNat) (Drawn H p sc l) (Nat.lt_of_le_of_lt (show (1+r2).toNat≤3 by omega) (by decide)) ⟨[],rfl,rfl,fun c hc=>absurd hc (by simp),FA1.go hx2,drew_go d1 _⟩ drawn_len
   (fun i acc H2 hi hp=>cyes (drawn_turn hl0 hl1 rfl rfl hp)) (fun acc H2 hp q hq=>?_)
  obtain ⟨ys,rfl,hyl,hyc,FA2,dr⟩:=hp
  have hy3:ys.length≤3:=by omega
  refine ⟨_,q,ys.map one,rfl,rfl,SqL.of (by rw [upd_same,oneS_map]),join_ones_len ys (by omega),?_⟩
  have hj:=join_ones ys
  have hjl:(Txt.join (Str.ofString "") (ys.map one)).length=ys.length:=by
   have:(Txt.join (Str.ofString "") (ys.map one)).cps.toList.length=ys.length:=by rw [hj]
   simpa [Str.length] using this
  refine ⟨_,rfl,_,rfl,_,n,rfl,rfl,hn0,by omega,by omega,_,rfl,_,rfl,_,rfl,?_,?_⟩
  ·show ((List.replicate n.toNat _).flatten.toArray).size≤sizeLine
   rw [List.size_toArray,len_rep,Array.length_toList]
   have e:(Txt.join (Str.ofString "") (ys.map one)).cps.size=ys.length:=hjl
   rw [e]
   have:n.toNat * ys.length≤100 * 3:=Nat.mul_le_mul (by omega) hy3
   exact line_le (by omega)
  ·obtain ⟨c1,c2⟩:=cut_le (repS (Txt.join (Str.ofString "") (ys.map one)) n.toNat) n hn0
   refine k _ _ (by omega) (fun c hc=>?_) (dr.trans (Drew.same (same_new hq _))) (FA2.same (same_new hq _))
   have h1:=c2 c hc
   have h2:c∈(List.replicate n.toNat (Txt.join (Str.ofString "") (ys.map one)).cps.toList).flatten:=by simpa [repS] using h1
   have h3:=rep_mem h2
   rw [hj] at h3
   exact hyc c h3
 ·refine ⟨rfl,_,rfl,_,rfl,by omega,by omega,?_⟩
  refine comp_range (lo:=0) (k:=n.toNat) (Drawn H p sc l) (Nat.lt_of_le_of_lt (show n.toNat≤100 by omega) (by decide)) ⟨[],rfl,rfl,fun c hc=>absurd hc (by simp),FA1,d1⟩ drawn_len
   (fun i acc H2 hi hp=>cyes (drawn_turn hl0 hl1 rfl rfl hp)) (fun acc H2 hp q hq=>?_)
  obtain ⟨ys,rfl,hyl,hyc,FA2,dr⟩:=hp
  refine ⟨_,q,ys.map one,rfl,rfl,SqL.of (by rw [upd_same,oneS_map]),join_ones_len ys (by omega),?_⟩
  refine k _ _ ?_ (fun c hc=>?_) (dr.trans (Drew.same (same_new hq _))) (FA2.same (same_new hq _))
  ·rw [join_ones]; omega
  ·rw [join_ones] at hc
   exact hyc c hc
def emb:List Nat→List Nat→Nat
 | [],_=>1
 | _ :: _,[]=>0
 | c :: w,d :: t=>emb (c :: w) t+if c=d then emb w t else 0
theorem emb_nil (t:List Nat):emb [] t=1:=by cases t <;> rfl
theorem emb_cc (c:Nat) (w:List Nat) (d:Nat) (t:List Nat):emb (c :: w) (d :: t)=emb (c :: w) t+if c=d then emb w t else 0:=rfl
theorem emb_end {w:List Nat} (h:w≠[]):emb w []=0:=by
 cases w with
 | nil=>exact absurd rfl h
 | cons c r=>rfl
theorem emb_more (w:List Nat) (d:Nat) (t:List Nat):emb w t≤emb w (d :: t):=by
 cases w with
 | nil=>rw [emb_nil,emb_nil]; exact Nat.le_refl _
 | cons c w=>rw [emb_cc]; omega
theorem emb_tail (c:Nat) (w:List Nat):∀ t:List Nat,0 < emb (c :: w) t→0 < emb w t
 | [],h=>absurd h (Nat.lt_irrefl 0)
 | d :: t,h=>by
  rw [emb_cc] at h
  have m:=emb_more w d t
  by_cases z:0 < emb (c :: w) t
  ·have:=emb_tail c w t z
   omega
  ·by_cases e:c=d
   ·rw [if_pos e] at h; omega
   ·rw [if_neg e] at h; omega
def adv (w:List Nat) (k c:Nat):Nat:=if k < w.length∧w.getD k 0=c then k+1 else k
def spB (w t:List Nat):Bool:=decide (t.foldl (adv w) 0=w.length)
theorem adv_emb (w:List Nat):∀ (t:List Nat) (k:Nat),k≤w.length→(t.foldl (adv w) k=w.length↔0 < emb (w.drop k) t)
 | [],k,hk=>by
  show k=w.length↔_
  by_cases e:k=w.length
  ·subst e
   rw [List.drop_length,emb_nil]
   simp
  ·rw [emb_end (by
    intro z
    have:=congrArg List.length z
    rw [List.length_drop,List.length_nil] at this
    omega)]
   omega
 | d :: t,k,hk=>by
  rw [List.foldl_cons]
  by_cases hl:k < w.length
  ·have hd:w.drop k=w.getD k 0 :: w.drop (k+1):=by
    rw [List.drop_eq_getElem_cons hl,List.getD_eq_getElem?_getD,List.getElem?_eq_getElem hl]
    rfl
   by_cases e:w.getD k 0=d
   ·have ea:adv w k d=k+1:=by unfold adv; rw [if_pos ⟨hl,e⟩]
    rw [ea,adv_emb w t (k+1) hl,hd,emb_cc,if_pos e]
    constructor
    ·intro h; omega
    ·intro h
     by_cases z:0 < emb (w.getD k 0 :: w.drop (k+1)) t
     ·exact emb_tail _ _ t z
     ·omega
   ·have ea:adv w k d=k:=by unfold adv; rw [if_neg fun z=>e z.2]
    rw [ea,adv_emb w t k hk,hd,emb_cc,if_neg e]
    simp
  ·have e:k=w.length:=by omega
   have ea:adv w k d=k:=by unfold adv; rw [if_neg fun z=>hl z.1]
   rw [ea,adv_emb w t k hk]
   subst e
   rw [List.drop_length,emb_nil,emb_nil]
theorem spB_is (w t:List Nat):spB w t=decide (0 < emb w t):=by
 unfold spB
 rw [Bool.eq_iff_iff,decide_eq_true_eq,decide_eq_true_eq,adv_emb w t 0 (Nat.zero_le _),List.drop_zero]
structure NextAt (t:List Nat) (s c k:Nat):Prop where
 ge:s≤k
 lt:k < t.length
 at_:t.getD k 0=c
 first:∀ v,s≤v→v < k→t.getD v 0≠c
def nx (t:List Nat) (s c:Nat):Option Nat:=((List.range' s (t.length - s)).filter fun v=>decide (t.getD v 0=c)).head?
theorem head_filter {p:Nat→Bool}:∀ (n s k:Nat),((List.range' s n).filter p).head? = some k↔(s≤k∧k < s+n∧p k=true∧∀ v,s≤v→v < k→p v=false)
 | 0,s,k=>by
  constructor
  ·intro h; simp at h
  ·intro h; omega
 | n+1,s,k=>by
  rw [List.range'_succ]
  by_cases hp:p s=true
  ·rw [List.filter_cons_of_pos hp,List.head?_cons]
   constructor
   ·intro h
    have e:s=k:=Option.some.inj h
    subst e
    exact ⟨Nat.le_refl _,by omega,hp,fun v h1 h2=>by omega⟩
   ·intro ⟨h1,h2,h3,h4⟩
    by_cases e:s=k
    ·rw [e]
    ·have:=h4 s (Nat.le_refl _) (by omega)
     rw [hp] at this
     cases this
  ·have hp':p s=false:=by simpa using hp
   rw [List.filter_cons_of_neg hp,head_filter n (s+1) k]
   constructor
   ·intro ⟨h1,h2,h3,h4⟩
    refine ⟨by omega,by omega,h3,fun v g1 g2=>?_⟩
    by_cases e:v=s
    ·subst e; exact hp'
    ·exact h4 v (by omega) g2
   ·intro ⟨h1,h2,h3,h4⟩
    have:s≠k:=fun e=>by rw [e,h3] at hp'; cases hp'
    exact ⟨by omega,by omega,h3,fun v g1 g2=>h4 v (by omega) g2⟩
theorem head_none {p:Nat→Bool} (n s:Nat):((List.range' s n).filter p).head? = none↔∀ v,s≤v→v < s+n→p v=false:=by
 rw [List.head?_eq_none_iff,List.filter_eq_nil_iff]
 constructor
 ·intro h v h1 h2
  have:=h v (List.mem_range'_1.mpr ⟨h1,h2⟩)
  simpa using this
 ·intro h v hv
  obtain ⟨h1,h2⟩:=List.mem_range'_1.mp hv
  rw [h v h1 h2]
  simp
theorem nx_some {t:List Nat} {s c k:Nat} (hs:s≤t.length):nx t s c=some k↔NextAt t s c k:=by
 unfold nx
 rw [head_filter]
 constructor
 ·intro ⟨h1,h2,h3,h4⟩
  exact ⟨h1,by omega,of_decide_eq_true h3,fun v g1 g2=>of_decide_eq_false (h4 v g1 g2)⟩
 ·intro h
  exact ⟨h.ge,by have:=h.lt; omega,decide_eq_true h.at_,fun v g1 g2=>decide_eq_false (h.first v g1 g2)⟩
theorem nx_none {t:List Nat} {s c:Nat} (hs:s≤t.length):nx t s c=none↔∀ v,s≤v→v < t.length→t.getD v 0≠c:=by
 unfold nx
 rw [head_none]
 constructor
 ·intro h v h1 h2
  exact of_decide_eq_false (h v h1 (by omega))
 ·intro h v h1 h2
  exact decide_eq_false (h v h1 (by omega))
def gp (t:List Nat):List Nat→Nat→Option (List Nat)
 | [],_=>some []
 | c :: w,s=>match nx t s c with
  | none=>none
  | some k=>(gp t w (k+1)).map (k :: ·)
theorem drop_cons {t:List Nat} {n:Nat} (h:n < t.length):t.drop n=t.getD n 0 :: t.drop (n+1):=by
 rw [List.drop_eq_getElem_cons h,List.getD_eq_getElem?_getD,List.getElem?_eq_getElem h]
 rfl
theorem emb_skip {t w:List Nat} {c:Nat}:∀ (n s:Nat),s+n≤t.length→(∀ v,s≤v→v < s+n→t.getD v 0≠c)→emb (c :: w) (t.drop s)=emb (c :: w) (t.drop (s+n))
 | 0,s,_,_=>rfl
 | n+1,s,h,hne=>by
  rw [drop_cons (show s < t.length by omega),emb_cc,if_neg (fun e=>hne s (Nat.le_refl _) (by omega) e.symm),Nat.add_zero,emb_skip n (s+1) (by omega) (fun v h1 h2=>hne v (by omega) (by omega)),show s+1+n=s+(n+1) by omega]
theorem emb_next {t w:List Nat} {s c k:Nat} (h:NextAt t s c k):emb (c :: w) (t.drop s)=emb (c :: w) (t.drop (k+1))+emb w (t.drop (k+1)):=by
 obtain ⟨h1,h2,h3,h4⟩:=h
 have e:=emb_skip (w:=w) (k - s) s (by omega) (fun v g1 g2=>h4 v g1 (by omega))
 rw [e,show s+(k - s)=k by omega,drop_cons h2,emb_cc,if_pos h3.symm]
theorem emb_no {t w:List Nat} {s c:Nat} (hs:s≤t.length) (h:∀ v,s≤v→v < t.length→t.getD v 0≠c):emb (c :: w) (t.drop s)=0:=by
 rw [emb_skip (t.length - s) s (by omega) (fun v h1 h2=>h v h1 (by omega)),show s+(t.length - s)=t.length by omega,List.drop_length]
 rfl
theorem gp_some (t:List Nat):∀ (w:List Nat) (s:Nat),s≤t.length→((gp t w s).isSome=true↔0 < emb w (t.drop s))
 | [],s,hs=>by rw [emb_nil]; simp [gp]
 | c :: w,s,hs=>by
  unfold gp
  cases e:nx t s c with
  | none=>
   rw [emb_no hs ((nx_none hs).mp e)]
   simp
  | some k=>
   have h:=(nx_some hs).mp e
   have ih:=gp_some t w (k+1) h.lt
   rw [emb_next h]
   show ((gp t w (k+1)).map (k :: ·)).isSome=true↔_
   rw [Option.isSome_map,ih]
   constructor
   ·intro z; omega
   ·intro z
    by_cases y:0 < emb (c :: w) (t.drop (k+1))
    ·exact emb_tail c w _ y
    ·omega
theorem len_list (z:Str):z.cps.toList.length=z.length:=by simp [Str.length]
theorem same_put {H H':Hp} {c:Addr} (e:Same H H') (h:H c=none) (o:HO):Same H (upd H' c o):=fun b u q=>by
 rw [upd_ne (ne_of_none q h)]
 exact e b u q
theorem atI_code {w:List Nat} {n:Nat} (h:n < w.length):atI w ((n:Nat):Int)=some (w.getD n 0):=atI_nat (by rw [List.getD_eq_getElem?_getD,List.getElem?_eq_getElem h]; rfl)
theorem one_eq (a b:Nat):(V.str ⟨#[a]⟩=V.str ⟨#[b]⟩)↔a=b:=by
 constructor
 ·intro h
  injection h with h
  injection h with h
  simpa using h
 ·intro h
  rw [h]
theorem int_eq (a b:Nat):decide (V.int ((a:Nat):Int)=V.int ((b:Nat):Int))=decide (a=b):=by
 rw [Bool.eq_iff_iff,decide_eq_true_eq,decide_eq_true_eq]
 constructor
 ·intro h
  injection h with h
  omega
 ·intro h
  rw [h]
def nI (n:Nat):V:=.int (n:Int)
def lbv:Option Nat→Int
 | none=>0
 | some k=>(k:Int)+1
theorem find_nx (t:Str) (s c:Nat) (hs:s≤t.length):Txt.find3 t ⟨#[c]⟩ ((s:Nat):Int)+1=lbv (nx t.cps.toList s c):=by
 have hl:=len_list t
 have hs':s≤t.cps.toList.length:=by omega
 have hD:∀ v:Nat,t.cps.getD v 0=t.cps.toList.getD v 0:=fun v=>by
  rw [List.getD_eq_getElem?_getD,Array.getElem?_toList,Array.getD_eq_getD_getElem?]
 have hf:PySem.fromIndex t.length ((s:Nat):Int)=s:=by
  unfold PySem.fromIndex
  rw [if_neg (by omega)]
  omega
 rcases StrLaws.find3_spec t c ((s:Nat):Int) with ⟨e,hn⟩ | ⟨k,hk,h1,h2,h3,h4⟩
 ·rw [hf] at hn
  rw [e,(nx_none hs').mpr fun v g1 g2=>by rw [← hD]; exact hn v g1 (by omega)]
  rfl
 ·rw [hf] at h1 h4
  rw [hk,(nx_some hs').mpr ⟨h1,by omega,by rw [← hD]; exact h3,fun v g1 g2=>by rw [← hD]; exact h4 v g1 g2⟩]
  rfl
inductive spLBI (vs:List V) (H:Hp) (Q:VK):Prop
 | mk (t:Str) (s c:Nat) (h1:vs=[.str t,nI s,.str ⟨#[c]⟩]) (h2:s≤t.length) (h3:Q (.int (lbv (nx t.cps.toList s c))) H):spLBI vs H Q
def spLB:Sp:=fun vs H Q u3_=>spLBI vs H Q
theorem ok_left_behind {f:Addr} {fd:FuncData} (F:Fun K "left_behind" "left_behind" s_left_behind f fd) (Z:Blt mg):FnOk P w K mg base CX0 1 f fd ["text","start","letter"] spLB:=by
 refine F.ok sc_left_behind (fun vs H Q E h=>?_) (fun cdv A outer s H vs Q E hr h=>?_)
 ·obtain ⟨t,s,c,rfl,_⟩:=h
  rfl
 obtain ⟨t,s',c,rfl,hs,k⟩:=h
 refine ⟨_,(pss_one (ps_ret (pe_op op_add (pe_bmK (K:=K) PySem.F.plainAttrs_str PySem.F.slot_str_find PySem.F.type_str_find mt_find3 (pv 0) (pa_cons (pv 2) (pa_cons (pv 1) pa_nil))) pe_int))),?_⟩
 refine ⟨_,rfl,rfl,_,rfl,_,rfl,t,_,_,rfl,rfl,_,_,rfl,rfl,?_⟩
 show Q (.int (Txt.find3 t ⟨#[c]⟩ ((s':Nat):Int)+1)) H
 rw [find_nx t s' c hs]
 exact k
def In (l z:Str):Prop:=∀ c∈z.cps.toList,c∈l.cps.toList
theorem In.app {l a b:Str} (h:In l a) (h':In l b):In l (a ++ b):=fun c hc=>by
 have hc:c∈(a.cps ++ b.cps).toList:=hc
 rw [Array.toList_append] at hc
 exact (List.mem_append.mp hc).elim (h c) (h' c)
theorem In.cut {l z:Str} (h:In l z) (lo hi:Option Int):In l (Txt.slice z lo hi):=fun c hc=>by
 rw [slice_list] at hc
 exact h c (List.mem_of_mem_drop (List.mem_of_mem_take hc))
theorem In.one {l:Str} {c:Nat} (h:c∈l.cps.toList):In l ⟨#[c]⟩:=fun d hd=>by
 have hd:d∈[c]:=hd
 rw [List.mem_singleton.mp hd]
 exact h
theorem In.rep {l z:Str} (h:In l z) (n:Nat):In l (repS z n):=fun c hc=>by
 have hc:c∈(List.replicate n z.cps.toList).flatten.toArray.toList:=hc
 exact h c (rep_mem (by simpa using hc))
inductive spOtherI (vs:List V) (H:Hp) (Q:VK):Prop
 | mk (p sc:Addr) (l t:Str) (h1:vs=[.ref p,.str l,.str t]) (h2:0 < l.length) (h3:l.length≤100) (h4:t.length≤100) (h5:In l t) (h6:FlowAt H p sc) (h7:∀ z H',z.length≤1000→In l z→Drew H H' p→FlowAt H' p sc→Q (.str z) H'):spOtherI vs H Q
def spOther:Sp:=fun vs H Q u3_=>spOtherI vs H Q
theorem ok_law_otherwise {f:Addr} {fd:FuncData} (F:Fun K "_law_otherwise" "_law_otherwise" s_law_otherwise f fd) (Z:Blt mg) (C_law_pick:Cal P w K mg base "_law_pick" 1 ["_law_flow_here","_law_many"] spPick):FnOk P w K mg base CX0 2 f fd ["_law_flow_here","_law_letters_here","_law_text"] spOther:=by
 refine F.ok sc_law_otherwise (fun vs H Q E h=>?_) (fun cdv A outer s H vs Q E hr h=>?_)
 ·obtain ⟨p,sc,l,t,rfl,_⟩:=h
  rfl
 obtain ⟨p,sc,l,t,rfl,hl0,hl1,ht,ti,FA,k⟩:=h
 refine ⟨_,(pss_cons (ps_set (i:=3) sc_law_otherwise.nd (by rfl) (Or.inl (by rfl)) (pe_c C_law_pick (hr.mono (by decide)) (pa_cons (pv 0) (pa_cons pe_int pa_nil)))) 
   (pss_cons (ps_set (i:=4) sc_law_otherwise.nd (by rfl) (Or.inl (by rfl)) (pe_c C_law_pick (hr.mono (by decide)) (pa_cons (pv 0) (pa_cons (pe_op op_add (pe_callB call_len_str (by rfl) Z.len bt_len (pa_cons (pv 2) pa_nil)) pe_int) pa_nil)))) 
   (pss_cons (ps_set (i:=5) sc_law_otherwise.nd (by rfl) (Or.inl (by rfl)) (pe_ix ix_str (pv 1) (pe_c C_law_pick (hr.mono (by decide)) (pa_cons (pv 0) (pa_cons (pe_callB call_len_str (by rfl) Z.len bt_len (pa_cons (pv 1) pa_nil)) pa_nil))) (fun _ _=>rfl))) 
   (pss_cons (ps_if (pt_cmpR op_eq (pv 3) pe_int (nomark _)) 
    (pss_one (ps_ret (pe_op op_add_str (pe_slice sl_str (pv 2) po_none (po_some (pv 4))) (pe_slice sl_str (pv 2) (po_some (pe_op op_add (pv 4) pe_int)) po_none)))) pss_nil) 
   (pss_cons (ps_if (pt_cmpR op_eq (pv 3) pe_int (nomark _)) 
    (pss_one (ps_ret (pe_op op_add_str (pe_op op_add_str (pe_slice sl_str (pv 2) po_none (po_some (pv 4))) (pv 5)) (pe_slice sl_str (pv 2) (po_some (pv 4)) po_none)))) pss_nil) 
   (pss_cons (ps_if (pt_cmpR op_eq (pv 3) pe_int (nomark _)) 
    (pss_one (ps_ret (pe_op op_add_str (pe_op op_add_str (pe_slice sl_str (pv 2) po_none (po_some (pv 4))) (pv 5)) (pe_slice sl_str (pv 2) (po_some (pe_op op_add (pv 4) pe_int)) po_none)))) pss_nil) 
   (pss_cons (ps_if (pt_cmpR op_eq (pv 3) pe_int (nomark _)) 
    (pss_one (ps_ret (pe_op op_add_str (pe_op op_add_str (pe_slice sl_str (pv 2) po_none (po_some (pv 4))) (pe_slice sl_str (pv 2) (po_some (pv 4)) (po_some (pe_op op_add (pv 4) pe_int)))) (pe_slice sl_str (pv 2) (po_some (pv 4)) po_none)))) pss_nil) 
   (pss_cons (ps_par (i:=6) (j:=7) (by rfl) sc_law_otherwise.nd (by rfl) (by rfl) (by decide) (by rfl) (by rfl) (pa_cons (pe_slice sl_str (pv 2) (po_some (pv 4)) (po_some (pe_op op_add (pv 4) pe_int))) (pa_cons (pe_slice sl_str (pv 2) (po_some (pe_op op_add (pv 4) pe_int)) (po_some (pe_op op_add (pv 4) pe_int))) pa_nil)) (by rfl)) 
   (pss_one (ps_ret (pe_op op_add_str (pe_op op_add_str (pe_op op_add_str (pe_slice sl_str (pv 2) po_none (po_some (pv 4))) (pv 7)) (pv 6)) (pe_slice sl_str (pv 2) (po_some (pe_op op_add (pv 4) pe_int)) po_none)))))))))))),?_⟩
 refine (let zz0:TS:=_; let zz1:TS:=tSeq _ zz0; let zz2:TS:=tSeq _ zz1; let zz3:TS:=tSeq _ zz2; let zz4:TS:=tSeq _ zz3; let zz5:TS:=tSeq _ zz4; let zz6:TS:=tSeq _ zz5; let zz7:TS:=tSeq _ zz6; (?_:tSeq _ zz7 _ _ _))
 refine ⟨_,rfl,p,sc,5,rfl,by decide,by decide,FA,fun wy xs0 _ _ hx0=>?_⟩
 have FA0:=FA.go hx0
 refine ⟨_,rfl,_,rfl,t,rfl,line_le (by omega),_,_,rfl,rfl,p,sc,_,rfl,by omega,by omega,FA0,fun r xs1 hr0 hr1 hx1=>?_⟩
 have FA1:=FA0.go hx1
 refine ⟨_,rfl,_,rfl,_,rfl,l,rfl,line_le (by omega),p,sc,_,rfl,by omega,by omega,FA1,fun r2 xs2 hr20 hr21 hx2=>?_⟩
 obtain ⟨c,hc,ha⟩:=atI_sign hr20 hr21
 refine ⟨l,r2,c,rfl,rfl,line_le (by omega),ha,?_⟩
 have FA2:=FA1.go hx2
 have d2:Drew H (upd (upd (upd H p (.lst xs0)) p (.lst xs1)) p (.lst xs2)) p:=drew_go (drew_go (Drew.upd _) _) _
 have b:∀ lo hi,(Txt.slice t lo hi).length≤100:=fun lo hi=>Nat.le_trans (Txt.slice_le t lo hi) ht
 have h1:(⟨#[c]⟩:Str).length=1:=rfl
 have ci:=In.one hc
 have fin:∀ z:Str,z.length≤1000→In l z→Q (.str z) (upd (upd (upd H p (.lst xs0)) p (.lst xs1)) p (.lst xs2)):=fun z hz zi=>k z _ hz zi d2 FA2
 refine ⟨_,rfl,rfl,_,rfl,?_⟩
 refine ite2 (fun _=>?_) (fun _=>?_)
 ·have b1:=b none (some r)
  have b2:=b (some (r+1)) none
  refine ⟨_,rfl,_,rfl,_,rfl,t,rfl,line_le (by omega),_,rfl,_,rfl,_,_,rfl,rfl,_,rfl,t,rfl,line_le (by omega),_,_,rfl,rfl,line_le (by omega),fin _ ?_ (In.app (ti.cut _ _) (ti.cut _ _))⟩
  rw [Str.length_append]; omega
 refine ⟨_,rfl,rfl,_,rfl,?_⟩
 refine ite2 (fun _=>?_) (fun _=>?_)
 ·have b1:=b none (some r)
  have b2:=b (some r) none
  have b3:(Txt.slice t none (some r) ++ (⟨#[c]⟩:Str)).length=(Txt.slice t none (some r)).length+1:=by rw [Str.length_append,h1]
  refine ⟨_,rfl,_,rfl,_,rfl,t,rfl,line_le (by omega),_,rfl,_,_,rfl,rfl,line_le (by omega),_,rfl,_,rfl,_,rfl,t,rfl,line_le (by omega),_,_,rfl,rfl,line_le (by omega),fin _ ?_ (In.app (In.app (ti.cut _ _) ci) (ti.cut _ _))⟩
  rw [Str.length_append]; omega
 refine ⟨_,rfl,rfl,_,rfl,?_⟩
 refine ite2 (fun _=>?_) (fun _=>?_)
 ·have b1:=b none (some r)
  have b2:=b (some (r+1)) none
  have b3:(Txt.slice t none (some r) ++ (⟨#[c]⟩:Str)).length=(Txt.slice t none (some r)).length+1:=by rw [Str.length_append,h1]
  refine ⟨_,rfl,_,rfl,_,rfl,t,rfl,line_le (by omega),_,rfl,_,_,rfl,rfl,line_le (by omega),_,rfl,_,rfl,_,_,rfl,rfl,_,rfl,t,rfl,line_le (by omega),_,_,rfl,rfl,line_le (by omega),fin _ ?_ (In.app (In.app (ti.cut _ _) ci) (ti.cut _ _))⟩
  rw [Str.length_append]; omega
 refine ⟨_,rfl,rfl,_,rfl,?_⟩
 refine ite2 (fun _=>?_) (fun _=>?_)
 ·have b1:=b none (some r)
  have b2:=b (some r) (some (r+1))
  have b4:=b (some r) none
  have b3:(Txt.slice t none (some r) ++ Txt.slice t (some r) (some (r+1))).length=(Txt.slice t none (some r)).length+(Txt.slice t (some r) (some (r+1))).length:=Str.length_append ..
  refine ⟨_,rfl,_,rfl,_,rfl,t,rfl,line_le (by omega),_,rfl,_,rfl,_,rfl,_,rfl,_,_,rfl,rfl,_,rfl,t,rfl,line_le (by omega),_,_,rfl,rfl,line_le (by omega),_,rfl,_,rfl,_,rfl,t,rfl,line_le (by omega),_,_,rfl,rfl,line_le (by omega),fin _ ?_ (In.app (In.app (ti.cut _ _) (ti.cut _ _)) (ti.cut _ _))⟩
  rw [Str.length_append]; omega
 have b1:=b (some r) (some (r+1))
 have b2:=b (some (r+1)) (some (r+2))
 have b3:=b none (some r)
 have b4:=b (some (r+2)) none
 refine ⟨_,rfl,_,rfl,_,rfl,_,rfl,_,_,rfl,rfl,_,rfl,t,rfl,line_le (by omega),_,rfl,_,rfl,_,_,rfl,rfl,_,rfl,_,rfl,_,_,rfl,rfl,_,rfl,t,rfl,line_le (by omega),_,_,rfl,?_⟩
 have b5:(Txt.slice t none (some r) ++ Txt.slice t (some (r+1)) (some (r+2))).length=(Txt.slice t none (some r)).length+(Txt.slice t (some (r+1)) (some (r+2))).length:=Str.length_append ..
 have b6:(Txt.slice t none (some r) ++ Txt.slice t (some (r+1)) (some (r+2)) ++ Txt.slice t (some r) (some (r+1))).length=(Txt.slice t none (some r) ++ Txt.slice t (some (r+1)) (some (r+2))).length+(Txt.slice t (some r) (some (r+1))).length:=Str.length_append ..
 refine ⟨_,rfl,_,rfl,_,rfl,t,rfl,line_le (by omega),_,rfl,_,_,rfl,rfl,line_le (by omega),_,rfl,_,_,rfl,rfl,line_le (by omega),_,rfl,_,rfl,_,_,rfl,rfl,_,rfl,t,rfl,line_le (by omega),_,_,rfl,rfl,line_le (by omega),fin _ ?_ (In.app (In.app (In.app (ti.cut _ _) (ti.cut _ _)) (ti.cut _ _)) (ti.cut _ _))⟩
 rw [Str.length_append]; omega
abbrev Rw:=List Nat × Nat × Nat
def lbn:Option Nat→Nat
 | none=>0
 | some k=>k+1
def nb (t:List Nat) (s c:Nat):Nat:=lbn (nx t s c)
theorem nb_le {t:List Nat} {s c:Nat} (hs:s≤t.length):nb t s c≤t.length:=by
 unfold nb
 cases e:nx t s c with
 | none=>exact Nat.zero_le _
 | some k=>exact ((nx_some hs).mp e).lt
theorem nb_gt {t:List Nat} {s c:Nat} (hs:s≤t.length) (h:0 < nb t s c):s < nb t s c:=by
 unfold nb at *
 cases e:nx t s c with
 | none=>rw [e] at h; exact absurd h (Nat.lt_irrefl _)
 | some k=>exact Nat.lt_succ_of_le ((nx_some hs).mp e).ge
def pos (t:List Nat):List Nat→Nat→Option Nat
 | [],s=>some s
 | c :: w,s=>match nx t s c with
  | none=>none
  | some k=>pos t w (k+1)
theorem pos_le {t:List Nat}:∀ {w:List Nat} {s p:Nat},s≤t.length→pos t w s=some p→p≤t.length
 | [],s,p,hs,h=>by cases h; exact hs
 | c :: w,s,p,hs,h=>by
  unfold pos at h
  cases e:nx t s c with
  | none=>rw [e] at h; cases h
  | some k=>rw [e] at h; exact pos_le ((nx_some hs).mp e).lt h
theorem pos_snoc {t:List Nat} (c:Nat):∀ (w:List Nat) (s:Nat),pos t (w ++ [c]) s=(pos t w s).bind fun p=>(nx t p c).map (· + 1)
 | [],s=>by
  show pos t [c] s=(nx t s c).map (· + 1)
  unfold pos
  cases nx t s c <;> rfl
 | d :: w,s=>by
  show pos t (d :: (w ++ [c])) s=_
  unfold pos
  cases nx t s d with
  | none=>rfl
  | some k=>exact pos_snoc c w (k+1)
theorem pos_gp {t:List Nat}:∀ (w:List Nat) (s:Nat),(pos t w s).isSome=(gp t w s).isSome
 | [],s=>rfl
 | c :: w,s=>by
  unfold pos gp
  cases nx t s c with
  | none=>rfl
  | some k=>
   show (pos t w (k+1)).isSome=((gp t w (k+1)).map (k :: ·)).isSome
   rw [Option.isSome_map,pos_gp w (k+1)]
theorem pos_sp (t w:List Nat):(pos t w 0).isSome=spB w t:=by
 rw [pos_gp,spB_is]
 have h:=gp_some t w 0 (Nat.zero_le _)
 rw [List.drop_zero] at h
 cases e:(gp t w 0).isSome with
 | true=>rw [decide_eq_true (h.mp e)]
 | false=>
  rw [decide_eq_false fun z=>?_]
  rw [h.mpr z] at e
  cases e
theorem emb_len:∀ (w t:List Nat),0 < emb w t→w.length≤t.length∧(w.length=t.length→w=t)
 | [],[],_=>⟨Nat.le_refl _,fun _=>rfl⟩
 | [],d :: t,_=>⟨Nat.zero_le _,fun z=>by cases z⟩
 | c :: w,[],h=>absurd h (Nat.lt_irrefl _)
 | c :: w,d :: t,h=>by
  rw [emb_cc] at h
  by_cases z:0 < emb (c :: w) t
  ·have:=(emb_len (c :: w) t z).1
   refine ⟨by simp only [List.length_cons] at this ⊢; omega,fun y=>?_⟩
   simp only [List.length_cons] at this y
   omega
  ·by_cases e:c=d
   ·rw [if_pos e] at h
    have ih:=emb_len w t (by omega)
    refine ⟨by simp only [List.length_cons]; omega,fun y=>?_⟩
    rw [e,ih.2 (by simpa using y)]
   ·rw [if_neg e] at h
    omega
theorem sp_self (t:List Nat):spB t t=true:=by
 rw [spB_is]
 have:∀ t:List Nat,0 < emb t t:=fun t=>by
  induction t with
  | nil=>rw [emb_nil]; exact Nat.one_pos
  | cons c t ih=>rw [emb_cc,if_pos rfl]; omega
 exact decide_eq_true (this t)
theorem sp_same {a b:List Nat} (h1:spB a b=true) (h2:spB b a=true):a=b:=by
 rw [spB_is] at h1 h2
 have x:=emb_len a b (of_decide_eq_true h1)
 have y:=emb_len b a (of_decide_eq_true h2)
 exact x.2 (by omega)
def cands (L a b:List Nat) (rs:List Rw):List Rw:=rs.flatMap fun r=>L.map fun c=>(r.1 ++ [c],nb a r.2.1 c,nb b r.2.2 c)
def go:List Rw→List (Nat × Nat)→List Rw→List Nat ⊕ (List (Nat × Nat) × List Rw)
 | [],seen,fr=>.inr (seen,fr)
 | (w,x,y) :: rest,seen,fr=>if (decide (x=0) != decide (y=0))=true then .inl w else if 0 < x∧(x,y)∉seen then go rest (seen ++ [(x,y)]) (fr ++ [(w,x,y)]) else go rest seen fr
theorem go_parts {w:List Nat} {x y:Nat} {rest:List Rw} {seen:List (Nat × Nat)} {fr:List Rw} (h:(decide (x=0) != decide (y=0))=true):go ((w,x,y) :: rest) seen fr=.inl w:=by
 unfold go
 rw [if_pos h]
theorem go_new {w:List Nat} {x y:Nat} {rest:List Rw} {seen:List (Nat × Nat)} {fr:List Rw} (h:¬ (decide (x=0) != decide (y=0))=true) (h2:0 < x∧(x,y)∉seen):go ((w,x,y) :: rest) seen fr=go rest (seen ++ [(x,y)]) (fr ++ [(w,x,y)]):=by
 rw [go,if_neg h,if_pos h2]
theorem go_old {w:List Nat} {x y:Nat} {rest:List Rw} {seen:List (Nat × Nat)} {fr:List Rw} (h:¬ (decide (x=0) != decide (y=0))=true) (h2:¬ (0 < x∧(x,y)∉seen)):go ((w,x,y) :: rest) seen fr=go rest seen fr:=by
 rw [go,if_neg h,if_neg h2]
def bfs (L a b:List Nat):Nat→List Rw→List (Nat × Nat)→Option (List Nat)
 | 0,_,_=>none
 | n+1,rs,seen=>match rs with
  | []=>none
  | r :: rs'=>match go (cands L a b (r :: rs')) seen [] with
   | .inl w=>some w
   | .inr (seen',fr)=>bfs L a b n fr seen'
theorem bfs_nil (L a b:List Nat) (n:Nat) (seen:List (Nat × Nat)):bfs L a b n [] seen=none:=by cases n <;> rfl
theorem bfs_cons {L a b:List Nat} {n:Nat} {rs:List Rw} {seen:List (Nat × Nat)} (h:rs≠[]):bfs L a b (n+1) rs seen=(match go (cands L a b rs) seen [] with | .inl w=>some w | .inr (seen',fr)=>bfs L a b n fr seen'):=by
 cases rs with
 | nil=>exact absurd rfl h
 | cons r rs=>rfl
def part (a b:List Nat):Option (List Nat):=bfs (ltrs (a ++ b)) a b (a.length+1) [([],0,0)] []
theorem ltrs_comm (a b:List Nat):ltrs (a ++ b)=ltrs (b ++ a):=rise_eq _ _ (rise_ltrs _) (rise_ltrs _) fun y=>by
 rw [mem_ltrs,mem_ltrs,List.mem_append,List.mem_append,or_comm]
def sw (r:Rw):Rw:=(r.1,r.2.2,r.2.1)
def sp2 (p:Nat × Nat):Nat × Nat:=(p.2,p.1)
theorem go_swap:∀ (cs:List Rw) (seen:List (Nat × Nat)) (fr:List Rw),go (cs.map sw) (seen.map sp2) (fr.map sw)=(match go cs seen fr with | .inl w=>.inl w | .inr (s',f')=>.inr (s'.map sp2,f'.map sw))
 | [],seen,fr=>rfl
 | (w,x,y) :: rest,seen,fr=>by
  show go ((w,y,x) :: rest.map sw) _ _=_
  by_cases h:(decide (x=0) != decide (y=0))=true
  ·have h':(decide (y=0) != decide (x=0))=true:=by rw [bne_comm]; exact h
   rw [go_parts h,go_parts h']
  ·have h':¬ (decide (y=0) != decide (x=0))=true:=by rw [bne_comm]; exact h
   have hxy:x=0↔y=0:=by
    by_cases hx:x=0 <;> by_cases hy:y=0 <;> simp_all
   have hm:(y,x)∈seen.map sp2↔(x,y)∈seen:=by
    rw [List.mem_map]
    constructor
    ·rintro ⟨p,hp,e⟩
     have:p=(x,y):=by
      obtain ⟨p1,p2⟩:=p
      simp only [sp2,Prod.mk.injEq] at e
      rw [e.1,e.2]
     exact this▸hp
    ·intro hp
     exact ⟨(x,y),hp,rfl⟩
   by_cases h2:0 < x∧(x,y)∉seen
   ·have h2':0 < y∧(y,x)∉seen.map sp2:=⟨by omega,fun z=>h2.2 (hm.mp z)⟩
    rw [go_new h h2,go_new h' h2',← go_swap rest]
    rw [List.map_append,List.map_append]
    rfl
   ·have h2':¬ (0 < y∧(y,x)∉seen.map sp2):=fun z=>h2 ⟨by omega,fun q=>z.2 (hm.mpr q)⟩
    rw [go_old h h2,go_old h' h2',go_swap rest]
theorem cands_swap (L a b:List Nat) (rs:List Rw):cands L b a (rs.map sw)=(cands L a b rs).map sw:=by
 unfold cands
 rw [List.flatMap_map,List.map_flatMap]
 congr 1
 funext r
 rw [List.map_map]
 rfl
theorem bfs_swap (L a b:List Nat):∀ (n:Nat) (rs:List Rw) (seen:List (Nat × Nat)),bfs L b a n (rs.map sw) (seen.map sp2)=bfs L a b n rs seen
 | 0,_,_=>rfl
 | n+1,[],seen=>by rw [List.map_nil,bfs_nil,bfs_nil]
 | n+1,r :: rs,seen=>by
  rw [bfs_cons (by simp),bfs_cons (by simp),cands_swap]
  have:=go_swap (cands L a b (r :: rs)) seen []
  rw [List.map_nil] at this
  rw [this]
  cases go (cands L a b (r :: rs)) seen [] with
  | inl w=>rfl
  | inr p=>exact bfs_swap L a b n _ _
theorem mem_cands {L a b:List Nat} {rs:List Rw} {q:Rw}:q∈cands L a b rs↔∃ r∈rs,∃ c∈L,q=(r.1 ++ [c],nb a r.2.1 c,nb b r.2.2 c):=by
 unfold cands
 rw [List.mem_flatMap]
 constructor
 ·rintro ⟨r,hr,h⟩
  obtain ⟨c,hc,rfl⟩:=List.mem_map.mp h
  exact ⟨r,hr,c,hc,rfl⟩
 ·rintro ⟨r,hr,c,hc,rfl⟩
  exact ⟨r,hr,List.mem_map.mpr ⟨c,hc,rfl⟩⟩
structure GoR (cs:List Rw) (sn:List (Nat × Nat)) (f0:List Rw) (sn':List (Nat × Nat)) (f1:List Rw) (new:List Rw):Prop where
 fr:f1=f0 ++ new
 seen:sn'=sn ++ new.map (·.2)
 sub:∀ q∈new,q∈cs∧0 < q.2.1∧0 < q.2.2
 all:∀ q∈cs,(q.2.1=0↔q.2.2=0)∧(0 < q.2.1→q.2∈sn')
 nd:sn.Nodup→sn'.Nodup
theorem go_inr:∀ (cs:List Rw) (seen:List (Nat × Nat)) (fr:List Rw) {seen':List (Nat × Nat)} {fr':List Rw},go cs seen fr=.inr (seen',fr')→∃ new,GoR cs seen fr seen' fr' new
 | [],seen,fr,seen',fr',h=>by
  cases h
  exact ⟨[],by simp,by simp,fun _ h=>absurd h (by simp),fun _ h=>absurd h (by simp),fun z=>z⟩
 | (w,x,y) :: rest,seen,fr,seen',fr',h=>by
  by_cases h1:(decide (x=0) != decide (y=0))=true
  ·rw [go_parts h1] at h
   cases h
  ·have hxy:x=0↔y=0:=by
    by_cases hx:x=0 <;> by_cases hy:y=0 <;> simp_all
   by_cases h2:0 < x∧(x,y)∉seen
   ·rw [go_new h1 h2] at h
    obtain ⟨new,g⟩:=go_inr rest _ _ h
    refine ⟨(w,x,y) :: new,by rw [g.fr]; simp,by rw [g.seen]; simp,fun q hq=>?_,fun q hq=>?_,fun nd=>g.nd ?_⟩
    ·rcases List.mem_cons.mp hq with e | e
     ·subst e
      exact ⟨List.mem_cons_self,h2.1,by show 0 < y; omega⟩
     ·exact ⟨List.mem_cons_of_mem _ (g.sub q e).1,(g.sub q e).2⟩
    ·rcases List.mem_cons.mp hq with e | e
     ·subst e
      refine ⟨hxy,fun _=>?_⟩
      rw [g.seen]
      exact List.mem_append_left _ (List.mem_append_right _ List.mem_cons_self)
     ·exact g.all q e
    ·refine List.nodup_append.mpr ⟨nd,by simp,fun p hp q hq=>?_⟩
     rw [List.mem_singleton.mp hq]
     exact fun z=>h2.2 (z▸hp)
   ·rw [go_old h1 h2] at h
    obtain ⟨new,g⟩:=go_inr rest _ _ h
    refine ⟨new,g.fr,g.seen,fun q hq=>⟨List.mem_cons_of_mem _ (g.sub q hq).1,(g.sub q hq).2⟩,fun q hq=>?_,g.nd⟩
    rcases List.mem_cons.mp hq with e | e
    ·subst e
     refine ⟨hxy,fun hx=>?_⟩
     rw [g.seen]
     refine List.mem_append_left _ ?_
     by_cases z:(x,y)∈seen
     ·exact z
     ·exact absurd ⟨hx,z⟩ h2
    ·exact g.all q e
theorem go_inl:∀ (cs:List Rw) (seen:List (Nat × Nat)) (fr:List Rw) {w:List Nat},go cs seen fr=.inl w→∃ q∈cs,q.1=w∧(decide (q.2.1=0) != decide (q.2.2=0))=true
 | [],seen,fr,w,h=>by cases h
 | (v,x,y) :: rest,seen,fr,w,h=>by
  by_cases h1:(decide (x=0) != decide (y=0))=true
  ·rw [go_parts h1] at h
   cases h
   exact ⟨_,List.mem_cons_self,rfl,h1⟩
  ·by_cases h2:0 < x∧(x,y)∉seen
   ·rw [go_new h1 h2] at h
    obtain ⟨q,hq,r⟩:=go_inl rest _ _ h
    exact ⟨q,List.mem_cons_of_mem _ hq,r⟩
   ·rw [go_old h1 h2] at h
    obtain ⟨q,hq,r⟩:=go_inl rest _ _ h
    exact ⟨q,List.mem_cons_of_mem _ hq,r⟩
structure Lv (a b:List Nat) (i:Nat) (rs:List Rw):Prop where
 one:∀ r∈rs,pos a r.1 0=some r.2.1∧pos b r.1 0=some r.2.2
 len:∀ r∈rs,r.1.length=i∧i≤r.2.1∧i≤r.2.2
theorem Lv.le {a b:List Nat} {i:Nat} {rs:List Rw} (h:Lv a b i rs) {r:Rw} (hr:r∈rs):r.2.1≤a.length∧r.2.2≤b.length:=
 ⟨pos_le (Nat.zero_le _) (h.one r hr).1,pos_le (Nat.zero_le _) (h.one r hr).2⟩
theorem lv0 (a b:List Nat):Lv a b 0 [([],0,0)]:=
 ⟨fun r hr=>by rw [List.mem_singleton.mp hr]; exact ⟨rfl,rfl⟩,fun r hr=>by rw [List.mem_singleton.mp hr]; exact ⟨rfl,Nat.le_refl _,Nat.le_refl _⟩⟩
theorem pos_nb {t w:List Nat} {s c:Nat} (h:pos t w 0=some s):(0 < nb t s c→pos t (w ++ [c]) 0=some (nb t s c))∧(nb t s c=0→pos t (w ++ [c]) 0=none):=by
 rw [pos_snoc,h]
 unfold nb
 show (_→(nx t s c).map (· + 1)=_)∧(_→(nx t s c).map (· + 1)=none)
 cases nx t s c with
 | none=>exact ⟨fun z=>absurd z (Nat.lt_irrefl _),fun _=>rfl⟩
 | some k=>exact ⟨fun _=>rfl,fun z=>by cases z⟩
theorem Lv.next {L a b:List Nat} {i:Nat} {rs new:List Rw} {seen seen':List (Nat × Nat)} (h:Lv a b i rs) (g:GoR (cands L a b rs) seen [] seen' new new):Lv a b (i+1) new:=by
 constructor
 ·intro q hq
  obtain ⟨hc,h1,h2⟩:=g.sub q hq
  obtain ⟨r,hr,c,_,rfl⟩:=mem_cands.mp hc
  exact ⟨(pos_nb (h.one r hr).1).1 h1,(pos_nb (h.one r hr).2).1 h2⟩
 ·intro q hq
  obtain ⟨hc,h1,h2⟩:=g.sub q hq
  obtain ⟨r,hr,c,_,rfl⟩:=mem_cands.mp hc
  have l:=h.le hr
  have e:=h.len r hr
  have n1:=nb_gt l.1 h1
  have n2:=nb_gt l.2 h2
  refine ⟨?_,?_,?_⟩
  ·rw [List.length_append,e.1]; rfl
  ·show i+1≤nb a r.2.1 c
   omega
  ·show i+1≤nb b r.2.2 c
   omega
theorem bfs_parts {L a b:List Nat}:∀ (n i:Nat) (rs:List Rw) (seen:List (Nat × Nat)) {w:List Nat},Lv a b i rs→bfs L a b n rs seen=some w→spB w a≠spB w b∧0 < w.length
 | 0,i,rs,seen,w,h,e=>by cases e
 | n+1,i,[],seen,w,h,e=>by rw [bfs_nil] at e; cases e
 | n+1,i,r :: rs,seen,w,h,e=>by
  rw [bfs_cons (by simp)] at e
  cases g:go (cands L a b (r :: rs)) seen [] with
  | inl v=>
   rw [g] at e
   cases e
   obtain ⟨q,hq,rfl,hne⟩:=go_inl _ _ _ g
   obtain ⟨r',hr,c,_,rfl⟩:=mem_cands.mp hq
   have o:=h.one r' hr
   have p1:=pos_nb (c:=c) o.1
   have p2:=pos_nb (c:=c) o.2
   refine ⟨?_,by simp⟩
   rw [← pos_sp,← pos_sp]
   by_cases z1:nb a r'.2.1 c=0
   ·by_cases z2:nb b r'.2.2 c=0
    ·simp [z1,z2] at hne
    ·rw [p1.2 z1,p2.1 (by omega)]
     simp
   ·by_cases z2:nb b r'.2.2 c=0
    ·rw [p1.1 (by omega),p2.2 z2]
     simp
    ·simp [z1,z2] at hne
  | inr p=>
   obtain ⟨seen',fr⟩:=p
   rw [g] at e
   obtain ⟨new,G⟩:=go_inr _ _ _ g
   have ef:fr=new:=by rw [G.fr]; rfl
   subst ef
   exact bfs_parts n (i+1) fr seen' (h.next G) e
def Cl (L a b:List Nat) (R:List (Nat × Nat)) (p:Nat × Nat):Prop:=∀ c∈L,(nb a p.1 c=0↔nb b p.2 c=0)∧(0 < nb a p.1 c→(nb a p.1 c,nb b p.2 c)∈R)
theorem Cl.mono {L a b:List Nat} {R R':List (Nat × Nat)} {p:Nat × Nat} (h:Cl L a b R p) (k:∀ q∈R,q∈R'):Cl L a b R' p:=fun c hc=>⟨(h c hc).1,fun z=>k _ ((h c hc).2 z)⟩
theorem bfs_none {L a b:List Nat}:∀ (n i:Nat) (rs:List Rw) (seen:List (Nat × Nat)),Lv a b i rs→a.length < n+i→(∀ p,p=(0,0)∨p∈seen→p∈rs.map (·.2)∨Cl L a b seen p)→bfs L a b n rs seen=none→∃ R,(∀ p,p=(0,0)∨p∈R→Cl L a b R p)
 | 0,i,[],seen,h,hn,hc,e=>⟨seen,fun p hp=>(hc p hp).elim (fun z=>nomatch z) id⟩
 | 0,i,r :: rs,seen,h,hn,hc,e=>by
  have l:=(h.le (r:=r) List.mem_cons_self).1
  have:=(h.len r List.mem_cons_self).2.1
  omega
 | n+1,i,[],seen,h,hn,hc,e=>⟨seen,fun p hp=>(hc p hp).elim (fun z=>nomatch z) id⟩
 | n+1,i,r :: rs,seen,h,hn,hc,e=>by
  rw [bfs_cons (by simp)] at e
  cases g:go (cands L a b (r :: rs)) seen [] with
  | inl v=>rw [g] at e; cases e
  | inr p=>
   obtain ⟨seen',fr⟩:=p
   rw [g] at e
   obtain ⟨new,G⟩:=go_inr _ _ _ g
   have ef:fr=new:=by rw [G.fr]; rfl
   subst ef
   refine bfs_none n (i+1) fr seen' (h.next G) (by omega) (fun p hp=>?_) e
   have old:∀ p,p∈(r :: rs).map (·.2)→Cl L a b seen' p:=fun p hp c hc'=>by
    obtain ⟨r',hr,rfl⟩:=List.mem_map.mp hp
    have:=G.all _ (mem_cands.mpr ⟨r',hr,c,hc',rfl⟩)
    exact this
   have up:∀ q∈seen,q∈seen':=fun q hq=>by rw [G.seen]; exact List.mem_append_left _ hq
   have was:(p=(0,0)∨p∈seen)→p∈fr.map (·.2)∨Cl L a b seen' p:=fun z=>.inr ((hc p z).elim (old p) fun y=>y.mono up)
   rcases hp with z | z
   ·exact was (.inl z)
   ·rw [G.seen] at z
    rcases List.mem_append.mp z with y | y
    ·exact was (.inr y)
    ·exact .inl y
theorem nx_mem {t:List Nat} {s c k:Nat} (hs:s≤t.length) (h:nx t s c=some k):c∈t:=by
 have z:=(nx_some hs).mp h
 have hk:=z.lt
 have e:=z.at_
 rw [List.getD_eq_getElem?_getD,List.getElem?_eq_getElem hk] at e
 exact e▸List.getElem_mem hk
theorem closed_all {L a b:List Nat} {R:List (Nat × Nat)} (hL:∀ c,c∈a∨c∈b→c∈L) (hR:∀ p,p=(0,0)∨p∈R→Cl L a b R p) :
  ∀ (w:List Nat) (p:Nat × Nat),(p=(0,0)∨p∈R)→p.1≤a.length→p.2≤b.length→(pos a w p.1).isSome=(pos b w p.2).isSome
 | [],p,_,_,_=>rfl
 | c :: w,p,hp,h1,h2=>by
  unfold pos
  cases e1:nx a p.1 c with
  | none=>
   cases e2:nx b p.2 c with
   | none=>rfl
   | some k2=>
    have:=(hR p hp c (hL c (.inr (nx_mem h2 e2)))).1
    unfold nb at this
    rw [e1,e2] at this
    exact absurd (this.mp rfl) (Nat.succ_ne_zero _)
  | some k1=>
   have z:=hR p hp c (hL c (.inl (nx_mem h1 e1)))
   unfold nb at z
   rw [e1] at z
   cases e2:nx b p.2 c with
   | none=>
    rw [e2] at z
    exact absurd (z.1.mpr rfl) (Nat.succ_ne_zero _)
   | some k2=>
    rw [e2] at z
    exact closed_all hL hR w (k1+1,k2+1) (.inr (z.2 (Nat.succ_pos _))) ((nx_some h1).mp e1).lt ((nx_some h2).mp e2).lt
theorem part_none {a b:List Nat} (h:part a b=none):a=b:=by
 obtain ⟨R,hR⟩:=bfs_none (a.length+1) 0 _ _ (lv0 a b) (by omega) (fun p hp=>.inl (by
  rcases hp with z | z
  ·rw [z]; exact List.mem_cons_self
  ·cases z)) h
 have k:=closed_all (fun c hc=>(mem_ltrs c _).mpr (List.mem_append.mpr hc)) hR
 refine sp_same ?_ ?_
 ·have:=k a (0,0) (.inl rfl) (Nat.zero_le _) (Nat.zero_le _)
  rw [← pos_sp,← this,pos_sp,sp_self]
 ·have:=k b (0,0) (.inl rfl) (Nat.zero_le _) (Nat.zero_le _)
  rw [← pos_sp,this,pos_sp,sp_self]
theorem part_some {a b w:List Nat} (h:part a b=some w):spB w a≠spB w b∧0 < w.length:=bfs_parts _ 0 _ _ (lv0 a b) h
theorem bfs_more {L a b:List Nat}:∀ (n m i:Nat) (rs:List Rw) (seen:List (Nat × Nat)),Lv a b i rs→a.length < n+i→a.length < m+i→bfs L a b n rs seen=bfs L a b m rs seen
 | n,m,i,[],seen,h,hn,hm=>by rw [bfs_nil,bfs_nil]
 | 0,m,i,r :: rs,seen,h,hn,hm=>by
  have l:=(h.le (r:=r) List.mem_cons_self).1
  have:=(h.len r List.mem_cons_self).2.1
  omega
 | n+1,0,i,r :: rs,seen,h,hn,hm=>by
  have l:=(h.le (r:=r) List.mem_cons_self).1
  have:=(h.len r List.mem_cons_self).2.1
  omega
 | n+1,m+1,i,r :: rs,seen,h,hn,hm=>by
  rw [bfs_cons (by simp),bfs_cons (by simp)]
  cases g:go (cands L a b (r :: rs)) seen [] with
  | inl v=>rfl
  | inr p=>
   obtain ⟨seen',fr⟩:=p
   obtain ⟨new,G⟩:=go_inr _ _ _ g
   have ef:fr=new:=by rw [G.fr]; rfl
   subst ef
   exact bfs_more n m (i+1) fr seen' (h.next G) (by omega) (by omega)
theorem part_swap (a b:List Nat):part b a=part a b:=by
 have e:=bfs_swap (ltrs (a ++ b)) a b (b.length+1) [([],0,0)] []
 unfold part
 rw [ltrs_comm b a]
 have e':bfs (ltrs (a ++ b)) b a (b.length+1) [([],0,0)] []=bfs (ltrs (a ++ b)) a b (b.length+1) [([],0,0)] []:=e
 rw [e']
 rcases Nat.le_total a.length b.length with z | z
 ·exact bfs_more _ _ 0 _ _ (lv0 a b) (by omega) (by omega)
 ·have e2:=bfs_swap (ltrs (a ++ b)) a b (a.length+1) [([],0,0)] []
  have e2':bfs (ltrs (a ++ b)) b a (a.length+1) [([],0,0)] []=bfs (ltrs (a ++ b)) a b (a.length+1) [([],0,0)] []:=e2
  rw [← e',← e2']
  exact bfs_more _ _ 0 _ _ (lv0 b a) (by omega) (by omega)
theorem nodup_lt:∀ (n:Nat) (l:List Nat),l.Nodup→(∀ x∈l,x < n)→l.length≤n
 | 0,l,_,h=>by
  cases l with
  | nil=>exact Nat.le_refl _
  | cons x r=>exact absurd (h x List.mem_cons_self) (Nat.not_lt_zero _)
 | n+1,l,nd,h=>by
  by_cases z:n∈l
  ·have e:=List.length_erase_of_mem z
   have:=nodup_lt n (l.erase n) (nd.erase n) fun x hx=>by
    have q:=(nd.mem_erase_iff).mp hx
    have:=h x q.2
    have:=q.1
    omega
   have:0 < l.length:=List.length_pos_of_mem z
   omega
  ·have:=nodup_lt n l nd fun x hx=>by
    have:=h x hx
    have:x≠n:=fun e=>z (e▸hx)
    omega
   omega
theorem seen_le {m:Nat} {l:List (Nat × Nat)} (nd:l.Nodup) (h:∀ p∈l,p.1≤m∧p.2≤m):l.length≤(m+1) * (m+1):=by
 have:=nodup_lt ((m+1) * (m+1)) (l.map fun p=>p.1 * (m+1)+p.2) (by
  rw [List.nodup_iff_pairwise_ne,List.pairwise_map]
  rw [List.nodup_iff_pairwise_ne] at nd
  refine List.Pairwise.imp_of_mem (R:=(·≠·)) (fun {p q} hp hq ne e=>ne ?_) nd
  have h1:=h p hp
  have h2:=h q hq
  have d1:(p.1 * (m+1)+p.2) / (m+1)=p.1:=by
   rw [Nat.mul_comm,Nat.mul_add_div (by omega),Nat.div_eq_of_lt (by omega),Nat.add_zero]
  have d2:(q.1 * (m+1)+q.2) / (m+1)=q.1:=by
   rw [Nat.mul_comm,Nat.mul_add_div (by omega),Nat.div_eq_of_lt (by omega),Nat.add_zero]
  have e1:p.1=q.1:=by rw [← d1,← d2,e]
  rw [e1] at e
  exact Prod.ext e1 (by omega)) (fun x hx=>by
  obtain ⟨p,hp,rfl⟩:=List.mem_map.mp hx
  have h1:=h p hp
  have:p.1 * (m+1)≤m * (m+1):=Nat.mul_le_mul_right _ h1.1
  have:(m+1) * (m+1)=m * (m+1)+(m+1):=by rw [Nat.succ_mul]
  omega)
 rw [List.length_map] at this
 exact this
abbrev S (w:List Nat):Str:=⟨w.toArray⟩
theorem S_nil:Str.ofString "" = S []:=by decide +kernel
theorem S_len (w:List Nat):(S w).length=w.length:=by simp [Str.length]
theorem S_snoc (w:List Nat) (c:Nat):S w ++ (⟨#[c]⟩:Str)=S (w ++ [c]):=by
 show (⟨(S w).cps ++ #[c]⟩:Str)=_
 simp [S]
theorem S_of (z:Str):S z.cps.toList=z:=by
 cases z
 simp [S]
theorem lb_nb (t:List Nat) (s c:Nat):V.int (lbv (nx t s c))=nI (nb t s c):=by
 unfold nb
 cases nx t s c <;> rfl
def rv (r:Rw):List V:=[.str (S r.1),nI r.2.1,nI r.2.2]
inductive Rows (H:Hp):List V→List Rw→Prop where
 | nil:Rows H [] []
 | cons {a:Addr} {r:Rw} {vs:List V} {rs:List Rw} (h:H a=some (.tup (rv r))) (t:Rows H vs rs):Rows H (.ref a :: vs) (r :: rs)
def Tk (H H':Hp):Prop:=∀ b ys,H b=some (.tup ys)→H' b=some (.tup ys)
theorem Tk.same {H H':Hp} (e:Same H H'):Tk H H':=fun b ys h=>e b _ h
theorem Tk.lst {H:Hp} {l:Addr} {xs:List V} (h:H l=some (.lst xs)) (o:HO):Tk H (upd H l o):=fun b ys e=>by
 rw [upd_ne (ne_of e h fun z=>nomatch z)]
 exact e
theorem Tk.dct {H:Hp} {l:Addr} {xs:List (List Key × V)} (h:H l=some (.dT xs)) (o:HO):Tk H (upd H l o):=fun b ys e=>by
 rw [upd_ne (ne_of e h fun z=>nomatch z)]
 exact e
theorem Rows.keep {H H':Hp} (e:Tk H H'):∀ {vs:List V} {rs:List Rw},Rows H vs rs→Rows H' vs rs
 | _,_,.nil=>.nil
 | _,_,.cons h t=>.cons (e _ _ h) (t.keep e)
theorem Rows.snoc {H:Hp} {a:Addr} {r:Rw} (h:H a=some (.tup (rv r))):∀ {vs:List V} {rs:List Rw},Rows H vs rs→Rows H (vs ++ [.ref a]) (rs ++ [r])
 | _,_,.nil=>.cons h .nil
 | _,_,.cons h' t=>.cons h' (t.snoc h)
theorem Rows.len {H:Hp}:∀ {vs:List V} {rs:List Rw},Rows H vs rs→vs.length=rs.length
 | _,_,.nil=>rfl
 | _,_,.cons _ t=>by rw [List.length_cons,List.length_cons,t.len]
theorem Rows.at_ {H:Hp}:∀ {vs:List V} {rs:List Rw} {i:Nat} {x:V},Rows H vs rs→vs[i]? = some x→∃ a r,x=.ref a∧rs[i]? = some r∧H a=some (.tup (rv r))
 | _,_,i,x,.nil,h=>by simp at h
 | _,_,0,x,.cons (a:=a) (r:=r) h' t,h=>by
  cases h
  exact ⟨a,r,rfl,rfl,h'⟩
 | _,_,i+1,x,.cons h' t,h=>t.at_ (i:=i) (by simpa using h)
theorem cands_take {L a b:List Nat} {rs:List Rw} {i:Nat} {r:Rw} (h:rs[i]? = some r):cands L a b (rs.take (i+1))=cands L a b (rs.take i) ++ L.map fun c=>(r.1 ++ [c],nb a r.2.1 c,nb b r.2.2 c):=by
 unfold cands
 rw [List.take_add_one,h,List.flatMap_append]
 simp
theorem map_take {α β:Type} {f:α→β} {l:List α} {i:Nat} {x:α} (h:l[i]? = some x):(l.take (i+1)).map f=(l.take i).map f ++ [f x]:=by
 rw [List.take_add_one,h,List.map_append]
 rfl
theorem cands_len (L a b:List Nat) (rs:List Rw):(cands L a b rs).length=rs.length * L.length:=by
 unfold cands
 induction rs with
 | nil=>simp
 | cons r rs ih=>
  rw [List.flatMap_cons,List.length_append,ih,List.length_map,List.length_cons,Nat.succ_mul,Nat.add_comm]
inductive spLacksI (vs:List V) (H:Hp) (Q:VK):Prop
 | mk (p:Addr) (r:Rw) (h1:vs=[.ref p]) (h2:H p=some (.tup (rv r))) (h3:Q (.bl (decide (r.2.1=0) != decide (r.2.2=0))) H):spLacksI vs H Q
def spLacks:Sp:=fun vs H Q u3_=>spLacksI vs H Q
theorem nI_0 (n:Nat):decide (nI n=V.int 0)=decide (n=0):=int_eq n 0
theorem bl_ne (a b:Bool):(!decide (V.bl a=V.bl b))=(a != b):=by cases a <;> cases b <;> decide
theorem ok_lacks_in_one {f:Addr} {fd:FuncData} (F:Fun K "lacks_in_one" "lacks_in_one" s_lacks_in_one f fd) (Z:Blt mg):FnOk P w K mg base CX0 1 f fd ["row"] spLacks:=by
 refine F.ok sc_lacks_in_one (fun vs H Q E h=>?_) (fun cdv A outer s H vs Q E hr h=>?_)
 ·obtain ⟨p,r,rfl,_⟩:=h
  rfl
 obtain ⟨p,r,rfl,hp,k⟩:=h
 refine ⟨_,(pss_one (ps_ret (pe_cmpR op_ne (pe_cmpR op_eq (pe_ix (ix_tupK (K:=K)) (pv 0) pe_int (fun _ _=>rfl)) pe_int (nomark _)) (pe_cmpR op_eq (pe_ix (ix_tupK (K:=K)) (pv 0) pe_int (fun _ _=>rfl)) pe_int (nomark _)) (nomark _)))),?_⟩
 refine ⟨_,rfl,p,_,1,_,rfl,rfl,SqT.of hp,atI_nat (j:=1) rfl,rfl,_,rfl,p,_,2,_,rfl,rfl,SqT.of hp,atI_nat (j:=2) rfl,rfl,rfl,?_⟩
 rw [nI_0,nI_0,bl_ne]
 exact k
inductive spLongerI (vs:List V) (H:Hp) (Q:VK):Prop
 | mk (lp vp:Addr) (L:List Nat) (a b:Str) (xs:List V) (rs:List Rw) (h1:vs=[.ref lp,.str a,.str b,.ref vp]) (h2:H lp=some (.lst (L.map oneS))) (h3:H vp=some (.lst xs)) (h4:Rows H xs rs) (h5:(∀ r∈rs,r.1.length≤100∧r.2.1≤a.length∧r.2.2≤b.length)) (h6:L.length≤100) (h7:rs.length≤10000) (h8:∀ l ys H',H l=none→Same H H'→H' l=some (.lst ys)→Rows H' ys (cands L a.cps.toList b.cps.toList rs)→Q (.ref l) H'):spLongerI vs H Q
def spLonger:Sp:=fun vs H Q u3_=>spLongerI vs H Q
theorem ok_longer_rows {f:Addr} {fd:FuncData} (F:Fun K "longer_rows" "longer_rows" s_longer_rows f fd) (Z:Blt mg) (C_left_behind:Cal P w K mg base "left_behind" 1 ["text","start","letter"] spLB):FnOk P w K mg base CX0 2 f fd ["letters","one","other","level"] spLonger:=by
 refine F.ok sc_longer_rows (fun vs H Q E h=>?_) (fun cdv A outer s H vs Q E hr h=>?_)
 ·obtain ⟨lp,vp,L,a,b,xs,rs,rfl,_⟩:=h
  rfl
 obtain ⟨lp,vp,L,a,b,xs,rs,rfl,hlp,hvp,hR,hb,hL,hrs,k⟩:=h
 refine ⟨_,(pss_cons (ps_set (i:=4) sc_longer_rows.nd (by rfl) (Or.inl (by rfl)) (pe_lst pa_nil)) 
   (pss_cons (ps_for PassesOwn.never (by rfl) (pi_listK (K:=K) (pv 3)) (pg_tupK (K:=K) (n:=3) (by rfl) (pgs_cons (pg_name (i:=5) sc_longer_rows.nd (by rfl) (Or.inl (by rfl))) (pgs_cons (pg_name (i:=6) sc_longer_rows.nd (by rfl) (Or.inl (by rfl))) (pgs_cons (pg_name (i:=7) sc_longer_rows.nd (by rfl) (Or.inl (by rfl))) pgs_nil)))) 
    (pss_one (ps_for PassesOwn.never (by rfl) (pi_listK (K:=K) (pv 0)) (pg_name (i:=8) sc_longer_rows.nd (by rfl) (Or.inl (by rfl))) 
     (pss_one (ps_expr (pe_bmK (K:=K) PySem.F.plainAttrs_list PySem.F.slot_list_append PySem.F.type_list_append mt_append (pv 4) (pa_cons (pe_tup (pa_cons (pe_op op_add_str (pv 5) (pv 8)) (pa_cons (pe_c C_left_behind (hr.mono (by decide)) (pa_cons (pv 1) (pa_cons (pv 6) (pa_cons (pv 8) pa_nil)))) (pa_cons (pe_c C_left_behind (hr.mono (by decide)) (pa_cons (pv 2) (pa_cons (pv 7) (pa_cons (pv 8) pa_nil)))) pa_nil)))) pa_nil))))))) 
   (pss_one (ps_ret (pv 4))))),?_⟩
 refine (let zz0:TS:=_; let zz1:TS:=tSeq _ zz0; (?_:tSeq _ zz1 _ _ _))
 refine ⟨(by show 0≤sizeLine; decide),fun l hnl=>?_⟩
 have hxl:=hR.len
 refine ⟨_,rfl,vp,rfl,⟨_,SqL.of (same_new hnl _ _ _ hvp)⟩,?_⟩
 refine for_list (K:=K) (a:=vp) (xs:=xs) (fun i σ H2=>∃ (ys:List V) (v5 v6 v7 v8:Option V),σ=[some (.ref lp),some (.str a),some (.str b),some (.ref vp),some (.ref l),v5,v6,v7,v8]∧H2 l=some (.lst ys)∧Same H H2∧Rows H2 ys (cands L a.cps.toList b.cps.toList (rs.take i)))
  ⟨[],none,none,none,none,rfl,upd_same,same_new hnl _,.nil⟩ (fun i σ H2 _ h=>?_) ?_ ?_
 ·obtain ⟨ys,v5,v6,v7,v8,rfl,h1,h2,h3⟩:=h
  exact SqL.of (h2 _ _ hvp)
 ·rintro i x σ H2 hx ⟨ys,v5,v6,v7,v8,rfl,h2l,e2,R2⟩
  obtain ⟨ra,r,rfl,hr',hra⟩:=(hR.keep (Tk.same e2)).at_ hx
  obtain ⟨b1,b2,b3⟩:=hb r (List.mem_of_getElem? hr')
  have hi:i < rs.length:=(List.getElem?_eq_some_iff.mp hr').1
  refine ⟨ra,rv r,rfl,SqT.of hra,rfl,_,_,rfl,_,_,rfl,_,_,rfl,rfl,?_⟩
  refine ⟨_,rfl,lp,rfl,⟨_,SqL.of (e2 _ _ hlp)⟩,?_⟩
  refine for_list (K:=K) (a:=lp) (xs:=L.map oneS) (fun j σ H3=>∃ (ys:List V) (v8:Option V),σ=[some (.ref lp),some (.str a),some (.str b),some (.ref vp),some (.ref l),some (.str (S r.1)),some (nI r.2.1),some (nI r.2.2),v8]∧H3 l=some (.lst ys)∧Same H H3∧Rows H3 ys (cands L a.cps.toList b.cps.toList (rs.take i) ++ (L.take j).map fun c=>(r.1 ++ [c],nb a.cps.toList r.2.1 c,nb b.cps.toList r.2.2 c)))
   ⟨ys,v8,rfl,h2l,e2,by simpa using R2⟩ (fun j σ H3 _ h=>?_) ?_ ?_
  ·obtain ⟨ys,v8,rfl,h1,h2,h3⟩:=h
   exact SqL.of (h2 _ _ hlp)
  ·rintro j y σ H3 hy ⟨ys,v8,rfl,h3l,e3,R3⟩
   rw [List.getElem?_map] at hy
   cases hc:L[j]? with
   | none=>rw [hc] at hy; cases hy
   | some c=>
    rw [hc] at hy
    cases hy
    have hj:j < L.length:=(List.getElem?_eq_some_iff.mp hc).1
    have s1:(S r.1).length+(⟨#[c]⟩:Str).length≤1000:=by
     rw [S_len]
     show r.1.length+1≤1000
     omega
    refine ⟨_,rfl,.inl ⟨rfl,_,SqL.of h3l⟩,_,rfl,_,rfl,_,_,rfl,rfl,line_le s1,_,rfl,_,rfl,_,rfl,a,r.2.1,c,rfl,b2,_,rfl,_,rfl,_,rfl,b,r.2.2,c,rfl,b3,(by show 3≤sizeLine; decide),fun q hq=>?_⟩
    rw [lb_nb,lb_nb,S_snoc]
    have s3:=same_new hq (.tup [V.str (S (r.1 ++ [c])),nI (nb a.cps.toList r.2.1 c),nI (nb b.cps.toList r.2.2 c)])
    have h3l':=s3 _ _ h3l
    have ll:ys.length < sizeLine:=by
     rw [R3.len,List.length_append,cands_len,List.length_map,List.length_take,List.length_take,sizeLine_eq]
     have:min i rs.length * L.length≤10000 * 100:=Nat.mul_le_mul (by omega) hL
     omega
    refine ⟨l,_,_,rfl,rfl,h3l',ll,_,_,rfl,upd_same,same_put (e3.trans s3) hnl _,?_⟩
    rw [map_take hc,← List.append_assoc]
    refine Rows.snoc ?_ ((R3.keep (Tk.same s3)).keep (Tk.lst h3l' _))
    rw [upd_ne (ne_of_none h3l hq).symm]
    exact upd_same
  ·rintro σ H3 ⟨ys,v8,rfl,h3l,e3,R3⟩
   refine ⟨ys,_,_,_,_,rfl,h3l,e3,?_⟩
   rw [cands_take hr']
   rw [List.length_map,List.take_length] at R3
   exact R3
 ·rintro σ H2 ⟨ys,v5,v6,v7,v8,rfl,h2l,e2,R2⟩
  refine ⟨_,rfl,k l ys H2 hnl e2 h2l ?_⟩
  rw [hxl,List.take_length] at R2
  exact R2
theorem letters_of {z:Str} {ys:List Str} (nd:ys.Nodup) (mem:∀ y,y∈ys↔y∈L2.signs z) (so:sortedS ys=true):ys.map V.str=(ltrs z.cps.toList).map oneS:=by
 let hd:Str→Nat:=fun y=>y.cps.toList.headD 0
 have h1:∀ y∈ys,one (hd y)=y∧hd y∈z.cps.toList:=fun y hy=>by
  obtain ⟨c,hc,rfl⟩:=List.mem_map.mp ((mem y).mp hy)
  exact ⟨rfl,hc⟩
 have e1:(ys.map hd).map one=ys:=by
  rw [List.map_map]
  conv=>rhs; rw [← List.map_id ys]
  exact List.map_congr_left fun y hy=>(h1 y hy).1
 have so':sortedS ((ys.map hd).map one)=true:=by rw [e1]; exact so
 have nd':(ys.map hd).Nodup:=by
  have:((ys.map hd).map one).Nodup:=by rw [e1]; exact nd
  rw [List.nodup_iff_pairwise_ne,List.pairwise_map] at this
  rw [List.nodup_iff_pairwise_ne]
  exact this.imp fun {a b} h e=>h (by rw [e])
 have e2:ys.map hd=ltrs z.cps.toList:=rise_eq _ _ (lt_of_le_nodup (sorted_ones _ so') nd') (rise_ltrs _) fun y=>by
  rw [mem_ltrs]
  constructor
  ·intro h
   obtain ⟨x,hx,rfl⟩:=List.mem_map.mp h
   exact (h1 x hx).2
  ·intro h
   exact List.mem_map.mpr ⟨one y,(mem _).mpr (List.mem_map.mpr ⟨y,h,rfl⟩),rfl⟩
 rw [← e1,e2,List.map_map]
 rfl
def pvO:Option (List Nat)→V
 | none=>.non
 | some u=>.str (S u)
def kvp (p:Nat × Nat):List Key × V:=([.inl ((p.1:Nat):Int),.inl ((p.2:Nat):Int)],.bl true)
theorem kvp_inj {p q:Nat × Nat} (h:(kvp p).1=(kvp q).1):p=q:=by
 have h':([Sum.inl ((p.1:Nat):Int),Sum.inl ((p.2:Nat):Int)]:List Key)=[Sum.inl ((q.1:Nat):Int),Sum.inl ((q.2:Nat):Int)]:=h
 injection h' with h1 h2
 injection h2 with h2 h3
 injection h1 with h1
 injection h2 with h2
 exact Prod.ext (by omega) (by omega)
theorem val_seen (p:Nat × Nat):∀ (sn:List (Nat × Nat)),(valV (sn.map kvp) (kvp p).1).isSome=decide (p∈sn)
 | []=>by simp [valV_nil]
 | q :: sn=>by
  rw [List.map_cons]
  by_cases e:q=p
  ·subst e
   rw [valV_pos rfl]
   simp
  ·rw [valV_neg fun z=>e (kvp_inj z),val_seen p sn]
   have:p≠q:=fun z=>e z.symm
   simp [this]
theorem put_seen {p:Nat × Nat} {sn:List (Nat × Nat)} (h:p∉sn):putK (sn.map kvp) (kvp p).1 (.bl true)=(sn ++ [p]).map kvp:=by
 have e:=val_seen p sn
 rw [decide_eq_false h] at e
 rw [putK_new _ (by simpa using e),List.map_append]
 rfl
theorem bfs_len {L a b:List Nat}:∀ (n i:Nat) (rs:List Rw) (seen:List (Nat × Nat)) {w:List Nat},Lv a b i rs→bfs L a b n rs seen=some w→w.length≤a.length+1
 | 0,i,rs,seen,w,h,e=>by cases e
 | n+1,i,[],seen,w,h,e=>by rw [bfs_nil] at e; cases e
 | n+1,i,r :: rs,seen,w,h,e=>by
  rw [bfs_cons (by simp)] at e
  cases g:go (cands L a b (r :: rs)) seen [] with
  | inl v=>
   rw [g] at e
   cases e
   obtain ⟨q,hq,rfl,hne⟩:=go_inl _ _ _ g
   obtain ⟨r',hr,c,_,rfl⟩:=mem_cands.mp hq
   have o:=h.len r' hr
   have l:=h.le hr
   show (r'.1 ++ [c]).length≤_
   rw [List.length_append,o.1]
   show i+1≤_
   omega
  | inr p=>
   obtain ⟨seen',fr⟩:=p
   rw [g] at e
   obtain ⟨new,G⟩:=go_inr _ _ _ g
   have ef:fr=new:=by rw [G.fr]; rfl
   subst ef
   exact bfs_len n (i+1) fr seen' (h.next G) e
theorem part_len {a b w:List Nat} (h:part a b=some w):w.length≤a.length+1:=bfs_len _ 0 _ _ (lv0 a b) h
theorem ltrs_len (z:List Nat):(ltrs z).length≤z.length:=by
 have ins:∀ (c:Nat) (l:List Nat),(insU c l).length≤l.length+1:=fun c l=>by
  induction l with
  | nil=>exact Nat.le_refl _
  | cons x l ih=>
   unfold insU
   split
   ·exact Nat.le_refl _
   ·split
    ·simp
    ·simp only [List.length_cons]; omega
 induction z with
 | nil=>exact Nat.le_refl _
 | cons c z ih=>
  have:=ins c (ltrs z)
  show (insU c (ltrs z)).length≤_
  rw [List.length_cons]
  omega
inductive spFirstPI (vs:List V) (H:Hp) (Q:VK):Prop
 | mk (a b:Str) (h1:vs=[.str a,.str b]) (h2:a.length≤31) (h3:b.length≤31) (h4:∀ H',Same H H'→Q (pvO (part a.cps.toList b.cps.toList)) H'):spFirstPI vs H Q
def spFirstP:Sp:=fun vs H Q u3_=>spFirstPI vs H Q
structure Gone (a b:List Nat) (i:Nat) (rs:List Rw) (sn:List (Nat × Nat)):Prop where
 lv:Lv a b i rs
 nd:sn.Nodup
 le:∀ p∈sn,p.1≤31∧p.2≤31
 len:rs.length≤1024
theorem Gone.next {L a b:List Nat} {i:Nat} {rs:List Rw} {sn sn':List (Nat × Nat)} {fr:List Rw} (ha:a.length≤31) (hb:b.length≤31) (h:Gone a b i rs sn) (g:go (cands L a b rs) sn []=.inr (sn',fr)):Gone a b (i+1) fr sn':=by
 obtain ⟨new,G⟩:=go_inr _ _ _ g
 have ef:fr=new:=by rw [G.fr]; rfl
 subst ef
 have lv':=h.lv.next G
 have le':∀ p∈sn',p.1≤31∧p.2≤31:=fun p hp=>by
  rw [G.seen] at hp
  rcases List.mem_append.mp hp with z | z
  ·exact h.le p z
  ·obtain ⟨q,hq,rfl⟩:=List.mem_map.mp z
   have:=lv'.le hq
   exact ⟨by omega,by omega⟩
 refine ⟨lv',G.nd h.nd,le',?_⟩
 have s1:=seen_le (G.nd h.nd) le'
 rw [G.seen,List.length_append,List.length_map] at s1
 omega
theorem none_of {H H':Hp} {p:Addr} (e:Same H H') (h:H' p=none):H p=none:=by
 cases z:H p with
 | none=>rfl
 | some o=>rw [e _ _ z] at h; cases h
theorem cands_le {L a b:List Nat} {i:Nat} {rs:List Rw} (h:Lv a b i rs) {q:Rw} (hq:q∈cands L a b rs):q.2.1≤a.length∧q.2.2≤b.length:=by
 obtain ⟨r,hr,c,_,rfl⟩:=mem_cands.mp hq
 have l:=h.le hr
 exact ⟨nb_le l.1,nb_le l.2⟩
theorem drop_at {cs:List Rw} {j:Nat} {r:Rw} (h:cs[j]? = some r):cs.drop j=r :: cs.drop (j+1):=by
 have hj:=(List.getElem?_eq_some_iff.mp h).1
 rw [List.drop_eq_getElem_cons hj]
 rw [List.getElem?_eq_getElem hj] at h
 rw [Option.some.inj h]
theorem snoc_ok {sn:List (Nat × Nat)} {p:Nat × Nat} (nd:sn.Nodup) (le:∀ q∈sn,q.1≤31∧q.2≤31) (hn:p∉sn) (hp:p.1≤31∧p.2≤31):(sn ++ [p]).Nodup∧∀ q∈sn ++ [p],q.1≤31∧q.2≤31:=by
 refine ⟨List.nodup_append.mpr ⟨nd,by simp,fun x hx y hy=>?_⟩,fun q hq=>?_⟩
 ·rw [List.mem_singleton.mp hy]
  exact fun z=>hn (z▸hx)
 ·rcases List.mem_append.mp hq with z | z
  ·exact le q z
  ·rw [List.mem_singleton.mp z]
   exact hp
theorem ok_first_parting {f:Addr} {fd:FuncData} (F:Fun K "first_parting" "first_parting" s_first_parting f fd) (Z:Blt mg) (C_lacks_in_one:Cal P w K mg base "lacks_in_one" 1 ["row"] spLacks)
  (C_longer_rows:Cal P w K mg base "longer_rows" 2 ["letters","one","other","level"] spLonger):FnOk P w K mg base CX0 3 f fd ["one","other"] spFirstP:=by
 refine F.ok sc_first_parting (fun vs H Q E h=>?_) (fun cdv A outer s H vs Q E hr h=>?_)
 ·obtain ⟨a,b,rfl,_⟩:=h
  rfl
 obtain ⟨a,b,rfl,ha,hb,k⟩:=h
 refine ⟨_,(pss_cons (ps_set (i:=2) sc_first_parting.nd (by rfl) (Or.inl (by rfl)) (pe_callB (call_sortset (by rfl)) (by rfl) Z.sorted bt_sorted (pa_cons (pe_callTy (call_set_s (by rfl)) (by rfl) Z.set bt_set (pa_cons (pe_op op_add_str (pv 0) (pv 1)) pa_nil)) pa_nil))) 
   (pss_cons (ps_set (i:=3) sc_first_parting.nd (by rfl) (Or.inl (by rfl)) (pe_lst (pa_cons (pe_tup (pa_cons pe_str (pa_cons pe_int (pa_cons pe_int pa_nil)))) pa_nil))) 
   (pss_cons (ps_set (i:=4) sc_first_parting.nd (by rfl) (Or.inl (by rfl)) pe_dnewT) 
   (pss_cons (ps_while PassesOwn.never (pt_truthK (K:=K) (pv 3) (fun _=>rfl)) 
    (pss_cons (ps_set (i:=5) sc_first_parting.nd (by rfl) (Or.inl (by rfl)) (pe_lst pa_nil)) 
    (pss_cons (ps_for PassesOwn.never (by rfl) (pi_listK (K:=K) (pe_c C_longer_rows (hr.mono (by decide)) (pa_cons (pv 2) (pa_cons (pv 0) (pa_cons (pv 1) (pa_cons (pv 3) pa_nil)))))) (pg_name (i:=6) sc_first_parting.nd (by rfl) (Or.inl (by rfl))) 
     (pss_cons (ps_if (pt_truthK (K:=K) (pe_c C_lacks_in_one (hr.mono (by decide)) (pa_cons (pv 6) pa_nil)) (fun _=>rfl)) 
      (pss_one (ps_ret (pe_ix (ix_tupK (K:=K)) (pv 6) pe_int (fun _ _=>rfl)))) pss_nil) 
     (pss_cons (ps_set (i:=7) sc_first_parting.nd (by rfl) (Or.inl (by rfl)) (pe_tup (pa_cons (pe_ix (ix_tupK (K:=K)) (pv 6) pe_int (fun _ _=>rfl)) (pa_cons (pe_ix (ix_tupK (K:=K)) (pv 6) pe_int (fun _ _=>rfl)) pa_nil)))) 
     (pss_one (ps_if (PW.pt (pw_and (pt_cmpR op_gt (pe_ix (ix_tupK (K:=K)) (pv 6) pe_int (fun _ _=>rfl)) pe_int (nomark _)) (pw_and1 (pt_cmp (pc_dnotin (hu_of hr) (pv 7) (pv 4)))))) 
      (pss_cons (ps_dput (hu_of hr) (pv 4) (pv 7) pe_bl rfl) 
      (pss_one (ps_expr (pe_bmK (K:=K) PySem.F.plainAttrs_list PySem.F.slot_list_append PySem.F.type_list_append mt_append (pv 5) (pa_cons (pv 6) pa_nil))))) pss_nil))))) 
    (pss_one (ps_set (i:=3) sc_first_parting.nd (by rfl) (Or.inl (by rfl)) (pv 5)))))) 
   (pss_one (ps_ret pe_non)))))),?_⟩
 refine (let zz0:TS:=_; let zz1:TS:=_; let zz2:TS:=_; let zz3:TS:=tSeq _ zz2; let zz4:TS:=(tIfS _ zz3 _); let zz5:TS:=tSeq _ zz4; let zz6:TS:=tSeq _ zz5; let zz7:TS:=tSeq (tFor _ _ zz6) zz1; let zz8:TS:=tSeq _ zz7; let zz9:TS:=tSeq (tWhile _ zz8) zz0; let zz10:TS:=tSeq _ zz9; let zz11:TS:=tSeq _ zz10; (?_:tSeq _ zz11 _ _ _))
 have hal:=len_list a
 have hbl:=len_list b
 have hz:(a ++ b).length=a.length+b.length:=Str.length_append ..
 have hzl:(a ++ b).cps.toList=a.cps.toList ++ b.cps.toList:=by
  show (a.cps ++ b.cps).toList=_
  rw [Array.toList_append]
 refine ⟨_,rfl,_,rfl,_,_,rfl,rfl,line_le (by omega),_,rfl,by omega,fun l0 hl0=>⟨l0,_,_,rfl,upd_same,by omega,fun ls lp nd mem so hlp=>?_⟩⟩
 rw [letters_of nd mem so,hzl]
 have hL:(ltrs (a.cps.toList ++ b.cps.toList)).length≤100:=by
  have:=ltrs_len (a.cps.toList ++ b.cps.toList)
  rw [List.length_append] at this
  omega
 have hpart:part a.cps.toList b.cps.toList=bfs (ltrs (a.cps.toList ++ b.cps.toList)) a.cps.toList b.cps.toList (a.cps.toList.length+1) [([],0,0)] []:=rfl
 generalize ltrs (a.cps.toList ++ b.cps.toList)=L at hL hpart ⊢
 generalize hH1:upd (upd H l0 _) lp _=H1
 have h1:H1 lp=some (.lst (L.map oneS)):=by rw [← hH1]; exact upd_same
 have s1:Same H H1:=by rw [← hH1]; exact (same_new hl0 _).trans (same_new hlp _)
 clear hH1
 refine ⟨(by show 3≤sizeLine; decide),fun ra hra=>⟨(by show 1≤sizeLine; decide),fun vp hvp=>?_⟩⟩
 generalize hH2:upd (upd H1 ra _) vp _=H2
 have s2:Same H1 H2:=by rw [← hH2]; exact (same_new hra _).trans (same_new hvp _)
 have h2r:H2 ra=some (.tup (rv ([],0,0))):=by
  rw [← hH2]
  refine same_new hvp _ _ _ (upd_same.trans ?_)
  rw [S_nil]
  rfl
 have h2v:H2 vp=some (.lst [.ref ra]):=by rw [← hH2]; exact upd_same
 clear hH2
 have h2l:=s2 _ _ h1
 have e2:=s1.trans s2
 intro sp hsp
 have s3:=same_new hsp (.dT [])
 refine ⟨fun m σ H4=>∃ (i:Nat) (rs:List Rw) (sn:List (Nat × Nat)) (vp:Addr) (xs:List V) (v5 v6 v7:Option V),m=a.length+1 - i∧σ=[some (.str a),some (.str b),some (.ref lp),some (.ref vp),some (.ref sp),v5,v6,v7]∧H4 lp=some (.lst (L.map oneS))∧H4 vp=some (.lst xs)∧Rows H4 xs rs∧
   H4 sp=some (.dT (sn.map kvp))∧Same H H4∧Gone a.cps.toList b.cps.toList i rs sn∧part a.cps.toList b.cps.toList=bfs L a.cps.toList b.cps.toList (a.length+1 - i) rs sn,
  ⟨_,0,[([],0,0)],[],vp,[.ref ra],none,none,none,rfl,rfl,s3 _ _ h2l,s3 _ _ h2v,.cons (s3 _ _ h2r) .nil,upd_same,e2.trans s3,⟨lv0 _ _,List.nodup_nil,fun p hp=>absurd hp (by simp),by simp⟩,by rw [hpart,hal]; rfl⟩,?_⟩
 rintro m σ H4 ⟨i,rs,sn,vp,xs,v5,v6,v7,rfl,rfl,h4l,h4v,R4,h4s,e4,G4,hp4⟩
 refine ⟨_,rfl,_,.inl ⟨_,SqL.of h4v,rfl⟩,?_⟩
 have hRl:=R4.len
 cases rs with
 | nil=>
  have:xs=[]:=List.eq_nil_of_length_eq_zero (by rw [hRl]; rfl)
  subst this
  refine iteF ?_
  refine ?_
  rw [bfs_nil] at hp4
  have:=k H4 e4
  rw [hp4] at this
  exact this
 | cons r0 rs0=>
  have hne:xs≠[]:=fun e=>by rw [e] at hRl; cases hRl
  have hxe:(!xs.isEmpty)=true:=by
   cases xs with
   | nil=>exact absurd rfl hne
   | cons=>rfl
  rw [hxe]
  have hil:i≤a.length:=by
   have:=(G4.lv.len r0 List.mem_cons_self).2.1
   have:=(G4.lv.le (r:=r0) List.mem_cons_self).1
   omega
  refine iteT ⟨fun σ' H'=>∃ m',m' < a.length+1 - i∧_,fun _ _ z=>z,?_⟩
  refine ⟨(by show 0≤sizeLine; decide),fun ap hap=>?_⟩
  have s5:=same_new hap (.lst [])
  have h5l:=s5 _ _ h4l
  have h5v:=s5 _ _ h4v
  have h5s:=s5 _ _ h4s
  have R5:=R4.keep (Tk.same s5)
  have e5:=e4.trans s5
  have h5a:upd H4 ap (.lst []) ap=some (.lst []):=upd_same
  have hap0:=none_of e4 hap
  generalize upd H4 ap (.lst [])=H5 at s5 h5l h5v h5s R5 e5 h5a ⊢
  refine ⟨_,rfl,_,rfl,_,rfl,_,rfl,lp,vp,L,a,b,xs,r0 :: rs0,rfl,h5l,h5v,R5,fun r hr=>?_,hL,Nat.le_trans G4.len (by decide),fun ll ys H6 hll e6 h6 R6=>⟨ll,rfl,⟨_,SqL.of h6⟩,?_⟩⟩
  ·have l1:=G4.lv.le hr
   have l2:=G4.lv.len r hr
   exact ⟨by omega,by omega,by omega⟩
  have hyl:=R6.len
  have hcs:∀ q∈cands L a.cps.toList b.cps.toList (r0 :: rs0),q.2.1≤31∧q.2.2≤31:=fun q hq=>by
   have:=cands_le G4.lv hq
   exact ⟨by omega,by omega⟩
  have hp5:part a.cps.toList b.cps.toList=(match go (cands L a.cps.toList b.cps.toList (r0 :: rs0)) sn [] with | .inl w=>some w | .inr (seen',fr)=>bfs L a.cps.toList b.cps.toList (a.length - i) fr seen'):=by
   rw [hp4,show a.length+1 - i=(a.length - i)+1 by omega]
   exact bfs_cons (by simp)
  have hgo:∀ sn' fr,go (cands L a.cps.toList b.cps.toList (r0 :: rs0)) sn []=.inr (sn',fr)→Gone a.cps.toList b.cps.toList (i+1) fr sn':=fun sn' fr g=>G4.next (by omega) (by omega) g
  generalize cands L a.cps.toList b.cps.toList (r0 :: rs0)=cs at hcs hp5 R6 hyl hgo
  refine for_list (K:=K) (a:=ll) (xs:=ys) (fun j σ H7=>∃ (sn':List (Nat × Nat)) (fr:List Rw) (zs:List V) (v6 v7:Option V),σ=[some (.str a),some (.str b),some (.ref lp),some (.ref vp),some (.ref sp),some (.ref ap),v6,v7]∧H7 lp=some (.lst (L.map oneS))∧H7 ll=some (.lst ys)∧Rows H7 ys cs∧
   H7 sp=some (.dT (sn'.map kvp))∧H7 ap=some (.lst zs)∧Rows H7 zs fr∧Same H H7∧sn'.Nodup∧(∀ q∈sn',q.1≤31∧q.2≤31)∧fr.length≤sn'.length∧go cs sn []=go (cs.drop j) sn' fr)
   ⟨sn,[],[],v6,v7,rfl,e6 _ _ h5l,h6,R6,e6 _ _ h5s,e6 _ _ h5a,.nil,e5.trans e6,G4.nd,G4.le,Nat.zero_le _,by rw [List.drop_zero]⟩ (fun j σ H7 _ h=>?_) ?_ ?_
  ·obtain ⟨sn',fr,zs,v6,v7,rfl,_,h2,_⟩:=h
   exact SqL.of h2
  ·rintro j x σ H7 hx ⟨sn',fr,zs,v6,v7,rfl,h7l,h7y,R7,h7s,h7a,A7,e7,nd7,le7,len7,hg7⟩
   obtain ⟨ra,r,rfl,hr',hra⟩:=R7.at_ hx
   rw [drop_at hr'] at hg7
   have hrl:=hcs r (List.mem_of_getElem? hr')
   refine ⟨_,rfl,ra,r,rfl,hra,_,rfl,?_⟩
   refine ite2 (fun c1=>?_) (fun c1=>?_)
   ·refine ⟨_,rfl,ra,_,0,_,rfl,rfl,SqT.of hra,atI_nat (j:=0) rfl,?_⟩
    have:=k H7 e7
    rw [hp5,hg7,go_parts c1] at this
    exact this
   ·refine ⟨_,rfl,ra,_,1,_,rfl,rfl,SqT.of hra,atI_nat (j:=1) rfl,_,rfl,ra,_,2,_,rfl,rfl,SqT.of hra,atI_nat (j:=2) rfl,(by show 2≤sizeLine; decide),fun q hq=>?_⟩
    have s8:=same_new hq (.tup [nI r.2.1,nI r.2.2])
    have h8q:upd H7 q (.tup [nI r.2.1,nI r.2.2]) q=some (.tup ((kvp r.2).1.map kV)):=upd_same
    have h8l:=s8 _ _ h7l
    have h8y:=s8 _ _ h7y
    have h8s:=s8 _ _ h7s
    have h8a:=s8 _ _ h7a
    have R8:=R7.keep (Tk.same s8)
    have A8:=A7.keep (Tk.same s8)
    have e8:=e7.trans s8
    have h8r:=s8 _ _ hra
    generalize upd H7 q (.tup [nI r.2.1,nI r.2.2])=H8 at s8 h8q h8l h8y h8s h8a R8 A8 e8 h8r
    have old:¬ (0 < r.2.1∧r.2∉sn')→∃ (sn':List (Nat × Nat)) (fr:List Rw) (zs:List V) (v6 v7:Option V),[some (.str a),some (.str b),some (.ref lp),some (.ref vp),some (.ref sp),some (.ref ap),some (.ref ra),some (.ref q)]=[some (.str a),some (.str b),some (.ref lp),some (.ref vp),some (.ref sp),some (.ref ap),v6,v7]∧H8 lp=some (.lst (L.map oneS))∧H8 ll=some (.lst ys)∧Rows H8 ys cs∧
      H8 sp=some (.dT (sn'.map kvp))∧H8 ap=some (.lst zs)∧Rows H8 zs fr∧Same H H8∧sn'.Nodup∧(∀ q∈sn',q.1≤31∧q.2≤31)∧fr.length≤sn'.length∧go cs sn []=go (cs.drop (j+1)) sn' fr:=fun c2=>
     ⟨sn',fr,zs,_,_,rfl,h8l,h8y,R8,h8s,h8a,A8,e8,nd7,le7,len7,by rw [hg7,go_old c1 c2]⟩
    refine ⟨_,rfl,ra,_,1,_,rfl,rfl,SqT.of h8r,atI_nat (j:=1) rfl,_,_,rfl,rfl,_,rfl,?_⟩
    refine ite2 (fun c2=>?_) (fun c2=>iteF (old fun z=>c2 (decide_eq_true (show ((r.2.1:Nat):Int) > 0 by have:=z.1; omega))))
    have hx0:0 < r.2.1:=by
     have:((r.2.1:Nat):Int) > 0:=of_decide_eq_true c2
     omega
    refine ⟨_,rfl,_,rfl,sp,_,rfl,DGet.t (k:=(kvp r.2).1) h8s h8q,_,rfl,?_⟩
    rw [val_seen]
    by_cases c3:r.2∈sn'
    ·rw [decide_eq_true c3]
     exact iteF (old fun z=>z.2 c3)
    rw [decide_eq_false c3]
    obtain ⟨nd9,le9⟩:=snoc_ok nd7 le7 c3 hrl
    have l9:=seen_le nd9 le9
    refine iteT ⟨_,rfl,_,rfl,sp,_,rfl,DPut.t (k:=(kvp r.2).1) h8s h8q (by rw [List.length_map,sizeLine_eq]; have:=seen_le nd7 le7; omega),?_⟩
    rw [put_seen c3]
    have nsp:ap≠sp:=ne_of h8a h8s fun z=>nomatch z
    have hsp0:H sp=none:=none_of e2 hsp
    have K9:=Tk.dct h8s (.dT ((sn' ++ [r.2]).map kvp))
    have h9a:upd H8 sp (.dT ((sn' ++ [r.2]).map kvp)) ap=some (.lst zs):=by rw [upd_ne nsp]; exact h8a
    have h9l:upd H8 sp (.dT ((sn' ++ [r.2]).map kvp)) lp=some (.lst (L.map oneS)):=by rw [upd_ne (ne_of h8l h8s fun z=>nomatch z)]; exact h8l
    have h9y:upd H8 sp (.dT ((sn' ++ [r.2]).map kvp)) ll=some (.lst ys):=by rw [upd_ne (ne_of h8y h8s fun z=>nomatch z)]; exact h8y
    have h9s:upd H8 sp (.dT ((sn' ++ [r.2]).map kvp)) sp=some (.dT ((sn' ++ [r.2]).map kvp)):=upd_same
    have e9:=same_put e8 hsp0 (.dT ((sn' ++ [r.2]).map kvp))
    have h9r:=K9 _ _ h8r
    have R9:=R8.keep K9
    have A9:=A8.keep K9
    generalize upd H8 sp (.dT ((sn' ++ [r.2]).map kvp))=H9 at h9a h9l h9y h9s e9 h9r R9 A9
    have zl:zs.length≤1024:=by
     rw [A9.len]
     have:=seen_le nd7 le7
     omega
    refine ⟨_,rfl,.inl ⟨rfl,_,SqL.of h9a⟩,_,rfl,ap,_,_,rfl,rfl,h9a,(by rw [sizeLine_eq]; omega),?_⟩
    have nla:lp≠ap:=ne_of_none h4l hap
    have nya:ll≠ap:=(ne_of_none h5a hll).symm
    refine ⟨sn' ++ [r.2],fr ++ [r],_,_,_,rfl,by rw [upd_ne nla]; exact h9l,by rw [upd_ne nya]; exact h9y,R9.keep (Tk.lst h9a _),by rw [upd_ne nsp.symm]; exact h9s,upd_same,(A9.keep (Tk.lst h9a _)).snoc (Tk.lst h9a _ _ _ h9r),same_put e9 hap0 _,nd9,le9,by rw [List.length_append,List.length_append]; show fr.length+1≤sn'.length+1; omega,?_⟩
    rw [hg7]
    exact go_new c1 ⟨hx0,c3⟩
  ·rintro σ H7 ⟨sn',fr,zs,v6,v7,rfl,h7l,h7y,R7,h7s,h7a,A7,e7,nd7,le7,len7,hg7⟩
   rw [hyl,List.drop_length] at hg7
   have hg8:go cs sn []=.inr (sn',fr):=hg7
   refine ⟨_,rfl,a.length+1 - (i+1),by omega,i+1,fr,sn',ap,zs,_,_,_,rfl,rfl,h7l,h7a,A7,h7s,e7,hgo sn' fr hg8,?_⟩
   rw [hp5,hg8]
   show bfs L _ _ (a.length - i) fr sn'=bfs L _ _ (a.length+1 - (i+1)) fr sn'
   rw [show a.length+1 - (i+1)=a.length - i by omega]
def ToldP (H:Hp) (o:Option (List Nat)) (v:V) (H':Hp):Prop:=Same H H'∧match o with
 | none=>v=.non
 | some u=>∃ l,v=.ref l∧H' l=some (.tup [.int ((u.length:Int) - 1),.str (S u)])
inductive spPartingI (vs:List V) (H:Hp) (Q:VK):Prop
 | mk (a b:Str) (h1:vs=[.str a,.str b]) (h2:a.length≤31) (h3:b.length≤31) (h4:∀ v H',ToldP H (part a.cps.toList b.cps.toList) v H'→Q v H'):spPartingI vs H Q
def spParting:Sp:=fun vs H Q u3_=>spPartingI vs H Q
theorem ok_parting {f:Addr} {fd:FuncData} (F:Fun K "parting" "parting" s_parting f fd) (Z:Blt mg) (C_first_parting:Cal P w K mg base "first_parting" 3 ["one","other"] spFirstP):FnOk P w K mg base CX0 4 f fd ["one","other"] spParting:=by
 refine F.ok sc_parting (fun vs H Q E h=>?_) (fun cdv A outer s H vs Q E hr h=>?_)
 ·obtain ⟨a,b,rfl,_⟩:=h
  rfl
 obtain ⟨a,b,rfl,ha,hb,k⟩:=h
 refine ⟨_,(pss_cons (ps_set (i:=2) sc_parting.nd (by rfl) (Or.inl (by rfl)) (pe_c C_first_parting (hr.mono (by decide)) (pa_cons (pv 0) (pa_cons (pv 1) pa_nil)))) 
   (pss_cons (ps_if (pt_cmpR op_isN (pv 2) pe_non (nomark _)) 
    (pss_one (ps_ret pe_non)) pss_nil) 
   (pss_one (ps_ret (pe_tup (pa_cons (pe_op op_sub (pe_callB call_len_str (by rfl) Z.len bt_len (pa_cons (pv 2) pa_nil)) pe_int) (pa_cons (pv 2) pa_nil))))))),?_⟩
 refine (let zz0:TS:=_; let zz1:TS:=tSeq _ zz0; (?_:tSeq _ zz1 _ _ _))
 have hal:=len_list a
 refine ⟨_,rfl,_,rfl,a,b,rfl,ha,hb,fun H1 e1=>?_⟩
 cases hp:part a.cps.toList b.cps.toList with
 | none=>
  refine ⟨_,rfl,rfl,_,rfl,iteD rfl (k _ H1 ⟨e1,by rw [hp]⟩)⟩
 | some u=>
  have hu:=part_len hp
  refine ⟨_,rfl,rfl,_,rfl,iteF ⟨_,rfl,S u,rfl,line_le (by rw [S_len]; omega),_,_,rfl,rfl,_,rfl,(by show 2≤sizeLine; decide),fun q hq=>?_⟩⟩
  refine k _ _ ⟨e1.trans (same_new hq _),?_⟩
  rw [hp]
  refine ⟨q,rfl,upd_same.trans ?_⟩
  rw [S_len]
  rfl
def alk:Option (List Nat)→Int→Bool
 | none,_=>true
 | some u,k=>decide (k≤(u.length:Int) - 1)
inductive spAlkI (vs:List V) (H:Hp) (Q:VK):Prop
 | mk (a b:Str) (k:Int) (h1:vs=[.str a,.str b,.int k]) (h2:a.length≤31) (h3:b.length≤31) (h4:∀ H',Same H H'→Q (.bl (alk (part a.cps.toList b.cps.toList) k)) H'):spAlkI vs H Q
def spAlk:Sp:=fun vs H Q u3_=>spAlkI vs H Q
theorem ok_alike {f:Addr} {fd:FuncData} (F:Fun K "alike" "alike" s_alike f fd) (Z:Blt mg) (C_parting:Cal P w K mg base "parting" 4 ["one","other"] spParting):FnOk P w K mg base CX0 5 f fd ["one","other","k"] spAlk:=by
 refine F.ok sc_alike (fun vs H Q E h=>?_) (fun cdv A outer s H vs Q E hr h=>?_)
 ·obtain ⟨a,b,k,rfl,_⟩:=h
  rfl
 obtain ⟨a,b,k',rfl,ha,hb,k⟩:=h
 refine ⟨_,(pss_cons (ps_set (i:=3) sc_alike.nd (by rfl) (Or.inl (by rfl)) (pe_c C_parting (hr.mono (by decide)) (pa_cons (pv 0) (pa_cons (pv 1) pa_nil)))) 
   (pss_one (ps_ret (pe_or (pe_cmpR op_isN (pv 3) pe_non (nomark _)) (pe_one (pe_cmpR op_ge (pe_ix (ix_tupK (K:=K)) (pv 3) pe_int (fun _ _=>rfl)) (pv 2) (nomark _))))))),?_⟩
 refine (let zz0:TS:=_; (?_:tSeq _ zz0 _ _ _))
 refine ⟨_,rfl,_,rfl,a,b,rfl,ha,hb,fun v H1 T1=>?_⟩
 refine ⟨_,rfl,rfl,_,rfl,?_⟩
 have k1:=k H1 T1.1
 cases hP:part a.cps.toList b.cps.toList with
 | none=>
  rw [hP] at T1 k1
  have:v=.non:=T1.2
  subst this
  exact iteT k1
 | some u=>
  rw [hP] at T1 k1
  obtain ⟨_,l,rfl,hl⟩:=T1
  exact iteF ⟨_,rfl,l,_,0,_,rfl,rfl,SqT.of hl,atI_nat (j:=0) rfl,_,rfl,_,_,rfl,rfl,k1⟩
theorem sub_cc {c d:Nat} {w t:List Nat}:(c :: w).Sublist (d :: t)↔(c :: w).Sublist t∨(c=d∧w.Sublist t):=by
 constructor
 ·intro h
  cases h with
  | cons _ h=>exact .inl h
  | cons_cons _ h=>exact .inr ⟨rfl,h⟩
 ·rintro (h | ⟨rfl,h⟩)
  ·exact h.cons _
  ·exact h.cons_cons _
theorem sp_sub:∀ (w t:List Nat),0 < emb w t↔w.Sublist t
 | [],t=>by rw [emb_nil]; exact ⟨fun _=>List.nil_sublist _,fun _=>Nat.one_pos⟩
 | c :: w,[]=>by
  rw [emb_end (by simp)]
  exact ⟨fun h=>absurd h (Nat.lt_irrefl _),fun h=>by cases h⟩
 | c :: w,d :: t=>by
  rw [emb_cc,sub_cc,← sp_sub (c :: w) t,← sp_sub w t]
  by_cases e:c=d
  ·rw [if_pos e]
   constructor
   ·intro h
    by_cases z:0 < emb (c :: w) t
    ·exact .inl z
    ·exact .inr ⟨e,by omega⟩
   ·rintro (z | ⟨_,z⟩) <;> omega
  ·rw [if_neg e]
   constructor
   ·intro h
    exact .inl (by omega)
   ·rintro (z | ⟨z,_⟩)
    ·omega
    ·exact absurd z e
theorem spB_sub (w t:List Nat):spB w t=true↔w.Sublist t:=by
 rw [spB_is,decide_eq_true_eq]
 exact sp_sub w t
theorem spB_eq (w a b:List Nat):spB w a=spB w b↔(w.Sublist a↔w.Sublist b):=by
 rw [← spB_sub,← spB_sub,Bool.eq_iff_iff]
theorem pos_app {t:List Nat} (z:List Nat):∀ (v:List Nat) (s:Nat),pos t (v ++ z) s=(pos t v s).bind fun p=>pos t z p
 | [],s=>rfl
 | c :: v,s=>by
  have e:∀ v:List Nat,pos t (c :: v) s=(match nx t s c with | none=>none | some k=>pos t v (k+1)):=fun v=>rfl
  show pos t (c :: (v ++ z)) s=_
  rw [e,e]
  cases nx t s c with
  | none=>rfl
  | some k=>exact pos_app z v (k+1)
inductive Lx:List Nat→List Nat→Prop where
 | hd {a b:Nat} {x y:List Nat} (h:a < b):Lx (a :: x) (b :: y)
 | tl {a:Nat} {x y:List Nat} (h:Lx x y):Lx (a :: x) (a :: y)
theorem Lx.app {x y:List Nat} (h:Lx x y) (z z':List Nat):Lx (x ++ z) (y ++ z'):=by
 induction h with
 | hd h=>exact .hd h
 | tl _ ih=>exact .tl ih
theorem Lx.snoc {c d:Nat} (h:c < d):∀ x:List Nat,Lx (x ++ [c]) (x ++ [d])
 | []=>.hd h
 | _ :: x=>.tl (Lx.snoc h x)
def sl (v u:List Nat):Prop:=v.length < u.length∨(v.length=u.length∧Lx v u)
def Dst (a b w:List Nat):Prop:=spB w a≠spB w b
def Least (a b u:List Nat):Prop:=Dst a b u∧∀ w,sl w u→¬ Dst a b w
theorem nat_least (p:Nat→Prop) (h:∃ n,p n):∃ n,p n∧∀ m,m < n→¬ p m:=by
 obtain ⟨n,hn⟩:=h
 induction n using Nat.strongRecOn with
 | _ n ih=>
  by_cases z:∃ m,m < n∧p m
  ·obtain ⟨m,hm,hp⟩:=z
   exact ih m hm hp
  ·exact ⟨n,hn,fun m hm hp=>z ⟨m,hm,hp⟩⟩
theorem lex_least:∀ (n:Nat) (p:List Nat→Prop),(∃ w,w.length=n∧p w)→∃ u,u.length=n∧p u∧∀ w,w.length=n→Lx w u→¬ p w
 | 0,p,⟨w,h,hp⟩=>by
  refine ⟨w,h,hp,fun v hv l=>?_⟩
  cases v with
  | nil=>cases l
  | cons=>cases hv
 | n+1,p,⟨w,h,hp⟩=>by
  obtain ⟨c,⟨z,hz,pz⟩,hc⟩:=nat_least (fun c=>∃ z:List Nat,z.length=n∧p (c :: z)) (by
   cases w with
   | nil=>cases h
   | cons c z=>exact ⟨c,z,by simpa using h,hp⟩)
  obtain ⟨u,hu,pu,lu⟩:=lex_least n (fun z=>p (c :: z)) ⟨z,hz,pz⟩
  refine ⟨c :: u,by rw [List.length_cons,hu],pu,fun v hv l=>?_⟩
  cases l with
  | hd g=>exact fun q=>hc _ g ⟨_,by simpa using hv,q⟩
  | tl g=>exact lu _ (by simpa using hv) g
theorem has_least {a b:List Nat} (h:∃ w,Dst a b w):∃ u,Least a b u:=by
 obtain ⟨n,⟨w,hw,dw⟩,hn⟩:=nat_least (fun n=>∃ w:List Nat,w.length=n∧Dst a b w) (by
  obtain ⟨w,hw⟩:=h
  exact ⟨w.length,w,rfl,hw⟩)
 obtain ⟨u,hu,du,lu⟩:=lex_least n (Dst a b) ⟨w,hw,dw⟩
 refine ⟨u,du,fun v s=>?_⟩
 rcases s with s | ⟨s1,s2⟩
 ·exact fun d=>hn v.length (by omega) ⟨v,rfl,d⟩
 ·exact lu v (by omega) s2
def dis (q:Rw):Prop:=(decide (q.2.1=0) != decide (q.2.2=0))=true
theorem go_find:∀ (cs:List Rw) (sn:List (Nat × Nat)) (fr:List Rw),(∃ q∈cs,dis q)→∃ pre q post,cs=pre ++ q :: post∧(∀ p∈pre,¬ dis p)∧dis q∧go cs sn fr=.inl q.1
 | [],sn,fr,h=>by
  obtain ⟨q,hq,_⟩:=h
  cases hq
 | (w,x,y) :: rest,sn,fr,h=>by
  by_cases h1:dis (w,x,y)
  ·exact ⟨[],(w,x,y),rest,rfl,fun p hp=>absurd hp (by simp),h1,go_parts h1⟩
  ·obtain ⟨q,hq,dq⟩:=h
   have hr:∃ q∈rest,dis q:=by
    rcases List.mem_cons.mp hq with e | e
    ·exact absurd (e▸dq) h1
    ·exact ⟨q,e,dq⟩
   by_cases h2:0 < x∧(x,y)∉sn
   ·obtain ⟨pre,q',post,e1,e2,e3,e4⟩:=go_find rest (sn ++ [(x,y)]) (fr ++ [(w,x,y)]) hr
    refine ⟨(w,x,y) :: pre,q',post,by rw [e1]; rfl,fun p hp=>?_,e3,by rw [go_new h1 h2]; exact e4⟩
    rcases List.mem_cons.mp hp with e | e
    ·exact e▸h1
    ·exact e2 p e
   ·obtain ⟨pre,q',post,e1,e2,e3,e4⟩:=go_find rest sn fr hr
    refine ⟨(w,x,y) :: pre,q',post,by rw [e1]; rfl,fun p hp=>?_,e3,by rw [go_old h1 h2]; exact e4⟩
    rcases List.mem_cons.mp hp with e | e
    ·exact e▸h1
    ·exact e2 p e
theorem go_sub:∀ (cs:List Rw) (sn:List (Nat × Nat)) (fr:List Rw) {sn':List (Nat × Nat)} {fr':List Rw},go cs sn fr=.inr (sn',fr')→∃ new:List Rw,fr'=fr ++ new∧new.Sublist cs
 | [],sn,fr,sn',fr',h=>by
  cases h
  exact ⟨[],by simp,List.nil_sublist _⟩
 | (w,x,y) :: rest,sn,fr,sn',fr',h=>by
  by_cases h1:(decide (x=0) != decide (y=0))=true
  ·rw [go_parts h1] at h
   cases h
  ·by_cases h2:0 < x∧(x,y)∉sn
   ·rw [go_new h1 h2] at h
    obtain ⟨new,e,s⟩:=go_sub rest _ _ h
    exact ⟨(w,x,y) :: new,by rw [e]; simp,s.cons_cons _⟩
   ·rw [go_old h1 h2] at h
    obtain ⟨new,e,s⟩:=go_sub rest _ _ h
    exact ⟨new,e,s.cons _⟩
theorem go_keep {q:Rw} (hx:0 < q.2.1):∀ (cs:List Rw) (sn:List (Nat × Nat)) (fr:List Rw) {sn':List (Nat × Nat)} {fr':List Rw},go cs sn fr=.inr (sn',fr')→q∈cs→cs.Pairwise (fun r r'=>Lx r.1 r'.1)→q.2∉sn→
  (∀ q'∈cs,Lx q'.1 q.1→0 < q'.2.1→q'.2≠q.2)→q∈fr'
 | [],sn,fr,sn',fr',h,hq,_,_,_=>by cases hq
 | (w,x,y) :: rest,sn,fr,sn',fr',h,hq,so,hn,hl=>by
  by_cases h1:(decide (x=0) != decide (y=0))=true
  ·rw [go_parts h1] at h
   cases h
  ·cases so with
   | cons so1 so2=>
    rcases List.mem_cons.mp hq with e | e
    ·subst e
     rw [go_new h1 ⟨hx,hn⟩] at h
     obtain ⟨new,e,_⟩:=go_sub rest _ _ h
     rw [e]
     exact List.mem_append_left _ (List.mem_append_right _ List.mem_cons_self)
    ·by_cases h2:0 < x∧(x,y)∉sn
     ·rw [go_new h1 h2] at h
      refine go_keep hx rest _ _ h e so2 (fun z=>?_) fun q' hq'=>hl q' (List.mem_cons_of_mem _ hq')
      rcases List.mem_append.mp z with z | z
      ·exact hn z
      ·exact hl (w,x,y) List.mem_cons_self (so1 q e) h2.1 (List.mem_singleton.mp z).symm
     ·rw [go_old h1 h2] at h
      exact go_keep hx rest _ _ h e so2 hn fun q' hq'=>hl q' (List.mem_cons_of_mem _ hq')
theorem cands_sorted {L a b:List Nat} (hL:L.Pairwise (· < ·)) {rs:List Rw} (h:rs.Pairwise fun r r'=>Lx r.1 r'.1):(cands L a b rs).Pairwise fun r r'=>Lx r.1 r'.1:=by
 unfold cands
 rw [List.pairwise_flatMap]
 refine ⟨fun r _=>?_,h.imp fun {r r'} l x hx y hy=>?_⟩
 ·rw [List.pairwise_map]
  exact hL.imp fun {c d} l=>Lx.snoc l r.1
 ·obtain ⟨c,_,rfl⟩:=List.mem_map.mp hx
  obtain ⟨d,_,rfl⟩:=List.mem_map.mp hy
  exact l.app _ _
theorem dis_dst {L a b:List Nat} {i:Nat} {rs:List Rw} (h:Lv a b i rs) {q:Rw} (hq:q∈cands L a b rs):dis q↔Dst a b q.1:=by
 obtain ⟨r,hr,c,_,rfl⟩:=mem_cands.mp hq
 have o:=h.one r hr
 have p1:=pos_nb (c:=c) o.1
 have p2:=pos_nb (c:=c) o.2
 unfold Dst dis
 rw [← pos_sp,← pos_sp]
 show (decide (nb a r.2.1 c=0) != decide (nb b r.2.2 c=0))=true↔(pos a (r.1 ++ [c]) 0).isSome≠(pos b (r.1 ++ [c]) 0).isSome
 by_cases z1:nb a r.2.1 c=0
 ·by_cases z2:nb b r.2.2 c=0
  ·rw [p1.2 z1,p2.2 z2]
   simp [z1,z2]
  ·rw [p1.2 z1,p2.1 (by omega)]
   simp [z1,z2]
 ·by_cases z2:nb b r.2.2 c=0
  ·rw [p1.1 (by omega),p2.2 z2]
   simp [z1,z2]
  ·rw [p1.1 (by omega),p2.1 (by omega)]
   simp [z1,z2]
theorem dst_swap {a b v v' z:List Nat} {p q:Nat} (h1:pos a v 0=some p) (h2:pos b v 0=some q) (h3:pos a v' 0=some p) (h4:pos b v' 0=some q) (h:Dst a b (v ++ z)):Dst a b (v' ++ z):=by
 unfold Dst at *
 rw [← pos_sp,← pos_sp,pos_app,pos_app] at *
 rw [h1,h2] at h
 rw [h3,h4]
 exact h
theorem bfs_least {L a b u:List Nat} (hL:∀ c,c∈a∨c∈b→c∈L) (hS:L.Pairwise (· < ·)) (hu:Least a b u):∀ (n i:Nat) (rs:List Rw) (sn:List (Nat × Nat)),Lv a b i rs→(rs.Pairwise fun r r'=>Lx r.1 r'.1)→
  (∀ p∈sn,∃ v:List Nat,v.length≤i∧pos a v 0=some p.1∧pos b v 0=some p.2)→i < u.length→(∃ r∈rs,r.1=u.take i)→u.length≤n+i→bfs L a b n rs sn=some u
 | 0,i,rs,sn,_,_,_,h1,_,h2=>by omega
 | n+1,i,rs,sn,lv,so,hsn,hi,⟨r,hr,er⟩,hn=>by
  rw [bfs_cons (List.ne_nil_of_mem hr)]
  have hc:u.take (i+1)=u.take i ++ [u[i]]:=by rw [List.take_succ_eq_append_getElem hi]
  have hcL:u[i]∈L:=by
   have hm:u[i]∈u:=List.getElem_mem hi
   by_cases z:spB u a=true
   ·exact hL _ (.inl (((spB_sub u a).mp z).subset hm))
   ·by_cases z':spB u b=true
    ·exact hL _ (.inr (((spB_sub u b).mp z').subset hm))
    ·exact absurd (by rw [Bool.not_eq_true] at z z'; rw [z,z']) hu.1
  have hq:(u.take (i+1),nb a r.2.1 u[i],nb b r.2.2 u[i])∈cands L a b rs:=mem_cands.mpr ⟨r,hr,u[i],hcL,by rw [hc,er]⟩
  have so':=cands_sorted (a:=a) (b:=b) hS so
  have hlen:∀ q∈cands L a b rs,q.1.length=i+1:=fun q hq=>by
   obtain ⟨r',hr',c,_,rfl⟩:=mem_cands.mp hq
   show (r'.1 ++ [c]).length=_
   rw [List.length_append,(lv.len r' hr').1]
   rfl
  by_cases he:i+1=u.length
  ·have hv:u.take (i+1)=u:=by rw [he,List.take_length]
   rw [hv] at hq
   obtain ⟨pre,q,post,e1,e2,e3,e4⟩:=go_find (cands L a b rs) sn [] ⟨_,hq,(dis_dst lv hq).mpr hu.1⟩
   rw [e4]
   have hqc:q∈cands L a b rs:=by rw [e1]; exact List.mem_append_right _ List.mem_cons_self
   have dq:Dst a b q.1:=(dis_dst lv hqc).mp e3
   show some q.1=some u
   have hq2:=hq
   rw [e1] at hq2
   rcases List.mem_append.mp hq2 with z | z
   ·exact absurd ((dis_dst lv hq).mpr hu.1) (e2 _ z)
   ·rcases List.mem_cons.mp z with z | z
    ·rw [← z]
    ·rw [e1,List.pairwise_append] at so'
     cases so'.2.1 with
     | cons k1 _=>exact absurd dq (hu.2 q.1 (.inr ⟨by rw [hlen q hqc,he],k1 _ z⟩))
  ·have nod:∀ q∈cands L a b rs,¬ dis q:=fun q hq d=>hu.2 q.1 (.inl (by rw [hlen q hq]; omega)) ((dis_dst lv hq).mp d)
   cases g:go (cands L a b rs) sn [] with
   | inl w=>
    obtain ⟨q,hq',_,d⟩:=go_inl _ _ _ g
    exact absurd d (nod q hq')
   | inr p=>
    obtain ⟨sn',fr⟩:=p
    obtain ⟨new,G⟩:=go_inr _ _ _ g
    have ef:fr=new:=by rw [G.fr]; rfl
    subst ef
    have lv':=lv.next G
    have hz:u=u.take (i+1) ++ u.drop (i+1):=(List.take_append_drop _ _).symm
    have hp1:0 < nb a r.2.1 u[i]:=by
     rcases Nat.eq_zero_or_pos (nb a r.2.1 u[i]) with z | z
     ·have z2:nb b r.2.2 u[i]=0:=((G.all _ hq).1).mp z
      have k1:=(pos_nb (lv.one r hr).1).2 z
      have k2:=(pos_nb (lv.one r hr).2).2 z2
      refine absurd ?_ hu.1
      rw [← pos_sp,← pos_sp,hz,hc,← er,pos_app _ (r.1 ++ [u[i]]),pos_app _ (r.1 ++ [u[i]]),k1,k2]
      rfl
     ·exact z
    have hp2:0 < nb b r.2.2 u[i]:=by
     rcases Nat.eq_zero_or_pos (nb b r.2.2 u[i]) with z | z
     ·have:=((G.all _ hq).1).mpr z
      exact absurd (show nb a r.2.1 u[i]=0 from this) (by omega)
     ·exact z
    have o1:pos a (u.take (i+1)) 0=some (nb a r.2.1 u[i]):=by rw [hc,← er]; exact (pos_nb (lv.one r hr).1).1 hp1
    have o2:pos b (u.take (i+1)) 0=some (nb b r.2.2 u[i]):=by rw [hc,← er]; exact (pos_nb (lv.one r hr).2).1 hp2
    have du:Dst a b (u.take (i+1) ++ u.drop (i+1)):=by rw [← hz]; exact hu.1
    have ul:(u.take (i+1)).length=i+1:=by rw [List.length_take]; omega
    have dl:(u.drop (i+1)).length=u.length - (i+1):=List.length_drop ..
    have hkeep:=go_keep (q:=(u.take (i+1),nb a r.2.1 u[i],nb b r.2.2 u[i])) hp1 _ _ _ g hq so' (fun hm=>by
     obtain ⟨v,vl,v1,v2⟩:=hsn _ hm
     refine hu.2 (v ++ u.drop (i+1)) (.inl ?_) (dst_swap o1 o2 v1 v2 du)
     rw [List.length_append,dl]
     omega) (fun q' hq' l hx e=>by
     have hy:0 < q'.2.2:=by
      rcases Nat.eq_zero_or_pos q'.2.2 with z | z
      ·have:=((G.all _ hq').1).mpr z
       omega
      ·exact z
     obtain ⟨r',hr',c,_,rfl⟩:=mem_cands.mp hq'
     have v1:pos a (r'.1 ++ [c]) 0=some (nb a r'.2.1 c):=(pos_nb (lv.one r' hr').1).1 hx
     have v2:pos b (r'.1 ++ [c]) 0=some (nb b r'.2.2 c):=(pos_nb (lv.one r' hr').2).1 hy
     have e1:nb a r'.2.1 c=nb a r.2.1 u[i]:=congrArg (·.1) e
     have e2:nb b r'.2.2 c=nb b r.2.2 u[i]:=congrArg (·.2) e
     rw [e1] at v1
     rw [e2] at v2
     refine hu.2 ((r'.1 ++ [c]) ++ u.drop (i+1)) (.inr ⟨?_,?_⟩) (dst_swap o1 o2 v1 v2 du)
     ·rw [List.length_append,dl,hlen _ hq']
      omega
     ·have:=l.app (u.drop (i+1)) (u.drop (i+1))
      rw [← hz] at this
      exact this)
    obtain ⟨new',en,sub⟩:=go_sub _ _ _ g
    have en':fr=new':=by rw [en]; rfl
    rw [← en'] at sub
    refine bfs_least hL hS hu n (i+1) fr sn' lv' (so'.sublist sub) (fun p hp=>?_) (by omega) ⟨_,hkeep,rfl⟩ (by omega)
    rw [G.seen] at hp
    rcases List.mem_append.mp hp with z | z
    ·obtain ⟨v,vl,v1,v2⟩:=hsn p z
     exact ⟨v,by omega,v1,v2⟩
    ·obtain ⟨q',hq',rfl⟩:=List.mem_map.mp z
     exact ⟨q'.1,by rw [(lv'.len q' hq').1]; exact Nat.le_refl _,(lv'.one q' hq').1,(lv'.one q' hq').2⟩
theorem Least.len {a b u:List Nat} (h:Least a b u):0 < u.length∧u.length≤a.length+1:=by
 have h0:0 < u.length:=by
  cases u with
  | nil=>
   refine absurd ?_ h.1
   rw [← pos_sp,← pos_sp]
   rfl
  | cons=>simp
 refine ⟨h0,Nat.le_of_not_lt fun z=>?_⟩
 have na:¬ (u.take (a.length+1)).Sublist a:=fun s=>by
  have:=s.length_le
  rw [List.length_take] at this
  omega
 have hb:(u.take (a.length+1)).Sublist b:=by
  have:¬ u.Sublist a:=fun s=>by
   have:=s.length_le
   omega
  have hub:u.Sublist b:=by
   by_cases y:u.Sublist b
   ·exact y
   ·exact absurd ((spB_eq u a b).mpr ⟨fun q=>absurd q this,fun q=>absurd q y⟩) h.1
  exact (List.take_sublist _ _).trans hub
 refine h.2 (u.take (a.length+1)) (.inl ?_) fun q=>na (((spB_eq _ a b).mp q).mpr hb)
 rw [List.length_take]
 omega
theorem part_least {a b u:List Nat} (h:Least a b u):part a b=some u:=by
 have hl:=h.len
 refine bfs_least (fun c hc=>(mem_ltrs c _).mpr (List.mem_append.mpr hc)) (rise_ltrs _) h (a.length+1) 0 _ _ (lv0 a b) (by simp) (fun p hp=>absurd hp (by simp)) hl.1 ⟨_,List.mem_cons_self,rfl⟩ (by omega)
theorem part_iff {a b u:List Nat}:part a b=some u↔Least a b u:=by
 refine ⟨fun h=>?_,part_least⟩
 obtain ⟨v,hv⟩:=has_least ⟨u,(part_some h).1⟩
 have e:=part_least hv
 rw [h] at e
 rw [Option.some.inj e]
 exact hv
def al (k:Nat) (a b:List Nat):Prop:=∀ w:List Nat,w.length≤k→(w.Sublist a↔w.Sublist b)
theorem al.refl (k:Nat) (a:List Nat):al k a a:=fun _ _=>Iff.rfl
theorem part_al {k:Nat} {a b:List Nat}:alk (part a b) (k:Int)=true↔al k a b:=by
 cases hP:part a b with
 | none=>
  have:=part_none hP
  subst this
  exact ⟨fun _=>al.refl k a,fun _=>rfl⟩
 | some u=>
  have hu:=part_iff.mp hP
  have h0:=hu.len.1
  show decide ((k:Int)≤(u.length:Int) - 1)=true↔_
  rw [decide_eq_true_eq]
  constructor
  ·intro h w hw
   have:=hu.2 w (.inl (by omega))
   exact (spB_eq w a b).mp (Decidable.not_not.mp this)
  ·intro h
   by_cases z:u.length≤k
   ·exact absurd ((spB_eq u a b).mpr (h u z)) hu.1
   ·omega
def lev (T:List Nat):Nat→List (List Nat × Nat)
 | 0=>[([],0)]
 | i+1=>(lev T i).flatMap fun r=>((ltrs T).filter fun c=>decide (0 < nb T r.2 c)).map fun c=>(r.1 ++ [c],nb T r.2 c)
theorem lev_mem {T:List Nat}:∀ (i:Nat) (r:List Nat × Nat),r∈lev T i↔r.1.length=i∧pos T r.1 0=some r.2
 | 0,r=>by
  unfold lev
  rw [List.mem_singleton]
  constructor
  ·intro h
   rw [h]
   exact ⟨rfl,rfl⟩
  ·intro ⟨h1,h2⟩
   have e:r.1=[]:=List.eq_nil_of_length_eq_zero h1
   rw [e] at h2
   have:(0:Nat)=r.2:=Option.some.inj h2
   exact Prod.ext e this.symm
 | i+1,r=>by
  unfold lev
  rw [List.mem_flatMap]
  constructor
  ·rintro ⟨q,hq,h⟩
   obtain ⟨c,hc,rfl⟩:=List.mem_map.mp h
   obtain ⟨h1,h2⟩:=(lev_mem i q).mp hq
   have h3:=of_decide_eq_true (List.mem_filter.mp hc).2
   refine ⟨?_,(pos_nb h2).1 h3⟩
   show (q.1 ++ [c]).length=_
   rw [List.length_append,h1]
   rfl
  ·intro ⟨h1,h2⟩
   have hne:r.1≠[]:=fun e=>by rw [e] at h1; cases h1
   have hd:=List.dropLast_concat_getLast hne
   rw [← hd,pos_snoc] at h2
   cases hp:pos T r.1.dropLast 0 with
   | none=>rw [hp] at h2; cases h2
   | some p=>
    rw [hp] at h2
    have h2':(nx T p (r.1.getLast hne)).map (· + 1)=some r.2:=h2
    refine ⟨(r.1.dropLast,p),(lev_mem i _).mpr ⟨by rw [List.length_dropLast,h1]; rfl,hp⟩,List.mem_map.mpr ⟨r.1.getLast hne,List.mem_filter.mpr ⟨?_,?_⟩,?_⟩⟩
    ·rw [mem_ltrs]
     have hs:r.1.Sublist T:=by
      rw [← spB_sub,← pos_sp,← hd,pos_snoc,hp]
      show ((nx T p (r.1.getLast hne)).map (· + 1)).isSome=true
      rw [h2']
      rfl
     exact hs.subset (List.getLast_mem hne)
    ·refine decide_eq_true ?_
     unfold nb
     cases e:nx T p (r.1.getLast hne) with
     | none=>rw [e] at h2'; cases h2'
     | some k=>exact Nat.succ_pos _
    ·refine Prod.ext hd ?_
     show nb T p (r.1.getLast hne)=r.2
     unfold nb
     cases e:nx T p (r.1.getLast hne) with
     | none=>rw [e] at h2'; cases h2'
     | some k=>
      rw [e] at h2'
      exact Option.some.inj h2'
theorem lev_sorted (T:List Nat):∀ i,(lev T i).Pairwise fun r r'=>Lx r.1 r'.1
 | 0=>by simp [lev]
 | i+1=>by
  unfold lev
  rw [List.pairwise_flatMap]
  refine ⟨fun r _=>?_,(lev_sorted T i).imp fun {r r'} l x hx y hy=>?_⟩
  ·rw [List.pairwise_map]
   exact ((rise_ltrs T).sublist List.filter_sublist).imp fun {c d} l=>Lx.snoc l r.1
  ·obtain ⟨c,_,rfl⟩:=List.mem_map.mp hx
   obtain ⟨d,_,rfl⟩:=List.mem_map.mp hy
   exact l.app _ _
def wl (T:List Nat) (n:Nat):List (List Nat):=(List.range (n+1)).flatMap fun i=>(lev T i).map (·.1)
theorem wl_succ (T:List Nat) (n:Nat):wl T (n+1)=wl T n ++ (lev T (n+1)).map (·.1):=by
 unfold wl
 rw [List.range_succ,List.flatMap_append]
 simp
theorem wl_mem {T:List Nat} {n:Nat} {u:List Nat}:u∈wl T n↔u.length≤n∧u.Sublist T:=by
 unfold wl
 rw [List.mem_flatMap]
 constructor
 ·rintro ⟨i,hi,h⟩
  obtain ⟨r,hr,rfl⟩:=List.mem_map.mp h
  obtain ⟨h1,h2⟩:=(lev_mem i r).mp hr
  refine ⟨by have:=List.mem_range.mp hi; omega,?_⟩
  rw [← spB_sub,← pos_sp,h2]
  rfl
 ·intro ⟨h1,h2⟩
  refine ⟨u.length,List.mem_range.mpr (by omega),?_⟩
  rw [← spB_sub,← pos_sp] at h2
  cases hp:pos T u 0 with
  | none=>rw [hp] at h2; cases h2
  | some p=>exact List.mem_map.mpr ⟨(u,p),(lev_mem _ _).mpr ⟨rfl,hp⟩,rfl⟩
theorem sl_irrefl {u:List Nat} (h:sl u u):False:=by
 rcases h with h | ⟨_,h⟩
 ·omega
 ·have irr:∀ x y:List Nat,Lx x y→x=y→False:=fun x y h=>by
   induction h with
   | hd h=>intro e; injection e with e1 _; omega
   | tl _ ih=>intro e; injection e with _ e2; exact ih e2
  exact irr u u h rfl
theorem Lx.trans {x y z:List Nat} (h1:Lx x y) (h2:Lx y z):Lx x z:=by
 induction h1 generalizing z with
 | hd h=>
  cases h2 with
  | hd h'=>exact .hd (by omega)
  | tl _=>exact .hd h
 | tl _ ih=>
  cases h2 with
  | hd h'=>exact .hd h'
  | tl h'=>exact .tl (ih h')
theorem sl_trans {x y z:List Nat} (h1:sl x y) (h2:sl y z):sl x z:=by
 rcases h1 with a | ⟨a,a'⟩ <;> rcases h2 with b | ⟨b,b'⟩
 ·exact .inl (by omega)
 ·exact .inl (by omega)
 ·exact .inl (by omega)
 ·exact .inr ⟨by omega,a'.trans b'⟩
theorem wl_sorted (T:List Nat):∀ n,(wl T n).Pairwise sl
 | 0=>by simp [wl,lev]
 | n+1=>by
  rw [wl_succ,List.pairwise_append]
  refine ⟨wl_sorted T n,?_,fun x hx y hy=>?_⟩
  ·rw [List.pairwise_map]
   refine List.Pairwise.imp_of_mem (fun {r r'} hr hr' l=>.inr ⟨?_,l⟩) (lev_sorted T (n+1))
   rw [((lev_mem _ _).mp hr).1,((lev_mem _ _).mp hr').1]
  ·obtain ⟨r,hr,rfl⟩:=List.mem_map.mp hy
   have:=(wl_mem.mp hx).1
   have:=((lev_mem _ _).mp hr).1
   exact .inl (by omega)
theorem sl_ext:∀ {a b:List (List Nat)},a.Pairwise sl→b.Pairwise sl→(∀ u,u∈a↔u∈b)→a=b
 | [],[],_,_,_=>rfl
 | [],y :: b,_,_,h=>by
  have:=(h y).mpr List.mem_cons_self
  cases this
 | x :: a,[],_,_,h=>by
  have:=(h x).mp List.mem_cons_self
  cases this
 | x :: a,y :: b,ha,hb,h=>by
  cases ha with
  | cons ha1 ha2=>
   cases hb with
   | cons hb1 hb2=>
    have e:x=y:=by
     rcases List.mem_cons.mp ((h x).mp List.mem_cons_self) with e | e
     ·exact e
     ·rcases List.mem_cons.mp ((h y).mpr List.mem_cons_self) with e2 | e2
      ·exact e2.symm
      ·exact (sl_irrefl (sl_trans (hb1 x e) (ha1 y e2))).elim
    subst e
    rw [sl_ext ha2 hb2 fun z=>?_]
    constructor
    ·intro hz
     rcases List.mem_cons.mp ((h z).mp (List.mem_cons_of_mem _ hz)) with e | e
     ·exact (sl_irrefl (e▸ha1 z hz)).elim
     ·exact e
    ·intro hz
     rcases List.mem_cons.mp ((h z).mpr (List.mem_cons_of_mem _ hz)) with e | e
     ·exact (sl_irrefl (e▸hb1 z hz)).elim
     ·exact e
def spw (T:List Nat) (k:Nat):List (List Nat):=wl T (min k T.length)
theorem spw_mem {T:List Nat} {k:Nat} {u:List Nat}:u∈spw T k↔u.length≤k∧u.Sublist T:=by
 unfold spw
 rw [wl_mem]
 constructor
 ·intro ⟨h1,h2⟩
  exact ⟨by omega,h2⟩
 ·intro ⟨h1,h2⟩
  have:=h2.length_le
  exact ⟨by omega,h2⟩
theorem spw_al {T T':List Nat} {k:Nat}:spw T k=spw T' k↔al k T T':=by
 constructor
 ·intro h u hu
  have h1:=spw_mem (T:=T) (k:=k) (u:=u)
  have h2:=spw_mem (T:=T') (k:=k) (u:=u)
  rw [h] at h1
  constructor
  ·intro s
   exact (h2.mp (h1.mpr ⟨hu,s⟩)).2
  ·intro s
   exact (h1.mp (h2.mpr ⟨hu,s⟩)).2
 ·intro h
  refine sl_ext (wl_sorted _ _) (wl_sorted _ _) fun u=>?_
  show u∈spw T k↔u∈spw T' k
  rw [spw_mem,spw_mem]
  constructor
  ·intro ⟨h1,h2⟩
   exact ⟨h1,(h u h1).mp h2⟩
  ·intro ⟨h1,h2⟩
   exact ⟨h1,(h u h1).mpr h2⟩
def stV:Option Nat→V
 | none=>.non
 | some k=>nI (k+1)
inductive spStepI (vs:List V) (H:Hp) (Q:VK):Prop
 | mk (t:Str) (s c:Nat) (h1:vs=[.str t,nI s,.str ⟨#[c]⟩]) (h2:s≤t.length) (h3:t.length≤100) (h4:Q (stV (nx t.cps.toList s c)) H):spStepI vs H Q
def spStep:Sp:=fun vs H Q u3_=>spStepI vs H Q
theorem ok_law_step {f:Addr} {fd:FuncData} (F:Fun K "_law_step" "_law_step" s_law_step f fd) (Z:Blt mg):FnOk P w K mg base CX0 1 f fd ["_law_text","_law_at","_law_letter"] spStep:=by
 refine F.ok sc_law_step (fun vs H Q E h=>?_) (fun cdv A outer s H vs Q E hr h=>?_)
 ·obtain ⟨t,s,c,rfl,_⟩:=h
  rfl
 obtain ⟨t,s',c,rfl,hs,ht,k⟩:=h
 refine ⟨_,(pss_cons (ps_for PassesOwn.never (by rfl) (pi_range2 (by rfl) Z.range (pa_cons (pv 1) (pa_cons (pe_callB call_len_str (by rfl) Z.len bt_len (pa_cons (pv 0) pa_nil)) pa_nil))) (pg_name (i:=3) sc_law_step.nd (by rfl) (Or.inl (by rfl))) 
    (pss_one (ps_if (pt_cmpR op_eq (pe_ix ix_str (pv 0) (pv 3) (fun _ _=>rfl)) (pv 2) (nomark _)) 
     (pss_one (ps_ret (pe_op op_add (pv 3) pe_int))) pss_nil))) 
   (pss_one (ps_ret pe_non))),?_⟩
 refine (let zz0:TS:=_; (?_:tSeq _ zz0 _ _ _))
 have htl:=len_list t
 refine ⟨_,rfl,_,rfl,t,rfl,line_le (by omega),_,_,rfl,⟨by omega,by omega,by omega,by omega⟩,?_⟩
 refine for_range (lo:=(s':Int)) (n:=((t.length:Int) - (s':Int)).toNat) (fun j σ H2=>∃ v,σ=[some (.str t),some (nI s'),some (.str ⟨#[c]⟩),v]∧H2=H∧∀ v,s'≤v→v < s'+j→t.cps.toList.getD v 0≠c) ⟨none,rfl,rfl,fun v h1 h2=>by omega⟩ ?_ ?_
 ·rintro j σ H2 hj ⟨v,rfl,rfl,hn⟩
  have hjt:s'+j < t.cps.toList.length:=by omega
  have e:(s':Int)+(j:Int)=((s'+j:Nat):Int):=by omega
  refine ⟨_,rfl,_,rfl,t,_,_,rfl,rfl,line_le (by omega),(by rw [e]; exact atI_code hjt),_,rfl,rfl,_,rfl,?_⟩
  refine ite2 (fun c1=>?_) (fun c1=>?_)
  ·have hc1:t.cps.toList.getD (s'+j) 0=c:=(one_eq _ _).mp (of_decide_eq_true c1)
   have hx:nx t.cps.toList s' c=some (s'+j):=(nx_some (by omega)).mpr ⟨by omega,hjt,hc1,fun v g1 g2=>hn v g1 g2⟩
   rw [hx] at k
   refine ⟨_,rfl,_,_,rfl,rfl,?_⟩
   have e2:(s':Int)+(j:Int)+1=((s'+j+1:Nat):Int):=by omega
   show Q (.int ((s':Int)+(j:Int)+1)) H2
   rw [e2]
   exact k
  ·have hc1:t.cps.toList.getD (s'+j) 0≠c:=fun h=>c1 (decide_eq_true ((one_eq _ _).mpr h))
   refine ⟨_,rfl,rfl,fun v g1 g2=>?_⟩
   by_cases z:v=s'+j
   ·rw [z]; exact hc1
   ·exact hn v g1 (by omega)
 ·rintro σ H2 ⟨v,rfl,rfl,hn⟩
  have hx:nx t.cps.toList s' c=none:=(nx_none (by omega)).mpr fun v g1 g2=>hn v g1 (by omega)
  rw [hx] at k
  exact k
theorem val_met {p:Nat × Nat} {sn:List (Nat × Nat)} (h:0 < p.1):(valV (((0,0) :: sn).map kvp) (kvp p).1).isSome=decide (p∈sn):=by
 rw [val_seen]
 have:p≠(0,0):=fun e=>by rw [e] at h; exact absurd h (Nat.lt_irrefl _)
 simp [this]
theorem drop_at' {L:List Nat} {j c:Nat} (h:L[j]? = some c):L.drop j=c :: L.drop (j+1):=by
 have hj:=(List.getElem?_eq_some_iff.mp h).1
 rw [List.drop_eq_getElem_cons hj]
 rw [List.getElem?_eq_getElem hj] at h
 rw [Option.some.inj h]
structure Turn_ (H0 H:Hp) (cs:List Rw) (sn:List (Nat × Nat)) (vp mp fp:Addr) (xs:List V) (rs:List Rw) (rest:List Rw) (sn':List (Nat × Nat)) (fr:List Rw) (zs:List V):Prop where
 lay:H vp=some (.lst xs)
 rows:Rows H xs rs
 met:H mp=some (.dT (((0,0) :: sn').map kvp))
 fresh:H fp=some (.lst zs)
 frs:Rows H zs fr
 same:Same H0 H
 nd:sn'.Nodup
 le:∀ q∈sn',q.1≤31∧q.2≤31
 few:fr.length≤sn'.length
 eq:go cs sn []=go rest sn' fr
theorem Turn_.more {H0 H H':Hp} {cs:List Rw} {sn:List (Nat × Nat)} {vp mp fp:Addr} {xs:List V} {rs:List Rw} {rest:List Rw} {sn':List (Nat × Nat)} {fr:List Rw} {zs:List V} (T:Turn_ H0 H cs sn vp mp fp xs rs rest sn' fr zs) (e:Same H H'):Turn_ H0 H' cs sn vp mp fp xs rs rest sn' fr zs:=
 ⟨e _ _ T.lay,T.rows.keep (Tk.same e),e _ _ T.met,e _ _ T.fresh,T.frs.keep (Tk.same e),T.same.trans e,T.nd,T.le,T.few,T.eq⟩
theorem ok_law_parting {f:Addr} {fd:FuncData} (F:Fun K "_law_parting" "_law_parting" s_law_parting f fd) (Z:Blt mg) (C_law_step:Cal P w K mg base "_law_step" 1 ["_law_text","_law_at","_law_letter"] spStep):FnOk P w K mg base CX0 2 f fd ["_law_one","_law_other"] spParting:=by
 refine F.ok sc_law_parting (fun vs H Q E h=>?_) (fun cdv A outer s H vs Q E hr h=>?_)
 ·obtain ⟨a,b,rfl,_⟩:=h
  rfl
 obtain ⟨a,b,rfl,ha,hb,k⟩:=h
 refine ⟨_,(pss_cons (ps_set (i:=2) sc_law_parting.nd (by rfl) (Or.inl (by rfl)) (pe_lst (pa_cons (pe_tup (pa_cons pe_str (pa_cons pe_int (pa_cons pe_int pa_nil)))) pa_nil))) 
   (pss_cons (ps_set (i:=3) sc_law_parting.nd (by rfl) (Or.inl (by rfl)) (pe_dispT (hu_of hr) (pe_tup (pa_cons pe_int (pa_cons pe_int pa_nil))) pe_bl)) 
   (pss_cons (ps_while PassesOwn.never (pt_cmpR op_gt (pe_callB (call_lenK (K:=K)) (by rfl) Z.len bt_len (pa_cons (pv 2) pa_nil)) pe_int (nomark _)) 
    (pss_cons (ps_set (i:=4) sc_law_parting.nd (by rfl) (Or.inl (by rfl)) (pe_lst pa_nil)) 
    (pss_cons (ps_for PassesOwn.never (by rfl) (pi_listK (K:=K) (pv 2)) (pg_tupK (K:=K) (n:=3) (by rfl) (pgs_cons (pg_name (i:=5) sc_law_parting.nd (by rfl) (Or.inl (by rfl))) (pgs_cons (pg_name (i:=6) sc_law_parting.nd (by rfl) (Or.inl (by rfl))) (pgs_cons (pg_name (i:=7) sc_law_parting.nd (by rfl) (Or.inl (by rfl))) pgs_nil)))) 
     (pss_one (ps_for PassesOwn.never (by rfl) (pi_listK (K:=K) (pe_callB (call_sortset (by rfl)) (by rfl) Z.sorted bt_sorted (pa_cons (pe_callTy (call_set_s (by rfl)) (by rfl) Z.set bt_set (pa_cons (pe_op op_add_str (pv 0) (pv 1)) pa_nil)) pa_nil))) (pg_name (i:=8) sc_law_parting.nd (by rfl) (Or.inl (by rfl))) 
      (pss_cons (ps_par (i:=9) (j:=10) (by rfl) sc_law_parting.nd (by rfl) (by rfl) (by decide) (by rfl) (by rfl) (pa_cons (pe_c C_law_step (hr.mono (by decide)) (pa_cons (pv 0) (pa_cons (pv 6) (pa_cons (pv 8) pa_nil)))) (pa_cons (pe_c C_law_step (hr.mono (by decide)) (pa_cons (pv 1) (pa_cons (pv 7) (pa_cons (pv 8) pa_nil)))) pa_nil)) (by rfl)) 
      (pss_cons (ps_if (pt_cmpR op_ne (pe_cmpR op_isN (pv 9) pe_non (nomark _)) (pe_cmpR op_isN (pv 10) pe_non (nomark _)) (nomark _)) 
       (pss_one (ps_ret (pe_tup (pa_cons (pe_callB call_len_str (by rfl) Z.len bt_len (pa_cons (pv 5) pa_nil)) (pa_cons (pe_op op_add_str (pv 5) (pv 8)) pa_nil))))) pss_nil) 
      (pss_one (ps_if (PW.pt (pw_and (pt_cmpR op_notN (pv 9) pe_non (nomark _)) (pw_and1 (pt_cmp (pc_dnotin (hu_of hr) (pe_tup (pa_cons (pv 9) (pa_cons (pv 10) pa_nil))) (pv 3)))))) 
       (pss_cons (ps_dput (hu_of hr) (pv 3) (pe_tup (pa_cons (pv 9) (pa_cons (pv 10) pa_nil))) pe_bl rfl) 
       (pss_one (ps_expr (pe_bmK (K:=K) PySem.F.plainAttrs_list PySem.F.slot_list_append PySem.F.type_list_append mt_append (pv 4) (pa_cons (pe_tup (pa_cons (pe_op op_add_str (pv 5) (pv 8)) (pa_cons (pv 9) (pa_cons (pv 10) pa_nil)))) pa_nil))))) pss_nil))))))) 
    (pss_one (ps_set (i:=2) sc_law_parting.nd (by rfl) (Or.inl (by rfl)) (pv 4)))))) 
   (pss_one (ps_ret pe_non))))),?_⟩
 refine (let zz0:TS:=_; let zz1:TS:=_; let zz2:TS:=_; let zz3:TS:=tSeq _ zz2; let zz4:TS:=(tIfS _ zz3 _); let zz5:TS:=tSeq _ zz4; let zz6:TS:=tSeq _ zz5; let zz7:TS:=(tFor _ _ zz6); let zz8:TS:=tSeq (tFor _ _ zz7) zz1; let zz9:TS:=tSeq _ zz8; let zz10:TS:=tSeq (tWhile _ zz9) zz0; let zz11:TS:=tSeq _ zz10; (?_:tSeq _ zz11 _ _ _))
 have hal:=len_list a
 have hbl:=len_list b
 have hz:(a ++ b).length=a.length+b.length:=Str.length_append ..
 have hzl:(a ++ b).cps.toList=a.cps.toList ++ b.cps.toList:=by
  show (a.cps ++ b.cps).toList=_
  rw [Array.toList_append]
 have hL:(ltrs (a.cps.toList ++ b.cps.toList)).length≤100:=by
  have:=ltrs_len (a.cps.toList ++ b.cps.toList)
  rw [List.length_append] at this
  omega
 have hpart:part a.cps.toList b.cps.toList=bfs (ltrs (a.cps.toList ++ b.cps.toList)) a.cps.toList b.cps.toList (a.cps.toList.length+1) [([],0,0)] []:=rfl
 generalize hLe:ltrs (a.cps.toList ++ b.cps.toList)=L at hL hpart
 refine ⟨(by show 3≤sizeLine; decide),fun ra hra=>⟨(by show 1≤sizeLine; decide),fun vp hvp=>?_⟩⟩
 generalize hH2:upd (upd H ra _) vp _=H2
 have e2:Same H H2:=by rw [← hH2]; exact (same_new hra _).trans (same_new hvp _)
 have h2r:H2 ra=some (.tup (rv ([],0,0))):=by
  rw [← hH2]
  refine same_new hvp _ _ _ (upd_same.trans ?_)
  rw [S_nil]
  rfl
 have h2v:H2 vp=some (.lst [.ref ra]):=by rw [← hH2]; exact upd_same
 clear hH2
 intro mp hmp
 refine ⟨(by show 2≤sizeLine; decide),fun q0 hq0=>⟨_,_,rfl,same_new hq0 _ _ _ upd_same,q0,(kvp (0,0)).1,rfl,upd_same,?_⟩⟩
 have hm0:=none_of e2 hmp
 generalize hH3:upd (upd (upd H2 mp _) q0 _) mp _=H3
 have s3:Same H2 H3:=by
  rw [← hH3]
  exact same_put ((same_new hmp _).trans (same_new hq0 _)) hmp _
 have h3m:H3 mp=some (.dT (((0,0) :: ([]:List (Nat × Nat))).map kvp)):=by rw [← hH3]; exact upd_same
 clear hH3
 refine ⟨fun m σ H4=>∃ (i:Nat) (rs:List Rw) (sn:List (Nat × Nat)) (vp:Addr) (xs:List V) (v4 v5 v6 v7 v8 v9 v10:Option V),m=a.length+1 - i∧σ=[some (.str a),some (.str b),some (.ref vp),some (.ref mp),v4,v5,v6,v7,v8,v9,v10]∧H4 vp=some (.lst xs)∧Rows H4 xs rs∧
   H4 mp=some (.dT (((0,0) :: sn).map kvp))∧Same H H4∧Gone a.cps.toList b.cps.toList i rs sn∧part a.cps.toList b.cps.toList=bfs L a.cps.toList b.cps.toList (a.length+1 - i) rs sn,
  ⟨_,0,[([],0,0)],[],vp,[.ref ra],none,none,none,none,none,none,none,rfl,rfl,s3 _ _ h2v,.cons (s3 _ _ h2r) .nil,h3m,e2.trans s3,⟨lv0 _ _,List.nodup_nil,fun p hp=>absurd hp (by simp),by simp⟩,by rw [hpart,hal]; rfl⟩,?_⟩
 rintro m σ H4 ⟨i,rs,sn,vp,xs,v4,v5,v6,v7,v8,v9,v10,rfl,rfl,h4v,R4,h4m,e4,G4,hp4⟩
 have hRl:=R4.len
 refine ⟨_,rfl,vp,_,rfl,.inl (SqL.of h4v),_,_,rfl,rfl,_,rfl,?_⟩
 cases rs with
 | nil=>
  have:xs=[]:=List.eq_nil_of_length_eq_zero (by rw [hRl]; rfl)
  subst this
  refine iteF ?_
  rw [bfs_nil] at hp4
  exact k _ H4 ⟨e4,by rw [hp4]⟩
 | cons r0 rs0=>
  rw [hRl]
  have hil:i≤a.length:=by
   have:=(G4.lv.len r0 List.mem_cons_self).2.1
   have:=(G4.lv.le (r:=r0) List.mem_cons_self).1
   omega
  rw [show decide (((r0 :: rs0).length:Int) > 0)=true from decide_eq_true (by show (((rs0.length+1:Nat):Int)) > 0; omega)]
  refine iteT ⟨fun σ' H'=>∃ m',m' < a.length+1 - i∧_,fun _ _ z=>z,?_⟩
  refine ⟨(by show 0≤sizeLine; decide),fun fp hfp=>?_⟩
  have s5:=same_new hfp (.lst [])
  have hfp0:=none_of e4 hfp
  have hp5:part a.cps.toList b.cps.toList=(match go (cands L a.cps.toList b.cps.toList (r0 :: rs0)) sn [] with | .inl w=>some w | .inr (seen',fr)=>bfs L a.cps.toList b.cps.toList (a.length - i) fr seen'):=by
   rw [hp4,show a.length+1 - i=(a.length - i)+1 by omega]
   exact bfs_cons (by simp)
  have hgo:∀ sn' fr,go (cands L a.cps.toList b.cps.toList (r0 :: rs0)) sn []=.inr (sn',fr)→Gone a.cps.toList b.cps.toList (i+1) fr sn':=fun sn' fr g=>G4.next (by omega) (by omega) g
  have T0:Turn_ H (upd H4 fp (.lst [])) (cands L a.cps.toList b.cps.toList (r0 :: rs0)) sn vp mp fp xs (r0 :: rs0) (cands L a.cps.toList b.cps.toList ((r0 :: rs0).drop 0)) sn [] []:=
   ⟨s5 _ _ h4v,R4.keep (Tk.same s5),s5 _ _ h4m,upd_same,.nil,e4.trans s5,G4.nd,G4.le,Nat.zero_le _,rfl⟩
  have nvf:vp≠fp:=ne_of_none h4v hfp
  have hb4:∀ r∈r0 :: rs0,r.1.length≤100∧r.2.1≤a.cps.toList.length∧r.2.2≤b.cps.toList.length:=fun r hr=>by
   have l1:=G4.lv.le hr
   have l2:=G4.lv.len r hr
   exact ⟨by omega,l1.1,l1.2⟩
  generalize hcs:cands L a.cps.toList b.cps.toList (r0 :: rs0)=cs at hp5 hgo T0
  generalize r0 :: rs0=rs at hcs T0 hRl hb4
  refine ⟨_,rfl,vp,rfl,⟨_,SqL.of T0.lay⟩,?_⟩
  refine for_list (K:=K) (a:=vp) (xs:=xs) (fun n σ H7=>∃ (sn':List (Nat × Nat)) (fr:List Rw) (zs:List V) (v5 v6 v7 v8 v9 v10:Option V),σ=[some (.str a),some (.str b),some (.ref vp),some (.ref mp),some (.ref fp),v5,v6,v7,v8,v9,v10]∧Turn_ H H7 cs sn vp mp fp xs rs (cands L a.cps.toList b.cps.toList (rs.drop n)) sn' fr zs)
   ⟨sn,[],[],v5,v6,v7,v8,v9,v10,rfl,T0⟩ (fun j σ H7 _ h=>?_) ?_ ?_
  ·obtain ⟨sn',fr,zs,v5,v6,v7,v8,v9,v10,rfl,T⟩:=h
   exact SqL.of T.lay
  ·rintro n x σ H7 hx ⟨sn',fr,zs,v5,v6,v7,v8,v9,v10,rfl,T7⟩
   obtain ⟨ra,r,rfl,hr',hra⟩:=T7.rows.at_ hx
   obtain ⟨b1,b2,b3⟩:=hb4 r (List.mem_of_getElem? hr')
   refine ⟨ra,rv r,rfl,SqT.of hra,rfl,_,_,rfl,_,_,rfl,_,_,rfl,rfl,?_⟩
   refine ⟨_,rfl,_,rfl,_,_,rfl,rfl,line_le (by omega),_,rfl,by omega,fun l0 hl0=>⟨l0,_,_,rfl,upd_same,by omega,fun ls lp nd mem so hlp=>⟨lp,rfl,⟨_,SqL.of upd_same⟩,?_⟩⟩⟩
   rw [letters_of nd mem so,hzl,hLe]
   generalize hH8:upd (upd H7 l0 _) lp _=H8
   have s8:Same H7 H8:=by rw [← hH8]; exact (same_new hl0 _).trans (same_new hlp _)
   have h8l:H8 lp=some (.lst (L.map oneS)):=by rw [← hH8]; exact upd_same
   have nfl:lp≠fp:=(ne_of_none T7.fresh (none_of (same_new hl0 _) hlp)).symm
   clear hH8
   have T8:=T7.more s8
   have T8':Turn_ H H8 cs sn vp mp fp xs rs (((L.drop 0).map fun c=>(r.1 ++ [c],nb a.cps.toList r.2.1 c,nb b.cps.toList r.2.2 c)) ++ cands L a.cps.toList b.cps.toList (rs.drop (n+1))) sn' fr zs:=
    ⟨T8.lay,T8.rows,T8.met,T8.fresh,T8.frs,T8.same,T8.nd,T8.le,T8.few,by rw [T8.eq,drop_at hr']; rfl⟩
   refine for_list (K:=K) (a:=lp) (xs:=L.map oneS) (fun j σ H9=>∃ (sn':List (Nat × Nat)) (fr:List Rw) (zs:List V) (v8 v9 v10:Option V),σ=[some (.str a),some (.str b),some (.ref vp),some (.ref mp),some (.ref fp),some (.str (S r.1)),some (nI r.2.1),some (nI r.2.2),v8,v9,v10]∧H9 lp=some (.lst (L.map oneS))∧
     Turn_ H H9 cs sn vp mp fp xs rs (((L.drop j).map fun c=>(r.1 ++ [c],nb a.cps.toList r.2.1 c,nb b.cps.toList r.2.2 c)) ++ cands L a.cps.toList b.cps.toList (rs.drop (n+1))) sn' fr zs)
    ⟨sn',fr,zs,v8,v9,v10,rfl,h8l,T8'⟩ (fun j σ H9 _ h=>?_) ?_ ?_
   ·obtain ⟨sn',fr,zs,v8,v9,v10,rfl,h9,T⟩:=h
    exact SqL.of h9
   ·rintro j y σ H9 hy ⟨sn',fr,zs,v8,v9,v10,rfl,h9l,T9⟩
    rw [List.getElem?_map] at hy
    cases hc:L[j]? with
    | none=>rw [hc] at hy; cases hy
    | some c=>
     rw [hc] at hy
     cases hy
     have eq9:=T9.eq
     rw [drop_at' hc,List.map_cons,List.cons_append] at eq9
     have s1:(S r.1).length+(⟨#[c]⟩:Str).length≤1000:=by
      rw [S_len]
      show r.1.length+1≤1000
      omega
     refine ⟨_,rfl,_,rfl,_,rfl,a,r.2.1,c,rfl,by omega,by omega,_,rfl,_,rfl,_,rfl,b,r.2.2,c,rfl,by omega,by omega,_,_,rfl,?_⟩
     refine ⟨_,rfl,rfl,_,rfl,rfl,rfl,_,rfl,?_⟩
     rw [bl_ne]
     have parts:(decide (nb a.cps.toList r.2.1 c=0) != decide (nb b.cps.toList r.2.2 c=0))=true→∀ q H',H9 q=none→H'=upd H9 q (.tup [.int ((S r.1).length:Int),.str (S r.1 ++ ⟨#[c]⟩)])→Q (.ref q) H':=fun c1 q H' hq e=>by
      subst e
      refine k _ _ ⟨T9.same.trans (same_new hq _),?_⟩
      rw [hp5,eq9,go_parts c1]
      refine ⟨q,rfl,upd_same.trans ?_⟩
      rw [S_snoc,S_len,List.length_append]
      show some (HO.tup [V.int (r.1.length:Int),V.str (S (r.1 ++ [c]))])=some (HO.tup [V.int (((r.1.length+1:Nat):Int) - 1),V.str (S (r.1 ++ [c]))])
      rw [show ((r.1.length+1:Nat):Int) - 1=(r.1.length:Int) by omega]
     have stay:∀ (H':Hp) (v9 v10:Option V),Same H9 H'→(go cs sn []=go (((L.drop (j+1)).map fun c=>(r.1 ++ [c],nb a.cps.toList r.2.1 c,nb b.cps.toList r.2.2 c)) ++ cands L a.cps.toList b.cps.toList (rs.drop (n+1))) sn' fr)→
       ∃ (sn':List (Nat × Nat)) (fr:List Rw) (zs:List V) (v8' v9' v10':Option V),[some (.str a),some (.str b),some (.ref vp),some (.ref mp),some (.ref fp),some (.str (S r.1)),some (nI r.2.1),some (nI r.2.2),some (.str ⟨#[c]⟩),v9,v10]=[some (.str a),some (.str b),some (.ref vp),some (.ref mp),some (.ref fp),some (.str (S r.1)),some (nI r.2.1),some (nI r.2.2),v8',v9',v10']∧H' lp=some (.lst (L.map oneS))∧
        Turn_ H H' cs sn vp mp fp xs rs (((L.drop (j+1)).map fun c=>(r.1 ++ [c],nb a.cps.toList r.2.1 c,nb b.cps.toList r.2.2 c)) ++ cands L a.cps.toList b.cps.toList (rs.drop (n+1))) sn' fr zs:=fun H' v9 v10 e eqn=>by
      have T:=T9.more e
      exact ⟨sn',fr,zs,_,_,_,rfl,e _ _ h9l,⟨T.lay,T.rows,T.met,T.fresh,T.frs,T.same,T.nd,T.le,T.few,eqn⟩⟩
     cases n1:nx a.cps.toList r.2.1 c with
     | none=>
      have z1:nb a.cps.toList r.2.1 c=0:=by unfold nb; rw [n1]; rfl
      cases n2:nx b.cps.toList r.2.2 c with
      | none=>
       have z2:nb b.cps.toList r.2.2 c=0:=by unfold nb; rw [n2]; rfl
       refine iteF ⟨_,rfl,rfl,_,rfl,iteF (iteF (stay _ _ _ (fun _ _ z=>z) ?_))⟩
       rw [eq9]
       exact go_old (by rw [z1,z2]; decide) (fun z=>by have:=z.1; omega)
      | some k2=>
       have z2:nb b.cps.toList r.2.2 c=k2+1:=by unfold nb; rw [n2]; rfl
       refine iteT ⟨_,rfl,S r.1,rfl,line_le (by omega),_,rfl,_,rfl,_,_,rfl,rfl,line_le s1,(by show 2≤sizeLine; decide),fun q hq=>parts ?_ q _ hq rfl⟩
       rw [z1,z2]
       rfl
     | some k1=>
      have z1:nb a.cps.toList r.2.1 c=k1+1:=by unfold nb; rw [n1]; rfl
      cases n2:nx b.cps.toList r.2.2 c with
      | none=>
       have z2:nb b.cps.toList r.2.2 c=0:=by unfold nb; rw [n2]; rfl
       refine iteT ⟨_,rfl,S r.1,rfl,line_le (by omega),_,rfl,_,rfl,_,_,rfl,rfl,line_le s1,(by show 2≤sizeLine; decide),fun q hq=>parts ?_ q _ hq rfl⟩
       rw [z1,z2]
       rfl
      | some k2=>
       have z2:nb b.cps.toList r.2.2 c=k2+1:=by unfold nb; rw [n2]; rfl
       have c1:¬ (decide (k1+1=0) != decide (k2+1=0))=true:=by simp
       have p1:=nb_le (c:=c) b2
       have p2:=nb_le (c:=c) b3
       rw [z1] at p1
       rw [z2] at p2
       rw [z1,z2] at eq9
       refine iteF ⟨_,rfl,rfl,_,rfl,iteT ⟨_,rfl,_,rfl,(by show 2≤sizeLine; decide),fun q hq=>?_⟩⟩
       generalize hH10:upd H9 q _=H10
       have s10:Same H9 H10:=by rw [← hH10]; exact same_new hq _
       have h10q:H10 q=some (.tup ((kvp (k1+1,k2+1)).1.map kV)):=by rw [← hH10]; exact upd_same
       clear hH10
       have T10:=T9.more s10
       have h10l:=s10 _ _ h9l
       refine ⟨_,rfl,mp,_,rfl,DGet.t (k:=(kvp (k1+1,k2+1)).1) T10.met h10q,_,rfl,?_⟩
       rw [val_met (Nat.succ_pos _)]
       by_cases c3:(k1+1,k2+1)∈sn'
       ·rw [decide_eq_true c3]
        refine iteF (stay _ _ _ s10 ?_)
        rw [eq9]
        exact go_old c1 fun z=>z.2 c3
       rw [decide_eq_false c3]
       obtain ⟨nd11,le11⟩:=snoc_ok T9.nd T9.le c3 ⟨by show k1+1≤31; omega,by show k2+1≤31; omega⟩
       have l9:=seen_le T9.nd T9.le
       refine iteT ⟨_,rfl,_,rfl,_,rfl,(by show 2≤sizeLine; decide),fun q2 hq2=>?_⟩
       generalize hH11:upd H10 q2 _=H11
       have s11:Same H10 H11:=by rw [← hH11]; exact same_new hq2 _
       have h11q:H11 q2=some (.tup ((kvp (k1+1,k2+1)).1.map kV)):=by rw [← hH11]; exact upd_same
       clear hH11
       have T11:=T10.more s11
       have h11l:=s11 _ _ h10l
       refine ⟨mp,_,rfl,DPut.t (k:=(kvp (k1+1,k2+1)).1) T11.met h11q (by rw [List.length_map,List.length_cons,sizeLine_eq]; omega),?_⟩
       rw [put_seen (p:=(k1+1,k2+1)) (sn:=(0,0) :: sn') (fun z=>by
        rcases List.mem_cons.mp z with y | y
        ·cases y
        ·exact c3 y)]
       have nmf:fp≠mp:=ne_of T11.fresh T11.met fun z=>nomatch z
       have K12:=Tk.dct T11.met (.dT ((((0,0) :: sn') ++ [(k1+1,k2+1)]).map kvp))
       have e12:=same_put T11.same hm0 (.dT ((((0,0) :: sn') ++ [(k1+1,k2+1)]).map kvp))
       have h12f:upd H11 mp (.dT ((((0,0) :: sn') ++ [(k1+1,k2+1)]).map kvp)) fp=some (.lst zs):=by rw [upd_ne nmf]; exact T11.fresh
       have h12v:upd H11 mp (.dT ((((0,0) :: sn') ++ [(k1+1,k2+1)]).map kvp)) vp=some (.lst xs):=by rw [upd_ne (ne_of T11.lay T11.met fun z=>nomatch z)]; exact T11.lay
       have h12l:upd H11 mp (.dT ((((0,0) :: sn') ++ [(k1+1,k2+1)]).map kvp)) lp=some (.lst (L.map oneS)):=by rw [upd_ne (ne_of h11l T11.met fun z=>nomatch z)]; exact h11l
       have h12m:upd H11 mp (.dT ((((0,0) :: sn') ++ [(k1+1,k2+1)]).map kvp)) mp=some (.dT (((0,0) :: (sn' ++ [(k1+1,k2+1)])).map kvp)):=upd_same
       have R12:=T11.rows.keep K12
       have A12:=T11.frs.keep K12
       generalize upd H11 mp (.dT ((((0,0) :: sn') ++ [(k1+1,k2+1)]).map kvp))=H12 at K12 e12 h12f h12v h12l h12m R12 A12
       refine ⟨_,rfl,.inl ⟨rfl,_,SqL.of h12f⟩,_,rfl,_,rfl,_,_,rfl,rfl,line_le s1,_,rfl,_,rfl,(by show 3≤sizeLine; decide),fun q3 hq3=>?_⟩
       generalize hH13:upd H12 q3 _=H13
       have s13:Same H12 H13:=by rw [← hH13]; exact same_new hq3 _
       have h13q:H13 q3=some (.tup (rv (r.1 ++ [c],k1+1,k2+1))):=by
        rw [← hH13]
        refine upd_same.trans ?_
        rw [S_snoc]
        rfl
       clear hH13
       have h13f:=s13 _ _ h12f
       have zl:zs.length≤1024:=by
        rw [A12.len]
        have:=T9.few
        omega
       refine ⟨fp,_,_,rfl,rfl,h13f,(by rw [sizeLine_eq]; omega),?_⟩
       have K14:=Tk.lst h13f (.lst (zs ++ [.ref q3]))
       refine ⟨sn' ++ [(k1+1,k2+1)],fr ++ [(r.1 ++ [c],k1+1,k2+1)],zs ++ [.ref q3],_,_,_,rfl,?_,⟨?_,(R12.keep (Tk.same s13)).keep K14,?_,upd_same,((A12.keep (Tk.same s13)).keep K14).snoc (K14 _ _ h13q),same_put (e12.trans s13) hfp0 _,nd11,le11,?_,?_⟩⟩
       ·exact (upd_ne nfl).trans (s13 _ _ h12l)
       ·exact (upd_ne nvf).trans (s13 _ _ h12v)
       ·exact (upd_ne nmf.symm).trans (s13 _ _ h12m)
       ·rw [List.length_append,List.length_append]
        have:=T9.few
        show fr.length+1≤sn'.length+1
        omega
       ·rw [eq9]
        exact go_new c1 ⟨Nat.succ_pos _,c3⟩
   ·rintro σ H9 ⟨sn',fr,zs,v8,v9,v10,rfl,h9,T9⟩
    rw [List.length_map,List.drop_length] at T9
    exact ⟨sn',fr,zs,_,_,_,_,_,_,rfl,T9⟩
  ·rintro σ H7 ⟨sn',fr,zs,v5,v6,v7,v8,v9,v10,rfl,T7⟩
   have eq7:=T7.eq
   rw [hRl,List.drop_length] at eq7
   have hg8:go cs sn []=.inr (sn',fr):=eq7
   refine ⟨_,rfl,a.length+1 - (i+1),by omega,i+1,fr,sn',fp,zs,_,_,_,_,_,_,_,rfl,rfl,T7.fresh,T7.frs,T7.met,T7.same,hgo sn' fr hg8,?_⟩
   rw [hp5,hg8]
   show bfs L _ _ (a.length - i) fr sn'=bfs L _ _ (a.length+1 - (i+1)) fr sn'
   rw [show a.length+1 - (i+1)=a.length - i by omega]
def up1 (T:List Nat) (r:List Nat × Nat) (L:List Nat):List (List Nat × Nat):=(L.filter fun c=>decide (0 < nb T r.2 c)).map fun c=>(r.1 ++ [c],nb T r.2 c)
theorem up1_len (T:List Nat) (r:List Nat × Nat) (L:List Nat):(up1 T r L).length≤L.length:=by
 unfold up1
 rw [List.length_map]
 exact List.length_filter_le _ _
theorem flat_len {α β:Type} {f:α→List β} {n:Nat} (h:∀ x,(f x).length≤n):∀ l:List α,(l.flatMap f).length≤l.length * n
 | []=>by simp
 | x :: l=>by
  rw [List.flatMap_cons,List.length_append,List.length_cons,Nat.succ_mul]
  have:=h x
  have:=flat_len h l
  omega
theorem lev_len {T:List Nat} {m:Nat} (hm:(ltrs T).length≤m):∀ i,(lev T i).length≤m ^ i
 | 0=>Nat.le_refl _
 | i+1=>by
  have:=flat_len (f:=fun r=>up1 T r (ltrs T)) (n:=m) (fun r=>Nat.le_trans (up1_len _ _ _) hm) (lev T i)
  have h2:=lev_len hm i
  show ((lev T i).flatMap fun r=>up1 T r (ltrs T)).length≤_
  rw [Nat.pow_succ]
  exact Nat.le_trans this (Nat.mul_le_mul_right _ h2)
def strV (ws:List (List Nat)):List V:=ws.map fun u=>.str (S u)
theorem wl_len {T:List Nat} (hm:(ltrs T).length≤3):∀ n,n≤4→(wl T n).length≤121:=fun n hn=>by
 have h:=lev_len hm
 have h0:=h 0
 have h1:=h 1
 have h2:=h 2
 have h3:=h 3
 have h4:=h 4
 have e0:(wl T 0).length=(lev T 0).length:=by simp [wl]
 have st:∀ j,(wl T (j+1)).length=(wl T j).length+(lev T (j+1)).length:=fun j=>by rw [wl_succ,List.length_append,List.length_map]
 have s0:=st 0
 have s1:=st 1
 have s2:=st 2
 have s3:=st 3
 simp only [Nat.reduceAdd,Nat.reducePow] at *
 match n,hn with
 | 0,_=>omega
 | 1,_=>omega
 | 2,_=>omega
 | 3,_=>omega
 | 4,_=>omega
theorem strV_len (us:List (List Nat)):(strV us).length=us.length:=by unfold strV; rw [List.length_map]
theorem S_inj {a b:List Nat} (h:S a=S b):a=b:=by
 have:=congrArg (fun s:Str=>s.cps.toList) h
 simpa [S] using this
theorem lx_not {x y:List Nat} (h:Lx x y):¬ y < x:=by
 induction h with
 | hd h=>
  intro z
  cases z with
  | rel l=>omega
  | cons l=>omega
 | tl _ ih=>
  intro z
  cases z with
  | rel l=>omega
  | cons l=>exact ih l
theorem sl_ord {u v:List Nat} (h:sl u v):ordS (S v) (S u)=false:=by
 unfold ordS ordLt
 rw [S_len,S_len]
 rcases h with h | ⟨h,l⟩
 ·rw [if_neg (by omega),decide_eq_false (by omega)]
 ·rw [if_pos (by omega),decide_eq_false]
  simpa [S] using lx_not l
theorem ordered_of {us:List (List Nat)} (h:us.Pairwise sl):OrdAll (us.map fun u=>S u):=by
 unfold OrdAll
 rw [List.pairwise_map]
 exact h.imp sl_ord
theorem strV_at {us:List (List Nat)} {i:Nat} {x:V} (h:(strV us)[i]? = some x):∃ u,us[i]? = some u∧x=.str (S u):=by
 unfold strV at h
 rw [List.getElem?_map] at h
 cases e:us[i]? with
 | none=>rw [e] at h; cases h
 | some u=>rw [e] at h; exact ⟨u,rfl,(Option.some.inj h).symm⟩
theorem filter_take {α:Type} {f:α→Bool} {l:List α} {i:Nat} {x:α} (h:l[i]? = some x):(l.take (i+1)).filter f=(l.take i).filter f ++ if f x=true then [x] else []:=by
 rw [List.take_add_one,h,List.filter_append]
 by_cases z:f x=true
 ·rw [if_pos z]
  show _ ++ List.filter f [x]=_
  rw [List.filter_cons_of_pos z]
  rfl
 ·rw [if_neg z]
  show _ ++ List.filter f [x]=_
  rw [List.filter_cons_of_neg z]
  rfl
theorem strV_S (us:List (List Nat)):strV us=(us.map fun u=>S u).map V.str:=by
 unfold strV
 rw [List.map_map]
 rfl
theorem nd_le:∀ {a b:List Nat},a.Nodup→(∀ c∈a,c∈b)→a.length≤b.length
 | [],_,_,_=>Nat.zero_le _
 | x :: a,b,nd,h=>by
  have hx:x∈b:=h x List.mem_cons_self
  have q:=nd_le (a:=a) (b:=b.erase x) (List.nodup_cons.mp nd).2 fun c hc=>(List.mem_erase_of_ne fun e=>(List.nodup_cons.mp nd).1 (by rw [← e]; exact hc)).mpr (h c (List.mem_cons_of_mem _ hc))
  rw [List.length_erase_of_mem hx] at q
  have:=List.length_pos_of_mem hx
  rw [List.length_cons]
  omega
theorem spw_len {T L:List Nat} {k:Nat} (hT:∀ c∈T,c∈L) (hL:L.length≤3) (hk:k≤4):(ltrs T).length≤3∧(spw T k).length≤121:=by
 have h3:(ltrs T).length≤3:=by
  have nd:(ltrs T).Nodup:=(rise_ltrs T).imp fun {a b} h=>Nat.ne_of_lt h
  have sub:∀ c∈ltrs T,c∈L:=fun c hc=>hT c ((mem_ltrs c T).mp hc)
  exact Nat.le_trans (nd_le nd sub) hL
 exact ⟨h3,wl_len h3 _ (by omega)⟩
inductive spOrderI (vs:List V) (H:Hp) (Q:VK):Prop
 | mk (z:Str) (h1:vs=[.str z]) (h2:z.length≤1000) (h3:∀ q H',Same H H'→H' q=some (.tup [.int (z.length:Int),.str z])→Q (.ref q) H'):spOrderI vs H Q
def spOrder:Sp:=fun vs H Q u3_=>spOrderI vs H Q
theorem ok_law_order {f:Addr} {fd:FuncData} (F:Fun K "_law_order" "_law_order" s_law_order f fd) (Z:Blt mg):FnOk P w K mg base CX0 1 f fd ["_law_word_here"] spOrder:=by
 refine F.ok sc_law_order (fun vs H Q E h=>?_) (fun cdv A outer s H vs Q E hr h=>?_)
 ·obtain ⟨z,rfl,_⟩:=h
  rfl
 obtain ⟨z,rfl,hz,k⟩:=h
 refine ⟨_,(pss_one (ps_ret (pe_tup (pa_cons (pe_callB call_len_str (by rfl) Z.len bt_len (pa_cons (pv 0) pa_nil)) (pa_cons (pv 0) pa_nil))))),?_⟩
 exact ⟨_,rfl,z,rfl,line_le hz,_,rfl,(by show 2≤sizeLine; decide),fun q hq=>k q _ (same_new hq _) upd_same⟩
theorem key_order:KeyFn spOrder okS kfS:=fun v H Q ⟨z,e,hz⟩ h=>by
 subst e
 exact ⟨z,rfl,hz,h⟩
theorem any_key {kvs:List (Key × V)} {zs:List Str} (h:kvs.map (·.1)=zs.map Sum.inr) (z:Str):((kvs.any fun kv=>decide (kv.1=Sum.inr z))=true)↔z∈zs:=by
 rw [List.any_eq_true]
 constructor
 ·rintro ⟨q,hq,e⟩
  have:q.1∈zs.map Sum.inr:=by rw [← h]; exact List.mem_map.mpr ⟨q,hq,rfl⟩
  rw [of_decide_eq_true e] at this
  obtain ⟨y,hy,e2⟩:=List.mem_map.mp this
  cases e2
  exact hy
 ·intro hz
  have:(Sum.inr z:Key)∈kvs.map (·.1):=by rw [h]; exact List.mem_map.mpr ⟨z,hz,rfl⟩
  obtain ⟨q,hq,e⟩:=List.mem_map.mp this
  exact ⟨q,hq,decide_eq_true e⟩
theorem put_key {kvs:List (Key × V)} {zs:List Str} (h:kvs.map (·.1)=zs.map Sum.inr) (nd:zs.Nodup) (z:Str) (v:V) :
  ∃ zs':List Str,(putK kvs (Sum.inr z) v).map (·.1)=zs'.map Sum.inr∧zs'.Nodup∧(∀ y,y∈zs'↔y∈zs∨y=z)∧zs'.length≤zs.length+1:=by
 unfold putK
 by_cases c:z∈zs
 ·rw [if_pos ((any_key h z).mpr c)]
  refine ⟨zs,?_,nd,fun y=>⟨.inl,fun e=>e.elim id fun e=>e▸c⟩,by omega⟩
  rw [← h,List.map_map]
  refine List.map_congr_left fun q _=>?_
  show (if q.1=Sum.inr z then (q.1,v) else q).1=q.1
  split <;> rfl
 ·rw [if_neg fun e=>c ((any_key h z).mp e)]
  refine ⟨zs ++ [z],by rw [List.map_append,List.map_append,h]; rfl,List.nodup_append.mpr ⟨nd,by simp,fun a ha b hb e=>?_⟩,fun y=>by simp,by simp⟩
  rw [List.mem_singleton.mp hb] at e
  exact c (e▸ha)
theorem spw_nodup (t:List Nat) (k:Nat):(spw t k).Nodup:=by
 rw [List.nodup_iff_pairwise_ne]
 exact List.Pairwise.imp (S:=fun a b=>a≠b) (fun {a b} h e=>by subst e; exact sl_irrefl h) (wl_sorted t _)
theorem nodup_S {us:List (List Nat)} (h:us.Nodup):(us.map fun u=>S u).Nodup:=by
 rw [List.nodup_iff_pairwise_ne,List.pairwise_map]
 exact (List.nodup_iff_pairwise_ne.mp h).imp fun {a b} ne e=>ne (S_inj e)
theorem mem_S {us:List (List Nat)} {z:Str}:(z∈us.map fun u=>S u)↔z.cps.toList∈us:=by
 rw [List.mem_map]
 constructor
 ·rintro ⟨u,hu,rfl⟩
  simpa [S] using hu
 ·exact fun h=>⟨_,h,S_of z⟩
theorem comes_words {zs zs':List Str} {t:List Nat} {k:Nat} (nd:zs.Nodup) (mem:∀ z,z∈zs↔z.cps.toList∈spw t k) (h:L2.Comes zs zs'):zs'=(spw t k).map fun u=>S u:=by
 have p:zs.Perm ((spw t k).map fun u=>S u):=(List.perm_ext_iff_of_nodup nd (nodup_S (spw_nodup t k))).mpr fun z=>(mem z).trans mem_S.symm
 exact ord_one (h.1.trans p) h.2 (ordered_of (wl_sorted t _))
theorem words_few {zs:List Str} {t:List Nat} {k:Nat} (nd:zs.Nodup) (mem:∀ z,z∈zs↔z.cps.toList∈spw t k):zs.length=(spw t k).length:=by
 have p:zs.Perm ((spw t k).map fun u=>S u):=(List.perm_ext_iff_of_nodup nd (nodup_S (spw_nodup t k))).mpr fun z=>(mem z).trans mem_S.symm
 rw [p.length_eq,List.length_map]
theorem flat_strs (us:List (List Nat)):(strV us).all flatV=true:=by
 rw [List.all_eq_true]
 intro x hx
 obtain ⟨u,_,rfl⟩:=List.mem_map.mp hx
 rfl
def Put (H:Hp) (fp:Addr) (n:Nat) (ws:List (List Nat)) (H2:Hp):Prop:=∃ (kvs:List (Key × V)) (zs:List Str),H2 fp=some (.dK kvs)∧kvs.map (·.1)=zs.map Sum.inr∧zs.Nodup∧zs.length≤n∧(∀ z:Str,z∈zs↔z.cps.toList∈ws)∧Drew H H2 fp
theorem Put.more {H H2:Hp} {fp:Addr} {n:Nat} {ws:List (List Nat)} (h:Put H fp n ws H2) (hn:n < 1000000) (w:List Nat):∃ H3,DPut H2 fp (.str (S w)) (.bl true) H3∧Put H fp (n+1) (ws ++ [w]) H3:=by
 obtain ⟨kvs,zs,h1,h2,h3,h4,h5,h6⟩:=h
 obtain ⟨zs',g1,g2,g3,g4⟩:=put_key h2 h3 (S w) (.bl true)
 have hl:kvs.length=zs.length:=by
  have:=congrArg List.length h2
  rwa [List.length_map,List.length_map] at this
 refine ⟨_,DPut.k (k:=Sum.inr (S w)) h1 (by rw [sizeLine_eq]; omega),_,zs',upd_same,g1,g2,by omega,fun z=>?_,h6.trans (Drew.upd _)⟩
 rw [g3,h5,List.mem_append,List.mem_singleton]
 refine or_congr Iff.rfl ⟨fun e=>by rw [e],fun e=>?_⟩
 rw [← S_of z,e]
theorem Put.le {H H2:Hp} {fp:Addr} {n m:Nat} {ws:List (List Nat)} (h:Put H fp n ws H2) (hm:n≤m):Put H fp m ws H2:=by
 obtain ⟨kvs,zs,h1,h2,h3,h4,h5⟩:=h
 exact ⟨kvs,zs,h1,h2,h3,by omega,h5⟩
def grow (c k:Nat) (ws:List (List Nat)):List (List Nat):=(ws.filter fun u=>decide (u.length < k)).map fun u=>u ++ [c]
theorem grow_take {c k j:Nat} {ws:List (List Nat)} {u:List Nat} (h:ws[j]? = some u):grow c k (ws.take (j+1))=grow c k (ws.take j) ++ if u.length < k then [u ++ [c]] else []:=by
 unfold grow
 rw [filter_take h,List.map_append]
 by_cases z:u.length < k
 ·rw [if_pos (decide_eq_true z),if_pos z]
  rfl
 ·rw [if_neg (fun e=>z (of_decide_eq_true e)),if_neg z]
  rfl
theorem sub_snoc {u T:List Nat} {c:Nat}:u.Sublist (T ++ [c])↔u.Sublist T∨∃ v:List Nat,v.Sublist T∧u=v ++ [c]:=by
 rw [List.sublist_append_iff]
 constructor
 ·rintro ⟨a,b,rfl,ha,hb⟩
  cases hb with
  | cons _ hb=>
   have e:=List.sublist_nil.mp hb
   subst e
   rw [List.append_nil]
   exact .inl ha
  | cons_cons _ hb=>
   have e:=List.sublist_nil.mp hb
   subst e
   exact .inr ⟨a,ha,rfl⟩
 ·rintro (h | ⟨v,hv,rfl⟩)
  ·exact ⟨u,[],(List.append_nil u).symm,h,List.nil_sublist _⟩
  ·exact ⟨v,[c],rfl,hv,List.Sublist.refl _⟩
theorem grow_mem {T:List Nat} {c k:Nat} {ws:List (List Nat)} (h:∀ u,u∈ws↔u∈spw T k) (u:List Nat):u∈ws ++ grow c k ws↔u∈spw (T ++ [c]) k:=by
 rw [List.mem_append,h,spw_mem,spw_mem,sub_snoc]
 unfold grow
 rw [List.mem_map]
 constructor
 ·rintro (⟨h1,h2⟩ | ⟨v,hv,rfl⟩)
  ·exact ⟨h1,.inl h2⟩
  ·obtain ⟨hv1,hv2⟩:=List.mem_filter.mp hv
   have:=of_decide_eq_true hv2
   obtain ⟨_,hs⟩:=spw_mem.mp ((h v).mp hv1)
   exact ⟨by rw [List.length_append]; show v.length+1≤k; omega,.inr ⟨v,hs,rfl⟩⟩
 ·rintro ⟨h1,h2 | ⟨v,hv,rfl⟩⟩
  ·exact .inl ⟨h1,h2⟩
  ·rw [List.length_append] at h1
   have h1':v.length+1≤k:=h1
   exact .inr ⟨v,List.mem_filter.mpr ⟨(h v).mpr (spw_mem.mpr ⟨by omega,hv⟩),decide_eq_true (by omega)⟩,rfl⟩
theorem take_snoc {α:Type} {l:List α} {i:Nat} {x:α} (h:l[i]? = some x):l.take (i+1)=l.take i ++ [x]:=by rw [List.take_add_one,h]; rfl
def kvt (u:List Nat):Key × V:=(Sum.inr (S u),.bl true)
theorem merge_keys:∀ (ws:List (List Nat)) {kvs:List (Key × V)} {zs:List Str},kvs.map (·.1)=zs.map Sum.inr→zs.Nodup→
  ∃ zs':List Str,(mergeK kvs (ws.map kvt)).map (·.1)=zs'.map Sum.inr∧zs'.Nodup∧(∀ y:Str,y∈zs'↔y∈zs∨y.cps.toList∈ws)∧zs'.length≤zs.length+ws.length
 | [],kvs,zs,h,nd=>⟨zs,h,nd,fun y=>by simp,by simp⟩
 | u :: ws,kvs,zs,h,nd=>by
  obtain ⟨z1,g1,g2,g3,g4⟩:=put_key h nd (S u) (.bl true)
  obtain ⟨z2,k1,k2,k3,k4⟩:=merge_keys ws g1 g2
  refine ⟨z2,k1,k2,fun y=>?_,by rw [List.length_cons]; omega⟩
  rw [k3,g3,List.mem_cons]
  have:y=S u↔y.cps.toList=u:=⟨fun e=>by rw [e],fun e=>by rw [← S_of y,e]⟩
  rw [this]
  exact or_assoc
theorem same_drew {H H':Hp} {p:Addr} (d:Drew H H' p) (hp:H p=none):Same H H':=fun b o h=>d b o h (ne_of_none h hp)
inductive spSpreadLI (vs:List V) (H:Hp) (Q:VK):Prop
 | mk (t:Str) (kn:Nat) (L:List Nat) (h1:vs=[.str t,nI kn]) (h2:t.length≤60) (h3:L.length≤3) (h4:kn≤4) (h5:(∀ c∈t.cps.toList,c∈L)) (h6:∀ q H',H q=none→Same H H'→H' q=some (.lst (strV (spw t.cps.toList kn)))→Q (.ref q) H'):spSpreadLI vs H Q
def spSpreadL:Sp:=fun vs H Q u3_=>spSpreadLI vs H Q
theorem strV_lists (zs:List Str):strV (zs.map fun z=>z.cps.toList)=zs.map V.str:=by
 unfold strV
 rw [List.map_map]
 refine List.map_congr_left fun z _=>?_
 show V.str (S z.cps.toList)=_
 rw [S_of]
theorem mem_lists {zs:List Str} {u:List Nat}:u∈(zs.map fun z=>z.cps.toList)↔S u∈zs:=by
 rw [List.mem_map]
 constructor
 ·rintro ⟨z,hz,rfl⟩
  rw [S_of]; exact hz
 ·exact fun h=>⟨_,h,by simp [S]⟩
theorem ok_law_spread_words {f:Addr} {fd:FuncData} (F:Fun K "_law_spread_words" "_law_spread_words" s_law_spread_words f fd) (Z:Blt mg) (C_law_order:Cal P w K mg base "_law_order" 1 ["_law_word_here"] spOrder):FnOk P w K mg base CX0 4 f fd ["_law_text","_law_k"] spSpreadL:=by
 refine F.ok sc_law_spread_words (fun vs H Q E h=>?_) (fun cdv A outer s H vs Q E hr h=>?_)
 ·obtain ⟨t,kn,L,rfl,_⟩:=h
  rfl
 obtain ⟨t,kn,L,rfl,ht,hL3,hk4,hT,k⟩:=h
 refine ⟨_,(pss_cons (ps_set (i:=2) sc_law_spread_words.nd (by rfl) (Or.inl (by rfl)) (pe_disp (pps_cons pe_str pe_bl pps_nil) (by rfl) (by rfl) (by intro h; cases h) (by show 1≤15; decide))) 
   (pss_cons (ps_for PassesOwn.never (by rfl) (pi_str (pv 0)) (pg_name (i:=3) sc_law_spread_words.nd (by rfl) (Or.inl (by rfl))) 
    (pss_one (ps_for PassesOwn.never (by rfl) (pi_listK (K:=K) (pe_callTy (call_listD (by rfl)) (by rfl) Z.list bt_list (pa_cons (pv 2) pa_nil))) (pg_name (i:=4) sc_law_spread_words.nd (by rfl) (Or.inl (by rfl))) 
     (pss_one (ps_if (pt_cmpR op_lt (pe_callB call_len_str (by rfl) Z.len bt_len (pa_cons (pv 4) pa_nil)) (pv 1) (nomark _)) 
      (pss_one (ps_dput (hu_of hr) (pv 2) (pe_op op_add_str (pv 4) (pv 3)) pe_bl rfl)) pss_nil))))) 
   (pss_one (ps_ret (pe_sortDW C_law_order key_order (by rfl) (hr.mono (by decide)) (by rfl) Z.sorted (by rfl) (pv 2)))))),?_⟩
 refine (let zz0:TS:=_; let zz1:TS:=tSeq _ zz0; (?_:tSeq _ zz1 _ _ _))
 have htl:=len_list t
 refine fun fp hfp=>⟨upd_same,[kvt []],by rw [S_nil]; rfl,by show 1≤15; decide,?_⟩
 obtain ⟨zs0,z1,z2,z3,z4⟩:=merge_keys [[]] (kvs:=[]) (zs:=[]) rfl List.nodup_nil
 have P0:Put H fp 121 [[]] (upd (upd H fp (.dK [])) fp (.dK (mergeK [] ([[]].map kvt)))):=⟨_,zs0,upd_same,z1,z2,by simp only [List.length_nil,List.length_cons] at z4; omega,fun z=>(z3 z).trans (by simp),(Drew.upd _).trans (Drew.upd _)⟩
 refine ⟨_,rfl,t,rfl,?_⟩
 refine for_str (cs:=t.cps.toList) (fun i σ H2=>∃ (v3 v4:Option V) (ws:List (List Nat)),σ=[some (.str t),some (nI kn),some (.ref fp),v3,v4]∧(∀ u,u∈ws↔u∈spw (t.cps.toList.take i) kn)∧Put H fp 121 ws H2)
  ⟨none,none,[[]],rfl,fun u=>?_,P0⟩ ?_ ?_
 ·rw [List.take_zero,spw_mem,List.mem_singleton,List.sublist_nil]
  exact ⟨fun e=>⟨by rw [e]; exact Nat.zero_le _,e⟩,fun e=>e.2⟩
 ·rintro i c σ H2 hc ⟨v3,v4,ws,rfl,hm,kvs,zs,h2,g1,g2,g3,g4,d2⟩
  have hcm:c∈t.cps.toList:=List.mem_of_getElem? hc
  have hT1:∀ d∈t.cps.toList.take (i+1),d∈L:=fun d hd=>hT d (List.mem_of_mem_take hd)
  have l1:=(spw_len hT1 hL3 hk4).2
  refine ⟨_,rfl,fp,kvs,rfl,h2,fun lp hlp=>⟨lp,rfl,⟨_,SqL.of upd_same⟩,?_⟩⟩
  rw [keys_strs g1,← strV_lists]
  have s3:=same_new hlp (.lst (strV (zs.map fun z=>z.cps.toList)))
  have h3:=upd_same (H:=H2) (a:=lp) (o:=.lst (strV (zs.map fun z=>z.cps.toList)))
  have h3f:=s3 _ _ h2
  have nlf:lp≠fp:=(ne_of_none h2 hlp).symm
  generalize upd H2 lp (.lst (strV (zs.map fun z=>z.cps.toList)))=H3 at s3 h3 h3f
  have mem0:∀ u,u∈(zs.map fun z=>z.cps.toList)↔u∈spw (t.cps.toList.take i) kn:=fun u=>by
   rw [mem_lists,g4,← hm u]
  have P3:Put H3 fp 121 (zs.map fun z=>z.cps.toList) H3:=⟨kvs,zs,h3f,g1,g2,g3,fun z=>by rw [mem_lists,S_of],Drew.refl _ _⟩
  have ws15:(zs.map fun z=>z.cps.toList).length≤121:=by rw [List.length_map]; exact g3
  generalize (zs.map fun z=>z.cps.toList)=us at *
  refine for_list (K:=K) (a:=lp) (xs:=strV us) (fun j σ H4=>∃ (v4:Option V),σ=[some (.str t),some (nI kn),some (.ref fp),some (.str ⟨#[c]⟩),v4]∧Put H3 fp (121+j) (us ++ grow c kn (us.take j)) H4)
   ⟨v4,rfl,by simpa [grow] using P3⟩ (fun j σ H4 _ h=>?_) ?_ ?_
  ·obtain ⟨_,rfl,_,_,_,_,_,_,_,d⟩:=h
   exact SqL.of (d _ _ h3 nlf)
  ·rintro j x σ H4 hx ⟨v4,rfl,P4⟩
   obtain ⟨u,hu,rfl⟩:=strV_at hx
   have hj:j < us.length:=(List.getElem?_eq_some_iff.mp hu).1
   have ul:=(spw_mem.mp ((mem0 u).mp (List.mem_of_getElem? hu))).1
   refine ⟨_,rfl,S u,rfl,line_le (by rw [S_len]; omega),_,rfl,_,_,rfl,rfl,_,rfl,?_⟩
   rw [grow_take hu]
   refine ite2 (fun c1=>?_) (fun c1=>?_)
   ·have c1':u.length < kn:=by
     have:((S u).length:Int) < ((kn:Nat):Int):=of_decide_eq_true c1
     rw [S_len] at this
     omega
    obtain ⟨H5,D5,P5⟩:=P4.more (by omega) (u ++ [c])
    refine ⟨_,rfl,_,rfl,_,rfl,_,_,rfl,rfl,line_le (by rw [S_len]; show u.length+1≤1000; omega),fp,H5,rfl,?_,_,rfl,?_⟩
    ·rw [S_snoc]; exact D5
    ·rw [if_pos c1',← List.append_assoc]
     exact P5
   ·have c1':¬ u.length < kn:=fun z=>c1 (decide_eq_true (show ((S u).length:Int) < ((kn:Nat):Int) by rw [S_len]; omega))
    refine ⟨_,rfl,?_⟩
    rw [if_neg c1',List.append_nil]
    exact P4.le (by omega)
  ·rintro σ H4 ⟨v4,rfl,P4⟩
   rw [strV_len,List.take_length] at P4
   obtain ⟨kvs',zs',h4,q1,q2,q3,q4,d4⟩:=P4
   have mem1:∀ u,u∈us ++ grow c kn us↔u∈spw (t.cps.toList.take (i+1)) kn:=fun u=>by
    rw [take_snoc hc]
    exact grow_mem mem0 u
   have memz:∀ z:Str,z∈zs'↔z.cps.toList∈spw (t.cps.toList.take (i+1)) kn:=fun z=>(q4 z).trans (mem1 _)
   have zl:=words_few q2 memz
   exact ⟨_,_,_,rfl,mem1,kvs',zs',h4,q1,q2,by omega,q4,(d2.trans (Drew.same s3)).trans d4⟩
 ·rintro σ H2 ⟨v3,v4,ws,rfl,hm,kvs,zs,h2,g1,g2,g3,g4,d2⟩
  rw [List.take_length] at hm
  have mem:∀ z:Str,z∈zs↔z.cps.toList∈spw t.cps.toList kn:=fun z=>(g4 z).trans (hm _)
  have zl:=words_few g2 mem
  have l1:=(spw_len hT hL3 hk4).2
  have e2:=same_drew d2 hfp
  refine ⟨_,rfl,fp,kvs,zs,rfl,h2,g1,by omega,fun z hz=>?_,.inr ⟨by omega,g2⟩,fun zs' l H5 cm hl e5=>?_⟩
  ·have:=(spw_mem.mp ((mem z).mp hz)).1
   have:=len_list z
   omega
  rw [comes_words g2 mem cm,← strV_S]
  exact k l _ (none_of (e2.trans e5) hl) ((e2.trans e5).trans (same_new hl _)) upd_same
def PairAt (l:Str) (H:Hp) (q:Addr):Prop:=∃ t u:Str,H q=some (.tup [.str t,.str u])∧t.length≤30∧u.length≤30∧In l t∧In l u
inductive spTwoI (vs:List V) (H:Hp) (Q:VK):Prop
 | mk (p sc:Addr) (l:Str) (h1:vs=[.ref p,.str l]) (h2:0 < l.length) (h3:l.length≤3) (h4:FlowAt H p sc) (h5:∀ q H',PairAt l H' q→Drew H H' p→FlowAt H' p sc→Q (.ref q) H'):spTwoI vs H Q
def spTwo:Sp:=fun vs H Q u3_=>spTwoI vs H Q
theorem ok_law_two {f:Addr} {fd:FuncData} (F:Fun K "_law_two" "_law_two" s_law_two f fd) (Z:Blt mg) (C_law_pick:Cal P w K mg base "_law_pick" 1 ["_law_flow_here","_law_many"] spPick) (C_law_word:Cal P w K mg base "_law_word" 2 ["_law_flow_here","_law_letters_here","_law_most"] spWord)
  (C_law_otherwise:Cal P w K mg base "_law_otherwise" 2 ["_law_flow_here","_law_letters_here","_law_text"] spOther):FnOk P w K mg base CX0 3 f fd ["_law_flow_here","_law_letters_here"] spTwo:=by
 refine F.ok sc_law_two (fun vs H Q E h=>?_) (fun cdv A outer s H vs Q E hr h=>?_)
 ·obtain ⟨p,sc,l,rfl,_⟩:=h
  rfl
 obtain ⟨p,sc,l,rfl,hl0,hl1,FA,k⟩:=h
 refine ⟨_,(pss_cons (ps_set (i:=2) sc_law_two.nd (by rfl) (Or.inl (by rfl)) (pe_c C_law_pick (hr.mono (by decide)) (pa_cons (pv 0) (pa_cons pe_int pa_nil)))) 
   (pss_cons (ps_set (i:=3) sc_law_two.nd (by rfl) (Or.inl (by rfl)) (pe_c C_law_word (hr.mono (by decide)) (pa_cons (pv 0) (pa_cons (pv 1) (pa_cons pe_int pa_nil))))) 
   (pss_cons (ps_if (pt_cmpR op_eq (pv 2) pe_int (nomark _)) 
    (pss_one (ps_ret (pe_tup (pa_cons (pv 3) (pa_cons (pe_c C_law_word (hr.mono (by decide)) (pa_cons (pv 0) (pa_cons (pv 1) (pa_cons pe_int pa_nil)))) pa_nil))))) pss_nil) 
   (pss_cut (ps_if (pt_cmpR op_eq (pv 2) pe_int (nomark _)) 
    (pss_cons (ps_set (i:=4) sc_law_two.nd (by rfl) (Or.inl (by rfl)) (pe_op op_add_str (pe_c C_law_word (hr.mono (by decide)) (pa_cons (pv 0) (pa_cons (pv 1) (pa_cons pe_int pa_nil)))) (pe_ix ix_str (pv 1) (pe_c C_law_pick (hr.mono (by decide)) (pa_cons (pv 0) (pa_cons (pe_callB call_len_str (by rfl) Z.len bt_len (pa_cons (pv 1) pa_nil)) pa_nil))) (fun _ _=>rfl)))) 
    (pss_one (ps_set (i:=3) sc_law_two.nd (by rfl) (Or.inl (by rfl)) (pe_slice sl_str (pe_op op_mul_str (pv 4) pe_int) po_none (po_some (pe_op op_add pe_int (pe_c C_law_pick (hr.mono (by decide)) (pa_cons (pv 0) (pa_cons pe_int pa_nil))))))))) pss_nil) 
   (pss_cons (ps_set (i:=5) sc_law_two.nd (by rfl) (Or.inl (by rfl)) (pv 3)) 
   (pss_cut (ps_if (pt_cmpR op_eq (pv 2) pe_int (nomark _)) 
    (pss_one (ps_set (i:=5) sc_law_two.nd (by rfl) (Or.inl (by rfl)) (pe_op op_add_str (pv 3) (pe_c C_law_word (hr.mono (by decide)) (pa_cons (pv 0) (pa_cons (pv 1) (pa_cons (pe_op op_sub pe_int (pe_callB call_len_str (by rfl) Z.len bt_len (pa_cons (pv 3) pa_nil))) pa_nil))))))) pss_nil) 
   (pss_cons (ps_for PassesOwn.never (by rfl) (pi_range1 (by rfl) Z.range (pa_cons (pe_c C_law_pick (hr.mono (by decide)) (pa_cons (pv 0) (pa_cons pe_int pa_nil))) pa_nil)) (pg_name (i:=6) sc_law_two.nd (by rfl) (Or.inl (by rfl))) 
    (pss_one (ps_set (i:=5) sc_law_two.nd (by rfl) (Or.inl (by rfl)) (pe_slice sl_str (pe_c C_law_otherwise (hr.mono (by decide)) (pa_cons (pv 0) (pa_cons (pv 1) (pa_cons (pv 5) pa_nil)))) po_none (po_some pe_int))))) 
   (pss_one (ps_ret (pe_tup (pa_cons (pv 3) (pa_cons (pv 5) pa_nil)))))))))))),?_⟩
 refine (let zz0:TS:=_; let zz1:TS:=tSeq _ zz0; let zz2:TS:=tCut _ zz1; let zz3:TS:=tSeq _ zz2; let zz4:TS:=_; let zz5:TS:=tSeq _ zz4; let zz6:TS:=tCut (tIfS _ zz5 _) zz3; let zz7:TS:=tSeq _ zz6; let zz8:TS:=tSeq _ zz7; (?_:tSeq _ zz8 _ _ _))
 have fin:∀ (t u:Str) (H':Hp),t.length≤30→u.length≤30→In l t→In l u→Drew H H' p→FlowAt H' p sc→∀ q,H' q=none→Q (.ref q) (upd H' q (.tup [.str t,.str u])):=fun t u H' ht hu ti ui d F' q hq=>
  k q _ ⟨t,u,upd_same,ht,hu,ti,ui⟩ (d.trans (Drew.same (same_new hq _))) (F'.same (same_new hq _))
 refine ⟨_,rfl,p,sc,5,rfl,by decide,by decide,FA,fun wy xs0 _ _ hx0=>?_⟩
 have FA0:=FA.go hx0
 have d0:Drew H (upd H p (.lst xs0)) p:=Drew.upd _
 refine ⟨_,rfl,_,rfl,p,sc,l,30,rfl,hl0,by omega,by decide,by decide,FA0,fun t H1 ht htc dr1 FA1=>?_⟩
 have htl:=len_list t
 have d1:=d0.trans dr1
 refine ⟨_,rfl,rfl,_,rfl,?_⟩
 refine ite2 (fun _=>?_) (fun _=>?_)
 ·refine ⟨_,rfl,_,rfl,_,rfl,p,sc,l,30,rfl,hl0,by omega,by decide,by decide,FA1,fun u H2 hu huc dr2 FA2=>⟨(by show 2≤sizeLine; decide),fun q hq=>?_⟩⟩
  have hul:=len_list u
  exact fin t u H2 (by omega) (by omega) htc huc (d1.trans dr2) FA2 q hq
 refine ⟨fun σ' H'=>∃ (t:Str) (v4:Option V),σ'=[some (.ref p),some (.str l),some (.int wy),some (.str t),v4,none,none]∧t.length≤30∧In l t∧Drew H H' p∧FlowAt H' p sc,?_,?_⟩
 ·refine ⟨_,rfl,rfl,_,rfl,?_⟩
  refine ite2 (fun _=>?_) (fun _=>⟨t,none,rfl,by omega,htc,d1,FA1⟩)
  refine ⟨_,rfl,_,rfl,p,sc,l,4,rfl,hl0,by omega,by decide,by decide,FA1,fun u H2 hu huc dr2 FA2=>?_⟩
  have hul:=len_list u
  refine ⟨_,rfl,_,rfl,_,rfl,l,rfl,line_le (by omega),p,sc,_,rfl,by omega,by omega,FA2,fun r2 xs2 hr20 hr21 hx2=>?_⟩
  obtain ⟨c,hc,ha⟩:=atI_sign hr20 hr21
  have h1:(⟨#[c]⟩:Str).length=1:=rfl
  have h2:(u ++ (⟨#[c]⟩:Str)).length=u.length+1:=by rw [Str.length_append,h1]
  refine ⟨l,r2,c,rfl,rfl,line_le (by omega),ha,_,_,rfl,rfl,line_le (by omega),?_⟩
  refine ⟨_,rfl,_,30,rfl,rfl,by decide,(by omega),(by omega),_,rfl,p,sc,20,rfl,by decide,by decide,FA2.go hx2,fun r3 xs3 hr30 hr31 hx3=>?_⟩
  refine ⟨_,_,rfl,rfl,_,rfl,_,rfl,?_,?_⟩
  ·show ((List.replicate _ _).flatten.toArray).size≤sizeLine
   rw [List.size_toArray,len_rep,Array.length_toList]
   have e:(u ++ (⟨#[c]⟩:Str)).cps.size=u.length+1:=h2
   rw [e]
   exact line_le (by show 30 * (u.length+1)≤1000; omega)
  ·obtain ⟨c1,c2⟩:=cut_le (repS (u ++ (⟨#[c]⟩:Str)) (30:Int).toNat) (5+r3) (by omega)
   refine ⟨_,_,rfl,?_,In.cut (In.rep (In.app huc (In.one hc)) _) _ _,drew_go (drew_go (d1.trans dr2) _) _,(FA2.go hx2).go hx3⟩
   have:=len_list (Txt.slice (repS (u ++ (⟨#[c]⟩:Str)) (30:Int).toNat) none (some (5+r3)))
   omega
 rintro σ' H2 ⟨t,v4,rfl,ht,ti,d2,FA2⟩
 refine ⟨_,rfl,?_⟩
 refine ⟨fun σ' H'=>∃ (u:Str),σ'=[some (.ref p),some (.str l),some (.int wy),some (.str t),v4,some (.str u),none]∧u.length≤30∧In l u∧Drew H H' p∧FlowAt H' p sc,?_,?_⟩
 ·refine ⟨_,rfl,rfl,_,rfl,?_⟩
  refine ite2 (fun _=>?_) (fun _=>⟨t,rfl,by omega,ti,d2,FA2⟩)
  refine ⟨_,rfl,_,rfl,_,rfl,_,rfl,t,rfl,line_le (by omega),_,_,rfl,rfl,p,sc,l,_,rfl,hl0,by omega,by omega,by omega,FA2,fun u H3 hu huc dr3 FA3=>?_⟩
  have hul:=len_list u
  refine ⟨_,_,rfl,rfl,line_le (by omega),_,rfl,?_,ti.app huc,d2.trans dr3,FA3⟩
  rw [Str.length_append]
  omega
 rintro σ' H3 ⟨u,rfl,hu,ui,d3,FA3⟩
 refine ⟨_,rfl,p,sc,4,rfl,by decide,by decide,FA3,fun r4 xs4 hr40 hr41 hx4=>?_⟩
 refine ⟨_,rfl,by omega,by omega,?_⟩
 refine for_range (lo:=0) (n:=r4.toNat) (fun i σ H4=>∃ (u:Str) (v6:Option V),σ=[some (.ref p),some (.str l),some (.int wy),some (.str t),v4,some (.str u),v6]∧u.length≤30∧In l u∧Drew H H4 p∧FlowAt H4 p sc) ⟨u,none,rfl,hu,ui,drew_go d3 _,FA3.go hx4⟩ ?_ ?_
 ·rintro i σ H4 hi ⟨u,v6,rfl,hu,ui,d4,FA4⟩
  refine ⟨_,rfl,_,rfl,_,rfl,p,sc,l,u,rfl,hl0,by omega,by omega,ui,FA4,fun z H5 hz zi dr5 FA5=>?_⟩
  refine ⟨_,rfl,z,rfl,line_le (by omega),_,_,rfl,?_,zi.cut _ _,d4.trans dr5,FA5⟩
  obtain ⟨c1,_⟩:=cut_le z 30 (by decide)
  have:=len_list (Txt.slice z none (some 30))
  omega
 ·rintro σ H4 ⟨u,v6,rfl,hu,ui,d4,FA4⟩
  exact ⟨_,rfl,_,rfl,(by show 2≤sizeLine; decide),fun q hq=>fin t u H4 ht hu ti ui d4 FA4 q hq⟩
theorem eqL_strV:∀ a b:List (List Nat),eqL (strV a) (strV b)=decide (a=b)
 | [],[]=>by simp [eqL,strV]
 | [],_ :: _=>by simp [eqL,strV]
 | _ :: _,[]=>by simp [eqL,strV]
 | x :: a,y :: b=>by
  have ih:=eqL_strV a b
  show (eqV (.str (S x)) (.str (S y)) && eqL (strV a) (strV b))=_
  rw [ih]
  have:eqV (.str (S x)) (.str (S y))=decide (x=y):=by
   show (S x==S y)=_
   by_cases e:x=y
   ·subst e; simp
   ·rw [decide_eq_false e]
    exact beq_eq_false_iff_ne.mpr fun z=>e (S_inj z)
  rw [this]
  by_cases e:x=y
  ·subst e; simp
  ·simp [e]
theorem toldP_non {H H':Hp} {o:Option (List Nat)} {v:V} (h:ToldP H o v H'):decide (v=V.non)=o.isNone:=by
 obtain ⟨_,h⟩:=h
 cases o with
 | none=>
  have h':v=.non:=h
  rw [h']
  rfl
 | some ks=>
  obtain ⟨l,rfl,_⟩:=h
  rfl
theorem pair_den {H:Hp} {l:Addr} {x y:Bool} (h:H l=some (.lst [.bl x,.bl y])):Den H (.ref l) (.lst [.bl x,.bl y]):=by
 refine Den.lst h (by show 2≤1000000; decide) rfl fun i u d q1 q2=>?_
 match i,q1,q2 with
 | 0,q1,q2=>
  cases q1
  cases q2
  exact .bl _
 | 1,q1,q2=>
  cases q1
  cases q2
  exact .bl _
 | i+2,q1,q2=>cases q1
theorem due_is (t u:List Nat) (k:Nat):eqL (strV (spw t k)) (strV (spw u k))=alk (part t u) (k:Int):=by
 rw [eqL_strV,Bool.eq_iff_iff,decide_eq_true_eq,spw_al,part_al]
theorem ok_law {f:Addr} {fd:FuncData} (F:Fun K "law" "law" s_law f fd) (Z:Blt mg) (C_law_flow:Cal P w K mg base "_law_flow" 1 ["_law_script"] (spFlow K)) (C_law_pick:Cal P w K mg base "_law_pick" 1 ["_law_flow_here","_law_many"] spPick) (C_law_letters:Cal P w K mg base "_law_letters" 2 ["_law_flow_here","_law_many"] spLetters)
  (C_law_two:Cal P w K mg base "_law_two" 3 ["_law_flow_here","_law_letters_here"] spTwo) (C_law_parting:Cal P w K mg base "_law_parting" 2 ["_law_one","_law_other"] spParting) (C_alike:Cal P w K mg base "alike" 5 ["one","other","k"] spAlk)
  (C_law_spread_words:Cal P w K mg base "_law_spread_words" 4 ["_law_text","_law_k"] spSpreadL) (C_law_alike:Cal P w K mg base "_law_alike" 2 ["_law_found","_law_due"] (spAlike 2)):FnOk P w K mg base CX0 6 f fd ["_law_script"] (spLaw K):=by
 refine F.ok sc_law (fun vs H Q E h=>?_) (fun cdv A outer s H vs Q E hr h=>?_)
 ·obtain ⟨a,ns,rfl,_⟩:=h
  rfl
 obtain ⟨a,ns,rfl,hS,h63,k⟩:=h
 refine ⟨_,(pss_cons (ps_set (i:=1) sc_law.nd (by rfl) (Or.inl (by rfl)) (pe_c C_law_flow (hr.mono (by decide)) (pa_cons (pv 0) pa_nil))) 
   (pss_cons (ps_set (i:=2) sc_law.nd (by rfl) (Or.inl (by rfl)) (pe_c C_law_letters (hr.mono (by decide)) (pa_cons (pv 1) (pa_cons (pe_op op_add pe_int (pe_c C_law_pick (hr.mono (by decide)) (pa_cons (pv 1) (pa_cons pe_int pa_nil)))) pa_nil)))) 
   (pss_cons (ps_set (i:=3) sc_law.nd (by rfl) (Or.inl (by rfl)) (pe_c C_law_pick (hr.mono (by decide)) (pa_cons (pv 1) (pa_cons pe_int pa_nil)))) 
   (pss_cons (ps_for PassesOwn.never (by rfl) (pi_range1 (by rfl) Z.range (pa_cons pe_int pa_nil)) (pg_name (i:=4) sc_law.nd (by rfl) (Or.inl (by rfl))) 
    (pss_cons (ps_asg (pe_c C_law_two (hr.mono (by decide)) (pa_cons (pv 1) (pa_cons (pv 2) pa_nil))) (pg_tupK (K:=K) (n:=2) (by rfl) (pgs_cons (pg_name (i:=5) sc_law.nd (by rfl) (Or.inl (by rfl))) (pgs_cons (pg_name (i:=6) sc_law.nd (by rfl) (Or.inl (by rfl))) pgs_nil)))) 
    (pss_cons (ps_for PassesOwn.never (by rfl) (pi_range1 (by rfl) Z.range (pa_cons pe_int pa_nil)) (pg_name (i:=7) sc_law.nd (by rfl) (Or.inl (by rfl))) 
     (pss_cons (ps_set (i:=8) sc_law.nd (by rfl) (Or.inl (by rfl)) (pe_cmpR (op_eqS (K:=K) (hu_lt hr)) (pe_c C_law_spread_words (hr.mono (by decide)) (pa_cons (pv 5) (pa_cons (pv 7) pa_nil))) (pe_c C_law_spread_words (hr.mono (by decide)) (pa_cons (pv 6) (pa_cons (pv 7) pa_nil))) (nomark _))) 
     (pss_one (ps_if (pt_not (pt_truthK (K:=K) (pe_c C_law_alike (hr.mono (by decide)) (pa_cons (pe_lst (pa_cons (pe_c C_alike (hr.mono (by decide)) (pa_cons (pv 5) (pa_cons (pv 6) (pa_cons (pv 7) pa_nil)))) (pa_cons (pe_c C_alike (hr.mono (by decide)) (pa_cons (pv 6) (pa_cons (pv 5) (pa_cons (pv 7) pa_nil)))) pa_nil))) (pa_cons (pe_lst (pa_cons (pv 8) (pa_cons (pv 8) pa_nil))) pa_nil))) (fun _=>rfl))) 
      (pss_one (ps_ret pe_bl)) pss_nil)))) 
    (pss_cons (ps_set (i:=9) sc_law.nd (by rfl) (Or.inl (by rfl)) (pe_c C_law_parting (hr.mono (by decide)) (pa_cons (pv 5) (pa_cons (pv 6) pa_nil)))) 
    (pss_one (ps_for PassesOwn.never (by rfl) (pi_listK (K:=K) (pe_lst (pa_cons (pv 3) (pa_cons pe_int (pa_cons (pe_callB call_len_str (by rfl) Z.len bt_len (pa_cons (pv 5) pa_nil)) (pa_cons pe_int pa_nil)))))) (pg_name (i:=7) sc_law.nd (by rfl) (Or.inl (by rfl))) 
     (pss_one (ps_if (pt_not (pt_truthK (K:=K) (pe_c C_law_alike (hr.mono (by decide)) (pa_cons (pe_c C_alike (hr.mono (by decide)) (pa_cons (pv 5) (pa_cons (pv 6) (pa_cons (pv 7) pa_nil)))) (pa_cons (pe_or (pe_cmpR op_isN (pv 9) pe_non (nomark _)) (pe_one (pe_cmpR op_le (pv 7) (pe_ix (ix_tupK (K:=K)) (pv 9) pe_int (fun _ _=>rfl)) (nomark _)))) pa_nil))) (fun _=>rfl))) 
      (pss_one (ps_ret pe_bl)) pss_nil)))))))) 
   (pss_one (ps_ret pe_bl)))))),?_⟩
 refine (let zz0:TS:=_; let zz1:TS:=_; let zz2:TS:=tSeq _ zz1; let zz3:TS:=_; let zz4:TS:=tSeq _ zz3; let zz5:TS:=tSeq (tFor _ _ zz4) zz2; let zz6:TS:=tSeq _ zz5; let zz7:TS:=tSeq (tFor _ _ zz6) zz0; let zz8:TS:=tSeq _ zz7; let zz9:TS:=tSeq _ zz8; (?_:tSeq _ zz9 _ _ _))
 refine ⟨_,rfl,a,ns,rfl,hS,fun p sc H1 hp e1 FA=>?_⟩
 refine ⟨_,rfl,_,rfl,p,sc,3,rfl,by decide,by decide,FA,fun r0 xs0 h00 h01 hx0=>⟨_,_,rfl,rfl,p,sc,1+r0,rfl,by omega,by omega,FA.go hx0,fun l H3 hl dr3 FA3=>?_⟩⟩
 have hll:=len_list l
 have hl0:0 < l.length:=by rw [← hll,hl.1]; omega
 have hl1:l.length≤3:=by rw [← hll,hl.1]; omega
 refine ⟨_,rfl,p,sc,41,rfl,by decide,by decide,FA3,fun r1 xs1 h10 h11 hx1=>?_⟩
 refine ⟨_,rfl,by decide,by decide,?_⟩
 refine for_range (lo:=0) (n:=2) (fun i σ H4=>∃ v4 v5 v6 v7 v8 v9,σ=[some (.ref a),some (.ref p),some (.str l),some (.int r1),v4,v5,v6,v7,v8,v9]∧FlowAt H4 p sc) ⟨none,none,none,none,none,none,rfl,FA3.go hx1⟩ ?_ ?_
 ·rintro i σ H4 hi ⟨v4,v5,v6,v7,v8,v9,rfl,FA4⟩
  refine ⟨_,rfl,_,rfl,p,sc,l,rfl,hl0,hl1,FA4,fun q H5 hq dr5 FA5=>?_⟩
  obtain ⟨t,u,hq5,ht,hu,ti,ui⟩:=hq
  refine ⟨q,_,rfl,SqT.of hq5,rfl,_,_,rfl,_,_,rfl,rfl,?_⟩
  refine ⟨_,rfl,by decide,by decide,?_⟩
  refine for_range (lo:=0) (n:=5) (fun j σ H6=>∃ v7 v8,σ=[some (.ref a),some (.ref p),some (.str l),some (.int r1),some (.int (0+(i:Int))),some (.str t),some (.str u),v7,v8,v9]∧Same H5 H6) ⟨v7,v8,rfl,Same.refl _⟩ ?_ ?_
  ·rintro j σ H6 hj ⟨v7,v8,rfl,e6⟩
   rw [Int.zero_add (j:Int)]
   refine ⟨_,rfl,_,rfl,t,j,l.cps.toList,rfl,by omega,by omega,by omega,ti,fun q1 H7 hq1 e7 h7=>?_⟩
   refine ⟨_,rfl,_,rfl,u,j,l.cps.toList,rfl,by omega,by omega,by omega,ui,fun q2 H8 hq2 e8 h8=>?_⟩
   refine ⟨q1,q2,_,_,rfl,rfl,.inl ⟨SqL.of (e8 _ _ h7),SqL.of h8⟩,flat_strs _,flat_strs _,?_⟩
   rw [if_neg (by decide),due_is]
   refine ⟨_,rfl,_,rfl,_,rfl,t,u,(j:Int),rfl,by omega,by omega,fun H9 e9=>?_⟩
   refine ⟨_,rfl,_,rfl,_,rfl,u,t,(j:Int),rfl,by omega,by omega,fun H10 e10=>?_⟩
   rw [part_swap t.cps.toList u.cps.toList]
   refine ⟨(by show 2≤sizeLine; decide),fun q3 hq3=>?_⟩
   refine ⟨_,rfl,_,rfl,(by show 2≤sizeLine; decide),fun q4 hq4=>?_⟩
   generalize alk (part t.cps.toList u.cps.toList) (j:Int)=d at *
   have s3:=same_new hq3 (.lst [.bl d,.bl d])
   have s4:=same_new hq4 (.lst [.bl d,.bl d])
   refine ⟨_,_,.lst [.bl d,.bl d],rfl,by simp [Dt.dep],pair_den (s4 _ _ upd_same),pair_den upd_same,fun H11 e11=>⟨_,rfl,iteF ?_⟩⟩
   exact ⟨_,_,rfl,((((((e6.trans e7).trans e8).trans e9).trans e10).trans s3).trans s4).trans e11⟩
  ·rintro σ H6 ⟨v7,v8,rfl,e6⟩
   refine ⟨_,rfl,_,rfl,t,u,rfl,by omega,by omega,fun vd H7 T7=>?_⟩
   refine ⟨_,rfl,_,rfl,t,rfl,line_le (by omega),(by show 4≤sizeLine; decide),fun q3 hq3=>⟨q3,rfl,⟨_,SqL.of upd_same⟩,?_⟩⟩
   have s3:=same_new hq3 (.lst [.int r1,.int 40,.int (t.length:Int),.int 0])
   have h3:=upd_same (H:=H7) (a:=q3) (o:=.lst [.int r1,.int 40,.int (t.length:Int),.int 0])
   generalize upd H7 q3 (.lst [.int r1,.int 40,.int (t.length:Int),.int 0])=Hb at s3 h3 ⊢
   refine for_list (K:=K) (a:=q3) (xs:=[.int r1,.int 40,.int (t.length:Int),.int 0]) (fun j σ H8=>∃ v7,σ=[some (.ref a),some (.ref p),some (.str l),some (.int r1),some (.int (0+(i:Int))),some (.str t),some (.str u),v7,v8,some vd]∧Same Hb H8) ⟨v7,rfl,Same.refl _⟩ (fun j σ H8 _ h=>?_) ?_ ?_
   ·obtain ⟨v7,rfl,e8⟩:=h
    exact SqL.of (e8 _ _ h3)
   ·rintro j x σ H8 hx ⟨v7,rfl,e8⟩
    obtain ⟨n,rfl⟩:∃ n:Int,x=.int n:=by
     have hm:=List.mem_of_getElem? hx
     simp only [List.mem_cons,List.not_mem_nil,or_false] at hm
     rcases hm with z | z | z | z <;> exact ⟨_,z⟩
    refine ⟨_,rfl,_,rfl,_,rfl,t,u,n,rfl,by omega,by omega,fun H9 e9=>?_⟩
    refine ⟨_,rfl,rfl,_,rfl,?_⟩
    rw [toldP_non T7]
    have e7:Same H7 H9:=(s3.trans e8).trans e9
    cases hP:part t.cps.toList u.cps.toList with
    | none=>exact iteT ⟨_,_,.bl true,rfl,by simp [Dt.dep],.bl _,.bl _,fun H10 e10=>⟨_,rfl,iteF ⟨_,rfl,(e8.trans e9).trans e10⟩⟩⟩
    | some y=>
     rw [hP] at T7
     obtain ⟨_,l2,rfl,hl2⟩:=T7
     exact iteF ⟨_,rfl,_,rfl,l2,_,0,_,rfl,rfl,SqT.of (e7 _ _ hl2),atI_nat (j:=0) rfl,_,_,rfl,rfl,_,_,.bl (alk (some y) n),rfl,by simp [Dt.dep],.bl _,.bl _,fun H10 e10=>⟨_,rfl,iteF ⟨_,rfl,(e8.trans e9).trans e10⟩⟩⟩
   ·rintro σ H8 ⟨v7,rfl,e8⟩
    exact ⟨_,_,_,_,_,_,rfl,FA5.same (((e6.trans T7.1).trans s3).trans e8)⟩
 ·rintro σ H4 ⟨v4,v5,v6,v7,v8,v9,rfl,FA4⟩
  exact k _
end
theorem all_mk {l:PySem.W.OpenLaw} {w:World} {K:PySem.W.Frag} {h:Heap} {mg:Str→Option Value} {fa:Addr} (X:K.In h) (G:h.Ns mainGlobals mg) (hfa:mg "law" = some (.ref fa))
  {f1:Addr} {od1 an1:Option Addr} {sl1:Array (Option Value)} {oc1 kV1 dc1 pm1 cd1 ct1:Value}
  (a1:PySem.W.nsIn K mainGlobals "left_behind" = some (some (.ref f1))) (l1:K.lookup f1=some ⟨oc1,od1,.func (PySem.W.fnOf "left_behind" "left_behind" (defArgs s_left_behind) (defBody s_left_behind) (defScope s_left_behind) .none kV1 dc1 pm1 an1 cd1 ct1),sl1⟩) (c1:PySem.W.codeIn K cd1 "left_behind" = true) (k1:PySem.W.keepIn K (.ref f1)=true)
  {f2:Addr} {od2 an2:Option Addr} {sl2:Array (Option Value)} {oc2 kV2 dc2 pm2 cd2 ct2:Value}
  (a2:PySem.W.nsIn K mainGlobals "lacks_in_one" = some (some (.ref f2))) (l2:K.lookup f2=some ⟨oc2,od2,.func (PySem.W.fnOf "lacks_in_one" "lacks_in_one" (defArgs s_lacks_in_one) (defBody s_lacks_in_one) (defScope s_lacks_in_one) .none kV2 dc2 pm2 an2 cd2 ct2),sl2⟩) (c2:PySem.W.codeIn K cd2 "lacks_in_one" = true) (k2:PySem.W.keepIn K (.ref f2)=true)
  {f3:Addr} {od3 an3:Option Addr} {sl3:Array (Option Value)} {oc3 kV3 dc3 pm3 cd3 ct3:Value}
  (a3:PySem.W.nsIn K mainGlobals "longer_rows" = some (some (.ref f3))) (l3:K.lookup f3=some ⟨oc3,od3,.func (PySem.W.fnOf "longer_rows" "longer_rows" (defArgs s_longer_rows) (defBody s_longer_rows) (defScope s_longer_rows) .none kV3 dc3 pm3 an3 cd3 ct3),sl3⟩) (c3:PySem.W.codeIn K cd3 "longer_rows" = true) (k3:PySem.W.keepIn K (.ref f3)=true)
  {f4:Addr} {od4 an4:Option Addr} {sl4:Array (Option Value)} {oc4 kV4 dc4 pm4 cd4 ct4:Value}
  (a4:PySem.W.nsIn K mainGlobals "first_parting" = some (some (.ref f4))) (l4:K.lookup f4=some ⟨oc4,od4,.func (PySem.W.fnOf "first_parting" "first_parting" (defArgs s_first_parting) (defBody s_first_parting) (defScope s_first_parting) .none kV4 dc4 pm4 an4 cd4 ct4),sl4⟩) (c4:PySem.W.codeIn K cd4 "first_parting" = true) (k4:PySem.W.keepIn K (.ref f4)=true)
  {f5:Addr} {od5 an5:Option Addr} {sl5:Array (Option Value)} {oc5 kV5 dc5 pm5 cd5 ct5:Value}
  (a5:PySem.W.nsIn K mainGlobals "parting" = some (some (.ref f5))) (l5:K.lookup f5=some ⟨oc5,od5,.func (PySem.W.fnOf "parting" "parting" (defArgs s_parting) (defBody s_parting) (defScope s_parting) .none kV5 dc5 pm5 an5 cd5 ct5),sl5⟩) (c5:PySem.W.codeIn K cd5 "parting" = true) (k5:PySem.W.keepIn K (.ref f5)=true)
  {f6:Addr} {od6 an6:Option Addr} {sl6:Array (Option Value)} {oc6 kV6 dc6 pm6 cd6 ct6:Value}
  (a6:PySem.W.nsIn K mainGlobals "alike" = some (some (.ref f6))) (l6:K.lookup f6=some ⟨oc6,od6,.func (PySem.W.fnOf "alike" "alike" (defArgs s_alike) (defBody s_alike) (defScope s_alike) .none kV6 dc6 pm6 an6 cd6 ct6),sl6⟩) (c6:PySem.W.codeIn K cd6 "alike" = true) (k6:PySem.W.keepIn K (.ref f6)=true)
  {f7:Addr} {od7 an7:Option Addr} {sl7:Array (Option Value)} {oc7 kV7 dc7 pm7 cd7 ct7:Value}
  (a7:PySem.W.nsIn K mainGlobals "_law_flow" = some (some (.ref f7))) (l7:K.lookup f7=some ⟨oc7,od7,.func (PySem.W.fnOf "_law_flow" "_law_flow" (defArgs s_law_flow) (defBody s_law_flow) (defScope s_law_flow) .none kV7 dc7 pm7 an7 cd7 ct7),sl7⟩) (c7:PySem.W.codeIn K cd7 "_law_flow" = true) (k7:PySem.W.keepIn K (.ref f7)=true)
  {f8:Addr} {od8 an8:Option Addr} {sl8:Array (Option Value)} {oc8 kV8 dc8 pm8 cd8 ct8:Value}
  (a8:PySem.W.nsIn K mainGlobals "_law_pick" = some (some (.ref f8))) (l8:K.lookup f8=some ⟨oc8,od8,.func (PySem.W.fnOf "_law_pick" "_law_pick" (defArgs s_law_pick) (defBody s_law_pick) (defScope s_law_pick) .none kV8 dc8 pm8 an8 cd8 ct8),sl8⟩) (c8:PySem.W.codeIn K cd8 "_law_pick" = true) (k8:PySem.W.keepIn K (.ref f8)=true)
  {f9:Addr} {od9 an9:Option Addr} {sl9:Array (Option Value)} {oc9 kV9 dc9 pm9 cd9 ct9:Value}
  (a9:PySem.W.nsIn K mainGlobals "_law_alike" = some (some (.ref f9))) (l9:K.lookup f9=some ⟨oc9,od9,.func (PySem.W.fnOf "_law_alike" "_law_alike" (defArgs s_law_alike) (defBody s_law_alike) (defScope s_law_alike) .none kV9 dc9 pm9 an9 cd9 ct9),sl9⟩) (c9:PySem.W.codeIn K cd9 "_law_alike" = true) (k9:PySem.W.keepIn K (.ref f9)=true)
  {f10:Addr} {od10 an10:Option Addr} {sl10:Array (Option Value)} {oc10 kV10 dc10 pm10 cd10 ct10:Value}
  (a10:PySem.W.nsIn K mainGlobals "_law_letters" = some (some (.ref f10))) (l10:K.lookup f10=some ⟨oc10,od10,.func (PySem.W.fnOf "_law_letters" "_law_letters" (defArgs s_law_letters) (defBody s_law_letters) (defScope s_law_letters) .none kV10 dc10 pm10 an10 cd10 ct10),sl10⟩) (c10:PySem.W.codeIn K cd10 "_law_letters" = true) (k10:PySem.W.keepIn K (.ref f10)=true)
  {f11:Addr} {od11 an11:Option Addr} {sl11:Array (Option Value)} {oc11 kV11 dc11 pm11 cd11 ct11:Value}
  (a11:PySem.W.nsIn K mainGlobals "_law_word" = some (some (.ref f11))) (l11:K.lookup f11=some ⟨oc11,od11,.func (PySem.W.fnOf "_law_word" "_law_word" (defArgs s_law_word) (defBody s_law_word) (defScope s_law_word) .none kV11 dc11 pm11 an11 cd11 ct11),sl11⟩) (c11:PySem.W.codeIn K cd11 "_law_word" = true) (k11:PySem.W.keepIn K (.ref f11)=true)
  {f12:Addr} {od12 an12:Option Addr} {sl12:Array (Option Value)} {oc12 kV12 dc12 pm12 cd12 ct12:Value}
  (a12:PySem.W.nsIn K mainGlobals "_law_order" = some (some (.ref f12))) (l12:K.lookup f12=some ⟨oc12,od12,.func (PySem.W.fnOf "_law_order" "_law_order" (defArgs s_law_order) (defBody s_law_order) (defScope s_law_order) .none kV12 dc12 pm12 an12 cd12 ct12),sl12⟩) (c12:PySem.W.codeIn K cd12 "_law_order" = true) (k12:PySem.W.keepIn K (.ref f12)=true)
  {f13:Addr} {od13 an13:Option Addr} {sl13:Array (Option Value)} {oc13 kV13 dc13 pm13 cd13 ct13:Value}
  (a13:PySem.W.nsIn K mainGlobals "_law_spread_words" = some (some (.ref f13))) (l13:K.lookup f13=some ⟨oc13,od13,.func (PySem.W.fnOf "_law_spread_words" "_law_spread_words" (defArgs s_law_spread_words) (defBody s_law_spread_words) (defScope s_law_spread_words) .none kV13 dc13 pm13 an13 cd13 ct13),sl13⟩) (c13:PySem.W.codeIn K cd13 "_law_spread_words" = true) (k13:PySem.W.keepIn K (.ref f13)=true)
  {f14:Addr} {od14 an14:Option Addr} {sl14:Array (Option Value)} {oc14 kV14 dc14 pm14 cd14 ct14:Value}
  (a14:PySem.W.nsIn K mainGlobals "_law_otherwise" = some (some (.ref f14))) (l14:K.lookup f14=some ⟨oc14,od14,.func (PySem.W.fnOf "_law_otherwise" "_law_otherwise" (defArgs s_law_otherwise) (defBody s_law_otherwise) (defScope s_law_otherwise) .none kV14 dc14 pm14 an14 cd14 ct14),sl14⟩) (c14:PySem.W.codeIn K cd14 "_law_otherwise" = true) (k14:PySem.W.keepIn K (.ref f14)=true)
  {f15:Addr} {od15 an15:Option Addr} {sl15:Array (Option Value)} {oc15 kV15 dc15 pm15 cd15 ct15:Value}
  (a15:PySem.W.nsIn K mainGlobals "_law_step" = some (some (.ref f15))) (l15:K.lookup f15=some ⟨oc15,od15,.func (PySem.W.fnOf "_law_step" "_law_step" (defArgs s_law_step) (defBody s_law_step) (defScope s_law_step) .none kV15 dc15 pm15 an15 cd15 ct15),sl15⟩) (c15:PySem.W.codeIn K cd15 "_law_step" = true) (k15:PySem.W.keepIn K (.ref f15)=true)
  {f16:Addr} {od16 an16:Option Addr} {sl16:Array (Option Value)} {oc16 kV16 dc16 pm16 cd16 ct16:Value}
  (a16:PySem.W.nsIn K mainGlobals "_law_parting" = some (some (.ref f16))) (l16:K.lookup f16=some ⟨oc16,od16,.func (PySem.W.fnOf "_law_parting" "_law_parting" (defArgs s_law_parting) (defBody s_law_parting) (defScope s_law_parting) .none kV16 dc16 pm16 an16 cd16 ct16),sl16⟩) (c16:PySem.W.codeIn K cd16 "_law_parting" = true) (k16:PySem.W.keepIn K (.ref f16)=true)
  {f17:Addr} {od17 an17:Option Addr} {sl17:Array (Option Value)} {oc17 kV17 dc17 pm17 cd17 ct17:Value}
  (a17:PySem.W.nsIn K mainGlobals "_law_two" = some (some (.ref f17))) (l17:K.lookup f17=some ⟨oc17,od17,.func (PySem.W.fnOf "_law_two" "_law_two" (defArgs s_law_two) (defBody s_law_two) (defScope s_law_two) .none kV17 dc17 pm17 an17 cd17 ct17),sl17⟩) (c17:PySem.W.codeIn K cd17 "_law_two" = true) (k17:PySem.W.keepIn K (.ref f17)=true)
  {f18:Addr} {od18 an18:Option Addr} {sl18:Array (Option Value)} {oc18 kV18 dc18 pm18 cd18 ct18:Value}
  (a18:PySem.W.nsIn K mainGlobals "law" = some (some (.ref f18))) (l18:K.lookup f18=some ⟨oc18,od18,.func (PySem.W.fnOf "law" "law" (defArgs s_law) (defBody s_law) (defScope s_law) .none kV18 dc18 pm18 an18 cd18 ct18),sl18⟩) (c18:PySem.W.codeIn K cd18 "law" = true) (k18:PySem.W.keepIn K (.ref f18)=true)
  (z_all:PySem.W.nsIn K mainGlobals "all" = some none)
  (z_bool:PySem.W.nsIn K mainGlobals "bool" = some none)
  (z_isinstance:PySem.W.nsIn K mainGlobals "isinstance" = some none)
  (z_len:PySem.W.nsIn K mainGlobals "len" = some none)
  (z_list:PySem.W.nsIn K mainGlobals "list" = some none)
  (z_range:PySem.W.nsIn K mainGlobals "range" = some none)
  (z_set:PySem.W.nsIn K mainGlobals "set" = some none)
  (z_sorted:PySem.W.nsIn K mainGlobals "sorted" = some none)
  (z_tuple:PySem.W.nsIn K mainGlobals "tuple" = some none)
  : ∃ fd:FuncData,(∀ (s:Shared) (v:Value),BindsTo s fd ⟨[v],[]⟩ [("_law_script",v)])∧∀ base:Heap,K.In base→base.Ns mainGlobals mg→FnOk l.prog w K mg base CX0 6 fa fd ["_law_script"] (spLaw K):=by
 have e:=hfa.symm.trans (PySem.W.mg_of X G a18)
 cases e
 have F_left_behind:=fun_mk (st:=s_left_behind) l1 c1 k1
 have b_left_behind:=F_left_behind.binds (ps:=["text","start","letter"]) fun _ _ _ _ _ _ us hl=>match us,hl with | [_,_,_],_=>rfl
 have m_left_behind:=PySem.W.mg_of X G a1
 have F_lacks_in_one:=fun_mk (st:=s_lacks_in_one) l2 c2 k2
 have b_lacks_in_one:=F_lacks_in_one.binds (ps:=["row"]) fun _ _ _ _ _ _ us hl=>match us,hl with | [_],_=>rfl
 have m_lacks_in_one:=PySem.W.mg_of X G a2
 have F_longer_rows:=fun_mk (st:=s_longer_rows) l3 c3 k3
 have b_longer_rows:=F_longer_rows.binds (ps:=["letters","one","other","level"]) fun _ _ _ _ _ _ us hl=>match us,hl with | [_,_,_,_],_=>rfl
 have m_longer_rows:=PySem.W.mg_of X G a3
 have F_first_parting:=fun_mk (st:=s_first_parting) l4 c4 k4
 have b_first_parting:=F_first_parting.binds (ps:=["one","other"]) fun _ _ _ _ _ _ us hl=>match us,hl with | [_,_],_=>rfl
 have m_first_parting:=PySem.W.mg_of X G a4
 have F_parting:=fun_mk (st:=s_parting) l5 c5 k5
 have b_parting:=F_parting.binds (ps:=["one","other"]) fun _ _ _ _ _ _ us hl=>match us,hl with | [_,_],_=>rfl
 have m_parting:=PySem.W.mg_of X G a5
 have F_alike:=fun_mk (st:=s_alike) l6 c6 k6
 have b_alike:=F_alike.binds (ps:=["one","other","k"]) fun _ _ _ _ _ _ us hl=>match us,hl with | [_,_,_],_=>rfl
 have m_alike:=PySem.W.mg_of X G a6
 have F_law_flow:=fun_mk (st:=s_law_flow) l7 c7 k7
 have b_law_flow:=F_law_flow.binds (ps:=["_law_script"]) fun _ _ _ _ _ _ us hl=>match us,hl with | [_],_=>rfl
 have m_law_flow:=PySem.W.mg_of X G a7
 have F_law_pick:=fun_mk (st:=s_law_pick) l8 c8 k8
 have b_law_pick:=F_law_pick.binds (ps:=["_law_flow_here","_law_many"]) fun _ _ _ _ _ _ us hl=>match us,hl with | [_,_],_=>rfl
 have m_law_pick:=PySem.W.mg_of X G a8
 have F_law_alike:=fun_mk (st:=s_law_alike) l9 c9 k9
 have b_law_alike:=F_law_alike.binds (ps:=["_law_found","_law_due"]) fun _ _ _ _ _ _ us hl=>match us,hl with | [_,_],_=>rfl
 have m_law_alike:=PySem.W.mg_of X G a9
 have F_law_letters:=fun_mk (st:=s_law_letters) l10 c10 k10
 have b_law_letters:=F_law_letters.binds (ps:=["_law_flow_here","_law_many"]) fun _ _ _ _ _ _ us hl=>match us,hl with | [_,_],_=>rfl
 have m_law_letters:=PySem.W.mg_of X G a10
 have F_law_word:=fun_mk (st:=s_law_word) l11 c11 k11
 have b_law_word:=F_law_word.binds (ps:=["_law_flow_here","_law_letters_here","_law_most"]) fun _ _ _ _ _ _ us hl=>match us,hl with | [_,_,_],_=>rfl
 have m_law_word:=PySem.W.mg_of X G a11
 have F_law_order:=fun_mk (st:=s_law_order) l12 c12 k12
 have b_law_order:=F_law_order.binds (ps:=["_law_word_here"]) fun _ _ _ _ _ _ us hl=>match us,hl with | [_],_=>rfl
 have m_law_order:=PySem.W.mg_of X G a12
 have F_law_spread_words:=fun_mk (st:=s_law_spread_words) l13 c13 k13
 have b_law_spread_words:=F_law_spread_words.binds (ps:=["_law_text","_law_k"]) fun _ _ _ _ _ _ us hl=>match us,hl with | [_,_],_=>rfl
 have m_law_spread_words:=PySem.W.mg_of X G a13
 have F_law_otherwise:=fun_mk (st:=s_law_otherwise) l14 c14 k14
 have b_law_otherwise:=F_law_otherwise.binds (ps:=["_law_flow_here","_law_letters_here","_law_text"]) fun _ _ _ _ _ _ us hl=>match us,hl with | [_,_,_],_=>rfl
 have m_law_otherwise:=PySem.W.mg_of X G a14
 have F_law_step:=fun_mk (st:=s_law_step) l15 c15 k15
 have b_law_step:=F_law_step.binds (ps:=["_law_text","_law_at","_law_letter"]) fun _ _ _ _ _ _ us hl=>match us,hl with | [_,_,_],_=>rfl
 have m_law_step:=PySem.W.mg_of X G a15
 have F_law_parting:=fun_mk (st:=s_law_parting) l16 c16 k16
 have b_law_parting:=F_law_parting.binds (ps:=["_law_one","_law_other"]) fun _ _ _ _ _ _ us hl=>match us,hl with | [_,_],_=>rfl
 have m_law_parting:=PySem.W.mg_of X G a16
 have F_law_two:=fun_mk (st:=s_law_two) l17 c17 k17
 have b_law_two:=F_law_two.binds (ps:=["_law_flow_here","_law_letters_here"]) fun _ _ _ _ _ _ us hl=>match us,hl with | [_,_],_=>rfl
 have m_law_two:=PySem.W.mg_of X G a17
 have F_law:=fun_mk (st:=s_law) l18 c18 k18
 have b_law:=F_law.binds (ps:=["_law_script"]) fun _ _ _ _ _ _ us hl=>match us,hl with | [_],_=>rfl
 have m_law:=PySem.W.mg_of X G a18
 have Z:Blt mg:=⟨PySem.W.mg_none_of X G z_all,PySem.W.mg_none_of X G z_bool,PySem.W.mg_none_of X G z_isinstance,PySem.W.mg_none_of X G z_len,PySem.W.mg_none_of X G z_list,PySem.W.mg_none_of X G z_range,PySem.W.mg_none_of X G z_set,PySem.W.mg_none_of X G z_sorted,PySem.W.mg_none_of X G z_tuple⟩
 refine ⟨PySem.W.fnOf "law" "law" (defArgs s_law) (defBody s_law) (defScope s_law) .none kV18 dc18 pm18 an18 cd18 ct18,fun s v=>.of_eq rfl,fun base _ _=>?_⟩
 have C_law_pick:Cal l.prog w K mg base "_law_pick" 1 _ spPick:=⟨_,_,ok_law_pick F_law_pick Z,m_law_pick,F_law_pick.kp,b_law_pick⟩
 have C_law_flow:Cal l.prog w K mg base "_law_flow" 1 _ (spFlow K):=⟨_,_,ok_law_flow F_law_flow Z,m_law_flow,F_law_flow.kp,b_law_flow⟩
 have C_law_letters:Cal l.prog w K mg base "_law_letters" 2 _ spLetters:=⟨_,_,ok_law_letters F_law_letters Z C_law_pick,m_law_letters,F_law_letters.kp,b_law_letters⟩
 have C_law_word:Cal l.prog w K mg base "_law_word" 2 _ spWord:=⟨_,_,ok_law_word F_law_word Z C_law_pick,m_law_word,F_law_word.kp,b_law_word⟩
 have C_law_alike:Cal l.prog w K mg base "_law_alike" 2 _ (spAlike 2):=⟨_,_,ok_law_alike F_law_alike b_law_alike m_law_alike Z 2,m_law_alike,F_law_alike.kp,b_law_alike⟩
 have C_law_otherwise:Cal l.prog w K mg base "_law_otherwise" 2 _ spOther:=⟨_,_,ok_law_otherwise F_law_otherwise Z C_law_pick,m_law_otherwise,F_law_otherwise.kp,b_law_otherwise⟩
 have C_left_behind:Cal l.prog w K mg base "left_behind" 1 _ spLB:=⟨_,_,ok_left_behind F_left_behind Z,m_left_behind,F_left_behind.kp,b_left_behind⟩
 have C_lacks_in_one:Cal l.prog w K mg base "lacks_in_one" 1 _ spLacks:=⟨_,_,ok_lacks_in_one F_lacks_in_one Z,m_lacks_in_one,F_lacks_in_one.kp,b_lacks_in_one⟩
 have C_longer_rows:Cal l.prog w K mg base "longer_rows" 2 _ spLonger:=⟨_,_,ok_longer_rows F_longer_rows Z C_left_behind,m_longer_rows,F_longer_rows.kp,b_longer_rows⟩
 have C_first_parting:Cal l.prog w K mg base "first_parting" 3 _ spFirstP:=⟨_,_,ok_first_parting F_first_parting Z C_lacks_in_one C_longer_rows,m_first_parting,F_first_parting.kp,b_first_parting⟩
 have C_parting:Cal l.prog w K mg base "parting" 4 _ spParting:=⟨_,_,ok_parting F_parting Z C_first_parting,m_parting,F_parting.kp,b_parting⟩
 have C_alike:Cal l.prog w K mg base "alike" 5 _ spAlk:=⟨_,_,ok_alike F_alike Z C_parting,m_alike,F_alike.kp,b_alike⟩
 have C_law_step:Cal l.prog w K mg base "_law_step" 1 _ spStep:=⟨_,_,ok_law_step F_law_step Z,m_law_step,F_law_step.kp,b_law_step⟩
 have C_law_parting:Cal l.prog w K mg base "_law_parting" 2 _ spParting:=⟨_,_,ok_law_parting F_law_parting Z C_law_step,m_law_parting,F_law_parting.kp,b_law_parting⟩
 have C_law_order:Cal l.prog w K mg base "_law_order" 1 _ spOrder:=⟨_,_,ok_law_order F_law_order Z,m_law_order,F_law_order.kp,b_law_order⟩
 have C_law_spread_words:Cal l.prog w K mg base "_law_spread_words" 4 _ spSpreadL:=⟨_,_,ok_law_spread_words F_law_spread_words Z C_law_order,m_law_spread_words,F_law_spread_words.kp,b_law_spread_words⟩
 have C_law_two:Cal l.prog w K mg base "_law_two" 3 _ spTwo:=⟨_,_,ok_law_two F_law_two Z C_law_pick C_law_word C_law_otherwise,m_law_two,F_law_two.kp,b_law_two⟩
 exact ok_law F_law Z C_law_flow C_law_pick C_law_letters C_law_two C_law_parting C_alike C_law_spread_words C_law_alike
theorem walk {l:PySem.W.OpenLaw} {q:Program} {loose:List Str} {XP:(Str→Option Value)→Heap→Prop} {YP:World→Heap→Prop} {d:DefRec} {K:Params→PySem.W.Frag} (hn:l.most=some 63) (hdf:d.params.defaults=[])
  (hY:∀ (w:World) (h:Heap),YP w h→(K w.params).In h)
  (F:∀ (w:World) (mg:Str→Option Value) (fa:Addr) (h:Heap),(K w.params).In h→h.Ns mainGlobals mg→mg d.name=some (.ref fa)→
   ∃ fd:FuncData,(∀ (s:Shared) (u:Value),BindsTo s fd ⟨[u],[]⟩ [("_law_script",u)])∧∀ base:Heap,(K w.params).In base→base.Ns mainGlobals mg→FnOk l.prog w (K w.params) mg base CX0 6 fa fd ["_law_script"] (spLaw (K w.params))) :
  PySem.W.WalkO q loose XP YP l.row.toRowW d [] (fun f vs=>PySem.call f vs):=
 L2.walk_of (n:=63) (k:=6) (x:="_law_script") (CX:=fun _=>CX0) (sp:=fun w=>spLaw (K w.params)) hn (by decide) hdf ⟨rfl,by decide,by decide⟩ hY F (fun _ _ a ns hl _ hS=>⟨a,ns,rfl,hS,hl,fun _=>rfl⟩) fun _ _ _ _ _ z=>z
end My
open PySem PySem.W PyProof.Rows
set_option maxRecDepth 100000 in
set_option maxHeartbeats 0 in
theorem PySem.Challenge.cw_spreadwords_k08_alike_to_a_length_holds : PySem.Challenge.rw_spreadwords_k08_alike_to_a_length.Holds := by
 w_on; o_law; k_head; (case hw=>w_witness2)
 k_fill
 refine My.walk (l:=PySem.Challenge.rw_spreadwords_k08_alike_to_a_length) rfl rfl (fun w h Y=>PySem.W.kIn_of Y) ?F
 case F=>
  intro w mg fa h KX G hmg
  refine' My.all_mk KX G hmg ?a1 ?l1 ?c1 ?k1 ?a2 ?l2 ?c2 ?k2 ?a3 ?l3 ?c3 ?k3 ?a4 ?l4 ?c4 ?k4 ?a5 ?l5 ?c5 ?k5 ?a6 ?l6 ?c6 ?k6 ?a7 ?l7 ?c7 ?k7 ?a8 ?l8 ?c8 ?k8 ?a9 ?l9 ?c9 ?k9 ?a10 ?l10 ?c10 ?k10 ?a11 ?l11 ?c11 ?k11 ?a12 ?l12 ?c12 ?k12 ?a13 ?l13 ?c13 ?k13 ?a14 ?l14 ?c14 ?k14 ?a15 ?l15 ?c15 ?k15 ?a16 ?l16 ?c16 ?k16 ?a17 ?l17 ?c17 ?k17 ?a18 ?l18 ?c18 ?k18 ?z_all ?z_bool ?z_isinstance ?z_len ?z_list ?z_range ?z_set ?z_sorted ?z_tuple
  (case a1=>k_is)
  (case l1=>k_is)
  (case c1=>k_is)
  (case k1=>k_is)
  (case a2=>k_is)
  (case l2=>k_is)
  (case c2=>k_is)
  (case k2=>k_is)
  (case a3=>k_is)
  (case l3=>k_is)
  (case c3=>k_is)
  (case k3=>k_is)
  (case a4=>k_is)
  (case l4=>k_is)
  (case c4=>k_is)
  (case k4=>k_is)
  (case a5=>k_is)
  (case l5=>k_is)
  (case c5=>k_is)
  (case k5=>k_is)
  (case a6=>k_is)
  (case l6=>k_is)
  (case c6=>k_is)
  (case k6=>k_is)
  (case a7=>k_is)
  (case l7=>k_is)
  (case c7=>k_is)
  (case k7=>k_is)
  (case a8=>k_is)
  (case l8=>k_is)
  (case c8=>k_is)
  (case k8=>k_is)
  (case a9=>k_is)
  (case l9=>k_is)
  (case c9=>k_is)
  (case k9=>k_is)
  (case a10=>k_is)
  (case l10=>k_is)
  (case c10=>k_is)
  (case k10=>k_is)
  (case a11=>k_is)
  (case l11=>k_is)
  (case c11=>k_is)
  (case k11=>k_is)
  (case a12=>k_is)
  (case l12=>k_is)
  (case c12=>k_is)
  (case k12=>k_is)
  (case a13=>k_is)
  (case l13=>k_is)
  (case c13=>k_is)
  (case k13=>k_is)
  (case a14=>k_is)
  (case l14=>k_is)
  (case c14=>k_is)
  (case k14=>k_is)
  (case a15=>k_is)
  (case l15=>k_is)
  (case c15=>k_is)
  (case k15=>k_is)
  (case a16=>k_is)
  (case l16=>k_is)
  (case c16=>k_is)
  (case k16=>k_is)
  (case a17=>k_is)
  (case l17=>k_is)
  (case c17=>k_is)
  (case k17=>k_is)
  (case a18=>k_is)
  (case l18=>k_is)
  (case c18=>k_is)
  (case k18=>k_is)
  (case z_all=>k_is)
  (case z_bool=>k_is)
  (case z_isinstance=>k_is)
  (case z_len=>k_is)
  (case z_list=>k_is)
  (case z_range=>k_is)
  (case z_set=>k_is)
  (case z_sorted=>k_is)
  (case z_tuple=>k_is)
